import PyProof.Rows.All
import Wide.All
import OpenK.AllK
import Wide.FinOn
import Lean
import PyProof.EqAt
import PyProof.EqKinds
import PyProof.TupleCall
import KE.KSortTup
import PyProof.ZipIter
import PyProof.TupleIter
import PyProof.WalksMore
import PyProof.Rows.TupIter
import PyProof.EnumIter
import PyProof.EnumFor
import PyProof.EnumStmt
import PyProof.ReprRoads
import PyProof.Rows.SeqMore
import PyProof.ListMulRoad
import PyProof.FactsAll.tuple_2
import PyProof.FactsAll.tuple_3
import PyProof.Rows.Tup
import PyProof.ListRange
import PyProof.TupleOfSeq
import PyProof.SumAny
import PyProof.ConsumeS
import PyProof.Rows.CallKwBuiltin
import KE.KLam
import KE.KSortKey
import PyProof.AutoSeq1
import KE.KListMore
import PyProof.FactsAll.subtypes_4
import PyProof.SetRoads
import PyProof.Rows.SetFrom
import PyProof.WalkInts
import PyProof.DictDisplay
import PyProof.ReprBulk
import PyProof.Conv_int_bool
import PyProof.DictWalks
import PySem.Challenge.RW_thinways_k62_six_more_judged
set_option Elab.async false
set_option linter.all false
set_option maxRecDepth 100000
namespace L2
open PySem PySem.Spec PyProof.Rows
/-- a key: an int or a str -/
abbrev Key:=Sum Int Str
def keyIs:Key->Value->Bool
 | .inl k,v=>Value.isInt k v
 | .inr x,v=>Value.isStrOf x v
def keyH (w:World):Key->Int
 | .inl k=>hashInt k
 | .inr x=>hashStr w x
theorem zba:∀ {k:Key} {v:Value},keyIs k v=true->(∃ i t,k=Sum.inl i∧v=Value.int i t)∨(∃ x t,k=Sum.inr x∧v=Value.str x t)
 | .inl i,v,h=>by
  obtain⟨t,e⟩:=Value.isInt_shape (k:=i) (v:=v) h
  exact .inl ⟨i,t,rfl,e⟩
 | .inr x,v,h=>by
  obtain⟨t,e⟩:=Value.isStrOf_shape (x:=x) (v:=v) h
  exact .inr ⟨x,t,rfl,e⟩
theorem zso (a b:Int):decide ((Sum.inl a:Key)=Sum.inl b)=(a == b):=by
 by_cases e:a=b
 ·subst e;simp
 ·have h:¬ (Sum.inl a:Key)=Sum.inl b:=fun q=>e (Sum.inl.inj q)
  rw[decide_eq_false h]
  exact (beq_eq_false_iff_ne.mpr e).symm
theorem zsl (a b:Str):decide ((Sum.inr a:Key)=Sum.inr b)=decide (a=b):=by
 by_cases e:a=b
 ·subst e;simp
 ·have h:¬ (Sum.inr a:Key)=Sum.inr b:=fun q=>e (Sum.inr.inj q)
  rw[decide_eq_false h,decide_eq_false e]
theorem zsn (a:Int) (b:Str):decide ((Sum.inl a:Key)=Sum.inr b)=false:=decide_eq_false (fun q=>nomatch q)
theorem zsm (a:Str) (b:Int):decide ((Sum.inr a:Key)=Sum.inl b)=false:=decide_eq_false (fun q=>nomatch q)
def mixKind (prog:Program) (w:World):PySem.KeyKind prog w Key where
 is:=keyIs
 hash:=keyH w
 inj:=fun v a b ha hb=>by
  rcases zba ha with ⟨i,t,rfl,rfl⟩ | ⟨x,t,rfl,rfl⟩
  ·rcases zba hb with ⟨j,u,rfl,e⟩ | ⟨y,u,rfl,e⟩
   ·injection e with e1 _;rw[e1]
   ·exact nomatch e
  ·rcases zba hb with ⟨j,u,rfl,e⟩ | ⟨y,u,rfl,e⟩
   ·exact nomatch e
   ·injection e with e1 _;rw[e1]
 byValue:=fun k v h=>by
  rcases zba h with ⟨i,t,rfl,rfl⟩ | ⟨x,t,rfl,rfl⟩ <;> rfl
 pyHash:=fun hv h=>by
  rcases zba hv with ⟨i,t,rfl,rfl⟩ | ⟨x,t,rfl,rfl⟩
  ·exact wpAny_pyHash_int h
  ·exact wpAny_pyHash_str h
 eqBool:=fun hu hv h=>by
  rcases zba hu with ⟨i,t,rfl,rfl⟩ | ⟨x,t,rfl,rfl⟩
  ·rcases zba hv with ⟨j,u,rfl,rfl⟩ | ⟨y,u,rfl,rfl⟩
   ·rw[zso] at h;exact wpAny_eqBool_int h
   ·rw[zsn] at h;exact SeqAt.EqAt.int_str i t y u _ _ _ _ h
  ·rcases zba hv with ⟨j,u,rfl,rfl⟩ | ⟨y,u,rfl,rfl⟩
   ·rw[zsm] at h;exact SeqAt.EqAt.str_int x t j u _ _ _ _ h
   ·rw[zsl] at h;exact wpAny_eqBool_str h
 «strs»:=fun k x t v h=>by
  rcases zba h with ⟨i,u,rfl,e⟩ | ⟨y,u,rfl,e⟩
  ·exact nomatch e
  ·injection e with e1 _
   subst e1
   cases v <;> rfl
end L2
namespace L2
open PySem PySem.Spec PyProof.Rows
/-- a value, without the heap -/
inductive V where
 | non | bl (b:Bool) | int (i:Int) | str (x:Str) | byt (b:Array UInt8) | flt (b:UInt64) | ref (a:Addr) | ty (n:String)
 deriving DecidableEq
def RelV:V->Value->Prop
 | .non,u=>u=Value.none
 | .bl b,u=>u=Value.bool b
 | .int i,u=>∃ t,u=Value.int i t
 | .str x,u=>∃ t,u=Value.str x t
 | .byt b,u=>∃ t,u=Value.bytes b t
 | .flt b,u=>∃ t,u=Value.float b t
 | .ref a,u=>u=Value.ref a
 | .ty n,u=>u=Value.type n
abbrev Vals:List V->List Value->Prop:=Paired RelV
theorem Vals.length {xs:List V} {us:List Value} (r:Vals xs us):xs.length=us.length:=Paired.length r
theorem Vals.get:∀ {xs:List V} {us:List Value} {i:Nat} {x:V},Vals xs us->xs[i]?=some x->∃ u,us[i]?=some u∧RelV x u
 | _,_,_,_,.nil,e=>by simp at e
 | _,_,0,_,.cons r _,e=>by simp at e;subst e;exact⟨_,rfl,r⟩
 | _,_,i + 1,x,.cons _ t,e=>by
  obtain⟨u,h1,h2⟩:=Vals.get (i:=i) (x:=x) t (by simpa using e)
  exact⟨u,by simpa using h1,h2⟩
theorem Vals.set {x:V} {u:Value} (r:RelV x u):∀ {xs:List V} {us:List Value} (i:Nat),Vals xs us->Vals (xs.set i x) (us.set i u)
 | _,_,_,.nil=>.nil
 | _,_,0,.cons _ t=>.cons r t
 | _,_,i + 1,.cons q t=>.cons q (Vals.set r i t)
theorem Vals.append:∀ {xs ys:List V} {us ws:List Value},Vals xs us->Vals ys ws->Vals (xs++ys) (us++ws)
 | _,_,_,_,.nil,s=>s
 | _,_,_,_,.cons r t,s=>.cons r (Vals.append t s)
theorem Vals.take:∀ {xs:List V} {us:List Value} (n:Nat),Vals xs us->Vals (xs.take n) (us.take n)
 | _,_,0,_=>.nil
 | _,_,_ + 1,.nil=>.nil
 | _,_,n + 1,.cons r t=>.cons r (Vals.take n t)
theorem Vals.drop:∀ {xs:List V} {us:List Value} (n:Nat),Vals xs us->Vals (xs.drop n) (us.drop n)
 | _,_,0,r=>r
 | _,_,_ + 1,.nil=>.nil
 | _,_,n + 1,.cons _ t=>Vals.drop n t
def RelO:Option V->Option Value->Prop
 | some v,some u=>RelV v u
 | none,none=>True
 | _,_=>False
def KV {κ:Type}:List (κ × V)->List (κ × Value)->Prop:=Paired fun (p:κ × V) (q:κ × Value)=>p.1=q.1∧RelV p.2 q.2
/-- a key of a dict (00_mix): an int or a text -/
def kV:Key->V
 | .inl i=>.int i
 | .inr x=>.str x
/-- what stands at a tracked address -/
inductive HO where
  /-- a list -/
 | lst (xs:List V)
  /-- a tuple (never changes) -/
 | tup (xs:List V)
  /-- a dict whose keys are ints and texts; one whose keys are tuples of ints and texts (the empty one is both) -/
 | dK (kvs:List (Key × V)) | dT (kvs:List (List Key × V))
  /-- a set of ints: its members, its size -/
 | set (S:Int->Bool) (n:Nat)
  /-- an instance of the class at C, its dict at dx, its attributes -/
 | ins (C dx:Addr) (fs:List (Str × V))
  /-- the dict of the instance at x -/
 | own (x:Addr)
  /-- the dict of an exception -/
 | xd (fs:List (Str × V))
  /-- a bound method, f of x -/
 | met (f x:Addr)
  /-- a range object lo, lo + 1, .. below hi -/
 | rng (lo hi:Int)
  /-- a thing that is known to the object (the script; a dict while a loop walks it): read, never written while it is so -/
 | frz (o:Obj) (u:HO)
  /-- a code object's table -/
 | tbl (ps:Array Value)
  /-- any other thing, by what is true of its one object (a def of one's own: SetO a S n := HO.ext fun h => ..) -/
 | ext (φ:Heap->Prop)
abbrev Hp:=Addr->Option HO
def upd (H:Hp) (a:Addr) (o:HO):Hp:=fun b=>if b=a then some o else H b
theorem zag {H:Hp} {a:Addr} {o:HO}:upd H a o a=some o:=by unfold upd;rw[if_pos rfl]
theorem zap {H:Hp} {a b:Addr} {o:HO} (h:b≠a):upd H a o b=H b:=by unfold upd;rw[if_neg h]
theorem zaj {H:Hp} {a b:Addr} {o:HO} (h:H a=some o) (h':H b=none):a≠b:=by
 intro e;subst e;rw[h] at h';cases h'
section
variable (P:Program) (w:World)
/-- a tuple with no dict of its own -/
def TupN (h:Heap) (a:Addr) (items:Array Value):Prop:=∃ o,h.get? a=some o∧o.cls=.type "tuple"∧(∃ n,o.data=.seq items n)∧o.dict=none
theorem TupN.tup {h:Heap} {a:Addr} {items:Array Value} (x:TupN h a items):IsTup h a items:=let ⟨o,e,c,d,_⟩:=x;⟨o,e,c,d⟩
theorem TupN.new (h:Heap) (items:Array Value):TupN (h.push { cls:=.type "tuple",data:=.seq items }) h.objs.size items:=⟨_,Heap.get?_push_size _ rfl,rfl,⟨_,rfl⟩,rfl⟩
def ObjOk (H:Hp) (h:Heap) (a:Addr):HO->Prop
 | .lst xs=>xs.length≤sizeLine∧∃ (its:List Value) (n:Nat),Vals xs its∧h.get? a=some { cls:=.type "list",data:=.seq its.toArray n }
 | .tup xs=>xs.length≤sizeLine∧∃ its:List Value,Vals xs its∧TupN h a its.toArray
 | .dK kvs=>kvs.length≤sizeLine∧(a == sysModules)=false∧∃ vs,KV kvs vs∧h.DictOf (mixKind P w) a vs
 | .dT kvs => kvs.length ≤ sizeLine ∧ (a == sysModules) = false ∧ ∃ xs : List (List Key × Addr × Value),
     Paired (fun (p:List Key × V) (q:List Key × Addr × Value)=>p.1=q.1∧H q.2.1=some (.tup (p.1.map kV))∧RelV p.2 q.2.2) kvs xs ∧
     ∃ o es ep,h.get? a=some o∧o.ExactDict∧o.data=.dict es ep∧es.toList=xs.map (entryOfKey (tupleKind (mixKind P w)))∧(xs.map (·.1)).Nodup
 | .set S n=>h.SetOf (intKind P w) a S n
 | .ins C dx fs => H dx = some (.own a) ∧ fs.length ≤ 1000 ∧ dx ≠ a ∧ h.get? a = some (PySem.W.instObj C dx) ∧
     ∃ mA,h.Ns1 dx mA∧(∀ f,RelO (fs.lookup f) (mA f))∧PySem.Within mA (fs.map (·.1))
 | .own _=>∃ o,h.get? a=some o
 | .xd fs=>∃ mA,h.Ns1 a mA∧∀ f,RelO (fs.lookup f) (mA f)
 | .rng lo hi=>∃ t u v,h.get? a=some { cls:=.type "range",data:=.fields #[.int lo t,.int hi u,.int 1 v] }
 | .frz o u=>h.get? a=some o∧ObjOk H h a u
 | .tbl ps=>h.get? a=some { cls:=.none,data:=.fields ps }
 | .met f x=>h.get? a=some (PySem.W.methodObj (.ref f) (.ref x))
 | .ext φ=>φ h∧(∃ o,h.get? a=some o)∧∀ h1 h2:Heap,φ h1->(∀ o,h1.get? a=some o->h2.get? a=some o)->φ h2
/-- the abstract heap is held -/
def HOk (H:Hp) (h:Heap):Prop:=∀ a o,H a=some o->ObjOk P w H h a o
end
section
variable {P:Program} {w:World} {H H':Hp} {h h':Heap} {a:Addr} {o:HO}
theorem ObjOk.lt (x:ObjOk P w H h a o):a < h.objs.size:=by
 cases o with
 | lst xs=>obtain⟨_,_,_,_,e⟩:=x;exact Heap.lt_size e
 | tup xs=>obtain⟨_,_,_,p⟩:=x;exact p.tup.lt
 | dK kvs=>obtain⟨_,_,_,_,o,_,_,e,_⟩:=x;exact Heap.lt_size e
 | dT kvs=>obtain⟨_,_,_,_,o,_,_,e,_⟩:=x;exact Heap.lt_size e
 | set S n=>obtain⟨o,_,_,_,e,_⟩:=x;exact Heap.lt_size e
 | ins C dx fs=>obtain⟨_,_,_,e,_⟩:=x;exact Heap.lt_size e
 | own y=>obtain⟨_,e⟩:=x;exact Heap.lt_size e
 | xd fs=>obtain⟨_,⟨_,_,_,e,_⟩,_⟩:=x;exact Heap.lt_size e
 | rng lo hi=>obtain⟨_,_,_,e⟩:=x;exact Heap.lt_size e
 | frz ob u=>obtain⟨e,_⟩:=x;exact Heap.lt_size e
 | tbl ps=>exact Heap.lt_size (show h.get? a=some _ from x)
 | met f y=>exact Heap.lt_size (show h.get? a=some _ from x)
 | ext φ=>obtain⟨_,⟨_,e⟩,_⟩:=x;exact Heap.lt_size e
theorem Paired.mapP {α β:Type} {F G:α->β->Prop}:∀ {l₁:List α} {l₂:List β},Paired F l₁ l₂->(∀ a b,F a b->G a b)->Paired G l₁ l₂
 | _,_,.nil,_=>.nil
 | _,_,.cons r t,f=>.cons (f _ _ r) (Paired.mapP t f)
/-- what an object's description leans on: its own object, its own dict, the tuples -/
theorem ObjOk.stay (x:ObjOk P w H h a o) (k:∀ b u,(b=a∨H b=some (.own a))->h.get? b=some u->h'.get? b=some u)
  (ho:∀ b,H b=some (.own a)->H' b=some (.own a)) (ht:∀ b xs,H b=some (.tup xs)->H' b=some (.tup xs)):ObjOk P w H' h' a o:=by
 induction o with
 | lst xs=>obtain⟨z,its,n,r,e⟩:=x;exact⟨z,its,n,r,k _ _ (.inl rfl) e⟩
 | tup xs=>obtain⟨z,its,r,ob,e,c⟩:=x;exact⟨z,its,r,ob,k _ _ (.inl rfl) e,c⟩
 | dK kvs=>obtain⟨z,y,vs,r,ob,es,ep,e,c⟩:=x;exact⟨z,y,vs,r,ob,es,ep,k _ _ (.inl rfl) e,c⟩
 | dT kvs =>
  obtain⟨z,y,xs,r,ob,es,ep,e,c⟩:=x
  exact⟨z,y,xs,Paired.mapP r fun p q z=>⟨z.1,ht _ _ z.2.1,z.2.2⟩,ob,es,ep,k _ _ (.inl rfl) e,c⟩
 | set S n=>obtain⟨ob,es,ep,t,e,c⟩:=x;exact⟨ob,es,ep,t,k _ _ (.inl rfl) e,c⟩
 | ins C dx fs =>
  obtain⟨d,z,ne,e,mA,⟨od,es,ep,e2,c⟩,r⟩:=x
  exact⟨ho _ d,z,ne,k _ _ (.inl rfl) e,mA,⟨od,es,ep,k _ _ (.inr d) e2,c⟩,r⟩
 | own y=>obtain⟨ob,e⟩:=x;exact⟨ob,k _ _ (.inl rfl) e⟩
 | xd fs=>obtain⟨mA,⟨od,es,ep,e,c⟩,r⟩:=x;exact⟨mA,⟨od,es,ep,k _ _ (.inl rfl) e,c⟩,r⟩
 | rng lo hi=>obtain⟨t,u,v,e⟩:=x;exact⟨t,u,v,k _ _ (.inl rfl) e⟩
 | frz ob u ih=>obtain⟨e,q⟩:=x;exact⟨k _ _ (.inl rfl) e,ih q⟩
 | tbl ps =>
  have e:h.get? a=some { cls:=.none,data:=.fields ps }:=x
  show h'.get? a=some { cls:=.none,data:=.fields ps }
  exact k a _ (.inl rfl) e
 | met f y =>
  have e:h.get? a=some (PySem.W.methodObj (.ref f) (.ref y)):=x
  show h'.get? a=some (PySem.W.methodObj (.ref f) (.ref y))
  exact k a _ (.inl rfl) e
 | ext φ=>obtain⟨p,⟨o,e⟩,st⟩:=x;exact⟨st _ _ p fun o q=>k _ _ (.inl rfl) q,⟨o,k _ _ (.inl rfl) e⟩,st⟩
theorem HOk.lt (x:HOk P w H h) (e:H a=some o):a < h.objs.size:=(x a o e).lt
theorem HOk.fresh (x:HOk P w H h) (e:h.objs.size≤a):H a=none:=by
 cases q:H a with
 | none=>rfl
 | some u=>exact absurd (Nat.lt_of_lt_of_le (x.lt q) e) (Nat.lt_irrefl _)
/-- every object of the heap is kept -/
theorem HOk.kept (x:HOk P w H h) (k:∀ b u,h.get? b=some u->h'.get? b=some u):HOk P w H h':=fun a o e =>
 (x a o e).stay (fun b u _ q=>k b u q) (fun _ q=>q) fun _ _ q=>q
/-- a new object is laid and tracked -/
theorem HOk.laid (x:HOk P w H h) (k:∀ b u,h.get? b=some u->h'.get? b=some u) (hp:h.objs.size≤a) (new:ObjOk P w (upd H a o) h' a o):HOk P w (upd H a o) h':=fun b u e=>by
 have hn:=x.fresh hp
 by_cases hb:b=a
 ·subst hb;rw[zag] at e;cases e;exact new
 ·rw[zap hb] at e
  exact (x b u e).stay (fun c v _ q=>k c v q) (fun c q=>by rw[zap (zaj q hn)];exact q) fun c xs q=>by rw[zap (zaj q hn)];exact q
end
/-- what may be read as u: it is u, or a known u -/
def Rd (H:Hp) (a:Addr) (u:HO):Prop:=H a=some u∨∃ o,H a=some (.frz o u)
theorem Rd.ok {P:Program} {w:World} {H:Hp} {h:Heap} {a:Addr} {u:HO} (r:Rd H a u) (x:HOk P w H h):ObjOk P w H h a u:=by
 rcases r with r | ⟨o,r⟩
 ·exact x a u r
 ·obtain⟨_,q⟩:=x a _ r
  exact q
/-- what may be written -/
def Mut:Option HO->Prop
 | some (.lst _)=>True
 | some (.dK _)=>True
 | some (.dT _)=>True
 | some (.set _ _)=>True
 | some (.ins _ _ _)=>True
 | some (.ext _)=>True
 | _=>False
section
variable {P:Program} {w:World} {H:Hp} {h h':Heap} {x e:Addr} {o':HO}
/-- the object at e is changed: x itself, or the dict of the instance x -/
theorem HOk.write (ok:HOk P w H h) (mu:Mut (H x)) (he:e=x∨H e=some (.own x)) (k:∀ b u,b≠e->h.get? b=some u->h'.get? b=some u) (heo:∃ u,h'.get? e=some u)
  (new:ObjOk P w (upd H x o') h' x o'):HOk P w (upd H x o') h':=fun b u q=>by
 have nown:∀ c y,H c=some (.own y)->c≠x:=fun c y r z=>by subst z;rw[r] at mu;exact mu
 have ntup:∀ c xs,H c=some (.tup xs)->c≠x:=fun c xs r z=>by subst z;rw[r] at mu;exact mu
 by_cases hb:b=x
 ·subst hb;rw[zag] at q;cases q;exact new
 ·rw[zap hb] at q
  by_cases hbe:b=e
  ·have q':H b=some (.own x):=by
    rcases he with z | z
    ·exact absurd (hbe.trans z) hb
    ·rw[hbe];exact z
   rw[q] at q';cases q'
   obtain⟨v,hv⟩:=heo
   exact⟨v,by rw[hbe];exact hv⟩
  ·refine (ok b u q).stay (fun c v hc r=>k c v ?_ r) (fun c r=>by rw[zap (nown c b r)];exact r) fun c xs r=>by rw[zap (ntup c xs r)];exact r
   rcases hc with rfl | hc
   ·exact hbe
   ·rintro rfl
    rcases he with z | z
    ·exact nown c b hc z
    ·rw[hc] at z;cases z;exact hb rfl
end
structure Un (fs ex:List Addr) (H H':Hp) (h h':Heap):Prop where
 keep:∀ b o,h.get? b=some o->H b=none->b ∉ fs->b ∉ ex->h'.get? b=some o
 slot:∀ b o,h.get? b=some o->H b=none->b ∈ fs->b ∉ ex->∃ sl,h'.get? b=some { o with slots:=sl }
 free:∀ b o,h.get? b=some o->H b=none->b ∉ ex->H' b=none
 there:∀ b o,h.get? b=some o->b ∉ ex->∃ o',h'.get? b=some o'
 tups:∀ b xs,H b=some (.tup xs)->H' b=some (.tup xs)
 frzs:∀ b o u,H b=some (.frz o u)->H' b=some (.frz o u)
 tbls:∀ b ps,H b=some (.tbl ps)->∃ more,H' b=some (.tbl (ps++more))
section
variable {fs fs' ex ex':List Addr} {H H1 H2:Hp} {h h1 h2 h':Heap} {a x e:Addr} {o:HO}
theorem Un.any (u:Un fs ex H H1 h h1) {b:Addr} {ob:Obj} (q:h.get? b=some ob) (n:H b=none) (hx:b ∉ ex):∃ sl,h1.get? b=some { ob with slots:=sl }:=by
 by_cases hb:b ∈ fs
 ·exact u.slot b ob q n hb hx
 ·exact⟨ob.slots,u.keep b ob q n hb hx⟩
theorem Un.trans (a:Un fs ex H H1 h h1) (b:Un fs ex H1 H2 h1 h2):Un fs ex H H2 h h2 where
 keep:=fun c ob q n hc hx=>b.keep c ob (a.keep c ob q n hc hx) (a.free c ob q n hx) hc hx
 slot:=fun c ob q n hc hx=>by
  obtain⟨sl,e1⟩:=a.slot c ob q n hc hx
  obtain⟨sl',e2⟩:=b.slot c _ e1 (a.free c ob q n hx) hc hx
  exact⟨sl',e2⟩
 free:=fun c ob q n hx=>by
  obtain⟨o',e1⟩:=a.there c ob q hx
  exact b.free c o' e1 (a.free c ob q n hx) hx
 there:=fun c ob q hx=>by
  obtain⟨o',e1⟩:=a.there c ob q hx
  exact b.there c o' e1 hx
 tups:=fun c xs q=>b.tups c xs (a.tups c xs q)
 frzs:=fun c ob xs q=>b.frzs c ob xs (a.frzs c ob xs q)
 tbls:=fun c ps q=>by
  obtain⟨m1,e1⟩:=a.tbls c ps q
  obtain⟨m2,e2⟩:=b.tbls c _ e1
  exact⟨m1++m2,by rw[e2,Array.append_assoc]⟩
theorem Un.kept (k:∀ b u,h.get? b=some u->h'.get? b=some u):Un fs ex H H h h' :=
 ⟨fun b ob q _ _ _=>k b ob q,fun b ob q _ _ _=>⟨ob.slots,k b ob q⟩,fun _ _ _ n _=>n,fun b ob q _=>⟨ob,k b ob q⟩,fun _ _ q=>q,fun _ _ _ q=>q,fun _ ps q=>⟨#[],by rw[q];simp⟩⟩
theorem Un.refl:Un fs ex H H h h:=Un.kept fun _ _ q=>q
theorem Un.laid (k:∀ b u,h.get? b=some u->h'.get? b=some u) (hp:h.objs.size≤a) (hn:H a=none):Un fs ex H (upd H a o) h h' where
 keep:=fun b u q _ _ _=>k b u q
 slot:=fun b u q _ _ _=>⟨u.slots,k b u q⟩
 free:=fun b u q n _=>by rw[zap (Nat.ne_of_lt (Nat.lt_of_lt_of_le (Heap.lt_size q) hp))];exact n
 there:=fun b u q _=>⟨u,k b u q⟩
 tups:=fun b xs q=>by rw[zap (zaj q hn)];exact q
 frzs:=fun b u xs q=>by rw[zap (zaj q hn)];exact q
 tbls:=fun b ps q=>⟨#[],by rw[zap (zaj q hn),q];simp⟩
theorem Un.write (mu:Mut (H x)) (he:e=x∨H e=some (.own x)) (k:∀ b u,b≠e->h.get? b=some u->h'.get? b=some u) (heo:∃ u,h'.get? e=some u):Un fs ex H (upd H x o) h h':=by
 have hx:∀ b,H b=none->b≠x:=fun b n z=>by subst z;rw[n] at mu;exact mu
 have hb:∀ b,H b=none->b≠e:=fun b n z=>by
  subst z
  rcases he with r | r
  ·exact hx b n r
  ·rw[n] at r;cases r
 have hm:∀ b u,H b=some u->¬ Mut (some u)->b≠x:=fun b u q nm z=>by subst z;rw[q] at mu;exact nm mu
 refine⟨fun b u q n _ _=>k b u (hb b n) q,fun b u q n _ _=>⟨u.slots,k b u (hb b n) q⟩,fun b u q n _=>by rw[zap (hx b n)];exact n,fun b u q _=>?_,
  fun b xs q=>by rw[zap (hm b _ q fun z=>z)];exact q,fun b u xs q=>by rw[zap (hm b _ q fun z=>z)];exact q,fun b ps q=>⟨#[],by rw[zap (hm b _ q fun z=>z),q];simp⟩⟩
 by_cases hbe:b=e
 ·subst hbe;exact heo
 ·exact⟨u,k b u hbe q⟩
end
def trk (h:Heap) (H:Hp):List Addr:=(List.range h.objs.size).filter fun a=>(H a).isSome
def hidT (h:Heap) (H:Hp):Heap:=PySem.W.hideAll h (trk h H)
theorem znz (h:Heap) (H:Hp):(hidT h H).objs.size=h.objs.size:=PySem.W.hideAll_size _ _
theorem zph {h:Heap} {H:Hp} {b:Addr} {o:Obj} (e:h.get? b=some o) (n:H b=none):(hidT h H).get? b=some o :=
 PySem.W.hideAll_get _ e fun hm=>by
  have q:(H b).isSome=true:=(List.mem_filter.mp hm).2
  rw[n] at q;simp at q
theorem zrc {h:Heap} {H:Hp} {b:Addr} {o:Obj} (e:(hidT h H).get? b=some o):h.get? b=some o∧H b=none:=by
 have e':h.get? b=some o:=PySem.W.of_hideAll (trk h H) e
 refine⟨e',?_⟩
 cases q:H b with
 | none=>rfl
 | some x =>
  have hm:b ∈ trk h H:=List.mem_filter.mpr ⟨List.mem_range.mpr (Heap.lt_size e'),by simp [q]⟩
  have z:(hidT h H).get? b=none:=PySem.W.hideAll_none (trk h H) hm
  rw[z] at e;cases e
def allNews (g h:Heap) (L:Addr):List (Addr × Obj):=(List.range h.objs.size).filterMap fun a=>if a=L∨(g.get? a).isSome=true then none else (h.get? a).map fun o=>(a,o)
def rest (g h:Heap) (L d:Addr):List (Addr × Obj):=(allNews g h L).filter fun p=>decide (p.1≠d)
end L2
namespace L2
open PySem PySem.Spec PyProof.Rows
/-- the module's facts, over the base: the heap at the law's entry without what is tracked there -/
structure Mod (K:PySem.W.Frag) (mg:Str->Option Value) (base:Heap):Prop where
 kin:K.In base
 glob:base.Ns mainGlobals mg
 blt:∃ mb,base.Ns builtinsNs mb∧∀ x:Str,x≠"__name__"->mb x=bootBuiltins x
 nolimit:base.NoLimit
/-- the context: a def's body (or a comprehension's block) running. base: fixed through the whole law; s₀, H₀: the entry; outer: the frames whose slots others may change (a def's callers); stack: all frames that run;
   ex: iterators that were made ahead of the entry and are walked here (a comprehension's); fn: the names whose cells were made at the entry (a def: all; a comprehension's block: its own); calm: not within an except suite; pn: pins that every state bears; xe: what is wanted of an exception that leaves the code -/
structure Cx where
 prog:Program
 w:World
 K:PySem.W.Frag
 mg:Str->Option Value
 base:Heap
 A:Around
 N:List Str
 s₀:Shared
 H₀:Hp
 env:Env
 outer:List Env
 stack:List Env
 ex:List Addr
 fn:Str->Bool
 calm:Bool
 pn:List (Addr × Obj)
 xe:Value->Shared->Prop
/-- the callers' frames -/
def frs (l:List Env):List Addr:=l.filterMap (·.frame)
abbrev Cx.fs (X:Cx):List Addr:=frs X.outer
def Vis (sc:Scope) (x:Str):Prop:=sc.names.lookup x=some .local∨sc.names.lookup x=some .cell∨sc.names.lookup x=some .free
def Loc (sc:Scope) (x:Str):Prop:=sc.names.lookup x=some .local∨sc.names.lookup x=some .cell
def Look (env:Env) (h:Heap) (m:Str->Option Value) (x:Str) (u:Value):Prop :=
 (env.kindOf x=some .local∧m x=some u)∨((env.kindOf x=some .cell∨env.kindOf x=some .free)∧∃ c,env.cells.lookup x=some c∧h.IsCell c (some u))
structure Cx.Ok (X:Cx):Prop where
 mod:Mod X.K X.mg X.base
 kind:X.env.scope.kind=.function
 glob:X.env.globals=mainGlobals
 blt:X.env.builtins=builtinsNs
 above:X.s₀.heap.objs.size≤X.env.locals
 inj:∀ x y c,X.env.cells.lookup x=some c->X.env.cells.lookup y=some c->x=y
 has:∀ x,(X.env.kindOf x=some .cell∨X.env.kindOf x=some .free)->∃ c,X.env.cells.lookup x=some c
 cab:∀ x c,X.fn x=true->X.env.cells.lookup x=some c->X.s₀.heap.objs.size≤c
 hd:X.calm=true->X.A.handled=none
 frames:X.A.frames=some X.stack
 stk:X.stack=X.outer∨(X.stack=X.env::X.outer∧X.env.frame=some X.env.locals)
 exf:∀ b ∈ X.ex,b≠X.env.locals∧∀ x c,X.env.cells.lookup x=some c->c≠b
 bs:∀ b o,X.base.get? b=some o->X.s₀.heap.get? b=some o∧X.H₀ b=none
 bsz:X.base.objs.size≤X.s₀.heap.objs.size
 noex:∀ b o,X.base.get? b=some o->b ∉ X.ex
 exfs:∀ b ∈ X.ex,b ∉ X.fs
 funs:X.s₀.heap.FunFrames X.base X.outer
 frf:∀ b ∈ X.fs,X.H₀ b=none
structure Inv (X:Cx) (pins:List (Addr × Obj)) (σ:List (Option V)) (H:Hp) (s:Shared):Prop where
 ok:X.Ok
 os:s.os=X.s₀.os
 bare:AllBare s.gens
 base:Un X.fs X.ex X.H₀ H X.s₀.heap s.heap
 loc:∃ m,s.heap.Ns X.env.locals m∧∀ (i:Nat) (x:Str) (v:V),X.N[i]?=some x->σ[i]?=some (some v)->Vis X.env.scope x->∃ u,RelV v u∧Look X.env s.heap m x u
 cell:∀ x c,X.env.cells.lookup x=some c->∃ v,s.heap.IsCell c v
 free:H X.env.locals=none
 freeC:∀ x c,X.env.cells.lookup x=some c->H c=none
 pin:∀ p ∈ X.pn++pins,s.heap.get? p.1=some p.2∧H p.1=none∧p.1≠X.env.locals∧p.1 ∉ X.fs∧∀ v,p.2.data≠.cell v
 hok:HOk X.prog X.w H s.heap
 len:σ.length=X.N.length
section
variable {X:Cx} {pins:List (Addr × Obj)} {σ:List (Option V)} {H H':Hp} {s:Shared} {h':Heap}
theorem Cx.Ok.nofr (ok:X.Ok) {b:Addr} {o:Obj} (e:X.base.get? b=some o):b ∉ X.fs:=fun hb=>by
 have:=(ok.funs.mem hb).1
 rw[e] at this;cases this
theorem Inv.bs (I:Inv X pins σ H s):∀ b o,X.base.get? b=some o->s.heap.get? b=some o∧H b=none:=fun b o e =>
 ⟨I.base.keep b o (I.ok.bs b o e).1 (I.ok.bs b o e).2 (I.ok.nofr e) (I.ok.noex b o e),I.base.free b o (I.ok.bs b o e).1 (I.ok.bs b o e).2 (I.ok.noex b o e)⟩
theorem Inv.bk (I:Inv X pins σ H s):∀ b o,X.base.get? b=some o->s.heap.get? b=some o:=fun b o e=>(I.bs b o e).1
theorem Inv.mod (I:Inv X pins σ H s):Mod X.K X.mg X.base:=I.ok.mod
theorem Inv.kIn (I:Inv X pins σ H s):X.K.In s.heap:=I.ok.mod.kin.keeps I.bk
theorem Inv.lt (I:Inv X pins σ H s):X.env.locals < s.heap.objs.size:=let ⟨_,hn,_⟩:=I.loc;hn.lt
theorem Inv.sz (I:Inv X pins σ H s):X.s₀.heap.objs.size≤s.heap.objs.size:=Nat.le_trans I.ok.above (Nat.le_of_lt I.lt)
theorem Inv.nofs (I:Inv X pins σ H s) {a:Addr} (h:s.heap.objs.size≤a):a ∉ X.fs:=fun hb=>by
 obtain⟨_,o,ho,_⟩:=I.ok.funs.mem hb
 exact absurd (Nat.lt_of_lt_of_le (Heap.lt_size ho) (Nat.le_trans I.sz h)) (Nat.lt_irrefl _)
theorem Inv.cne (I:Inv X pins σ H s):∀ x c,X.env.cells.lookup x=some c->c≠X.env.locals:=fun x c e z=>by
 obtain⟨v,o,ho,hd⟩:=I.cell x c e
 obtain⟨m,⟨o',es,ep,ho',hd',_⟩,_⟩:=I.loc
 rw[z,ho'] at ho;cases ho;rw[hd'] at hd;cases hd
theorem Inv.funs (I:Inv X pins σ H s):s.heap.FunFrames X.base X.outer:=by
 have all:∀ (l:List Env),(∀ b ∈ frs l,b ∈ X.fs)->X.s₀.heap.FunFrames X.base l->s.heap.FunFrames X.base l:=by
  intro l
  induction l with
  | nil=>intro _ _;trivial
  | cons env r ih =>
   intro hs hl
   obtain⟨hk,⟨L,o,hf,hn,ho,hd⟩,hr⟩:=hl
   have hL:L ∈ X.fs:=hs L (by unfold frs;rw[List.filterMap_cons,hf];exact List.mem_cons_self)
   obtain⟨sl,e⟩:=I.base.slot L o ho (I.ok.frf L hL) hL fun z=>I.ok.exfs L z hL
   exact⟨hk,⟨L,_,hf,hn,e,hd⟩,ih (fun b hb=>hs b (by unfold frs;rw[List.filterMap_cons,hf];exact List.mem_cons_of_mem _ hb)) hr⟩
 exact all X.outer (fun _ hb=>hb) I.ok.funs
/-- the frames that run, for a call -/
theorem Inv.stack (I:Inv X pins σ H s):s.heap.FunFrames X.base X.stack:=by
 rcases I.ok.stk with e | ⟨e,hf⟩
 ·rw[e];exact I.funs
 ·rw[e]
  obtain⟨m,hn,_⟩:=I.loc
  refine .cons (by rw[I.ok.kind];decide) hf hn ?_ I.funs
  exact Heap.get?_none_of_le (Nat.le_trans I.ok.bsz I.ok.above)
theorem Inv.stkSub (I:Inv X pins σ H s):∀ b ∈ frs X.stack,b ∈ X.env.locals::X.fs:=fun b hb=>by
 rcases I.ok.stk with e | ⟨e,hf⟩
 ·rw[e] at hb;exact List.mem_cons_of_mem _ hb
 ·rw[e] at hb
  unfold frs at hb
  rw[List.filterMap_cons,hf] at hb
  exact hb
theorem Inv.stkFree (I:Inv X pins σ H s):∀ b ∈ frs X.stack,H b=none:=fun b hb=>by
 rcases List.mem_cons.mp (I.stkSub b hb) with e | hb
 ·rw[e];exact I.free
 ·obtain⟨_,o,ho,_⟩:=I.ok.funs.mem hb
  exact I.base.free b o ho (I.ok.frf b hb) fun z=>I.ok.exfs b z hb
/-- THE STEP: the untracked objects but the frame and the records at ch are kept (the callers' frames up to slots), the frame's map is kept, the new abstract heap is held -/
theorem Inv.step {g':Array GenState} {t':Nat} {d':Drawn} {ch:List Addr} (I:Inv X pins σ H s)
  (hch:∀ b ∈ ch,(b ∈ X.ex∨X.s₀.heap.objs.size≤b)∧b≠X.env.locals∧(∀ x c,X.env.cells.lookup x=some c->c≠b)∧∀ p ∈ X.pn++pins,p.1≠b)
  (keep:∀ b o,b≠X.env.locals->b ∉ X.fs->b ∉ ch->s.heap.get? b=some o->H b=none->h'.get? b=some o)
  (slot:∀ b o,b≠X.env.locals->b ∈ X.fs->b ∉ ch->s.heap.get? b=some o->H b=none->∃ sl,h'.get? b=some { o with slots:=sl }) (free:∀ b o,b ∉ ch->s.heap.get? b=some o->H b=none->H' b=none)
  (there:∀ b o,b ∉ ch->s.heap.get? b=some o->∃ o',h'.get? b=some o')
  (tups:∀ b xs,H b=some (.tup xs)->H' b=some (.tup xs)) (frzs:∀ b o u,H b=some (.frz o u)->H' b=some (.frz o u)) (tbls:∀ b ps,H b=some (.tbl ps)->∃ more,H' b=some (.tbl (ps++more)))
  (ns:∀ m,s.heap.Ns X.env.locals m->h'.Ns X.env.locals m) (hok:HOk X.prog X.w H' h') (hg:AllBare g') :
  Inv X pins σ H' { s with heap:=h',gens:=g',drawn:=d',toks:=t' }:=by
 have neL:∀ b o,X.s₀.heap.get? b=some o->b≠X.env.locals:=fun b o e=>Nat.ne_of_lt (Nat.lt_of_lt_of_le (Heap.lt_size e) I.ok.above)
 have neC:∀ b o,X.s₀.heap.get? b=some o->b ∉ X.ex->b ∉ ch:=fun b o e hx hb=>by
  rcases (hch b hb).1 with z | z
  ·exact hx z
  ·exact absurd (Nat.lt_of_lt_of_le (Heap.lt_size e) z) (Nat.lt_irrefl _)
 have cellK:∀ x c,X.env.cells.lookup x=some c->∀ v,s.heap.IsCell c v->h'.IsCell c v:=fun x c e v ⟨o,ho,hd⟩=>by
  have nch:c ∉ ch:=fun z=>(hch c z).2.2.1 x c e rfl
  by_cases hc:c ∈ X.fs
  ·obtain⟨sl,q⟩:=slot c o (I.cne x c e) hc nch ho (I.freeC x c e)
   exact⟨_,q,hd⟩
  ·exact⟨o,keep c o (I.cne x c e) hc nch ho (I.freeC x c e),hd⟩
 refine⟨I.ok,I.os,hg,⟨fun b o e n hb hx=>?_,fun b o e n hb hx=>?_,fun b o e n hx=>?_,fun b o e hx=>?_,fun b xs e=>tups b xs (I.base.tups b xs e),fun b o xs e=>frzs b o xs (I.base.frzs b o xs e),fun b ps e=>?_⟩,?_,fun x c e=>?_,?_,fun x c e=>?_,fun p hp=>?_,hok,I.len⟩
 ·exact keep b o (neL b o e) hb (neC b o e hx) (I.base.keep b o e n hb hx) (I.base.free b o e n hx)
 ·obtain⟨sl,e1⟩:=I.base.slot b o e n hb hx
  obtain⟨sl',e2⟩:=slot b _ (neL b o e) hb (neC b o e hx) e1 (I.base.free b o e n hx)
  exact⟨sl',e2⟩
 ·obtain⟨o',e1⟩:=I.base.there b o e hx
  exact free b o' (neC b o e hx) e1 (I.base.free b o e n hx)
 ·obtain⟨o',e1⟩:=I.base.there b o e hx
  exact there b o' (neC b o e hx) e1
 ·obtain⟨m1,e1⟩:=I.base.tbls b ps e
  obtain⟨m2,e2⟩:=tbls b _ e1
  exact⟨m1++m2,by rw[e2,Array.append_assoc]⟩
 ·obtain⟨m,hn,hl⟩:=I.loc
  refine⟨m,ns m hn,fun i x v e1 e2 e3=>?_⟩
  obtain⟨u,r,l⟩:=hl i x v e1 e2 e3
  refine⟨u,r,?_⟩
  rcases l with l | ⟨k,c,e,z⟩
  ·exact .inl l
  ·exact .inr ⟨k,c,e,cellK x c e _ z⟩
 ·obtain⟨v,z⟩:=I.cell x c e
  exact⟨v,cellK x c e v z⟩
 ·obtain⟨m,⟨o,_,_,ho,_⟩,_⟩:=I.loc
  exact free _ o (fun z=>(hch _ z).2.1 rfl) ho I.free
 ·obtain⟨v,o,ho,hd⟩:=I.cell x c e
  exact free c o (fun z=>(hch c z).2.2.1 x c e rfl) ho (I.freeC x c e)
 ·obtain⟨e,n,ne,nf,d⟩:=I.pin p hp
  have nch:p.1 ∉ ch:=fun z=>(hch p.1 z).2.2.2 p hp rfl
  exact⟨keep p.1 p.2 ne nf nch e n,free p.1 p.2 nch e n,ne,nf,d⟩
/-- .. where the frame's own object is kept too -/
theorem Inv.un {t':Nat} (I:Inv X pins σ H s) (u:Un X.fs [] H H' s.heap h') (hok:HOk X.prog X.w H' h'):Inv X pins σ H' { s with heap:=h',toks:=t' }:=by
 obtain⟨m,⟨o,es,ep,ho,r⟩,_⟩:=id I.loc
 obtain⟨sl,hL⟩:=u.any ho I.free (by simp)
 exact I.step (g':=s.gens) (d':=s.drawn) (ch:=[]) (fun _ z=>nomatch z) (fun b o _ hb _ e n=>u.keep b o e n hb (by simp)) (fun b o _ hb _ e n=>u.slot b o e n hb (by simp)) (fun b o _ e n=>u.free b o e n (by simp)) (fun b o _ e=>u.there b o e (by simp)) u.tups u.frzs u.tbls (fun m' hm=>by
  obtain⟨o',es',ep',ho',r'⟩:=hm
  rw[ho] at ho';cases ho'
  exact⟨_,es',ep',hL,r'⟩) hok I.bare
/-- behind a call (or a comprehension's block): the slots of this frame may have changed too, the records at ch may have turned -/
theorem Inv.call {g':Array GenState} {t':Nat} {d':Drawn} {ch:List Addr} (I:Inv X pins σ H s) (u:Un (frs X.stack) ch H H' s.heap h') (hok:HOk X.prog X.w H' h') (hg:AllBare g')
  (hch:∀ b ∈ ch,(b ∈ X.ex∨X.s₀.heap.objs.size≤b)∧b≠X.env.locals∧(∀ x c,X.env.cells.lookup x=some c->c≠b)∧∀ p ∈ X.pn++pins,p.1≠b) :
  Inv X pins σ H' { s with heap:=h',gens:=g',drawn:=d',toks:=t' }:=by
 obtain⟨m,⟨o,es,ep,ho,r⟩,_⟩:=id I.loc
 obtain⟨sl,hL⟩:=u.any ho I.free fun z=>(hch _ z).2.1 rfl
 exact I.step (ch:=ch) hch (fun b o hL hb hc e n=>u.keep b o e n (fun z=>(List.mem_cons.mp (I.stkSub b z)).elim hL hb) hc) (fun b o _ _ hc e n=>u.any e n hc) (fun b o hc e n=>u.free b o e n hc) (fun b o hc e=>u.there b o e hc) u.tups u.frzs u.tbls (fun m' hm=>by
  obtain⟨o',es',ep',ho',r'⟩:=hm
  rw[ho] at ho';cases ho'
  exact⟨_,es',ep',hL,r'⟩) hok hg
/-- an untracked record of ours (an iterator) has turned -/
theorem Inv.turned {t':Nat} {it:Addr} (I:Inv X pins σ H s) (k:∀ b o,b≠it->s.heap.get? b=some o->h'.get? b=some o) (hn:H it=none) (hL:it≠X.env.locals)
  (h1:it ∈ X.ex∨X.s₀.heap.objs.size≤it) (h2:∀ x c,X.env.cells.lookup x=some c->c≠it) (h3:∀ p ∈ X.pn++pins,p.1≠it):Inv X pins σ H { s with heap:=h',toks:=t' }:=by
 have nit:∀ b u,H b=some u->b≠it:=fun b u e z=>by rw[z,hn] at e;cases e
 refine I.step (g':=s.gens) (d':=s.drawn) (ch:=[it]) (fun b hb=>?_) (fun b o _ _ hc e _=>k b o (fun z=>hc (by simp [z])) e) (fun b o _ _ hc e _=>⟨o.slots,k b o (fun z=>hc (by simp [z])) e⟩) (fun _ _ _ _ n=>n)
  (fun b o hc e=>⟨o,k b o (fun z=>hc (by simp [z])) e⟩) (fun _ _ e=>e) (fun _ _ _ e=>e) (fun b ps e=>⟨#[],by rw[e];simp⟩) (fun m hm=>?_) (fun b u e=>?_) I.bare
 ·have e:b=it:=by simpa using hb
  subst e
  exact⟨h1,hL,h2,h3⟩
 ·obtain⟨o,es,ep,ho,r⟩:=hm
  exact⟨o,es,ep,k _ o (Ne.symm hL) ho,r⟩
 ·refine (I.hok b u e).stay (fun c v hc q=>k c v ?_ q) (fun _ q=>q) fun _ _ q=>q
  rcases hc with z | z
  ·rw[z];exact nit b u e
  ·exact nit c _ z
theorem Inv.tok (I:Inv X pins σ H s) (t:Nat):Inv X pins σ H { s with toks:=t }:=I.un (h':=s.heap) (t':=t) Un.refl I.hok
/-- all objects kept -/
theorem Inv.kept {t':Nat} (I:Inv X pins σ H s) (k:∀ b u,s.heap.get? b=some u->h'.get? b=some u):Inv X pins σ H { s with heap:=h',toks:=t' }:=I.un (Un.kept k) (I.hok.kept k)
/-- a new object laid and tracked -/
theorem Inv.laid {a:Addr} {o:HO} {t':Nat} (I:Inv X pins σ H s) (k:∀ b u,s.heap.get? b=some u->h'.get? b=some u) (hp:s.heap.objs.size≤a) (new:ObjOk X.prog X.w (upd H a o) h' a o) :
  Inv X pins σ (upd H a o) { s with heap:=h',toks:=t' }:=I.un (Un.laid k hp (I.hok.fresh hp)) (I.hok.laid k hp new)
/-- an object written -/
theorem Inv.write {x e:Addr} {o:HO} {t':Nat} (I:Inv X pins σ H s) (mu:Mut (H x)) (he:e=x∨H e=some (.own x)) (k:∀ b u,b≠e->s.heap.get? b=some u->h'.get? b=some u) (heo:∃ u,h'.get? e=some u)
  (new:ObjOk X.prog X.w (upd H x o) h' x o):Inv X pins σ (upd H x o) { s with heap:=h',toks:=t' }:=I.un (Un.write mu he k heo) (I.hok.write mu he k heo new)
theorem Inv.pins_of {pins':List (Addr × Obj)} (I:Inv X pins σ H s) (h:∀ p ∈ pins',s.heap.get? p.1=some p.2∧H p.1=none∧p.1≠X.env.locals∧p.1 ∉ X.fs∧∀ v,p.2.data≠.cell v):Inv X pins' σ H s :=
 ⟨I.ok,I.os,I.bare,I.base,I.loc,I.cell,I.free,I.freeC,fun p hp=>(List.mem_append.mp hp).elim (fun z=>I.pin p (List.mem_append_left _ z)) (h p),I.hok,I.len⟩
theorem zkj {N:List Str} (hN:N.Nodup) {i j:Nat} {x:Str} (a:N[i]?=some x) (b:N[j]?=some x):i=j:=by
 obtain⟨h1,e1⟩:=List.getElem?_eq_some_iff.mp a
 obtain⟨h2,e2⟩:=List.getElem?_eq_some_iff.mp b
 exact (List.getElem_inj hN).mp (e1.trans e2.symm)
/-- a name is stored; what changed -/
theorem zhl {M:Model} {A:Around} {E:Value->Shared->Prop} {i:Nat} {x:Str} {v:V} {u:Value} {Q:Unit->Shared->Prop} (I:Inv X pins σ H s) (hN:X.N.Nodup) (hi:X.N[i]?=some x) (hx:Loc X.env.scope x) (r:RelV v u)
  (h:∀ s',Inv X pins (σ.set i (some v)) H s'->(∃ a,Heap.SameBut a s.heap s'.heap∧(a=X.env.locals∨X.env.cells.lookup x=some a))->Q () s') (hf:X.fn x=true∨X.env.scope.names.lookup x=some .local:=by first | exact .inl rfl | exact .inr rfl | assumption):wpAny M A (storeName X.env x u) Q E s:=by
 obtain⟨m,hn,hl⟩:=id I.loc
 have hcls:(X.env.scope.kind == .class || (X.env.scope.kind == .module && X.env.locals != X.env.globals))=false:=by rw[I.ok.kind];rfl
 have hiσ:i < σ.length:=by rw[I.len];exact (List.getElem?_eq_some_iff.mp hi).1
 have cne:=I.cne
 have tracked:∀ {a:Addr} {h':Heap},(∃ o,s.heap.get? a=some o∧H a=none)->Heap.SameBut a s.heap h'->HOk X.prog X.w H h':=fun {a h'} ha hs b ob e=>by
  obtain⟨_,_,hfree⟩:=ha
  refine (I.hok b ob e).stay (fun c w' hc q=>(hs.2 c ?_).trans q) (fun _ q=>q) fun _ _ q=>q
  rintro rfl
  rcases hc with rfl | hc
  ·rw[hfree] at e;cases e
  ·rw[hfree] at hc;cases hc
 rcases hx with hk | hk
 ·refine wpAny_storeName_local hk hn (fun h' hn' hs=>?_) hcls
  obtain⟨oL,_,_,hoL,_⟩:=id hn
  refine h _ ⟨I.ok,I.os,I.bare,⟨fun b o e n hb hx=>?_,fun b o e n hb hx=>?_,I.base.free,fun b o e hx=>?_,I.base.tups,I.base.frzs,I.base.tbls⟩,⟨_,hn',fun j y v' e1 e2 e3=>?_⟩,fun y c e=>?_,I.free,I.freeC,fun p hp=>?_,tracked ⟨oL,hoL,I.free⟩ hs,by simpa using I.len⟩ ⟨_,hs,.inl rfl⟩
  ·exact (hs.2 b (Nat.ne_of_lt (Nat.lt_of_lt_of_le (Heap.lt_size e) I.ok.above))).trans (I.base.keep b o e n hb hx)
  ·obtain⟨sl,e1⟩:=I.base.slot b o e n hb hx
   exact⟨sl,(hs.2 b (Nat.ne_of_lt (Nat.lt_of_lt_of_le (Heap.lt_size e) I.ok.above))).trans e1⟩
  ·obtain⟨o',e1⟩:=I.base.there b o e hx
   exact⟨o',(hs.2 b (Nat.ne_of_lt (Nat.lt_of_lt_of_le (Heap.lt_size e) I.ok.above))).trans e1⟩
  ·by_cases hj:j=i
   ·subst hj
    rw[hi] at e1;cases e1
    rw[List.getElem?_set_self hiσ] at e2
    cases e2
    exact⟨u,r,.inl ⟨hk,by simp⟩⟩
   ·rw[List.getElem?_set_ne (Ne.symm hj)] at e2
    obtain⟨u',r',q⟩:=hl j y v' e1 e2 e3
    refine⟨u',r',?_⟩
    rcases q with ⟨k,e⟩ | ⟨k,c,e,z⟩
    ·refine .inl ⟨k,?_⟩
     have:y≠x:=fun e=>hj (zkj hN e1 (e ▸ hi))
     simp [this,e]
    ·exact .inr ⟨k,c,e,z.sameBut hs (cne y c e)⟩
  ·obtain⟨w',z⟩:=I.cell y c e
   exact⟨w',z.sameBut hs (cne y c e)⟩
  ·obtain⟨e,n,ne,nf,d⟩:=I.pin p hp
   exact⟨(hs.2 p.1 ne).trans e,n,ne,nf,d⟩
 ·have hfn:X.fn x=true:=by
   rcases hf with z | z
   ·exact z
   ·rw[z] at hk;cases hk
  obtain⟨c,hc⟩:=I.ok.has x (.inl hk)
  obtain⟨w',z⟩:=I.cell x c hc
  refine wpAny_storeName_cell I.ok.kind hk hc z (fun h' hc' hs=>?_)
  obtain⟨oc,hoc,hocd⟩:=id z
  refine h { s with heap:=h' } ⟨I.ok,I.os,I.bare,⟨fun b o e n hb hx=>?_,fun b o e n hb hx=>?_,I.base.free,fun b o e hx=>?_,I.base.tups,I.base.frzs,I.base.tbls⟩,⟨m,hn.sameBut hs (Ne.symm (cne x c hc)),fun j y v' e1 e2 e3=>?_⟩,fun y c' e=>?_,I.free,I.freeC,fun p hp=>?_,tracked ⟨oc,hoc,I.freeC x c hc⟩ hs,by simpa using I.len⟩ ⟨c,hs,.inr hc⟩
  ·exact (hs.2 b (Nat.ne_of_lt (Nat.lt_of_lt_of_le (Heap.lt_size e) (I.ok.cab x c hfn hc)))).trans (I.base.keep b o e n hb hx)
  ·obtain⟨sl,e1⟩:=I.base.slot b o e n hb hx
   exact⟨sl,(hs.2 b (Nat.ne_of_lt (Nat.lt_of_lt_of_le (Heap.lt_size e) (I.ok.cab x c hfn hc)))).trans e1⟩
  ·obtain⟨o',e1⟩:=I.base.there b o e hx
   exact⟨o',(hs.2 b (Nat.ne_of_lt (Nat.lt_of_lt_of_le (Heap.lt_size e) (I.ok.cab x c hfn hc)))).trans e1⟩
  ·by_cases hj:j=i
   ·subst hj
    rw[hi] at e1;cases e1
    rw[List.getElem?_set_self hiσ] at e2
    cases e2
    exact⟨u,r,.inr ⟨.inl hk,c,hc,hc'⟩⟩
   ·rw[List.getElem?_set_ne (Ne.symm hj)] at e2
    obtain⟨u',r',q⟩:=hl j y v' e1 e2 e3
    refine⟨u',r',?_⟩
    rcases q with q | ⟨k,c',e,z'⟩
    ·exact .inl q
    ·refine .inr ⟨k,c',e,z'.sameBut hs ?_⟩
     rintro rfl
     exact hj (zkj hN e1 (I.ok.inj _ _ _ e hc ▸ hi))
  ·by_cases hcc:c'=c
   ·subst hcc;exact⟨_,hc'⟩
   ·obtain⟨w2,z2⟩:=I.cell y c' e
    exact⟨w2,z2.sameBut hs hcc⟩
  ·obtain⟨e,n,ne,nf,d⟩:=I.pin p hp
   refine⟨(hs.2 p.1 ?_).trans e,n,ne,nf,d⟩
   intro q
   rw[q,hoc] at e
   have q':oc=p.2:=Option.some.inj e
   exact d w' (by rw[← q'];exact hocd)
theorem zkb {M:Model} {A:Around} {E:Value->Shared->Prop} {i:Nat} {x:Str} {v:V} {u:Value} {Q:Unit->Shared->Prop} (I:Inv X pins σ H s) (hN:X.N.Nodup) (hi:X.N[i]?=some x) (hx:Loc X.env.scope x) (r:RelV v u)
  (h:∀ s',Inv X pins (σ.set i (some v)) H s'->Q () s') (hf:X.fn x=true∨X.env.scope.names.lookup x=some .local:=by first | exact .inl rfl | exact .inr rfl | assumption):wpAny M A (storeName X.env x u) Q E s :=
 zhl I hN hi hx r (fun s' I' _=>h s' I') hf
/-- behind a call or a block, the state as it is -/
theorem Inv.call' {s':Shared} {ch:List Addr} (I:Inv X pins σ H s) (ho:s'.os=s.os) (u:Un (frs X.stack) ch H H' s.heap s'.heap) (hok:HOk X.prog X.w H' s'.heap) (hg:AllBare s'.gens)
  (hch:∀ b ∈ ch,(b ∈ X.ex∨X.s₀.heap.objs.size≤b)∧b≠X.env.locals∧(∀ x c,X.env.cells.lookup x=some c->c≠b)∧∀ p ∈ X.pn++pins,p.1≠b):Inv X pins σ H' s':=by
 obtain⟨h',g',d',t',o'⟩:=s'
 have e:o'=s.os:=ho
 subst e
 exact I.call (g':=g') (t':=t') (d':=d') u hok hg hch
end
/-- an exception: its class, its own dict's address (where it has one), the abstract heap behind it -/
abbrev XK:=Value->Option Addr->Hp->Prop
abbrev St:=List (Option V)
abbrev VK:=V->Hp->Prop
/-- an expression's reading; a test's; an argument list's -/
abbrev TE:=St->Hp->VK->Prop
abbrev TT:=St->Hp->(Bool->Hp->Prop)->Prop
abbrev TA:=St->Hp->(List V->Hp->Prop)->Prop
/-- what is wanted behind a statement -/
structure Ends where
 nx:St->Hp->Prop
 rt:VK
 bk:St->Hp->Prop:=fun _ _=>False
 ct:St->Hp->Prop:=fun _ _=>False
abbrev TS:=Ends->St->Hp->Prop
def EP (X:Cx) (pins:List (Addr × Obj)) (σ:St) (Q:VK) (u:Value) (s':Shared):Prop:=∃ v H',Inv X pins σ H' s'∧RelV v u∧Q v H'
def TP (X:Cx) (pins:List (Addr × Obj)) (σ:St) (Q:Bool->Hp->Prop) (b:Bool) (s':Shared):Prop:=∃ H',Inv X pins σ H' s'∧Q b H'
def AP (X:Cx) (pins:List (Addr × Obj)) (σ:St) (Q:List V->Hp->Prop) (us:List Value) (s':Shared):Prop:=∃ vs H',Inv X pins σ H' s'∧Vals vs us∧Q vs H'
def SP (X:Cx) (pins:List (Addr × Obj)) (D:Ends) (f:Flow) (s':Shared):Prop :=
 match f with
 | .next=>∃ σ' H',Inv X pins σ' H' s'∧D.nx σ' H'
 | .brk=>∃ σ' H',Inv X pins σ' H' s'∧D.bk σ' H'
 | .cont=>∃ σ' H',Inv X pins σ' H' s'∧D.ct σ' H'
 | .ret u=>∃ v σ' H',Inv X pins σ' H' s'∧RelV v u∧D.rt v H'
def PE (X:Cx) (e:Expr) (t:TE):Prop :=
 ∀ (pins:List (Addr × Obj)) (s:Shared) (σ:St) (H:Hp) (Q:VK),Inv X pins σ H s->t σ H Q->wpAny (model X.prog X.w) X.A (eval e X.env) (EP X pins σ Q) X.xe s
def PT (X:Cx) (e:Expr) (t:TT):Prop :=
 ∀ (pins:List (Addr × Obj)) (s:Shared) (σ:St) (H:Hp) (Q:Bool->Hp->Prop),Inv X pins σ H s->t σ H Q->wpAny (model X.prog X.w) X.A (isTrue e X.env (eval e X.env)) (TP X pins σ Q) X.xe s
/-- a test whatever its 'whole' is (and, or) -/
def PW (X:Cx) (e:Expr) (t:TT):Prop :=
 ∀ (whole:Sem Value) (pins:List (Addr × Obj)) (s:Shared) (σ:St) (H:Hp) (Q:Bool->Hp->Prop),Inv X pins σ H s->t σ H Q->wpAny (model X.prog X.w) X.A (isTrue e X.env whole) (TP X pins σ Q) X.xe s
theorem PW.pt {X:Cx} {e:Expr} {t:TT} (h:PW X e t):PT X e t:=h _
/-- an argument list (no star), from the left -/
def PA (X:Cx) (es:List Expr) (t:TA):Prop :=
 ∀ (pos:Pos) (pins:List (Addr × Obj)) (s:Shared) (σ:St) (H:Hp) (Q:List V->Hp->Prop),Inv X pins σ H s->t σ H Q->wpAny (model X.prog X.w) X.A (spliced (backTo pos (starEach es X.env))) (AP X pins σ Q) X.xe s
def PS (X:Cx) (st:Stmt) (t:TS):Prop :=
 ∀ (pins:List (Addr × Obj)) (s:Shared) (σ:St) (H:Hp) (D:Ends),Inv X pins σ H s->t D σ H->wpAny (model X.prog X.w) X.A (exec st X.env) (SP X pins D) X.xe s
def PSs (X:Cx) (st:List Stmt) (t:TS):Prop :=
 ∀ (pins:List (Addr × Obj)) (s:Shared) (σ:St) (H:Hp) (D:Ends),Inv X pins σ H s->t D σ H->wpAny (model X.prog X.w) X.A (execs st X.env) (SP X pins D) X.xe s
/-- weaken the end -/
theorem thn {α:Type} {t:Sem α} {Q Q':α->Shared->Prop} {M:Model} {A:Around} {E:Value->Shared->Prop} {s:Shared} (h:wpAny M A t Q E s) (hQ:∀ a s,Q a s->Q' a s):wpAny M A t Q' E s:=wpAny_mono h hQ fun _ _ x=>x
end L2
namespace L2
open PySem PySem.Spec PyProof.Rows
section
variable {X:Cx}
def tVar (i:Nat):TE:=fun σ H Q=>∃ v,σ[i]?=some (some v)∧Q v H
def tC (v:V):TE:=fun _ H Q=>Q v H
theorem zsa {i:Nat} {x:Str} {pos:Pos} (hN:X.N[i]?=some x) (hv:Vis X.env.scope x) (hd:(x == ("__debug__":Str))=false:=by decide) (hcd:(x == ("__classdict__":Str))=false:=by decide):PE X (.Name x pos) (tVar i):=by
 intro pins s σ H Q I h
 obtain⟨v,e,h⟩:=h
 obtain⟨m,hn,hl⟩:=I.loc
 obtain⟨u,r,l⟩:=hl i x v hN e hv
 have fin:EP X pins σ Q u s:=⟨v,H,I,r,h⟩
 rcases l with ⟨hk,hm⟩ | ⟨hk,c,hc,hcell⟩
 ·exact wpAny_Name (wpAny_loadName_local I.ok.kind hk hn hm fin) hd
 ·rcases hk with hk | hk
  ·exact wpAny_Name (wpAny_loadName_cell I.ok.kind hk hc hcell fin) hd
  ·exact wpAny_Name (wpAny_loadName_free I.ok.kind hk hc hcell fin hcd) hd
theorem zad {i j pos}:PE X (.Constant (.int i) j pos) (tC (.int i)):=fun _ _ _ H _ I h=>wpAny_Constant_int ⟨.int i,H,I.tok _,⟨_,rfl⟩,h⟩
theorem zje {b j pos}:PE X (.Constant (.bool b) j pos) (tC (.bl b)):=fun _ _ _ H _ I h=>Constant_bool ⟨.bl b,H,I,rfl,h⟩
theorem zbp {j pos}:PE X (.Constant .none j pos) (tC .non):=fun _ _ _ H _ I h=>Constant_none ⟨.non,H,I,rfl,h⟩
/-- a global name of the def -/
def Gl (X:Cx) (x:Str):Prop:=X.env.kindOf x=some .globalImplicit
theorem zrg {E:Value->Shared->Prop} {pins:List (Addr × Obj)} {s:Shared} {σ:St} {H:Hp} {x:Str} {u:Value} {pos:Pos} {Q:Value->Shared->Prop} (I:Inv X pins σ H s) (hg:Gl X x) (hm:X.mg x=some u) (h:Q u s)
  (hd:(x == ("__debug__":Str))=false:=by decide):wpAny (model X.prog X.w) X.A (eval (.Name x pos) X.env) Q E s :=
 Calls.Name_function_global I.ok.kind hg (Calls.loadGlobal_global (by rw[I.ok.glob];exact I.mod.glob.keeps I.bk) hm h) hd
theorem zdw {E:Value->Shared->Prop} {pins:List (Addr × Obj)} {s:Shared} {σ:St} {H:Hp} {x:Str} {u:Value} {pos:Pos} {Q:Value->Shared->Prop} (I:Inv X pins σ H s) (hg:Gl X x) (hm:X.mg x=none) (hv:bootBuiltins x=some u) (h:Q u s)
  (hn:x≠"__name__":=by decide) (hd:(x == ("__debug__":Str))=false:=by decide):wpAny (model X.prog X.w) X.A (eval (.Name x pos) X.env) Q E s:=by
 obtain⟨mb,h1,h2⟩:=I.mod.blt
 exact Calls.Name_function_global I.ok.kind hg (Calls.loadGlobal_builtin (by rw[I.ok.glob];exact I.mod.glob.keeps I.bk) hm (by rw[I.ok.blt];exact h1.keeps I.bk) ((h2 x hn).trans hv) h) hd
theorem zen {x:Str} {v:V} {u:Value} {pos:Pos} (hg:Gl X x) (hm:X.mg x=none) (hv:bootBuiltins x=some u) (r:RelV v u) (hn:x≠"__name__":=by decide) (hd:(x == ("__debug__":Str))=false:=by decide):PE X (.Name x pos) (tC v) :=
 fun _ _ _ H _ I h=>zdw I hg hm hv ⟨v,H,I,r,h⟩ hn hd
variable {a b:Expr} {ta tb:TE} {pos:Pos}
/-- a comparison as a value, as a test -/
def tB (t:TE):TT:=fun σ H Q=>t σ H fun x H1=>∃ c,x=.bl c∧Q c H1
/-- an expression whose value is a bool, as a test -/
theorem zdu {e:Expr} {t:TE} (h:PE X e t) (he:∀ whole,isTrue e X.env whole=(do let v ← whole;standAt e.pos;holding [v] (truthy v)):=by intro _;rfl):PT X e (tB t):=by
 intro pins s σ H Q I hw
 refine isTrue_plain (thn (h pins s σ H _ I hw) fun v s1 ⟨x,H1,I1,r1,q1⟩=>?_) (he _)
 obtain⟨d,rfl,q⟩:=q1
 cases r1
 exact wpAny_truthy_bool ⟨H1,I1,q⟩
variable {tA tB':TT} {rest:List Expr}
def tAnd (t u:TT):TT:=fun σ H Q=>t σ H fun c H1=>if c=true then u σ H1 Q else Q false H1
def tOr (t u:TT):TT:=fun σ H Q=>t σ H fun c H1=>if c=true then Q true H1 else u σ H1 Q
def tNot (t:TT):TT:=fun σ H Q=>t σ H fun c H1=>Q (!c) H1
theorem zq4 (ha:PT X a tA):PW X (.BoolOp .And [a] pos) tA:=by
 intro wh pins s σ H Q I h
 refine isTrue_and (thn (ha pins s σ H Q I h) fun c s1 e=>?_)
 cases c with
 | true=>exact isTrue_and_nil e
 | false=>exact e
theorem zdt (ha:PT X a tA):PW X (.BoolOp .Or [a] pos) tA:=by
 intro wh pins s σ H Q I h
 refine isTrue_or (thn (ha pins s σ H Q I h) fun c s1 e=>?_)
 cases c with
 | false=>exact isTrue_or_nil e
 | true=>exact e
theorem zr5 (ha:PT X a tA) (hb:PW X (.BoolOp .And (b::rest) pos) tB'):PW X (.BoolOp .And (a::b::rest) pos) (tAnd tA tB'):=by
 intro wh pins s σ H Q I h
 refine isTrue_and (thn (ha pins s σ H _ I h) fun c s1 ⟨H1,I1,q1⟩=>?_)
 cases c with
 | true=>exact hb wh pins s1 σ H1 Q I1 q1
 | false=>exact⟨H1,I1,q1⟩
theorem zge (ha:PT X a tA) (hb:PW X (.BoolOp .Or (b::rest) pos) tB'):PW X (.BoolOp .Or (a::b::rest) pos) (tOr tA tB'):=by
 intro wh pins s σ H Q I h
 refine isTrue_or (thn (ha pins s σ H _ I h) fun c s1 ⟨H1,I1,q1⟩=>?_)
 cases c with
 | true=>exact⟨H1,I1,q1⟩
 | false=>exact hb wh pins s1 σ H1 Q I1 q1
theorem zmv (ha:PT X a tA):PT X (.UnaryOp .Not a pos) (tNot tA):=by
 intro pins s σ H Q I h
 exact isTrue_not (ha pins s σ H (fun c H1=>Q (!c) H1) I h)
/-- .. as values (bools) -/
def tAndV (ta tb:TE):TE:=fun σ H Q=>ta σ H fun x H1=>∃ c,x=.bl c∧if c=true then tb σ H1 Q else Q (.bl false) H1
def tOrV (ta tb:TE):TE:=fun σ H Q=>ta σ H fun x H1=>∃ c,x=.bl c∧if c=true then Q (.bl true) H1 else tb σ H1 Q
def tNotV (ta:TE):TE:=fun σ H Q=>ta σ H fun x H1=>∃ c,x=.bl c∧Q (.bl (!c)) H1
theorem zcg {op} {t:TE} (h:PE X a t):PE X (.BoolOp op [a] pos) t:=fun pins s σ H Q I hw=>BoolOp_one (h pins s σ H Q I hw)
theorem zeo (ha:PE X a ta) (hb:PE X (.BoolOp .And (b::rest) pos) tb):PE X (.BoolOp .And (a::b::rest) pos) (tAndV ta tb):=by
 intro pins s σ H Q I h
 refine BoolOp_and (thn (ha pins s σ H _ I h) fun v s1 ⟨x,H1,I1,r1,q1⟩=>?_)
 obtain⟨c,rfl,q1⟩:=q1
 cases r1
 refine wpAny_truthy_bool ?_
 cases c with
 | true=>exact hb pins s1 σ H1 Q I1 q1
 | false=>exact⟨.bl false,H1,I1,rfl,q1⟩
theorem zm2 (ha:PE X a ta) (hb:PE X (.BoolOp .Or (b::rest) pos) tb):PE X (.BoolOp .Or (a::b::rest) pos) (tOrV ta tb):=by
 intro pins s σ H Q I h
 refine BoolOp_or (thn (ha pins s σ H _ I h) fun v s1 ⟨x,H1,I1,r1,q1⟩=>?_)
 obtain⟨c,rfl,q1⟩:=q1
 cases r1
 refine wpAny_truthy_bool ?_
 cases c with
 | false=>exact hb pins s1 σ H1 Q I1 q1
 | true=>exact⟨.bl true,H1,I1,rfl,q1⟩
theorem zsb (ha:PE X a ta):PE X (.UnaryOp .Not a pos) (tNotV ta):=by
 intro pins s σ H Q I h
 refine UnaryOp_ (thn (ha pins s σ H _ I h) fun v s1 ⟨x,H1,I1,r1,q1⟩=>?_)
 obtain⟨c,rfl,q1⟩:=q1
 cases r1
 exact not_of (wpAny_truthy_bool ⟨.bl (!c),H1,I1,rfl,q1⟩)
/-- a if t else b -/
def tIf (t:TT) (ta tb:TE):TE:=fun σ H Q=>t σ H fun c H1=>if c=true then ta σ H1 Q else tb σ H1 Q
theorem zo6 {c:Expr} (hc:PT X c tA) (ha:PE X a ta) (hb:PE X b tb):PE X (.IfExp c a b pos) (tIf tA ta tb):=by
 intro pins s σ H Q I h
 refine wpAny_IfExp (thn (hc pins s σ H _ I h) fun d s1 ⟨H1,I1,q1⟩=>?_)
 cases d with
 | true=>exact ha pins s1 σ H1 Q I1 q1
 | false=>exact hb pins s1 σ H1 Q I1 q1
end
end L2
namespace L2
open PySem PySem.Spec PyProof.Rows
def SqL (K:PySem.W.Frag) (H:Hp) (a:Addr) (xs:List V):Prop :=
 Rd H a (.lst xs) ∨
  ∃ (o:Obj) (its:Array Value) (n:Nat),K.lookup a=some o∧o.cls=.type "list"∧o.dict=none∧o.data=.seq its n∧its.size≤sizeLine∧Vals xs its.toList
def SqT (K:PySem.W.Frag) (H:Hp) (a:Addr) (xs:List V):Prop :=
 Rd H a (.tup xs) ∨
  ∃ (o:Obj) (its:Array Value) (n:Nat),K.lookup a=some o∧o.cls=.type "tuple"∧o.data=.seq its n∧its.size≤sizeLine∧Vals xs its.toList
def absV:Value->Option V
 | .none=>some .non
 | .bool b=>some (.bl b)
 | .int i _=>some (.int i)
 | .str x _=>some (.str x)
 | .bytes b _=>some (.byt b)
 | .float b _=>some (.flt b)
 | .ref a=>some (.ref a)
 | .type n=>some (.ty n)
 | _=>none
theorem RelV.abs {x:V} {u:Value} (r:RelV x u):absV u=some x:=by
 cases x with
 | non=>cases r;rfl
 | bl _=>cases r;rfl
 | int _=>obtain⟨t,rfl⟩:=r;rfl
 | str _=>obtain⟨t,rfl⟩:=r;rfl
 | byt _=>obtain⟨t,rfl⟩:=r;rfl
 | flt _=>obtain⟨t,rfl⟩:=r;rfl
 | ref _=>cases r;rfl
 | ty _=>cases r;rfl
theorem RelV.inj {x y:V} {u:Value} (r:RelV x u) (q:RelV y u):x=y:=Option.some.inj (r.abs.symm.trans q.abs)
theorem Vals.inj:∀ {xs ys:List V} {us:List Value},Vals xs us->Vals ys us->xs=ys
 | _,_,_,.nil,.nil=>rfl
 | _,_,_,.cons r t,.cons r' t'=>by rw[r.inj r',Vals.inj t t']
section
variable {X:Cx} {pins:List (Addr × Obj)} {σ:St} {H:Hp} {s:Shared} {a:Addr} {xs ys:List V}
theorem SqL.of {K:PySem.W.Frag} (h:H a=some (.lst xs)):SqL K H a xs:=.inl (.inl h)
theorem SqT.of {K:PySem.W.Frag} (h:H a=some (.tup xs)):SqT K H a xs:=.inl (.inl h)
theorem Inv.list (I:Inv X pins σ H s) (h:SqL X.K H a xs):∃ its:List Value,Vals xs its∧PlainL s.heap a its.toArray∧xs.length≤sizeLine:=by
 rcases h with h | ⟨o,its,n,hk,hc,hd,hs,hz,r⟩
 ·obtain⟨z,its,n,r,e⟩:=h.ok I.hok
  exact⟨its,r,⟨_,n,e,rfl,rfl,rfl⟩,z⟩
 ·refine⟨its.toList,r,⟨o,n,I.kIn a o hk,hc,hd,by simpa using hs⟩,?_⟩
  have e:=r.length
  simp only [Array.length_toList] at e
  omega
theorem Inv.tuple (I:Inv X pins σ H s) (h:SqT X.K H a xs):∃ its:List Value,Vals xs its∧IsTup s.heap a its.toArray∧xs.length≤sizeLine:=by
 rcases h with h | ⟨o,its,n,hk,hc,hs,hz,r⟩
 ·obtain⟨z,its,r,p⟩:=h.ok I.hok
  exact⟨its,r,p.tup,z⟩
 ·refine⟨its.toList,r,⟨o,I.kIn a o hk,hc,n,by simpa using hs⟩,?_⟩
  have e:=r.length
  simp only [Array.length_toList] at e
  omega
theorem Inv.list_inj (I:Inv X pins σ H s) (h:SqL X.K H a xs) (h':SqL X.K H a ys):xs=ys:=by
 obtain⟨its,r,⟨o,n,e,_,_,d⟩,_⟩:=I.list h
 obtain⟨its',r',⟨o',n',e',_,_,d'⟩,_⟩:=I.list h'
 rw[e] at e';cases e'
 rw[d] at d'
 injection d' with d1 _
 have:its=its':=by simpa using congrArg Array.toList d1
 subst this
 exact r.inj r'
theorem Inv.tuple_inj (I:Inv X pins σ H s) (h:SqT X.K H a xs) (h':SqT X.K H a ys):xs=ys:=by
 obtain⟨its,r,⟨o,e,_,n,d⟩,_⟩:=I.tuple h
 obtain⟨its',r',⟨o',e',_,n',d'⟩,_⟩:=I.tuple h'
 rw[e] at e';cases e'
 rw[d] at d'
 injection d' with d1 _
 have:its=its':=by simpa using congrArg Array.toList d1
 subst this
 exact r.inj r'
end
abbrev Cx.wish (X:Cx) (E:Value->Shared->Prop):Cx:={ X with xe:=E }
/-- no exception leaves -/
abbrev Cx.nox (X:Cx):Cx:=X.wish fun _ _=>False
theorem Cx.Ok.wish {X:Cx} (ok:X.Ok) (E:Value->Shared->Prop):(X.wish E).Ok :=
 ⟨ok.mod,ok.kind,ok.glob,ok.blt,ok.above,ok.inj,ok.has,ok.cab,ok.hd,ok.frames,ok.stk,ok.exf,ok.bs,ok.bsz,ok.noex,ok.exfs,ok.funs,ok.frf⟩
theorem Cx.Ok.unwish {X:Cx} {E:Value->Shared->Prop} (ok:(X.wish E).Ok):X.Ok :=
 ⟨ok.mod,ok.kind,ok.glob,ok.blt,ok.above,ok.inj,ok.has,ok.cab,ok.hd,ok.frames,ok.stk,ok.exf,ok.bs,ok.bsz,ok.noex,ok.exfs,ok.funs,ok.frf⟩
section
variable {X:Cx} {pins:List (Addr × Obj)} {σ:St} {H:Hp} {s:Shared} {E:Value->Shared->Prop}
theorem Inv.wish (I:Inv X pins σ H s) (E:Value->Shared->Prop):Inv (X.wish E) pins σ H s:=⟨I.ok.wish E,I.os,I.bare,I.base,I.loc,I.cell,I.free,I.freeC,I.pin,I.hok,I.len⟩
theorem Inv.unwish (I:Inv (X.wish E) pins σ H s):Inv X pins σ H s:=⟨I.ok.unwish,I.os,I.bare,I.base,I.loc,I.cell,I.free,I.freeC,I.pin,I.hok,I.len⟩
theorem SP.unwish {D:Ends} {f:Flow} {s':Shared} (h:SP (X.wish E) pins D f s'):SP X pins D f s':=by
 cases f with
 | next=>obtain⟨σ',H',I,q⟩:=h;exact⟨σ',H',I.unwish,q⟩
 | brk=>obtain⟨σ',H',I,q⟩:=h;exact⟨σ',H',I.unwish,q⟩
 | cont=>obtain⟨σ',H',I,q⟩:=h;exact⟨σ',H',I.unwish,q⟩
 | ret u=>obtain⟨v,σ',H',I,r,q⟩:=h;exact⟨v,σ',H',I.unwish,r,q⟩
theorem PSs.nox {st:List Stmt} {t:TS} (h:PSs X.nox st t):PSs X st t:=fun pins s σ H D I hw =>
 wpAny_mono (h pins s σ H D (I.wish _) hw) (fun _ _ q=>q.unwish) fun _ _ z=>False.elim z
end
section
variable {X:Cx} {st:Stmt} {rest:List Stmt} {t u:TS} {e:Expr} {te:TE} {pos:Pos}
def tNext:TS:=fun D σ H=>D.nx σ H
def tSeq (t u:TS):TS:=fun D σ H=>t { D with nx:=u D } σ H
theorem zaw:PSs X [] tNext:=fun _ _ σ H _ I h=>wpAny_execs_nil ⟨σ,H,I,h⟩
theorem zac (h1:PS X st t) (h2:PSs X rest u):PSs X (st::rest) (tSeq t u):=by
 intro pins s σ H D I h
 refine wpAny_execs_cons (thn (h1 pins s σ H { D with nx:=u D } I h) fun f s1 q=>?_)
 cases f with
 | next =>
  obtain⟨σ',H',I',q⟩:=q
  exact h2 pins s1 σ' H' D I' q
 | ret v=>exact q
 | brk=>exact q
 | cont=>exact q
theorem zaf (h1:PS X st t):PSs X [st] t:=by
 intro pins s σ H D I h
 refine wpAny_execs_cons (thn (h1 pins s σ H D I h) fun f s1 q=>?_)
 cases f with
 | next=>exact wpAny_execs_nil q
 | ret v=>exact q
 | brk=>exact q
 | cont=>exact q
def tCont:TS:=fun D σ H=>D.ct σ H
theorem zej:PS X (.Continue pos) tCont:=fun _ _ σ H _ I h=>wpAny_Continue ⟨σ,H,I,h⟩
/-- in a def's body nothing is shown -/
theorem Inv.quiet {pins:List (Addr × Obj)} {σ:St} {H:Hp} {s:Shared} (I:Inv X pins σ H s):interactive X.env=false:=by simp [interactive,I.ok.kind]
/-- an expression whose value is dropped -/
def tDrop (te:TE):TS:=fun D σ H=>te σ H fun _ H1=>D.nx σ H1
theorem zbq (he:PE X e te) (hs:swapsWith e none pos.line X.env=pure false:=by rfl):PS X (.Expr e pos) (tDrop te):=by
 intro pins s σ H D I h
 exact wpAny_Expr_any (thn (he pins s σ H _ I h) fun v s1 ⟨x,H1,I1,r1,q1⟩=>⟨σ,H1,I1,q1⟩) I.quiet hs
def tRet (te:TE):TS:=fun D σ H=>te σ H D.rt
theorem zaq (he:PE X e te):PS X (.Return (some e) pos) (tRet te):=by
 intro pins s σ H D I h
 exact wpAny_Return_some (thn (he pins s σ H _ I h) fun v s1 ⟨x,H1,I1,r1,q1⟩=>⟨x,σ,H1,I1,r1,q1⟩)
def tIfS (c:TT) (t u:TS):TS:=fun D σ H=>c σ H fun b H1=>if b=true then t D σ H1 else u D σ H1
theorem zbj {c:Expr} {a b:List Stmt} {tc:TT} (hc:PT X c tc) (ha:PSs X a t) (hb:PSs X b u):PS X (.If c a b pos) (tIfS tc t u):=by
 intro pins s σ H D I h
 refine wpAny_If (thn (hc pins s σ H _ I h) fun d s1 ⟨H1,I1,q1⟩=>?_)
 cases d with
 | true=>exact ha pins s1 σ H1 D I1 q1
 | false=>exact hb pins s1 σ H1 D I1 q1
/-- code that the proof never comes to -/
def tNever:TS:=fun _ _ _=>False
theorem zkh:PS X st tNever:=fun _ _ _ _ _ _ h=>h.elim
end
abbrev TG:=V->St->Hp->(St->Hp->Prop)->Prop
abbrev TGs:=List V->St->Hp->(St->Hp->Prop)->Prop
def PG (X:Cx) (target:Expr) (t:TG):Prop :=
 ∀ (pins:List (Addr × Obj)) (s:Shared) (σ:St) (H:Hp) (v:V) (u:Value) (Q:St->Hp->Prop),Inv X pins σ H s->RelV v u->t v σ H Q ->
  wpAny (model X.prog X.w) X.A (assign target X.env u) (fun _ s'=>∃ σ' H',Inv X pins σ' H' s'∧Q σ' H') X.xe s
/-- several targets, one after another -/
def PGs (X:Cx) (ts:List Expr) (t:TGs):Prop :=
 ∀ (pins:List (Addr × Obj)) (s:Shared) (σ:St) (H:Hp) (vs:List V) (us:List Value) (Q:St->Hp->Prop),Inv X pins σ H s->Vals vs us->t vs σ H Q ->
  wpAny (model X.prog X.w) X.A (assignInOrder ((assignEach ts X.env).map (·.2)) us) (fun _ s'=>∃ σ' H',Inv X pins σ' H' s'∧Q σ' H') X.xe s
/-- o[i] = v, by values -/
abbrev TSet:=V->V->V->Hp->(Hp->Prop)->Prop
def PSet (X:Cx) (t:TSet):Prop :=
 ∀ (pins:List (Addr × Obj)) (s:Shared) (σ:St) (H:Hp) (o i v:V) (ov iv u:Value) (Q:Hp->Prop),Inv X pins σ H s->RelV o ov->RelV i iv->RelV v u->t o i v H Q ->
  wpAny (model X.prog X.w) X.A (setItem ov iv u) (fun _ s'=>∃ H',Inv X pins σ H' s'∧Q H') X.xe s
section
variable {X:Cx} {pos:Pos}
def gName (i:Nat):TG:=fun v σ H Q=>Q (σ.set i (some v)) H
theorem zah {i:Nat} {x:Str} (hN:X.N.Nodup) (hi:X.N[i]?=some x) (hx:Loc X.env.scope x) (hf:X.fn x=true∨X.env.scope.names.lookup x=some .local:=by first | exact .inl rfl | exact .inr rfl | assumption):PG X (.Name x pos) (gName i):=by
 intro pins s σ H v u Q I r h
 exact wpAny_assign_Name (zkb I hN hi hx r (fun s' I'=>⟨_,H,I',h⟩) hf)
def gNil:TGs:=fun vs σ H Q=>vs=[]∧Q σ H
def gCons (t:TG) (u:TGs):TGs:=fun vs σ H Q=>∃ v r,vs=v::r∧t v σ H fun σ' H'=>u r σ' H' Q
theorem zbd:PGs X [] gNil:=by
 intro pins s σ H vs us Q I r h
 obtain⟨e,h⟩:=h
 subst e
 cases r
 exact assignInOrder_nil ⟨σ,H,I,h⟩
theorem zak {e:Expr} {es:List Expr} {t:TG} {u:TGs} (h1:PG X e t) (h2:PGs X es u)
  (hs:(assignEach (e::es) X.env).map (·.2)=assign e X.env::(assignEach es X.env).map (·.2):=by rfl):PGs X (e::es) (gCons t u):=by
 intro pins s σ H vs us Q I r h
 obtain⟨v,vr,e1,h⟩:=h
 subst e1
 cases r with
 | cons r rr =>
  rw[hs]
  refine assignInOrder_cons (thn (h1 pins s σ H _ _ _ I r h) fun _ s1 ⟨σ1,H1,I1,q1⟩=>?_)
  exact h2 pins s1 σ1 H1 _ _ Q I1 rr q1
/-- (a, b, ..) = a tuple of that length -/
def gTup (K:PySem.W.Frag) (n:Nat) (t:TGs):TG:=fun v σ H Q=>∃ a xs,v=.ref a∧SqT K H a xs∧xs.length=n∧t xs σ H Q
theorem zb0 {es:List Expr} {k:Nat} {t:TGs} {n:Nat} (hc:X.calm=true) (h:PGs X es t)
  (hn:(assignEach es X.env).length=n:=by rfl) (hst:(assignEach es X.env).findIdx? (·.1)=none:=by rfl):PG X (.Tuple es k pos) (gTup X.K n t):=by
 intro pins s σ H v u Q I r hw
 obtain⟨a,xs,e1,hq,hl,hw⟩:=hw
 subst e1
 cases r
 obtain⟨its,rv,ht,hz⟩:=I.tuple hq
 refine assign_Tuple_tuple (I.ok.hd hc) ht (by simp [hn,← hl,rv.length]) hst fun h' hx=>?_
 have I1:Inv X pins σ H { s with heap:=h' }:=I.kept (t':=s.toks) fun b o e=>hx b o (Nat.ne_of_lt (Heap.lt_size e)) e
 exact h pins _ σ H xs _ Q I1 (by simpa using rv) hw
/-- o[i] = .. -/
def gSub (to ti:TE) (t:TSet):TG:=fun v σ H Q=>to σ H fun o H1=>ti σ H1 fun i H2=>t o i v H2 fun H3=>Q σ H3
theorem zdv {o i:Expr} {to ti:TE} {t:TSet} (ho:PE X o to) (hi:PE X i ti) (hs:PSet X t)
  (ha:∀ v,assign (.Subscript o i pos) X.env v=(do
   let ov ← holding [v] (eval o X.env)
   let iv ← holding [v,ov] (eval i X.env)
   standAt pos
   holding [v,ov,iv] (setItem ov iv v)
   release [v,ov,iv] []):=by intro _;rfl):PG X (.Subscript o i pos) (gSub to ti t):=by
 intro pins s σ H v u Q I r h
 rw[ha]
 refine wpAny_bind (wpAny_holding (thn (ho pins s σ H _ I h) fun ov s1 ⟨x,H1,I1,r1,q1⟩=>?_))
 refine wpAny_bind (wpAny_holding (thn (hi pins s1 σ H1 _ I1 q1) fun iv s2 ⟨y,H2,I2,r2,q2⟩=>?_))
 refine wpAny_bind (wpAny_standAt (wpAny_bind (wpAny_holding (thn (hs pins s2 σ H2 x y v ov iv u _ I2 r1 r2 r q2) fun _ s3 ⟨H3,I3,q3⟩=>?_))))
 exact wpAny_release ⟨σ,H3,I3,q3⟩
/-- target = value -/
def tAsg (te:TE) (g:TG):TS:=fun D σ H=>te σ H fun x H1=>g x σ H1 D.nx
theorem zbz {tg e:Expr} {te:TE} {g:TG} (he:PE X e te) (hg:PG X tg g) (hs:swapsWithSole [tg] e pos.line X.env=pure false:=by rfl) (hw:swappedStores [tg] e X.env=pure none:=by rfl)
  (h1:(assignEach [tg] X.env).map (·.2)=[assign tg X.env]:=by rfl):PS X (.Assign [tg] e pos) (tAsg te g):=by
 intro pins s σ H D I h
 refine wpAny_Assign_stores (thn (he pins s σ H _ I h) fun v s1 ⟨x,H1,I1,r1,q1⟩=>?_) hs hw
 rw[h1]
 exact thn (hg pins s1 σ H1 x v _ I1 r1 q1) fun _ s2 q=>q
/-- name = value -/
theorem zan {i:Nat} {x:Str} {e:Expr} {te:TE} {pos':Pos} (hN:X.N.Nodup) (hi:X.N[i]?=some x) (hx:Loc X.env.scope x) (he:PE X e te) (hs:swapsWith e (some (.Name x pos')) pos.line X.env=pure false:=by rfl) (hf:X.fn x=true∨X.env.scope.names.lookup x=some .local:=by first | exact .inl rfl | exact .inr rfl | assumption) :
  PS X (.Assign [.Name x pos'] e pos) (tAsg te (gName i)):=by
 intro pins s σ H D I h
 refine wpAny_Assign_Name (thn (he pins s σ H _ I h) fun v s1 ⟨y,H1,I1,r1,q1⟩=>?_) hs
 exact zkb I1 hN hi hx r1 (fun s2 I2=>⟨_,H1,I2,q1⟩) hf
end
section
variable {X:Cx} {pos:Pos}
/-- the invariant W with its measure -/
def tWhile (c:TT) (tb:TS):TS:=fun D σ H=>∃ W:Nat->St->Hp->Prop,(∃ m,W m σ H)∧∀ m σ H,W m σ H ->
 c σ H fun b H1=>if b=true then ∃ N:St->Hp->Prop,(∀ σ' H',N σ' H'->∃ m',m' < m∧W m' σ' H')∧tb { D with nx:=N,ct:=N,bk:=D.nx } σ H1 else D.nx σ H1
theorem zgf {c:Expr} {body:List Stmt} {tc:TT} {tb:TS} (hp:PassesOwn (model X.prog X.w) X.A X.env X.xe) (hc:PT X c tc) (hb:PSs X body tb):PS X (.While c body [] pos) (tWhile tc tb):=by
 intro pins s σ H D I h
 obtain⟨W,⟨m0,w0⟩,turn⟩:=h
 refine wpAny_While (codeAny_whileLoop (fun n s'=>∃ σ' H',Inv X pins σ' H' s'∧W n σ' H') ?_ m0 ⟨σ,H,I,w0⟩)
 rintro n s1 ⟨σ1,H1,I1,w1⟩
 refine wpAny_passesOwn hp (thn (hc pins s1 σ1 H1 _ I1 (turn n σ1 H1 w1)) fun b s2 ⟨H2,I2,q2⟩=>?_)
 cases b with
 | true =>
  obtain⟨N,hN,q2⟩:=q2
  rw[if_pos rfl]
  refine wpAny_passesOwn hp (thn (hb pins s2 σ1 H2 _ I2 q2) fun f s3 q3=>?_)
  cases f with
  | next =>
   obtain⟨σ3,H3,I3,n3⟩:=q3
   obtain⟨m',hm,w3⟩:=hN σ3 H3 n3
   exact⟨m',hm,σ3,H3,I3,w3⟩
  | cont =>
   obtain⟨σ3,H3,I3,n3⟩:=q3
   obtain⟨m',hm,w3⟩:=hN σ3 H3 n3
   exact⟨m',hm,σ3,H3,I3,w3⟩
  | brk=>exact q3
  | ret v=>exact q3
 | false =>
  rw[if_neg Bool.false_ne_true]
  exact wpAny_execs_nil ⟨σ1,H2,I2,q2⟩
end
/-- at turn i: it yields x (the heap may grow), or it stops -/
structure It where
 go:Nat->Hp->Prop
 yld:Nat->Hp->V->Hp->Prop
 stop:Nat->Hp->Prop
/-- the iterator's own objects may turn: they are not the frame's, not pinned, younger than the entry (or a comprehension's own) -/
def FpOk (X:Cx) (pins:List (Addr × Obj)) (H:Hp) (b:Addr):Prop :=
 H b=none∧b≠X.env.locals∧b ∉ X.fs∧(b ∈ X.ex∨X.s₀.heap.objs.size≤b)∧(∀ x c,X.env.cells.lookup x=some c->c≠b)∧∀ p ∈ X.pn++pins,p.1≠b
theorem Inv.fpOk {X:Cx} {pins:List (Addr × Obj)} {σ:St} {H H':Hp} {s:Shared} {b:Addr} (I:Inv X pins σ H s) (hb:s.heap.objs.size≤b) (hn:H' b=none):FpOk X pins H' b:=by
 refine⟨hn,Nat.ne_of_gt (Nat.lt_of_lt_of_le I.lt hb),I.nofs hb,.inr (Nat.le_trans I.sz hb),fun x c e z=>?_,fun p hp z=>?_⟩
 ·obtain⟨v,q⟩:=I.cell x c e
  exact absurd (Nat.lt_of_lt_of_le q.lt (by rw[z];exact hb)) (Nat.lt_irrefl _)
 ·exact absurd (Nat.lt_of_lt_of_le (Heap.lt_size (I.pin p hp).1) (by rw[z];exact hb)) (Nat.lt_irrefl _)
structure Turn (P:Program) (w:World) (K:PySem.W.Frag) (tg:Expr) (J:It) (fp:List Addr) (it:Addr) (tn:Nat->Heap->Prop):Prop where
 mem:it ∈ fp
 obj:∀ i h,tn i h->∀ b ∈ fp,∃ o,h.get? b=some o∧∀ v,o.data≠.cell v
 keep:∀ i h h',tn i h->(∀ b ∈ fp,∀ o,h.get? b=some o->h'.get? b=some o)->tn i h'
 item:∀ (X:Cx),X.prog=P->X.w=w->X.K=K->X.calm=true->∀ (i:Nat) (pins:List (Addr × Obj)) (s:Shared) (σ:St) (H:Hp) (E:Value->Shared->Prop),Inv X pins σ H s->(∀ b ∈ fp,FpOk X pins H b)->tn i s.heap->J.go i H ->
  wpAny (model P w) X.A (pyNext (.ref it)) (fun r s1=>∃ u,r=some u ∧
   wpAny (model P w) X.A (letOwnedTupleGo tg (.ref it) u) (fun _ s2=>∃ x H',Inv X pins σ H' s2∧RelV x u∧J.yld i H x H'∧tn (i + 1) s2.heap∧∀ b ∈ fp,H' b=none) E s1) E s
 done:∀ (X:Cx),X.prog=P->X.w=w->X.K=K->X.calm=true->∀ (i:Nat) (pins:List (Addr × Obj)) (s:Shared) (σ:St) (H:Hp) (E:Value->Shared->Prop),Inv X pins σ H s->(∀ b ∈ fp,FpOk X pins H b)->tn i s.heap->J.stop i H ->
  wpAny (model P w) X.A (pyNext (.ref it)) (fun r s1=>r=none∧Inv X pins σ H s1) E s
 self:∀ (A:Around) (i:Nat) (s:Shared) (Q:Value->Shared->Prop) (E:Value->Shared->Prop),tn i s.heap->Q (.ref it) s->wpAny (model P w) A (pyIter (.ref it)) Q E s
abbrev TI:=St->Hp->(It->Hp->Prop)->Prop
/-- an iterator has come -/
def PIE (X:Cx) (pins:List (Addr × Obj)) (σ:St) (tg:Expr) (R:It->Hp->Prop) (itv:Value) (s2:Shared):Prop :=
 ∃ (it:Addr) (fp:List Addr) (tn:Nat->Heap->Prop) (J:It) (H':Hp),itv=.ref it∧Inv X pins σ H' s2∧Turn X.prog X.w X.K tg J fp it tn∧tn 0 s2.heap∧(∀ b ∈ fp,FpOk X pins H' b)∧R J H'
def PI (X:Cx) (tg iter:Expr) (wi:TI):Prop :=
 ∀ (pins:List (Addr × Obj)) (s:Shared) (σ:St) (H:Hp) (R:It->Hp->Prop),Inv X pins σ H s->wi σ H R ->
  wpAny (model X.prog X.w) X.A (eval iter X.env) (fun v s1=>wpAny (model X.prog X.w) X.A (pyIter v) (PIE X pins σ tg R) X.xe s1) X.xe s
/-- the step ahead of the store is nothing for an iterator that keeps no tuple -/
theorem zrk {M:Model} {A:Around} {E:Value->Shared->Prop} {s:Shared} {tg:Expr} {it:Addr} {u:Value} {o:Obj} {n:String} {vs:Array Value} {Q:Unit->Shared->Prop} (ho:s.heap.get? it=some o) (hc:o.cls=.type n) (hd:o.data=.fields vs)
  (hn:["enumerate","zip","dict_itemiterator","dict_reverseitemiterator","odict_iterator","itertools.zip_longest","itertools.pairwise"].contains n=false) (hQ:Q () s):wpAny M A (letOwnedTupleGo tg (.ref it) u) Q E s:=by
 unfold letOwnedTupleGo
 cases tg <;> first
  | exact wpAny_pure hQ
  | (cases u <;> first
      | exact wpAny_pure hQ
      | (refine wpAny_bind (wpAny_load ho ?_)
         rw[hc,hd]
         show wpAny M A (if (["enumerate","zip","dict_itemiterator","dict_reverseitemiterator","odict_iterator","itertools.zip_longest","itertools.pairwise"].contains n && vs[0]? == some (rawInt _))=true then _ else _) Q E s
         rw[if_neg (by intro h;rw[hn,Bool.false_and] at h;cases h)]
         exact wpAny_pure hQ))
/-- the list at a, as it stands at each turn (a loop may append to it) -/
def Itl (K:PySem.W.Frag) (a:Addr):It :=
 ⟨fun i H=>∃ xs x,SqL K H a xs∧xs[i]?=some x,fun i H x H'=>H'=H∧∀ xs,SqL K H a xs->xs[i]?=some x,fun i H=>∃ xs,SqL K H a xs∧xs.length≤i⟩
def Itt (K:PySem.W.Frag) (a:Addr):It :=
 ⟨fun i H=>∃ xs x,SqT K H a xs∧xs[i]?=some x,fun i H x H'=>H'=H∧∀ xs,SqT K H a xs->xs[i]?=some x,fun i H=>∃ xs,SqT K H a xs∧xs.length≤i⟩
/-- lo, lo + 1, .. (n of them) -/
def Itr (lo:Int) (n:Nat):It:=⟨fun i _=>i < n,fun i H x H'=>H'=H∧x=.int (lo + i),fun i _=>n≤i⟩
theorem zmc {P:Program} {w:World} {K:PySem.W.Frag} {tg:Expr} (a it:Addr):Turn P w K tg (Itl K a) [it] it (fun i h=>h.IsListIter it a i) where
 mem:=by simp
 obj:=fun i h st b hb=>by
  have e:b=it:=by simpa using hb
  subst e
  obtain⟨o,e,c,d⟩:=st
  exact⟨o,e,fun v z=>by rw[d] at z;cases z⟩
 keep:=fun i h h' st k=>st.at fun o e=>k it (by simp) o e
 item:=by
  intro X hP hw hK hc i pins s σ H E I hf st hg
  subst hP hw hK
  obtain⟨xs,x,hq,hx⟩:=hg
  obtain⟨its,rv,p,hz⟩:=I.list hq
  obtain⟨u,hu,ru⟩:=rv.get hx
  obtain⟨f0,f1,f2,f3,f4,f5⟩:=hf it (by simp)
  refine wpAny_pyNext_list_item st p.isList (x:=u) (by simpa using hu) fun h' st' sb=>?_
  have I1:Inv X pins σ H { s with heap:=h' }:=I.turned (t':=s.toks) (fun b o hb e=>(sb.2 b hb).trans e) f0 f1 f3 f4 f5
  obtain⟨o,e,c,d⟩:=id st'
  exact⟨u,rfl,zrk (s:={ s with heap:=h' }) e c d (by decide) ⟨x,H,I1,ru,⟨rfl,fun ys hy=>by rw[I.list_inj hy hq];exact hx⟩,st',fun b hb=>(hf b hb).1⟩⟩
 done:=by
  intro X hP hw hK hc i pins s σ H E I hf st hg
  subst hP hw hK
  obtain⟨xs,hq,hx⟩:=hg
  obtain⟨its,rv,p,hz⟩:=I.list hq
  obtain⟨f0,f1,f2,f3,f4,f5⟩:=hf it (by simp)
  have hl:=rv.length
  exact wpAny_pyNext_list_end (I.ok.hd hc) st p.isList (by simp;omega) fun h' eb=>⟨rfl,I.turned (t':=s.toks) (fun b o hb e=>eb b o hb e) f0 f1 f3 f4 f5⟩
 self:=fun _ _ _ _ _ st h=>wpAny_pyIter_listiter st h
theorem zlb {P:Program} {w:World} {K:PySem.W.Frag} {tg:Expr} (a it:Addr):Turn P w K tg (Itt K a) [it] it (fun i h=>h.IsTupleIter it a i) where
 mem:=by simp
 obj:=fun i h st b hb=>by
  have e:b=it:=by simpa using hb
  subst e
  obtain⟨o,e,c,d⟩:=st
  exact⟨o,e,fun v z=>by rw[d] at z;cases z⟩
 keep:=fun i h h' st k=>st.at fun o e=>k it (by simp) o e
 item:=by
  intro X hP hw hK hc i pins s σ H E I hf st hg
  subst hP hw hK
  obtain⟨xs,x,hq,hx⟩:=hg
  obtain⟨its,rv,p,hz⟩:=I.tuple hq
  obtain⟨u,hu,ru⟩:=rv.get hx
  obtain⟨f0,f1,f2,f3,f4,f5⟩:=hf it (by simp)
  refine wpAny_pyNext_tuple_item st (show s.heap.IsTuple a its.toArray from p) (x:=u) (by simpa using hu) fun h' st' sb=>?_
  have I1:Inv X pins σ H { s with heap:=h' }:=I.turned (t':=s.toks) (fun b o hb e=>(sb.2 b hb).trans e) f0 f1 f3 f4 f5
  obtain⟨o,e,c,d⟩:=id st'
  exact⟨u,rfl,zrk (s:={ s with heap:=h' }) e c d (by decide) ⟨x,H,I1,ru,⟨rfl,fun ys hy=>by rw[I.tuple_inj hy hq];exact hx⟩,st',fun b hb=>(hf b hb).1⟩⟩
 done:=by
  intro X hP hw hK hc i pins s σ H E I hf st hg
  subst hP hw hK
  obtain⟨xs,hq,hx⟩:=hg
  obtain⟨its,rv,p,hz⟩:=I.tuple hq
  obtain⟨f0,f1,f2,f3,f4,f5⟩:=hf it (by simp)
  have hl:=rv.length
  exact wpAny_pyNext_tuple_end (I.ok.hd hc) st (show s.heap.IsTuple a its.toArray from p) (by simp;omega) fun h' eb=>⟨rfl,I.turned (t':=s.toks) (fun b o hb e=>eb b o hb e) f0 f1 f3 f4 f5⟩
 self:=fun _ _ _ _ _ st h=>wpAny_pyIter_tupleiter st h
theorem zlc {P:Program} {w:World} {K:PySem.W.Frag} {tg:Expr} (it:Addr) (lo:Int) (n:Nat):Turn P w K tg (Itr lo n) [it] it (fun i h=>IsRangeIter h it (lo + (i:Nat) * 1) ((n:Int) - (i:Nat)) 1) where
 mem:=by simp
 obj:=fun i h st b hb=>by
  have e:b=it:=by simpa using hb
  subst e
  exact⟨_,st,fun v z=>by
   have z':Data.fields _=Data.cell v:=z
   cases z'⟩
 keep:=fun i h h' st k=>k it (by simp) _ st
 item:=by
  intro X hP hw hK hc i pins s σ H E I hf st hg
  subst hP hw hK
  obtain⟨f0,f1,f2,f3,f4,f5⟩:=hf it (by simp)
  have W:=Walks.range (prog:=X.prog) (w:=X.w) (I.ok.hd hc) it lo 1 n
  refine W.item i s _ _ hg st fun v h' tk hv st' kk=>?_
  obtain⟨t,rfl⟩:=hv
  have I1:Inv X pins σ H { s with heap:=h',toks:=tk }:=I.turned (fun b o hb e=>kk b o (by simpa using hb) e) f0 f1 f3 f4 f5
  refine⟨_,rfl,zrk (s:={ s with heap:=h',toks:=tk }) (n:="range_iterator") st' rfl rfl (by decide) ⟨.int (lo + i),H,I1,⟨t,?_⟩,⟨rfl,rfl⟩,st',fun b hb=>(hf b hb).1⟩⟩
  rw[Int.mul_one]
 done:=by
  intro X hP hw hK hc i pins s σ H E I hf st hg
  subst hP hw hK
  obtain⟨f0,f1,f2,f3,f4,f5⟩:=hf it (by simp)
  exact wpAny_pyNext_range_end (I.ok.hd hc) st (by have:n≤i:=hg;omega) fun h' eb=>⟨rfl,I.turned (t':=s.toks) (fun b o hb e=>eb b o hb e) f0 f1 f3 f4 f5⟩
 self:=fun _ _ _ _ _ st h=>wpAny_pyIter_rangeiter st h
end L2
namespace L2
open PySem PySem.Spec PyProof.Rows
section
variable {X:Cx} {tg:Expr}
def iList (K:PySem.W.Frag) (tl:TE):TI:=fun σ H R=>tl σ H fun x H1=>∃ a,x=.ref a∧(∃ xs,SqL K H1 a xs)∧R (Itl K a) H1
def iTup (K:PySem.W.Frag) (tl:TE):TI:=fun σ H R=>tl σ H fun x H1=>∃ a,x=.ref a∧(∃ xs,SqT K H1 a xs)∧R (Itt K a) H1
theorem zel {l:Expr} {tl:TE} (hl:PE X l tl):PI X tg l (iList X.K tl):=by
 intro pins s σ H R I h
 refine thn (hl pins s σ H _ I h) fun v s1 ⟨x,H1,I1,r1,q1⟩=>?_
 obtain⟨a,e,⟨xs,hq⟩,q⟩:=q1
 subst e
 cases r1
 obtain⟨its,rv,p,hz⟩:=I1.list hq
 refine wpAny_pyIter_list p.isList ?_
 refine⟨s1.heap.objs.size,[s1.heap.objs.size],_,_,H1,rfl,I1.kept (t':=s1.toks) fun b o e=>Heap.get?_push_of_some _ e,zmc a _,⟨_,Heap.get?_push_size _ rfl,rfl,rfl⟩,fun b hb=>?_,q⟩
 have e:b=s1.heap.objs.size:=by simpa using hb
 subst e
 exact I1.fpOk (Nat.le_refl _) (I1.hok.fresh (Nat.le_refl _))
theorem zbw {l:Expr} {tl:TE} (hl:PE X l tl):PI X tg l (iTup X.K tl):=by
 intro pins s σ H R I h
 refine thn (hl pins s σ H _ I h) fun v s1 ⟨x,H1,I1,r1,q1⟩=>?_
 obtain⟨a,e,⟨xs,hq⟩,q⟩:=q1
 subst e
 cases r1
 obtain⟨its,rv,p,hz⟩:=I1.tuple hq
 refine wpAny_pyIter_tuple (show s1.heap.IsTuple a its.toArray from p) ?_
 refine⟨s1.heap.objs.size,[s1.heap.objs.size],_,_,H1,rfl,I1.kept (t':=s1.toks) fun b o e=>Heap.get?_push_of_some _ e,zlb a _,⟨_,Heap.get?_push_size _ rfl,rfl,rfl⟩,fun b hb=>?_,q⟩
 have e:b=s1.heap.objs.size:=by simpa using hb
 subst e
 exact I1.fpOk (Nat.le_refl _) (I1.hok.fresh (Nat.le_refl _))
/-- a range object just made, walked -/
theorem zkg {pins:List (Addr × Obj)} {σ:St} {H:Hp} {s:Shared} {R:It->Hp->Prop} {E:Value->Shared->Prop} {lo hi:Int} {t u v:Tok} {tk:Nat} (I:Inv X pins σ H s) (h1:-(2 ^ 62)≤lo) (h2:lo < 2 ^ 62) (h3:-(2 ^ 62)≤hi) (h4:hi < 2 ^ 62)
  (q:R (Itr lo (hi - lo).toNat) H):wpAny (model X.prog X.w) X.A (pyIter (.ref s.heap.objs.size)) (PIE X pins σ tg R) E { s with heap:=s.heap.push { cls:=.type "range",data:=.fields #[.int lo t,.int hi u,.int 1 v] },toks:=tk }:=by
 refine wpAny_pyIter_range (IsRange.new ..) (small_one h1 h2 h3 h4) ?_
 have I1:Inv X pins σ H { s with heap:=s.heap.push { cls:=.type "range",data:=.fields #[.int lo t,.int hi u,.int 1 v] },toks:=tk }:=I.kept fun b o e=>Heap.get?_push_of_some _ e
 refine⟨(s.heap.push { cls:=.type "range",data:=.fields #[.int lo t,.int hi u,.int 1 v] }).objs.size,[(s.heap.push { cls:=.type "range",data:=.fields #[.int lo t,.int hi u,.int 1 v] }).objs.size],_,_,H,rfl,
  I1.kept (t':=tk) fun b o e=>Heap.get?_push_of_some _ e,zlc _ lo (hi - lo).toNat,?_,fun b hb=>?_,q⟩
 ·have e1:lo + ((0:Nat):Int) * 1=lo:=by simp
  have e2:(((hi - lo).toNat:Nat):Int) - ((0:Nat):Int)=Builtin.Range.rangeSize lo hi 1:=by rw[rangeSize_one];split <;> omega
  show IsRangeIter _ _ (lo + ((0:Nat):Int) * 1) ((((hi - lo).toNat:Nat):Int) - ((0:Nat):Int)) 1
  rw[e1,e2]
  exact Heap.get?_push_size _ rfl
 ·have e:b=(s.heap.push { cls:=.type "range",data:=.fields #[.int lo t,.int hi u,.int 1 v] }).objs.size:=by simpa using hb
  subst e
  exact I1.fpOk (Nat.le_refl _) (I1.hok.fresh (Nat.le_refl _))
def iRng1 (ta:TA):TI:=fun σ H R=>ta σ H fun vs H1=>∃ j:Int,vs=[.int j]∧-(2 ^ 62)≤j∧j < 2 ^ 62∧R (Itr 0 j.toNat) H1
def iRng2 (ta:TA):TI:=fun σ H R=>ta σ H fun vs H1=>∃ i j:Int,vs=[.int i,.int j]∧(-(2 ^ 62)≤i∧i < 2 ^ 62∧-(2 ^ 62)≤j∧j < 2 ^ 62)∧R (Itr i (j - i).toNat) H1
theorem zbt {a:Expr} {ta:TA} {p pos:Pos} (hg:Gl X "range") (hm:X.mg "range"=none) (ha:PA X [a] ta) (hs:starEach [a] X.env=[(false,eval a X.env)]:=by rfl):PI X tg (.Call (.Name "range" p) [a] [] pos) (iRng1 ta):=by
 intro pins s σ H R I h
 refine Call_ (zdw I hg hm boot_range (PyProof.Rows.callWith_type1 (thn (ha pos pins s σ H _ I h) fun us s1 ⟨vs,H1,I1,r1,q1⟩=>?_) hs rfl))
 obtain⟨j,e,q1,q2,q⟩:=q1
 subst e
 cases r1 with
 | cons r rr =>
  cases rr
  obtain⟨t,rfl⟩:=r
  exact call_range_1 (zkg I1 (by omega) (by omega) q1 q2 (by simpa using q))
theorem zhp {a b:Expr} {ta:TA} {p pos:Pos} (hg:Gl X "range") (hm:X.mg "range"=none) (ha:PA X [a,b] ta) (hs:starEach [a,b] X.env=[(false,eval a X.env),(false,eval b X.env)]:=by rfl) (hs2:starEach [b] X.env=[(false,eval b X.env)]:=by rfl) :
  PI X tg (.Call (.Name "range" p) [a,b] [] pos) (iRng2 ta):=by
 intro pins s σ H R I h
 refine Call_ (zdw I hg hm boot_range (PyProof.Rows.callWith_type1 (thn (ha pos pins s σ H _ I h) fun us s1 ⟨vs,H1,I1,r1,q1⟩=>?_) (by rw[hs,hs2]) (by rw[hs2];rfl)))
 obtain⟨i,j,e,⟨q1,q2,q3,q4⟩,q⟩:=q1
 subst e
 cases r1 with
 | cons r rr =>
  cases rr with
  | cons r' rr =>
   cases rr
   obtain⟨t,rfl⟩:=r
   obtain⟨t',rfl⟩:=r'
   exact call_range_2 (zkg I1 q1 q2 q3 q4 q)
/-- W: the invariant by the turn and a measure; N: what the body is to reach -/
def tFor (wi:TI) (g:TG) (tb:TS):TS:=fun D σ H=>wi σ H fun J H1=>∃ W:Nat->Nat->St->Hp->Prop,(∃ m,W 0 m σ H1)∧∀ i m σ H,W i m σ H ->
 (J.stop i H∧D.nx σ H)∨(J.go i H∧∃ N:St->Hp->Prop,(∀ σ' H',N σ' H'->∃ m',m' < m∧W (i + 1) m' σ' H')∧∀ x H',J.yld i H x H'->g x σ H' fun σ2 H2=>tb { D with nx:=N,ct:=N,bk:=D.nx } σ2 H2)
/-- the records at fp as they stand -/
def pinsAt (fp:List Addr) (h:Heap):List (Addr × Obj):=fp.filterMap fun b=>(h.get? b).map fun o=>(b,o)
theorem zcp {fp:List Addr} {h:Heap} {b:Addr} {o:Obj} (hb:b ∈ fp) (e:h.get? b=some o):(b,o) ∈ pinsAt fp h:=List.mem_filterMap.mpr ⟨b,hb,by rw[e];rfl⟩
theorem zng {fp:List Addr} {h:Heap} {p:Addr × Obj} (hp:p ∈ pinsAt fp h):p.1 ∈ fp∧h.get? p.1=some p.2:=by
 obtain⟨b,hb,e⟩:=List.mem_filterMap.mp hp
 cases q:h.get? b with
 | none=>rw[q] at e;cases e
 | some o =>
  rw[q] at e
  have e':(b,o)=p:=Option.some.inj e
  subst e'
  exact⟨hb,q⟩
theorem Inv.pinned {pins:List (Addr × Obj)} {σ:St} {H:Hp} {s:Shared} {fp:List Addr} (I:Inv X pins σ H s) (hf:∀ b ∈ fp,FpOk X pins H b) (ho:∀ b ∈ fp,∃ o,s.heap.get? b=some o∧∀ v,o.data≠.cell v):Inv X (pins++pinsAt fp s.heap) σ H s :=
 I.pins_of fun p hp=>(List.mem_append.mp hp).elim (fun z=>I.pin p (List.mem_append_right _ z)) fun z=>by
  obtain⟨hb,e⟩:=zng z
  obtain⟨f0,f1,f2,_⟩:=hf p.1 hb
  obtain⟨o,e',d⟩:=ho p.1 hb
  rw[e] at e';cases e'
  exact⟨e,f0,f1,f2,d⟩
theorem Inv.unpinned {pins pl:List (Addr × Obj)} {σ:St} {H:Hp} {s:Shared} (I:Inv X (pins++pl) σ H s):Inv X pins σ H s:=I.pins_of fun p hp=>I.pin p (List.mem_append_right _ (List.mem_append_left _ hp))
theorem zbn {iter:Expr} {body:List Stmt} {wi:TI} {g:TG} {tb:TS} {pos:Pos} (hp:PassesOwn (model X.prog X.w) X.A X.env X.xe) (hc:X.calm=true) (hi:PI X tg iter wi) (hg:PG X tg g) (hb:PSs X body tb)
  (hs:∀ x,foldedSetIterable iter X.env x=pure x:=by intro _;rfl):PS X (.For tg iter body [] pos) (tFor wi g tb):=by
 intro pins s σ H D I h
 refine wpAny_For (thn (hi pins s σ H _ I h) fun v s1 h1=>thn h1 fun itv s2 h2=>?_) hs
 obtain⟨it,fp,tn,J,H2,e,I2,T,st2,f2,W,⟨m0,w0⟩,turn⟩:=h2
 subst e
  -- what stays true of the iterator's objects through the loop
 have stat:∀ {H':Hp},(∀ b ∈ fp,H' b=none)->∀ b ∈ fp,FpOk X pins H' b:=fun hn b hb=>⟨hn b hb,(f2 b hb).2⟩
 refine codeAny_forLoop_any (fun n s'=>∃ i σ' H',Inv X pins σ' H' s'∧tn i s'.heap∧(∀ b ∈ fp,H' b=none)∧W i n σ' H') ?_ m0 ⟨0,σ,H2,I2,st2,fun b hb=>(f2 b hb).1,w0⟩
 rintro n s3 ⟨i,σ3,H3,I3,st3,fr3,w3⟩
 rcases turn i n σ3 H3 w3 with ⟨stop,qn⟩ | ⟨go,N,hN,step⟩
 ·refine wpAny_passesOwn hp (thn (T.done X rfl rfl rfl hc i pins s3 σ3 H3 X.xe I3 (stat fr3) st3 stop) fun r s4 ⟨hr,I4⟩=>?_)
  subst hr
  exact wpAny_execs_nil ⟨σ3,H3,I4,qn⟩
 ·refine wpAny_passesOwn hp (thn (T.item X rfl rfl rfl hc i pins s3 σ3 H3 X.xe I3 (stat fr3) st3 go) fun r s4 ⟨u,hr,h4⟩=>?_)
  subst hr
  refine wpAny_passesOwn hp (thn h4 fun _ s5 ⟨x,H5,I5,r5,y5,st5,fr5⟩=>?_)
  have I5':=I5.pinned (stat fr5) (T.obj _ _ st5)
  refine wpAny_passesOwn hp (thn (hg _ s5 σ3 H5 x u _ I5' r5 (step x H5 y5)) fun _ s6 ⟨σ6,H6,I6,q6⟩=>?_)
  refine wpAny_passesOwn hp (thn (hb _ s6 σ6 H6 _ I6 q6) fun f s7 q7=>?_)
  have again:∀ {σ7:St} {H7:Hp},Inv X (pins++pinsAt fp s5.heap) σ7 H7 s7->N σ7 H7->∃ m,m < n∧∃ i σ' H',Inv X pins σ' H' s7∧tn i s7.heap∧(∀ b ∈ fp,H' b=none)∧W i m σ' H':=fun {σ7 H7} I7 n7=>by
   obtain⟨m',hm,w7⟩:=hN σ7 H7 n7
   refine⟨m',hm,i + 1,σ7,H7,I7.unpinned,T.keep _ _ _ st5 fun b hb o e=>(I7.pin (b,o) (List.mem_append_right _ (List.mem_append_right _ (zcp hb e)))).1,fun b hb=>?_,w7⟩
   obtain⟨o,e,d⟩:=T.obj _ _ st5 b hb
   exact (I7.pin (b,o) (List.mem_append_right _ (List.mem_append_right _ (zcp hb e)))).2.1
  cases f with
  | next=>obtain⟨σ7,H7,I7,n7⟩:=q7;exact again I7 n7
  | cont=>obtain⟨σ7,H7,I7,n7⟩:=q7;exact again I7 n7
  | brk=>obtain⟨σ7,H7,I7,q7⟩:=q7;exact⟨σ7,H7,I7.unpinned,q7⟩
  | ret v=>obtain⟨x7,σ7,H7,I7,r7,q7⟩:=q7;exact⟨x7,σ7,H7,I7.unpinned,r7,q7⟩
end
/-- over a list that the body leaves as it is -/
theorem zpk {K:PySem.W.Frag} {a:Addr} {xs:List V} {g:TG} {tb:TS} {D:Ends} {σ:St} {H:Hp} (Pv:Nat->St->Hp->Prop) (h0:Pv 0 σ H) (hl:∀ i σ H,i≤xs.length->Pv i σ H->SqL K H a xs)
  (hs:∀ i x σ H,xs[i]?=some x->Pv i σ H->g x σ H fun σ2 H2=>tb { D with nx:=Pv (i + 1),ct:=Pv (i + 1),bk:=D.nx } σ2 H2) (hd:∀ σ H,Pv xs.length σ H->D.nx σ H) :
  ∃ W:Nat->Nat->St->Hp->Prop,(∃ m,W 0 m σ H)∧∀ i m σ H,W i m σ H ->
   ((Itl K a).stop i H∧D.nx σ H)∨((Itl K a).go i H∧∃ N:St->Hp->Prop,(∀ σ' H',N σ' H'->∃ m',m' < m∧W (i + 1) m' σ' H')∧∀ x H',(Itl K a).yld i H x H'->g x σ H' fun σ2 H2=>tb { D with nx:=N,ct:=N,bk:=D.nx } σ2 H2):=by
 refine⟨fun i m σ H=>m=xs.length - i∧i≤xs.length∧Pv i σ H,⟨xs.length,by simp,Nat.zero_le _,h0⟩,?_⟩
 rintro i m σ H ⟨rfl,hi,p⟩
 have q:=hl i σ H hi p
 by_cases hlt:i < xs.length
 ·refine .inr ⟨⟨xs,xs[i],q,by simp [hlt]⟩,Pv (i + 1),fun σ' H' p'=>⟨xs.length - (i + 1),by omega,rfl,hlt,p'⟩,fun x H' y=>?_⟩
  obtain⟨e,y⟩:=y
  subst e
  exact hs i x σ _ (y xs q) p
 ·have e:i=xs.length:=by omega
  subst e
  exact .inl ⟨⟨xs,q,Nat.le_refl _⟩,hd σ H p⟩
theorem zcy {K:PySem.W.Frag} {a:Addr} {xs:List V} {g:TG} {tb:TS} {D:Ends} {σ:St} {H:Hp} (Pv:Nat->St->Hp->Prop) (h0:Pv 0 σ H) (hl:∀ i σ H,i≤xs.length->Pv i σ H->SqT K H a xs)
  (hs:∀ i x σ H,xs[i]?=some x->Pv i σ H->g x σ H fun σ2 H2=>tb { D with nx:=Pv (i + 1),ct:=Pv (i + 1),bk:=D.nx } σ2 H2) (hd:∀ σ H,Pv xs.length σ H->D.nx σ H) :
  ∃ W:Nat->Nat->St->Hp->Prop,(∃ m,W 0 m σ H)∧∀ i m σ H,W i m σ H ->
   ((Itt K a).stop i H∧D.nx σ H)∨((Itt K a).go i H∧∃ N:St->Hp->Prop,(∀ σ' H',N σ' H'->∃ m',m' < m∧W (i + 1) m' σ' H')∧∀ x H',(Itt K a).yld i H x H'->g x σ H' fun σ2 H2=>tb { D with nx:=N,ct:=N,bk:=D.nx } σ2 H2):=by
 refine⟨fun i m σ H=>m=xs.length - i∧i≤xs.length∧Pv i σ H,⟨xs.length,by simp,Nat.zero_le _,h0⟩,?_⟩
 rintro i m σ H ⟨rfl,hi,p⟩
 have q:=hl i σ H hi p
 by_cases hlt:i < xs.length
 ·refine .inr ⟨⟨xs,xs[i],q,by simp [hlt]⟩,Pv (i + 1),fun σ' H' p'=>⟨xs.length - (i + 1),by omega,rfl,hlt,p'⟩,fun x H' y=>?_⟩
  obtain⟨e,y⟩:=y
  subst e
  exact hs i x σ _ (y xs q) p
 ·have e:i=xs.length:=by omega
  subst e
  exact .inl ⟨⟨xs,q,Nat.le_refl _⟩,hd σ H p⟩
theorem zbu {lo:Int} {n:Nat} {g:TG} {tb:TS} {D:Ends} {σ:St} {H:Hp} (Pv:Nat->St->Hp->Prop) (h0:Pv 0 σ H)
  (hs:∀ i σ H,i < n->Pv i σ H->g (.int (lo + i)) σ H fun σ2 H2=>tb { D with nx:=Pv (i + 1),ct:=Pv (i + 1),bk:=D.nx } σ2 H2) (hd:∀ σ H,Pv n σ H->D.nx σ H) :
  ∃ W:Nat->Nat->St->Hp->Prop,(∃ m,W 0 m σ H)∧∀ i m σ H,W i m σ H ->
   ((Itr lo n).stop i H∧D.nx σ H)∨((Itr lo n).go i H∧∃ N:St->Hp->Prop,(∀ σ' H',N σ' H'->∃ m',m' < m∧W (i + 1) m' σ' H')∧∀ x H',(Itr lo n).yld i H x H'->g x σ H' fun σ2 H2=>tb { D with nx:=N,ct:=N,bk:=D.nx } σ2 H2):=by
 refine⟨fun i m σ H=>m=n - i∧i≤n∧Pv i σ H,⟨n,by simp,Nat.zero_le _,h0⟩,?_⟩
 rintro i m σ H ⟨rfl,hi,p⟩
 by_cases hlt:i < n
 ·refine .inr ⟨hlt,Pv (i + 1),fun σ' H' p'=>⟨n - (i + 1),by omega,rfl,hlt,p'⟩,fun x H' y=>?_⟩
  obtain⟨e,y⟩:=y
  subst e y
  exact hs i σ _ hlt p
 ·have e:i=n:=by omega
  subst e
  exact .inl ⟨Nat.le_refl _,hd σ H p⟩
end L2
namespace L2
open PySem PySem.Spec PyProof.Rows
abbrev R2:=V->V->Hp->VK->Prop
/-- a two-place operation on values: f is binaryOp op, inplaceOp op or compareOp op -/
def OpR (X:Cx) (f:Value->Value->Sem Value) (r:R2):Prop :=
 ∀ (pins:List (Addr × Obj)) (s:Shared) (σ:St) (H:Hp) (x y:V) (v u:Value) (Q:VK),Inv X pins σ H s->RelV x v->RelV y u->r x y H Q ->
  wpAny (model X.prog X.w) X.A (f v u) (EP X pins σ Q) X.xe s
/-- a one-place operation -/
def UnR (X:Cx) (f:Value->Sem Value) (r:V->Hp->VK->Prop):Prop :=
 ∀ (pins:List (Addr × Obj)) (s:Shared) (σ:St) (H:Hp) (x:V) (v:Value) (Q:VK),Inv X pins σ H s->RelV x v->r x H Q ->
  wpAny (model X.prog X.w) X.A (f v) (EP X pins σ Q) X.xe s
/-- a call of a value that is known (a builtin, a type) with values -/
def CallR (X:Cx) (f:Value) (r:List V->Hp->VK->Prop):Prop :=
 ∀ (pins:List (Addr × Obj)) (s:Shared) (σ:St) (H:Hp) (xs:List V) (us:List Value) (Q:VK),Inv X pins σ H s->Vals xs us->r xs H Q ->
  wpAny (model X.prog X.w) X.A (call f us) (EP X pins σ Q) X.xe s
def tOp (r:R2) (ta tb:TE):TE:=fun σ H Q=>ta σ H fun x H1=>tb σ H1 fun y H2=>r x y H2 Q
def tUn (r:V->Hp->VK->Prop) (ta:TE):TE:=fun σ H Q=>ta σ H fun x H1=>r x H1 Q
/-- ints in, under C, and a value out -/
def rI (C:Int->Int->Prop) (g:Int->Int->V):R2:=fun x y H Q=>∃ i j,x=.int i∧y=.int j∧C i j∧Q (g i j) H
def rI0 (g:Int->Int->V):R2:=fun x y H Q=>∃ i j,x=.int i∧y=.int j∧Q (g i j) H
def rU (g:Int->V):V->Hp->VK->Prop:=fun x H Q=>∃ i,x=.int i∧Q (g i) H
section
variable {X:Cx} {a b c:Expr} {ta tb tc:TE} {pos:Pos}
theorem binT (ha:PE X a ta) (hb:PE X b tb) {pins:List (Addr × Obj)} {s:Shared} {σ:St} {H:Hp} {R:V->V->Hp->Prop} (I:Inv X pins σ H s)
  (h:ta σ H fun x H1=>tb σ H1 fun y H2=>R x y H2) {Q:Value->Shared->Prop} {f:Value->Value->Sem Value}
  (hf:∀ v u s2 x y H2,Inv X pins σ H2 s2->RelV x v->RelV y u->R x y H2->wpAny (model X.prog X.w) X.A (f v u) Q X.xe s2) :
  wpAny (model X.prog X.w) X.A (eval a X.env) (fun v s₁=>wpAny (model X.prog X.w) X.A (eval b X.env) (fun u s₂=>wpAny (model X.prog X.w) X.A (f v u) Q X.xe s₂) X.xe s₁) X.xe s:=by
 refine thn (ha pins s σ H _ I h) fun v s1 ⟨x,H1,I1,r1,q1⟩=>?_
 refine thn (hb pins s1 σ H1 _ I1 q1) fun u s2 ⟨y,H2,I2,r2,q2⟩=>?_
 exact hf v u s2 x y H2 I2 r1 r2 q2
theorem zat {op:Operator} {r:R2} (ho:OpR X (binaryOp op) r) (ha:PE X a ta) (hb:PE X b tb):PE X (.BinOp a op b pos) (tOp r ta tb):=by
 intro pins s σ H Q I h
 exact wpAny_BinOp (binT ha hb I h fun v u s2 x y H2 I2 rx ry q=>ho pins s2 σ H2 x y v u Q I2 rx ry q)
theorem zhq {op:UnaryOp} {r:V->Hp->VK->Prop} (ho:UnR X (unaryOp op) r) (ha:PE X a ta):PE X (.UnaryOp op a pos) (tUn r ta):=by
 intro pins s σ H Q I h
 exact UnaryOp_ (thn (ha pins s σ H _ I h) fun v s1 ⟨x,H1,I1,r1,q1⟩=>ho pins s1 σ H1 x v Q I1 r1 q1)
theorem opI {f:Value->Value->Sem Value} {C:Int->Int->Prop} {g:Int->Int->Int}
  (rule:∀ (i j:Int) (t u:Tok) (s:Shared) (Q:Value->Shared->Prop) (E:Value->Shared->Prop),C i j->Q (.int (g i j) s.toks) { s with toks:=s.toks + 1 }->wpAny (model X.prog X.w) X.A (f (.int i t) (.int j u)) Q E s) :
  OpR X f (rI C fun i j=>.int (g i j)):=by
 intro pins s σ H x y v u Q I rx ry h
 obtain⟨i,j,rfl,rfl,hc,q⟩:=h
 obtain⟨t,rfl⟩:=rx
 obtain⟨t',rfl⟩:=ry
 exact rule i j t t' s _ _ hc ⟨.int (g i j),H,I.tok _,⟨_,rfl⟩,q⟩
theorem opI0 {f:Value->Value->Sem Value} {g:Int->Int->Int}
  (rule:∀ (i j:Int) (t u:Tok) (s:Shared) (Q:Value->Shared->Prop) (E:Value->Shared->Prop),Q (.int (g i j) s.toks) { s with toks:=s.toks + 1 }->wpAny (model X.prog X.w) X.A (f (.int i t) (.int j u)) Q E s) :
  OpR X f (rI0 fun i j=>.int (g i j)):=by
 intro pins s σ H x y v u Q I rx ry h
 obtain⟨i,j,rfl,rfl,q⟩:=h
 obtain⟨t,rfl⟩:=rx
 obtain⟨t',rfl⟩:=ry
 exact rule i j t t' s _ _ ⟨.int (g i j),H,I.tok _,⟨_,rfl⟩,q⟩
theorem opB0 {f:Value->Value->Sem Value} {g:Int->Int->Bool}
  (rule:∀ (i j:Int) (t u:Tok) (s:Shared) (Q:Value->Shared->Prop) (E:Value->Shared->Prop),Q (.bool (g i j)) s->wpAny (model X.prog X.w) X.A (f (.int i t) (.int j u)) Q E s) :
  OpR X f (rI0 fun i j=>.bl (g i j)):=by
 intro pins s σ H x y v u Q I rx ry h
 obtain⟨i,j,rfl,rfl,q⟩:=h
 obtain⟨t,rfl⟩:=rx
 obtain⟨t',rfl⟩:=ry
 exact rule i j t t' s _ _ ⟨.bl (g i j),H,I,rfl,q⟩
def CDiv (i j:Int):Prop:=0 < j∧j < 1073741824
def CPow (i j:Int):Prop:=0≤j∧j≤1000000∧i.natAbs < 2 ^ 64
def CMul (i j:Int):Prop:=(-(2 ^ 64) < i∧i < 2 ^ 64)∨(-(2 ^ 64) < j∧j < 2 ^ 64)
theorem CMul.ok {i j:Int} (h:CMul i j):IntMulOk i j:=by
 rcases h with ⟨h1,h2⟩ | ⟨h1,h2⟩
 ·exact .of_left (intBits_le_64 h1 h2)
 ·exact .of_right (intBits_le_64 h1 h2)
theorem zbl:OpR X (binaryOp .Add) (rI0 fun i j=>.int (i + j)):=opI0 fun _ _ _ _ _ _ _ q=>add_int q
theorem zc2:OpR X (binaryOp .Sub) (rI0 fun i j=>.int (i - j)):=opI0 fun _ _ _ _ _ _ _ q=>sub_int q
theorem zm6:OpR X (binaryOp .Mult) (rI CMul fun i j=>.int (i * j)):=opI fun _ _ _ _ _ _ _ hc q=>mul_int q hc.ok
/-- // by a positive divisor -/
theorem zjg:OpR X (binaryOp .FloorDiv) (rI CDiv fun i j=>.int (i / j)):=opI fun i j _ _ _ _ _ hc q=>by
 have h1:(0:Int) < j:=hc.1
 have h2:j < 1073741824:=hc.2
 exact floordiv_int (by omega) (by rw[Int.fdiv_eq_ediv_of_nonneg i (by omega)];exact q) (.inl (PyProof.noPylong_small (by omega)))
/-- % by a positive divisor of any size -/
theorem zch:OpR X (binaryOp .Mod) (rI (fun _ j=>0 < j) fun i j=>.int (i % j)):=opI fun i j _ _ _ _ _ hc q=>by
 have h1:(0:Int) < j:=hc
 exact mod_int' (by omega) (by rw[Int.fmod_eq_emod_of_nonneg i (by omega)];exact q)
theorem zeq:OpR X (binaryOp .Pow) (rI CPow fun i j=>.int (i ^ j.toNat)):=opI fun _ _ _ _ _ _ _ hc q=>pow_int_small hc.1 hc.2.1 hc.2.2 q
theorem unI {f:Value->Sem Value} {g:Int->Int}
  (rule:∀ (i:Int) (t:Tok) (s:Shared) (Q:Value->Shared->Prop) (E:Value->Shared->Prop),Q (.int (g i) s.toks) { s with toks:=s.toks + 1 }->wpAny (model X.prog X.w) X.A (f (.int i t)) Q E s) :
  UnR X f (rU fun i=>.int (g i)):=by
 intro pins s σ H x v Q I rx h
 obtain⟨i,rfl,q⟩:=h
 obtain⟨t,rfl⟩:=rx
 exact rule i t s _ _ ⟨.int (g i),H,I.tok _,⟨_,rfl⟩,q⟩
theorem zds:UnR X (unaryOp .USub) (rU fun i=>.int (-i)):=unI fun _ _ _ _ _ q=>neg_int q
end
/-- the scalars that == tells apart as data does -/
def scal:V->V->Bool
 | .non,.non=>true | .non,.int _=>true | .int _,.non=>true | .non,.bl _=>true | .bl _,.non=>true | .non,.str _=>true | .str _,.non=>true
 | .int _,.int _=>true | .bl _,.bl _=>true | .str _,.str _=>true | .byt _,.byt _=>true
 | .int _,.str _=>true | .str _,.int _=>true | .bl _,.str _=>true | .str _,.bl _=>true
 | _,_=>false
def rEq:R2:=fun x y H Q=>scal x y=true∧Q (.bl (decide (x=y))) H
def rNe:R2:=fun x y H Q=>scal x y=true∧Q (.bl (!decide (x=y))) H
theorem zn7 {i j:Int}:decide (V.int i=V.int j)=(i == j):=by
 rw[Bool.eq_iff_iff]
 simp
theorem zql {i j:Bool}:decide (V.bl i=V.bl j)=(i == j):=by
 rw[Bool.eq_iff_iff]
 simp
theorem zn6 {i j:Str}:decide (V.str i=V.str j)=(i == j):=by
 rw[Bool.eq_iff_iff]
 simp
theorem zn8 {i j:Array UInt8}:decide (V.byt i=V.byt j)=(i.toList == j.toList):=by
 rw[Bool.eq_iff_iff]
 cases i
 cases j
 simp
section
variable {X:Cx} {a b c:Expr} {ta tb tc:TE} {pos:Pos}
theorem za0 {pins:List (Addr × Obj)} {σ:St} {H:Hp} {s:Shared} {Q:VK} {k k':Bool} (I:Inv X pins σ H s) (q:Q (.bl k) H) (e:k=k'):EP X pins σ Q (.bool k') s:=by
 subst e
 exact⟨.bl k,H,I,rfl,q⟩
theorem zbo:OpR X (compareOp .Eq) rEq:=by
 intro pins s σ H x y v u Q I rx ry h
 obtain⟨hs,q⟩:=h
 cases x with
 | non =>
  cases rx
  cases y with
  | non=>cases ry;exact PySem.EqNone.eq_none_none (za0 I q (by simp))
  | bl j=>cases ry;exact PySem.EqNone.eq_none_bool (za0 I q (by simp))
  | int j=>obtain⟨t',rfl⟩:=ry;exact PySem.EqNone.eq_none_int (za0 I q (by simp))
  | str j=>obtain⟨t',rfl⟩:=ry;exact PySem.EqNone.eq_none_str (za0 I q (by simp))
  | _=>exact absurd (show false=true from hs) Bool.false_ne_true
 | bl i =>
  cases rx
  cases y with
  | non=>cases ry;exact PySem.EqNone.eq_bool_none (za0 I q (by simp))
  | bl j=>cases ry;exact eq_bool (za0 I q zql)
  | str j=>obtain⟨t',rfl⟩:=ry;exact PySem.EqMixed.eq_bool_str (za0 I q (by simp))
  | _=>exact absurd (show false=true from hs) Bool.false_ne_true
 | int i =>
  obtain⟨t,rfl⟩:=rx
  cases y with
  | non=>cases ry;exact PySem.EqNone.eq_int_none (za0 I q (by simp))
  | int j=>obtain⟨t',rfl⟩:=ry;exact eq_int (za0 I q zn7)
  | str j=>obtain⟨t',rfl⟩:=ry;exact PySem.EqMixed.eq_int_str (za0 I q (by simp))
  | _=>exact absurd (show false=true from hs) Bool.false_ne_true
 | str i =>
  obtain⟨t,rfl⟩:=rx
  cases y with
  | non=>cases ry;exact PySem.EqNone.eq_str_none (za0 I q (by simp))
  | bl j=>cases ry;exact PySem.EqMixed.eq_str_bool (za0 I q (by simp))
  | int j=>obtain⟨t',rfl⟩:=ry;exact PySem.EqMixed.eq_str_int (za0 I q (by simp))
  | str j=>obtain⟨t',rfl⟩:=ry;exact eq_str (za0 I q zn6)
  | _=>exact absurd (show false=true from hs) Bool.false_ne_true
 | byt i =>
  obtain⟨t,rfl⟩:=rx
  cases y with
  | byt j=>obtain⟨t',rfl⟩:=ry;exact PySem.W.eq_bytes (za0 I q zn8)
  | _=>exact absurd (show false=true from hs) Bool.false_ne_true
 | _=>cases y <;> exact absurd (show false=true from hs) Bool.false_ne_true
theorem zo9:OpR X (compareOp .NotEq) rNe:=by
 intro pins s σ H x y v u Q I rx ry h
 obtain⟨hs,q⟩:=h
 cases x with
 | non =>
  cases rx
  cases y with
  | non=>cases ry;exact PySem.EqNone.ne_none_none (za0 I q (by simp))
  | bl j=>cases ry;exact PySem.EqNone.ne_none_bool (za0 I q (by simp))
  | int j=>obtain⟨t',rfl⟩:=ry;exact PySem.EqNone.ne_none_int (za0 I q (by simp))
  | str j=>obtain⟨t',rfl⟩:=ry;exact PySem.EqNone.ne_none_str (za0 I q (by simp))
  | _=>exact absurd (show false=true from hs) Bool.false_ne_true
 | bl i =>
  cases rx
  cases y with
  | non=>cases ry;exact PySem.EqNone.ne_bool_none (za0 I q (by simp))
  | bl j=>cases ry;exact ne_bool (za0 I q (congrArg not zql))
  | str j=>obtain⟨t',rfl⟩:=ry;exact PySem.EqMixed.ne_bool_str (za0 I q (by simp))
  | _=>exact absurd (show false=true from hs) Bool.false_ne_true
 | int i =>
  obtain⟨t,rfl⟩:=rx
  cases y with
  | non=>cases ry;exact PySem.EqNone.ne_int_none (za0 I q (by simp))
  | int j=>obtain⟨t',rfl⟩:=ry;exact ne_int (za0 I q (congrArg not zn7))
  | str j=>obtain⟨t',rfl⟩:=ry;exact PySem.EqMixed.ne_int_str (za0 I q (by simp))
  | _=>exact absurd (show false=true from hs) Bool.false_ne_true
 | str i =>
  obtain⟨t,rfl⟩:=rx
  cases y with
  | non=>cases ry;exact PySem.EqNone.ne_str_none (za0 I q (by simp))
  | bl j=>cases ry;exact PySem.EqMixed.ne_str_bool (za0 I q (by simp))
  | int j=>obtain⟨t',rfl⟩:=ry;exact PySem.EqMixed.ne_str_int (za0 I q (by simp))
  | str j=>obtain⟨t',rfl⟩:=ry;exact ne_str (za0 I q (congrArg not zn6))
  | _=>exact absurd (show false=true from hs) Bool.false_ne_true
 | byt i =>
  obtain⟨t,rfl⟩:=rx
  cases y with
  | byt j=>obtain⟨t',rfl⟩:=ry;exact PySem.W.ne_bytes (za0 I q (congrArg not zn8))
  | _=>exact absurd (show false=true from hs) Bool.false_ne_true
 | _=>cases y <;> exact absurd (show false=true from hs) Bool.false_ne_true
theorem zll:OpR X (compareOp .Lt) (rI0 fun i j=>.bl (decide (i < j))):=opB0 fun _ _ _ _ _ _ _ q=>lt_int q
theorem zm9:OpR X (compareOp .Gt) (rI0 fun i j=>.bl (decide (j < i))):=opB0 fun _ _ _ _ _ _ _ q=>gt_int q
theorem zse:OpR X (compareOp .GtE) (rI0 fun i j=>.bl (decide (j≤i))):=opB0 fun _ _ _ _ _ _ _ q=>ge_int q
/-- is None, is not None: the right side a value none -/
theorem zer:OpR X (compareOp .Is) (fun x y H Q=>y=.non∧Q (.bl (decide (x=.non))) H):=by
 intro pins s σ H x y v u Q I rx ry h
 obtain⟨rfl,q⟩:=h
 cases ry
 refine is_none_gen (za0 I q ?_)
 cases x <;> first
  | (cases rx;rfl)
  | (obtain⟨t,rfl⟩:=rx;rfl)
theorem zjf:OpR X (compareOp .IsNot) (fun x y H Q=>y=.non∧Q (.bl (!decide (x=.non))) H):=by
 intro pins s σ H x y v u Q I rx ry h
 obtain⟨rfl,q⟩:=h
 cases ry
 refine isnot_none_gen (za0 I q ?_)
 cases x <;> first
  | (cases rx;rfl)
  | (obtain⟨t,rfl⟩:=rx;rfl)
theorem nomark (b:Expr) {op:CmpOp} (h:op≠.In:=by decide) (h2:op≠.NotIn:=by decide):behindInMarks op b=false:=by
 have e1:(op == CmpOp.In)=false:=by cases op <;> first | rfl | exact absurd rfl h
 have e2:(op == CmpOp.NotIn)=false:=by cases op <;> first | rfl | exact absurd rfl h2
 cases b <;> simp [behindInMarks,e1,e2]
/-- a comparison as a value; hm: nomark b, or (for in, not in) by with_unfolding_all rfl -/
theorem za3 {op:CmpOp} {r:R2} (ho:OpR X (compareOp op) r) (ha:PE X a ta) (hb:PE X b tb) (hm:behindInMarks op b=false):PE X (.Compare a [op] [b] pos) (tOp r ta tb):=by
 intro pins s σ H Q I h
 exact wpAny_Compare1 (binT ha hb I h fun v u s2 x y H2 I2 rx ry q=>ho pins s2 σ H2 x y v u Q I2 rx ry q) hm
/-- a reading of a value as a test -/
def tTest (t:TE):TT:=fun σ H Q=>t σ H fun x H'=>∃ k,x=.bl k∧Q k H'
theorem zao {op:CmpOp} {r:R2} (ho:OpR X (compareOp op) r) (ha:PE X a ta) (hb:PE X b tb) (hm:behindInMarks op b=false):PT X (.Compare a [op] [b] pos) (tTest (tOp r ta tb)):=by
 intro pins s σ H Q I h
 refine wpAny_isTrue_Compare1 (thn (ha pins s σ H _ I h) fun v s1 ⟨x,H1,I1,r1,q1⟩=>thn (hb pins s1 σ H1 _ I1 q1) fun u s2 ⟨y,H2,I2,r2,q2⟩ =>
  thn (ho pins s2 σ H2 x y v u _ I2 r1 r2 q2) fun c s3 ⟨z,H3,I3,r3,k,e,q3⟩=>?_) hm
 subst e
 cases r3
 exact wpAny_truthy_bool ⟨H3,I3,q3⟩
theorem line63:(sizeLine:Nat) < 2 ^ 63:=by rw[sizeLine_eq];decide
theorem vals1 {x:V} {us:List Value} (r:Vals [x] us):∃ u,us=[u]∧RelV x u:=by
 cases r with
 | cons r1 r2=>cases r2;exact⟨_,rfl,r1⟩
theorem vals2 {x y:V} {us:List Value} (r:Vals [x,y] us):∃ u w',us=[u,w']∧RelV x u∧RelV y w':=by
 cases r with
 | cons r1 r2 =>
  cases r2 with
  | cons r3 r4=>cases r4;exact⟨_,_,rfl,r1,r3⟩
theorem zpx:CallR X (.builtin "abs") (fun xs H Q=>∃ i,xs=[.int i]∧Q (.int (if i < 0 then -i else i)) H):=by
 intro pins s σ H xs us Q I r h
 obtain⟨i,rfl,q⟩:=h
 obtain⟨u,rfl,t,rfl⟩:=vals1 r
 exact call_abs_int fun u tk=>⟨.int (if i < 0 then -i else i),H,I.tok _,⟨_,rfl⟩,q⟩
theorem zij (hc:X.calm=true):CallR X (.builtin "max") (fun xs H Q=>∃ i j,xs=[.int i,.int j]∧Q (.int (if j > i then j else i)) H):=by
 intro pins s σ H xs us Q I r h
 obtain⟨i,j,rfl,q⟩:=h
 obtain⟨u,w',rfl,⟨t,rfl⟩,⟨t',rfl⟩⟩:=vals2 r
 refine max_two_ints (I.ok.hd hc) fun h' tk k=>⟨_,H,I.kept k,?_,q⟩
 by_cases hj:j > i
 ·rw[if_pos hj,if_pos hj];exact⟨_,rfl⟩
 ·rw[if_neg hj,if_neg hj];exact⟨_,rfl⟩
theorem zii (hc:X.calm=true):CallR X (.builtin "min") (fun xs H Q=>∃ i j,xs=[.int i,.int j]∧Q (.int (if j < i then j else i)) H):=by
 intro pins s σ H xs us Q I r h
 obtain⟨i,j,rfl,q⟩:=h
 obtain⟨u,w',rfl,⟨t,rfl⟩,⟨t',rfl⟩⟩:=vals2 r
 refine min_two_ints (I.ok.hd hc) fun h' tk k=>⟨_,H,I.kept k,?_,q⟩
 by_cases hj:j < i
 ·rw[if_pos hj,if_pos hj];exact⟨_,rfl⟩
 ·rw[if_neg hj,if_neg hj];exact⟨_,rfl⟩
end
end L2
namespace L2
open PySem PySem.Spec PyProof.Rows
structure ObjM (h:Heap) (x dx C:Addr) (mA:Str->Option Value):Prop where
 obj:h.get? x=some (PySem.W.instObj C dx)
 ns:h.Ns1 dx mA
 ne:dx≠x
theorem znp {h:Heap} {dx:Addr} {mA:Str->Option Value} (n:h.Ns1 dx mA):∃ od,h.get? dx=some od∧∀ name,PySem.W.lookIn name od=some (mA name):=by
 obtain⟨o,es,ep,ho,hd,hk,_,hm⟩:=n
 refine⟨o,ho,fun name=>?_⟩
 have e:=hm name
 unfold nsFind findBy at e
 rw[← Array.find?_toList] at e
 unfold PySem.W.lookIn
 rw[hd]
 dsimp only
 split
 ·rename_i y q
  rw[q] at e
  exact congrArg some e
 ·rename_i q
  rw[q] at e
  have a:es.toList.any (·.refKey)=false:=by
   rw[List.any_eq_false]
   intro y hy
   obtain⟨z,t,hkey⟩:=hk y (Array.mem_toList_iff.mp hy)
   simp [DictEntry.refKey,hkey]
  have a':¬ es.toList.any (·.refKey)=true:=by rw[a];exact Bool.false_ne_true
  rw[if_neg a']
  exact congrArg some e
theorem ObjM.look {h:Heap} {x dx C:Addr} {mA:Str->Option Value} (I:ObjM h x dx C mA):∃ od,PySem.W.InstAt h x (PySem.W.instObj C dx) C (some od)∧∀ name,PySem.W.lookIn name od=some (mA name) :=
 let ⟨od,ho,hl⟩:=znp I.ns
 ⟨od,⟨I.obj,rfl,rfl,ho⟩,hl⟩
section
variable {prog:Program} {w:World} {A:Around} {E:Value->Shared->Prop} {s:Shared} {K:PySem.W.Frag} {x dx C f:Addr} {mA:Str->Option Value} {name:Str} {v:Value}
end
section
variable {P:Program} {w:World} {H H':Hp} {h h':Heap} {a C dx:Addr} {fs fs':List (Str × V)}
theorem zri (hok:HOk P w H h) (e:H a=some (.ins C dx fs)):∃ mA,ObjM h a dx C mA∧(∀ f,RelO (fs.lookup f) (mA f))∧PySem.Within mA (fs.map (·.1))∧fs.length≤1000∧H dx=some (.own a):=by
 obtain⟨d,z,ne,ob,mA,n,r,q⟩:=(show ObjOk P w H h a (.ins C dx fs) from hok a _ e)
 exact⟨mA,⟨ob,n,ne⟩,r,q,z,d⟩
end
structure Cls (K:PySem.W.Frag) (C:Addr):Prop where
 pg:PySem.W.plainGet K C Str.empty=true
 hd:PySem.W.hasDictIn K C=true
 po:PySem.W.plainOver K C=true
 sa:PySem.W.findIn K (.ref C) "__setattr__"=some (some (.builtin "object.__setattr__"))
theorem Cls.get {K:PySem.W.Frag} {C:Addr} (c:Cls K C) (f:Str):PySem.W.plainGet K C f=true:=c.pg
/-- a constant of the class -/
structure Con (K:PySem.W.Frag) (C:Addr) (f:Str) (v:V) (u:Value):Prop where
 at_:PySem.W.findIn K (.ref C) f=some (some u)
 rel:RelV v u
 get:PySem.W.specialIn K u "__get__"=some none
 cp:PySem.W.copiedNames.contains f=false
section
variable {X:Cx} {pins:List (Addr × Obj)} {σ:St} {H:Hp} {s:Shared} {a C dx:Addr} {fs:List (Str × V)} {f:Str} {v:V} {A:Around} {E:Value->Shared->Prop}
end
section
variable {X:Cx} {o e value:Expr} {f:Str} {pos pos' tpos:Pos} {ta tv:TE}
end
section
variable {X:Cx} {pins:List (Addr × Obj)} {σ:St} {H:Hp} {s:Shared} {A:Around} {E:Value->Shared->Prop} {Q:Value->Shared->Prop} {c:Value} {b:Bool}
/-- the type of a value, as the fragment's deciders take it; for an instance its class -/
inductive TyOf (K:PySem.W.Frag) (H:Hp):V->Value->Prop where
 | non:TyOf K H .non (.type "NoneType")
 | bl (x:Bool):TyOf K H (.bl x) (.type "bool")
 | int (i:Int):TyOf K H (.int i) (.type "int")
 | str (x:Str):TyOf K H (.str x) (.type "str")
 | flt (x:UInt64):TyOf K H (.flt x) (.type "float")
 | lst {a:Addr} {xs:List V} (e:H a=some (.lst xs)):TyOf K H (.ref a) (.type "list")
 | frz {a:Addr} {o:Obj} {xs:List V} (e:H a=some (.frz o (.lst xs))):TyOf K H (.ref a) (.type "list")
 | tup {a:Addr} {xs:List V} (e:H a=some (.tup xs)):TyOf K H (.ref a) (.type "tuple")
 | dK {a:Addr} {kvs:List (Key × V)} (e:H a=some (.dK kvs)):TyOf K H (.ref a) (.type "dict")
 | dT {a:Addr} {kvs:List (List Key × V)} (e:H a=some (.dT kvs)):TyOf K H (.ref a) (.type "dict")
 | ins {a C dx : Addr} {fs : List (Str × V)} (e : H a = some (.ins C dx fs)) (cl : Cls K C) (ha : PySem.W.findIn K (.ref C) "__class__" = some (some (.builtin "object.__class__")))
     (hn:PySem.W.specialIn K (.builtin "object.__class__") "__get__"=some (some (.builtin "getset_descriptor.__get__"))) (htk:PySem.W.takesIn K (.builtin "object.__class__")=some true)
     (hm:PySem.W.mroIn K C (.type "object")=some true):TyOf K H (.ref a) (.ref C)
/-- isinstance(x, c) for one class c, a built-in or an own one: kitOne's answer -/
theorem znv {x:V} {u t:Value} (I:Inv X pins σ H s) (rx:RelV x u) (ty:TyOf X.K H x t) (e:PySem.W.kitOne X.K t c=some b) (h:∀ tk,Q (.bool b) { s with toks:=tk }) :
  wpAny (model X.prog X.w) A (call (.builtin "isinstance") [u,c]) Q E s:=by
 cases ty with
 | non=>cases (show u=Value.none from rx);exact PySem.W.kia_one PySem.W.kitx_none I.kIn True.intro e (fun z=>nomatch z) h
 | bl y=>cases (show u=Value.bool y from rx);exact PySem.W.kia_one PySem.W.kitx_bool I.kIn True.intro e (fun z=>nomatch z) h
 | int i=>obtain⟨t,q⟩:=(show ∃ t,u=Value.int i t from rx);cases q;exact PySem.W.kia_one PySem.W.kitx_int I.kIn True.intro e (fun z=>nomatch z) h
 | str y=>obtain⟨t,q⟩:=(show ∃ t,u=Value.str y t from rx);cases q;exact PySem.W.kia_one PySem.W.kitx_str I.kIn True.intro e (fun z=>nomatch z) h
 | flt y=>obtain⟨t,q⟩:=(show ∃ t,u=Value.float y t from rx);cases q;exact PySem.W.kia_one PySem.W.kitx_float I.kIn True.intro e (fun z=>nomatch z) h
 | @lst a xs ea =>
  cases (show u=Value.ref a from rx)
  obtain⟨_,_,n,_,h1⟩:=(show ObjOk X.prog X.w H s.heap a (.lst xs) from I.hok a _ ea)
  exact PySem.W.kia_one PySem.W.kitx_list I.kIn ⟨_,h1,rfl⟩ e (fun z=>nomatch z) h
 | @frz a ob xs ea =>
  cases (show u=Value.ref a from rx)
  obtain⟨_,_,_,n,_,h1⟩:=(show ObjOk X.prog X.w H s.heap a (.frz ob (.lst xs)) from I.hok a _ ea)
  exact PySem.W.kia_one PySem.W.kitx_list I.kIn ⟨_,h1,rfl⟩ e (fun z=>nomatch z) h
 | @tup a xs ea =>
  cases (show u=Value.ref a from rx)
  obtain⟨_,_,_,p⟩:=(show ObjOk X.prog X.w H s.heap a (.tup xs) from I.hok a _ ea)
  obtain⟨o,h1,h2,_⟩:=p
  exact PySem.W.kia_one PySem.W.kitx_tuple I.kIn ⟨o,h1,h2⟩ e (fun z=>nomatch z) h
 | @dK a kvs ea =>
  cases (show u=Value.ref a from rx)
  obtain⟨_,_,vs,_,p⟩:=(show ObjOk X.prog X.w H s.heap a (.dK kvs) from I.hok a _ ea)
  obtain⟨o,es,ep,h1,h2,_⟩:=p
  exact PySem.W.kia_one PySem.W.kitx_dict I.kIn ⟨o,h1,h2.1⟩ e (fun z=>nomatch z) h
 | @dT a kvs ea =>
  cases (show u=Value.ref a from rx)
  obtain⟨_,_,xs,_,o,es,ep,h1,h2,_⟩:=(show ObjOk X.prog X.w H s.heap a (.dT kvs) from I.hok a _ ea)
  exact PySem.W.kia_one PySem.W.kitx_dict I.kIn ⟨o,h1,h2.1⟩ e (fun z=>nomatch z) h
 | @ins a C dx fs ea cl ha hn htk hm =>
  cases (show u=Value.ref a from rx)
  obtain⟨mA,O,_⟩:=zri I.hok ea
  obtain⟨od,J,_⟩:=O.look
  exact PySem.W.kia_one (PySem.W.kitx_own (cl.get _) cl.hd ha hn htk hm) I.kIn J e (fun z=>nomatch z) h
end
end L2
namespace L2
open PySem PySem.Spec PyProof.Rows
structure Room (k:Nat) (A:Around):Prop where
 hd:A.handled=none
 dp:A.depth + 3 * k + 5 < recursionLimit
 un:A.units + 16 * k + 200 < cLine
 gd:A.guards=some []
theorem Room.mono {j k:Nat} {A:Around} (r:Room k A) (h:j≤k):Room j A:=⟨r.hd,by have:=r.dp;omega,by have:=r.un;omega,r.gd⟩
theorem Room.deeper {k:Nat} {A:Around} (r:Room (k + 1) A) (env:Env):Room k (A.deeper env) :=
 ⟨r.hd,by have:=r.dp;show A.depth + 1 + 3 * k + 5 < _;omega,by have:=r.un;show A.units + 3 + 16 * k + 200 < _;omega,r.gd⟩
theorem Room.depth {k:Nat} {A:Around} (r:Room k A):A.depth < recursionLimit:=by have:=r.dp;omega
theorem Room.units {k:Nat} {A:Around} (r:Room k A):A.units + 64 < cLine:=by have:=r.un;omega
theorem Room.units0 {k:Nat} {A:Around} (r:Room k A):A.units < cLine:=by have:=r.un;omega
def tNil:TA:=fun _ H Q=>Q [] H
def tCons (ta:TE) (tr:TA):TA:=fun σ H Q=>ta σ H fun x H1=>tr σ H1 fun xs H2=>Q (x::xs) H2
section
variable {X:Cx} {e:Expr} {es:List Expr} {te:TE} {t:TA} {pos:Pos}
theorem zab:PA X [] tNil:=fun _ _ _ _ H Q I h=>Calls.spliced_nil ⟨[],H,I,.nil,h⟩
theorem zaa (ha:PE X e te) (hr:PA X es t) (hs:starEach (e::es) X.env=(false,eval e X.env)::starEach es X.env:=by rfl):PA X (e::es) (tCons te t):=by
 intro pos pins s σ H Q I h
 rw[hs]
 show wpAny _ _ (spliced ((false,eval e X.env)::backTo pos (starEach es X.env))) _ _ s
 refine Calls.spliced_cons (thn (ha pins s σ H _ I h) fun u s1 ⟨x,H1,I1,r1,q1⟩=>?_)
 exact thn (hr pos pins s1 σ H1 _ I1 q1) fun us s2 ⟨xs,H2,I2,r2,q2⟩=>⟨x::xs,H2,I2,.cons r1 r2,q2⟩
/-- a tuple, a list of written items -/
def tTup (t:TA):TE:=fun σ H Q=>t σ H fun xs H1=>xs.length≤sizeLine∧∀ p,H1 p=none->Q (.ref p) (upd H1 p (.tup xs))
def tLst (t:TA):TE:=fun σ H Q=>t σ H fun xs H1=>xs.length≤sizeLine∧∀ p,H1 p=none->Q (.ref p) (upd H1 p (.lst xs))
theorem zqb {x1} (h:PA X es t):PE X (.Tuple es x1 pos) (tTup t):=by
 intro pins s σ H Q I hq
 refine wpAny_Tuple_spliced (thn (h pos pins s σ H _ I hq) fun us s1 ⟨xs,H1,I1,r,z,q⟩=>⟨by rw[← r.length];exact z,?_⟩)
 have hf:H1 s1.heap.objs.size=none:=I1.hok.fresh (Nat.le_refl _)
 refine⟨.ref s1.heap.objs.size,upd H1 s1.heap.objs.size (.tup xs),I1.laid (t':=s1.toks) (fun b u e=>Heap.get?_push_of_some _ e) (Nat.le_refl _) ?_,rfl,q _ hf⟩
 exact⟨z,us,r,⟨_,Heap.get?_push_size _ rfl,rfl,⟨_,rfl⟩,rfl⟩⟩
theorem zhs (h:PA X es t):PE X (.List es pos) (tLst t):=by
 intro pins s σ H Q I hq
 refine wpAny_List_spliced (thn (h pos pins s σ H _ I hq) fun us s1 ⟨xs,H1,I1,r,z,q⟩=>⟨by rw[← r.length];exact z,?_⟩)
 have hf:H1 s1.heap.objs.size=none:=I1.hok.fresh (Nat.le_refl _)
 refine⟨.ref s1.heap.objs.size,upd H1 s1.heap.objs.size (.lst xs),I1.laid (t':=s1.toks) (fun b u e=>Heap.get?_push_of_some _ e) (Nat.le_refl _) ?_,rfl,q _ hf⟩
 exact⟨z,us,0,r,Heap.get?_push_size _ rfl⟩
end
/-- a def's promise: the bound arguments in the parameters' order, the heap, the wanted end, the wanted exception -/
abbrev Sp:=List V->Hp->VK->XK->Prop
/-- how an exception lies behind a call (file 08 gives it): the callers' frames, abstract heap and state ahead of the call, the wish, the exception, the state -/
abbrev CXT:=List Env->Hp->Shared->XK->Value->Shared->Prop
/-- the state at a call -/
structure Env0 (P:Program) (w:World) (K:PySem.W.Frag) (mg:Str->Option Value) (base:Heap) (A:Around) (outer:List Env) (s:Shared) (H:Hp):Prop where
 frames:A.frames=some outer
 mod:Mod K mg base
 bs:∀ b o,base.get? b=some o->s.heap.get? b=some o∧H b=none
 bsz:base.objs.size≤s.heap.objs.size
 funs:s.heap.FunFrames base outer
 frf:∀ b ∈ frs outer,H b=none
 hok:HOk P w H s.heap
 bare:AllBare s.gens
/-- a call's end -/
def CE (outer:List Env) (P:Program) (w:World) (H:Hp) (s:Shared) (Q:VK) (u:Value) (s':Shared):Prop :=
 ∃ v H',s'.os=s.os∧AllBare s'.gens∧Un (frs outer) [] H H' s.heap s'.heap∧HOk P w H' s'.heap∧RelV v u∧Q v H'
def CR (CX:CXT) (outer:List Env) (P:Program) (w:World) (H:Hp) (s:Shared) (Q:VK) (E:XK) (r:Result) (s':Shared):Prop :=
 match r with
 | .ok (.ret u)=>CE outer P w H s Q u s'
 | .ok _=>False
 | .error e=>CX outer H s E e s'
structure FnOk (P:Program) (w:World) (K:PySem.W.Frag) (mg:Str->Option Value) (base:Heap) (CX:CXT) (k:Nat) (f:Addr) (fd:FuncData) (ps:List Str) (sp:Sp):Prop where
 len:∀ vs H Q E,sp vs H Q E->vs.length=ps.length
 run:∀ (A:Around) (outer:List Env) (s:Shared) (H:Hp) (args:Args) (us:List Value) (vs:List V) (Q:VK) (E:XK),Room k A->Env0 P w K mg base A outer s H->BindsTo s fd args (ps.zip us)->Vals vs us->sp vs H Q E ->
  codeAny (model P w) A (.call (.ref f) args) (CR CX outer P w H s Q E) s
theorem FnOk.mono {P:Program} {w:World} {K:PySem.W.Frag} {mg:Str->Option Value} {base:Heap} {CX:CXT} {j k:Nat} {f:Addr} {fd:FuncData} {ps:List Str} {sp:Sp} (F:FnOk P w K mg base CX j f fd ps sp) (h:j≤k) :
  FnOk P w K mg base CX k f fd ps sp:=⟨F.len,fun A outer s H args us vs Q E hr=>F.run A outer s H args us vs Q E (hr.mono h)⟩
/-- a weaker promise -/
theorem FnOk.imp {P:Program} {w:World} {K:PySem.W.Frag} {mg:Str->Option Value} {base:Heap} {CX:CXT} {k:Nat} {f:Addr} {fd:FuncData} {ps:List Str} {sp sp':Sp} (F:FnOk P w K mg base CX k f fd ps sp)
  (h:∀ vs H Q E,sp' vs H Q E->sp vs H Q E):FnOk P w K mg base CX k f fd ps sp' :=
 ⟨fun vs H Q E q=>F.len vs H Q E (h _ _ _ _ q),fun A outer s H args us vs Q E hr he hb hv hs=>F.run A outer s H args us vs Q E hr he hb hv (h _ _ _ _ hs)⟩
section
variable {X:Cx} {pins:List (Addr × Obj)} {σ:St} {H:Hp} {s s':Shared}
/-- from a body: what a callee wants -/
theorem Inv.env0 (I:Inv X pins σ H s):Env0 X.prog X.w X.K X.mg X.base X.A X.stack s H :=
 ⟨I.ok.frames,I.ok.mod,I.bs,Nat.le_trans I.ok.bsz I.sz,I.stack,I.stkFree,I.hok,I.bare⟩
/-- behind a call -/
theorem Inv.after {Q:VK} {u:Value} (I:Inv X pins σ H s) (h:CE X.stack X.prog X.w H s Q u s'):EP X pins σ Q u s':=by
 obtain⟨v,H',os,bare,un,hok,r,q⟩:=h
 obtain⟨hh,g,d,t,os'⟩:=s'
 obtain rfl:os'=s.os:=os
 exact⟨v,H',I.call (h':=hh) (g':=g) (d':=d) (t':=t) (ch:=[]) un hok bare (fun b z=>absurd z (by simp)),r,q⟩
end
/-- f(..): the written arguments, then the defaults dvs; E: what is wanted of an exception -/
def tCall (sp:Sp) (dvs:List V) (E:XK) (t:TA):TE:=fun σ H Q=>t σ H fun vs H1=>sp (vs++dvs) H1 Q E
/-- how the parameters are bound: us the positional arguments, kw the keywords' values by name, ds the defaults that fill up -/
def Binds (K:PySem.W.Frag) (fd:FuncData) (ps:List Str) (ds:List Value):Prop :=
 ∀ (s:Shared) (us:List Value),K.In s.heap->(us++ds).length=ps.length->BindsTo s fd ⟨us,[]⟩ (ps.zip (us++ds))
/-- every parameter is given -/
theorem Binds.all {K:PySem.W.Frag} {fd:FuncData} {ps:List Str} (h:∀ us:List Value,us.length=ps.length->bindArgs fd ⟨us,[]⟩=pure (ps.zip us)):Binds K fd ps []:=fun s us _ hl=>by
 rw[List.append_nil] at hl ⊢
 exact .of_eq (h us hl)
/-- an exception of a callee reaches what this body wants of exceptions -/
def Passes (CX:CXT) (X:Cx) (E:XK):Prop:=∀ (pins:List (Addr × Obj)) (σ:St) (H:Hp) (s:Shared) (e:Value) (s':Shared),Inv X pins σ H s->CX X.stack H s E e s'->X.xe e s'
section
variable {X:Cx} {CX:CXT} {k:Nat} {f C:Addr} {fd:FuncData} {ps:List Str} {sp:Sp} {dvs:List V} {ds:List Value} {E:XK} {x m:Str} {p pos apos:Pos} {e o:Expr} {es:List Expr} {ta:TE} {t:TA}
/-- the callee runs -/
theorem zr4 {pins:List (Addr × Obj)} {σ:St} {H:Hp} {s:Shared} {Q:VK} {us:List Value} {vs:List V} (F:FnOk X.prog X.w X.K X.mg X.base CX k f fd ps sp) (hr:Room k X.A) (hb:Binds X.K fd ps ds) (hd:Vals dvs ds) (hx:Passes CX X E)
  (I:Inv X pins σ H s) (r:Vals vs us) (h:sp (vs++dvs) H Q E):wpAny (model X.prog X.w) X.A (call (.ref f) us) (EP X pins σ Q) X.xe s:=by
 have r2:Vals (vs++dvs) (us++ds):=r.append hd
 have hl:(us++ds).length=ps.length:=by rw[← r2.length];exact F.len _ _ _ _ h
 refine wpAny_call (codeAny_mono (F.run X.A X.stack s H ⟨us,[]⟩ (us++ds) (vs++dvs) Q E hr I.env0 (hb s us I.kIn hl) r2 h) fun r s' hq=>?_)
 cases r with
 | error e=>exact hx pins σ H s e s' I hq
 | ok fl =>
  cases fl with
  | ret u=>exact I.after hq
  | next=>exact False.elim hq
  | brk=>exact False.elim hq
  | cont=>exact False.elim hq
theorem zq8 (F:FnOk X.prog X.w X.K X.mg X.base CX k f fd ps sp) (hr:Room k X.A) (hg:Gl X x) (hm:X.mg x=some (.ref f)) (hk:PySem.W.keepIn X.K (.ref f)=true) (hb:Binds X.K fd ps ds) (hd:Vals dvs ds) (hx:Passes CX X E)
  (ha:PA X (e::es) t) (hdb:(x == ("__debug__":Str))=false:=by decide) (he:starEach (e::es) X.env=(false,eval e X.env)::starEach es X.env:=by rfl) (hpl:(backTo pos (starEach es X.env)).any (·.1)=false:=by rfl) :
  PE X (.Call (.Name x p) (e::es) [] pos) (tCall sp dvs E t):=by
 intro pins s σ H Q I h
 refine wpAny_Call_Name_kw (zrg I hg hm ?_ hdb)
 refine PySem.W.callWith_K (h₀:=X.base) I.ok.mod.kin hk (thn (ha pos pins s σ H _ I h) fun us s1 ⟨vs,H1,I1,r,q⟩=>⟨I1.kIn,?_⟩) he hpl
 exact zr4 F hr hb hd hx I1 r q
end
/-- the values of the keywords, from the left -/
def PK (X:Cx) (kws:List Keyword) (t:TA):Prop :=
 ∀ (pos:Pos) (pins:List (Addr × Obj)) (s:Shared) (σ:St) (H:Hp) (Q:List V->Hp->Prop),Inv X pins σ H s->t σ H Q->wpAny (model X.prog X.w) X.A (evalAll ((backToKw pos (keywordEach kws X.env)).map (·.2))) (AP X pins σ Q) X.xe s
section
variable {X:Cx} {CX:CXT} {k:Nat} {f C:Addr} {fd:FuncData} {ps ks:List Str} {sp:Sp} {E:XK} {x m:Str} {p pos apos kpos:Pos} {e o:Expr} {es:List Expr} {kws:List Keyword} {te ta:TE} {t tk:TA} {nm:Option Str}
theorem zr7:PK X [] tNil:=fun _ _ _ _ H Q I h=>wpAny_evalAll_nil ⟨[],H,I,.nil,h⟩
theorem zq6 (ha:PE X e te) (hr:PK X kws t):PK X (⟨nm,e,kpos⟩::kws) (tCons te t):=by
 intro pos pins s σ H Q I h
 show wpAny _ _ (evalAll ((do let v ← eval e X.env;standAt pos;pure v)::(backToKw pos (keywordEach kws X.env)).map (·.2))) _ _ s
 refine wpAny_evalAll_cons (wpAny_bind (thn (ha pins s σ H _ I h) fun u s1 ⟨x,H1,I1,r1,q1⟩=>wpAny_bind (wpAny_standAt (wpAny_pure ?_))))
 exact thn (hr pos pins s1 σ H1 _ I1 q1) fun us s2 ⟨xs,H2,I2,r2,q2⟩=>⟨x::xs,H2,I2,.cons r1 r2,q2⟩
variable {g:List Value->List Value->List Value} {gV:List V->List V->List V}
end
/-- names: the parameters first -/
structure FnScope (N P:List Str) (sc:Scope):Prop where
 kind:sc.kind=.function
 co:sc.isCoroutine=false
 gen:sc.isGenerator=false
 nd:N.Nodup
 pre:N.take P.length=P
 par:∀ x ∈ P,sc.names.lookup x=some .local∨sc.names.lookup x=some .cell
 nofree:∀ y ∈ sc.names,y.2≠.free
theorem zil {kindOf:Str->Option NameKind} {x:Str}:∀ {binds:List (Str × Value)} {m:Str->Option Value},(∀ v,(x,v) ∉ binds)->bindL kindOf binds m x=m x
 | [],_,_=>rfl
 | (n,v)::r,m,h=>by
  unfold bindL
  rw[zil fun w hw=>h w (List.mem_cons_of_mem _ hw)]
  split
  ·have:x≠n:=by rintro rfl;exact h v List.mem_cons_self
   simp [this]
  ·rfl
theorem zin {kindOf:Str->Option NameKind} {x:Str}:∀ {binds:List (Str × Value)} {m:Str->Option Value},(∀ v,(x,v) ∉ binds)->bindC kindOf binds m x=m x
 | [],_,_=>rfl
 | (n,v)::r,m,h=>by
  unfold bindC
  rw[zin fun w hw=>h w (List.mem_cons_of_mem _ hw)]
  split
  ·rfl
  ·have:x≠n:=by rintro rfl;exact h v List.mem_cons_self
   simp [this]
theorem zim {kindOf:Str->Option NameKind} {x:Str} {v:Value}:∀ {P:List Str} {vs:List Value} {i:Nat} {m:Str->Option Value},P.Nodup->P[i]?=some x->vs[i]?=some v->kindOf x=some .local ->
  bindL kindOf (P.zip vs) m x=some v
 | [],_,_,_,_,h,_,_=>by simp at h
 | _::_,[],_,_,_,_,h,_=>by simp at h
 | p::P,w::vs,0,m,nd,h1,h2,hk=>by
  simp at h1 h2;subst h1;subst h2
  show bindL kindOf ((p,w)::P.zip vs) m p=_
  unfold bindL
  rw[zil fun v hv=>(List.nodup_cons.mp nd).1 (List.of_mem_zip hv).1,if_pos hk]
  simp
 | p::P,w::vs,i + 1,m,nd,h1,h2,hk=>by
  show bindL kindOf ((p,w)::P.zip vs) m x=_
  unfold bindL
  exact zim (i:=i) (List.nodup_cons.mp nd).2 (by simpa using h1) (by simpa using h2) hk
theorem zio {kindOf:Str->Option NameKind} {x:Str} {v:Value}:∀ {P:List Str} {vs:List Value} {i:Nat} {m:Str->Option Value},P.Nodup->P[i]?=some x->vs[i]?=some v->kindOf x≠some .local ->
  bindC kindOf (P.zip vs) m x=some v
 | [],_,_,_,_,h,_,_=>by simp at h
 | _::_,[],_,_,_,_,h,_=>by simp at h
 | p::P,w::vs,0,m,nd,h1,h2,hk=>by
  simp at h1 h2;subst h1;subst h2
  show bindC kindOf ((p,w)::P.zip vs) m p=_
  unfold bindC
  rw[zin fun v hv=>(List.nodup_cons.mp nd).1 (List.of_mem_zip hv).1,if_neg hk]
  simp
 | p::P,w::vs,i + 1,m,nd,h1,h2,hk=>by
  show bindC kindOf ((p,w)::P.zip vs) m x=_
  unfold bindC
  exact zio (i:=i) (List.nodup_cons.mp nd).2 (by simpa using h1) (by simpa using h2) hk
/-- the names' values at the entry -/
def start (N:List Str) (vs:List V):St:=vs.map some++List.replicate (N.length - vs.length) none
/-- the context of a def's body, at its entry; an exception leaves the frame, then lies as CX says -/
def cxOf (CX:CXT) (P:Program) (w:World) (K:PySem.W.Frag) (mg:Str->Option Value) (base:Heap) (N:List Str) (qual:Str) (scope:Scope) (f:Addr) (cd:Value) (A:Around) (outer:List Env) (s:Shared) (H:Hp) (E:XK):Cx where
 prog:=P
 w:=w
 K:=K
 mg:=mg
 base:=base
 A:=A.deeper (envOfC qual scope s.heap.objs.size f cd)
 N:=N
 s₀:=s
 H₀:=H
 env:=envOfC qual scope s.heap.objs.size f cd
 outer:=outer
 stack:=envOfC qual scope s.heap.objs.size f cd::outer
 ex:=[]
 calm:=true
 fn:=fun _=>true
 pn:=[]
 xe:=fun e s'=>wpAny (model P w) (A.deeper (envOfC qual scope s.heap.objs.size f cd)) (leaving (envOfC qual scope s.heap.objs.size f cd) e) (fun _ s''=>CX outer H s E e s'') (fun e' s''=>CX outer H s E e' s'') s'
theorem zk1 {sc:Scope} {n:Nat} {x:Str} (h:sc.names.lookup x=some .cell):∃ c,(cellsFrom n sc.names []).lookup x=some c:=by
 have q:=PySem.W.cellsFrom_some sc.names n [] (.inl h)
 exact Option.isSome_iff_exists.mp q
theorem znw {CX:CXT} {P:Program} {w:World} {K:PySem.W.Frag} {mg:Str->Option Value} {base:Heap} {N ps:List Str} {qual:Str} {scope:Scope} {f:Addr} {cd:Value} {A:Around} {outer:List Env} {s s1:Shared} {H:Hp} {E:XK} {us:List Value} {vs:List V}
  (S:FnScope N ps scope) (hd:A.handled=none) (e0:Env0 P w K mg base A outer s H) (hl:vs.length=ps.length) (r:Vals vs us)
  (x:InCallC s s.heap.objs.size (bindL (envOfC qual scope s.heap.objs.size f cd).kindOf (ps.zip us) fun _=>none) (cellsFrom (s.heap.objs.size + 1) scope.names []) (bindC (envOfC qual scope s.heap.objs.size f cd).kindOf (ps.zip us) fun _=>none) s1) :
  Inv (cxOf CX P w K mg base N qual scope f cd A outer s H E) [] (start N vs) H s1:=by
 have hpl:ps.length≤N.length:=by have:=congrArg List.length S.pre;rw[List.length_take] at this;omega
 obtain⟨h1,tk,rfl,hk⟩:=x.done
 have noA:∀ b:Addr,b ∉ (cxOf CX P w K mg base N qual scope f cd A outer s H E).ex:=fun b z=>absurd (show b ∈ ([]:List Addr) from z) (by simp)
 refine⟨⟨e0.mod,S.kind,rfl,rfl,Nat.le_refl _,fun y z c h1 h2=>?_,fun y hy=>?_,fun y c _ h=>?_,fun _=>hd,Around.frames_deeper e0.frames,.inr ⟨rfl,rfl⟩,fun b z=>absurd z (noA b),e0.bs,e0.bsz,fun b _ _=>noA b,fun b z=>absurd z (noA b),e0.funs,e0.frf⟩,
  rfl,e0.bare,Un.kept hk,⟨_,x.toInCall.ns,fun i y v h1 h2 h3=>?_⟩,fun y c h=>⟨_,x.cell y c h⟩,e0.hok.fresh (Nat.le_refl _),fun y c h=>?_,fun p hp=>absurd (show p ∈ ([]:List (Addr × Obj)) from hp) (by simp),e0.hok.kept hk,?_⟩
 ·exact name_of_addr x.apart (PySem.mem_of_lookup h1) (PySem.mem_of_lookup h2)
 ·have hy:scope.names.lookup y=some .cell∨scope.names.lookup y=some .free:=hy
  rcases hy with hy | hy
  ·exact zk1 hy
  ·exact absurd rfl (S.nofree _ (PySem.mem_of_lookup hy))
 ·exact Nat.le_of_lt (x.above y c (PySem.mem_of_lookup h))
 ·have hi:i < vs.length:=by
   unfold start at h2
   by_cases hi:i < vs.length
   ·exact hi
   ·rw[List.getElem?_append_right (by simpa using hi)] at h2
    rw[List.getElem?_replicate] at h2
    split at h2 <;> cases h2
  have ha:vs[i]?=some v:=by
   unfold start at h2
   rw[List.getElem?_append_left (by simpa using hi),List.getElem?_map] at h2
   cases e:vs[i]? with
   | none=>rw[e] at h2;cases h2
   | some a=>rw[e] at h2;cases h2;rfl
  obtain⟨u,hu,rv⟩:=r.get ha
  have hp:ps[i]?=some y:=by
   rw[← S.pre,List.getElem?_take_of_lt (by omega)];exact h1
  have ndP:ps.Nodup:=by rw[← S.pre];exact S.nd.sublist (List.take_sublist _ _)
  refine⟨u,rv,?_⟩
  rcases S.par y (List.mem_of_getElem? hp) with k | k
  ·exact .inl ⟨k,zim ndP hp hu k⟩
  ·obtain⟨c,e⟩:=zk1 (n:=s.heap.objs.size + 1) k
   refine .inr ⟨.inl k,c,e,?_⟩
   have q:=x.cell y c e
   rw[zio ndP hp hu (by show scope.names.lookup y≠_;rw[k];decide)] at q
   exact q
 ·exact e0.hok.fresh (Nat.le_of_lt (x.above y c (PySem.mem_of_lookup h)))
 ·unfold start
  show _=N.length
  rw[List.length_append,List.length_map,List.length_replicate]
  omega
/-- THE RULE: a def (or a method) of the text, by its body. The body's reading t is chosen for each entry; it is run at the parameters' values -/
theorem zs5 {CX:CXT} {P:Program} {w:World} {K:PySem.W.Frag} {mg:Str->Option Value} {base:Heap} {k:Nat} {f:Addr} {name qual:Str} {params:Arguments} {body:List Stmt} {scope:Scope} {dV kV doc pm cdv ct oc:Value} {an od:Option Addr}
  {osl:Array (Option Value)} {N ps:List Str} {sp:Sp} (lk:K.lookup f=some ⟨oc,od,.func (PySem.W.fnOf name qual params body scope dV kV doc pm an cdv ct),osl⟩) (hcd:PySem.W.codeIn K cdv qual=true) (S:FnScope N ps scope)
  (len:∀ vs H Q E,sp vs H Q E->vs.length=ps.length)
  (hbody:∀ (A:Around) (outer:List Env) (s:Shared) (H:Hp) (vs:List V) (Q:VK) (E:XK),Room k (A.deeper (envOfC qual scope s.heap.objs.size f cdv))->sp vs H Q E ->
   ∃ t,PSs (cxOf CX P w K mg base N qual scope f cdv A outer s H E) body t∧t { nx:=fun _ H'=>Q .non H',rt:=Q } (start N vs) H) :
  FnOk P w K mg base CX (k + 1) f (PySem.W.fnOf name qual params body scope dV kV doc pm an cdv ct) ps sp:=by
 refine⟨len,fun A outer s H args us vs Q E hr e0 hb r hsp=>?_⟩
 have hl:=len _ _ _ _ hsp
 have KX:K.In s.heap:=e0.mod.kin.keeps fun b o e=>(e0.bs b o e).1
 have lim:s.heap.NoLimit:=e0.mod.nolimit.keeps fun b o e=>(e0.bs b o e).1
 have hkind:∀ y ∈ ps.zip us,scope.names.lookup y.1=some .local∨(scope.names.lookup y.1=some .cell∧((cellsFrom (s.heap.objs.size + 1) scope.names []).lookup y.1).isSome=true):=fun ⟨n,v⟩ hy=>by
  rcases S.par n (List.of_mem_zip hy).1 with q | q
  ·exact .inl q
  ·exact .inr ⟨q,PySem.W.cellsFrom_some _ _ _ (.inl q)⟩
 refine codeAny_call_function hr.depth (KX _ _ lk) rfl S.co S.gen rfl (PySem.W.codeRec_of KX hcd) (hb _ _ _ _ ?_)
 refine wpAny_newFunctionEnv_cells S.kind hkind fun env he s1 x=>?_
 subst he
 refine⟨lim.keeps x.toInCall.keep,codeAny_func ?_⟩
 obtain⟨t,ht,hq⟩:=hbody A outer s H vs Q E (hr.deeper _) hsp
 have I:Inv (cxOf CX P w K mg base N qual scope f cdv A outer s H E) [] (start N vs) H s1:=znw S hr.hd e0 hl r x
 refine wpAny_mono (ht [] s1 (start N vs) H _ I hq) (fun fl s' hs=>?_) fun e s' hs=>hs
 have fin:∀ {σ':St} {H':Hp} {v:V} {u:Value},Inv (cxOf CX P w K mg base N qual scope f cdv A outer s H E) [] σ' H' s'->RelV v u->Q v H'->CE outer P w H s Q u s' :=
  fun {σ' H' v u} J rv q=>⟨v,H',J.os,J.bare,J.base,J.hok,rv,q⟩
 cases fl with
 | ret u =>
  obtain⟨v,σ',H',J,rv,q⟩:=hs
  exact fin J rv q
 | next =>
  obtain⟨σ',H',J,q⟩:=hs
  exact fin (v:=V.non) (u:=Value.none) J rfl q
 | brk =>
  obtain⟨_,_,_,q⟩:=hs
  exact False.elim q
 | cont =>
  obtain⟨_,_,_,q⟩:=hs
  exact False.elim q
end L2
namespace L2
open PySem PySem.Spec PyProof.Rows
section
variable {X:Cx} {x:Str} {p pos:Pos} {e:Expr} {es:List Expr} {t:TA} {id T:String} {r:List V->Hp->VK->Prop}
def tCB (r:List V->Hp->VK->Prop) (t:TA):TE:=fun σ H Q=>t σ H fun vs H1=>r vs H1 Q
/-- f(e, ..), f a built-in function -/
theorem zam (hc:CallR X (.builtin id) r) (hg:Gl X x) (hm:X.mg x=none) (hv:bootBuiltins x=some (.builtin id)) (ha:PA X (e::es) t) (hn:x≠"__name__":=by decide) (hdb:(x == ("__debug__":Str))=false:=by decide)
  (he:starEach (e::es) X.env=(false,eval e X.env)::starEach es X.env:=by rfl) (hpl:(backTo pos (starEach es X.env)).any (·.1)=false:=by rfl):PE X (.Call (.Name x p) (e::es) [] pos) (tCB r t):=by
 intro pins s σ H Q I h
 refine wpAny_Call_Name_kw (zdw I hg hm hv ?_ hn hdb)
 exact PyProof.Rows.callWith_builtin1 (thn (ha pos pins s σ H _ I h) fun us s1 ⟨vs,H1,I1,r1,q1⟩=>hc pins s1 σ H1 vs us Q I1 r1 q1) he hpl
/-- T(e, ..), T a built-in type -/
theorem zas (hc:CallR X (.type T) r) (hg:Gl X x) (hm:X.mg x=none) (hv:bootBuiltins x=some (.type T)) (ha:PA X (e::es) t) (hn:x≠"__name__":=by decide) (hdb:(x == ("__debug__":Str))=false:=by decide)
  (he:starEach (e::es) X.env=(false,eval e X.env)::starEach es X.env:=by rfl) (hpl:(backTo pos (starEach es X.env)).any (·.1)=false:=by rfl):PE X (.Call (.Name x p) (e::es) [] pos) (tCB r t):=by
 intro pins s σ H Q I h
 refine wpAny_Call_Name_kw (zdw I hg hm hv ?_ hn hdb)
 exact PyProof.Rows.callWith_type1 (thn (ha pos pins s σ H _ I h) fun us s1 ⟨vs,H1,I1,r1,q1⟩=>hc pins s1 σ H1 vs us Q I1 r1 q1) he hpl
end
end L2
namespace HT
open PySem PyProof.Rows
/-- t < u of tuples of ints -/
def lexLt:List Int->List Int->Bool
 | [],[]=>false
 | [],_::_=>true
 | _::_,[]=>false
 | x::xs,y::ys=>if x=y then lexLt xs ys else decide (x < y)
theorem zls (x y:Int) (xs ys:List Int):lexLt (x::xs) (y::ys)=if x=y then lexLt xs ys else decide (x < y):=rfl
theorem zgp:lexLt [] []=false:=rfl
theorem zfj (y:Int) (ys:List Int):lexLt [] (y::ys)=true:=rfl
theorem zfk (x:Int) (xs:List Int):lexLt (x::xs) []=false:=rfl
theorem zpl (A:Around) (s:Shared) (a:Int) (t:Tok) (c:Int) (u:Tok):∃ e,SeqAt.EqAt A s (.int a t) (.int c u) e∧(e=true↔a=c) :=
 ⟨(a == c),SeqAt.EqAt.int_int a t c u,by simp⟩
theorem zo4 (A:Around) (s:Shared) (a:Int) (t:Tok) (c:Int) (u:Tok) (prog:Program) (w:World) (E:Value->Shared->Prop) (Q:Value->Shared->Prop) (h:Q (.bool (decide (a < c))) s) :
  wpAny (model prog w) A (richCompare .Lt (.int a t) (.int c u)) Q E s :=
 (PyProof.Rows.lt_int h:wpAny (model prog w) A (compareOp .Lt (.int a t) (.int c u)) Q E s)
section
open PySem.SeqAt
open PySem.AutoSeq1 (wpAny_loadPart')
open PySem.MeetsSeq PySem.MeetsSeq2 PySem.MeetsSeq3
theorem zf7 (l b:Addr) (items items2:Array Value) (n n2:Nat) (dd dd2:Option Addr) (sl sl2:Array (Option Value)) (ns ms:List Int) (hi:IntsAre items.toList ns) (hj:IntsAre items2.toList ms) :
  Meets (Builtin.«tuple.__lt__» ⟨[.ref l,.ref b],[]⟩)
   (fun _ R s=>s.heap.get? l=some { cls:=.type "tuple",dict:=dd,data:=.seq items n,slots:=sl }∧s.heap.get? b=some { cls:=.type "tuple",dict:=dd2,data:=.seq items2 n2,slots:=sl2 } ∧
    R (.ok (.ret (.bool (lexLt ns ms)))) s) :=
 .of_wp fun prog w A R s h=>by
  obtain⟨hp,g,d,tk,os⟩:=s;obtain⟨hl,hb,h⟩:=h
  have f2:=AutoSeq1.sub_tuple_tuple
  have z1:items.size=ns.length:=by rw[← hi.length];simp
  have z2:items2.size=ms.length:=by rw[← hj.length];simp
  wp_walk using wpAny_loadPart' hl,wpAny_loadPart' hb,wpAny_forIn_list _ (fun rest b s'=>b.1=none∧s'=⟨hp,g,d,tk,os⟩∧∃ (vs ws:List Value) (ns' ms':List Int),rest=vs.zip ws ∧
   IntsAre vs ns'∧IntsAre ws ms'∧ns'.length + items2.size=ms'.length + items.size∧R (.ok (.ret (.bool (lexLt ns' ms')))) ⟨hp,g,d,tk,os⟩) _
  case turn =>
   rintro ⟨y,x⟩ rest b s' ⟨hb',rfl,vs,ws,ns',ms',hz,hvi,hwi,hlen,hR⟩
   cases hvi with
   | nil=>rw[List.zip_nil_left] at hz;cases hz
   | cons a t hvi' =>
    cases hwi with
    | nil=>rw[List.zip_nil_right] at hz;cases hz
    | cons c u hwi' =>
     rw[List.zip_cons_cons] at hz
     injection hz with hyx hrest
     injection hyx with hy hx
     subst hy hx
     rw[zls] at hR
     simp only [List.length_cons] at hlen
     obtain⟨e,he,hiff⟩:=zpl A.in1 ⟨hp,g,d,tk,os⟩ a t c u
     refine wpAny_bind (he prog w _ _ ?_)
     cases e with
     | true =>
      rw[if_pos (hiff.mp rfl)] at hR
      wp_walk
      exact⟨rfl,rfl,_,_,_,_,hrest,hvi',hwi',by omega,hR⟩
     | false =>
      rw[if_neg (fun q=>absurd (hiff.mpr q) Bool.false_ne_true)] at hR
      have hri:=zo4 A.in1 ⟨hp,g,d,tk,os⟩ a t c u prog w
      wp_walk using hri
      exact⟨_,rfl,by simpa using hR⟩
  case fin =>
   rintro ⟨b1,b2⟩ s' ⟨hb',rfl,vs,ws,ns',ms',hz,hvi,hwi,hlen,hR⟩
   simp only at hb'
   subst hb'
   have hv:lexLt ns' ms'=decide (items.size < items2.size):=by
    cases hvi with
    | nil =>
     cases hwi with
     | nil =>
      simp only [List.length_nil] at hlen
      rw[zgp]
      exact (decide_eq_false (by omega)).symm
     | cons c u hw =>
      simp only [List.length_nil,List.length_cons] at hlen
      rw[zfj]
      exact (decide_eq_true (by omega)).symm
    | cons a t hv =>
     cases hwi with
     | nil =>
      simp only [List.length_nil,List.length_cons] at hlen
      rw[zfk]
      exact (decide_eq_false (by omega)).symm
     | cons c u hw =>
      rw[List.zip_cons_cons] at hz
      cases hz
   rw[hv] at hR
   wp_walk
   exact⟨_,rfl,by simpa [Builtin.Tuple.tupleCompareSizes] using hR⟩
  case h =>
   exact⟨rfl,rfl,items.toList,items2.toList,ns,ms,rfl,hi,hj,by omega,h⟩
end
section
variable {prog:Program} {w:World} {A:Around} {E:Value->Shared->Prop} {s:Shared}
theorem zlr {l b:Addr} {items items2:Array Value} {ns ms:List Int} {Q:Value->Shared->Prop} (hl:IsTup s.heap l items) (hb:IsTup s.heap b items2) (hi:IntsAre items.toList ns) (hj:IntsAre items2.toList ms)
  (hu:A.units < cLine) (h:Q (.bool (lexLt ns ms)) s):wpAny (model prog w) A (compareOp .Lt (.ref l) (.ref b)) Q E s:=by
 obtain⟨⟨cls,dd,data,sl⟩,ho,hc,n,hd⟩:=id hl
 obtain⟨⟨cls2,dd2,data2,sl2⟩,ho2,hc2,n2,hd2⟩:=id hb
 simp only at hc hd hc2 hd2
 subst hc hd hc2 hd2
 exact richCompare_meets_room (op:=.Lt) ⟨_,ho,rfl⟩ ⟨_,ho2,rfl⟩ PySem.F.slot_tuple_lt PySem.F.entry_tuple_lt (PySem.F.args_tuple_lt_2 _ _) (zf7 l b items items2 n n2 dd dd2 sl sl2 ns ms hi hj)
  ⟨ho,ho2,show Value.bool (lexLt ns ms)≠Value.notImplemented∧Q (.bool (lexLt ns ms)) s from ⟨(fun x=>nomatch x),h⟩⟩ hu
/-- t + u, t not empty -/
theorem zrq {t b:Addr} {vs ws:List Value} {Q:Value->Shared->Prop} (ht:IsTup s.heap t vs.toArray) (hb:IsTup s.heap b ws.toArray) (hv:vs≠[])
  (h1:ws=[]->Q (.ref t) s) (h2:ws≠[]->Q (.ref s.heap.objs.size) { s with heap:=s.heap.push { cls:=.type "tuple",data:=.seq (vs++ws).toArray } })
  (hsz:vs.length + ws.length≤sizeLine):wpAny (model prog w) A (binaryOp .Add (.ref t) (.ref b)) Q E s:=by
 obtain⟨⟨cls,dd,data,sl⟩,ho,hc,n,hd⟩:=id ht
 obtain⟨⟨cls2,dd2,data2,sl2⟩,ho2,hc2,n2,hd2⟩:=id hb
 simp only at hc hd hc2 hd2
 subst hc hd hc2 hd2
 have e:vs.toArray++ws.toArray=(vs++ws).toArray:=by simp
 by_cases hw:ws=[]
 ·exact concat_meets ⟨_,ho,rfl⟩ ⟨_,ho2,rfl⟩ noFill_tuple_add seq_tuple_add PySem.F.slot_tuple_add PySem.F.entry_tuple_add (PySem.F.args_tuple_add_2 _ _)
   (tuple_addW1 t b vs.toArray ws.toArray n n2 dd dd2 sl sl2 (by simpa using hv) (by simp [hw])) ⟨ho,ho2,h1 hw⟩
 ·refine concat_meets ⟨_,ho,rfl⟩ ⟨_,ho2,rfl⟩ noFill_tuple_add seq_tuple_add PySem.F.slot_tuple_add PySem.F.entry_tuple_add (PySem.F.args_tuple_add_2 _ _)
   (tuple_addW2 t b vs.toArray ws.toArray n n2 dd dd2 sl sl2 (by simpa using hv) (by simpa using hw) (by rw[List.size_toArray,List.size_toArray];exact hsz)) ⟨ho,ho2,?_⟩
  rw[e]
  exact h2 hw
/-- a slice's bound as a place among n (d where it is left out) -/
def sIx (n d:Nat):Option Int->Nat
 | none=>d
 | some v=>if v < 0 then (v + (n:Int)).toNat else min v.toNat n
theorem zr3 (n d:Nat) (hd:d≤n) (o:Option Int):sIx n d o≤n:=by
 cases o with
 | none=>exact hd
 | some v =>
  show (if v < 0 then (v + (n:Int)).toNat else min v.toNat n)≤n
  by_cases hv:v < 0
  ·rw[if_pos hv];omega
  ·rw[if_neg hv];exact Nat.min_le_right _ _
theorem zoa (v:Int) (n d:Nat):(if v < 0 then max (v + (n:Int)) 0 else min v (n:Int))=((sIx n d (some v):Nat):Int):=by
 show (if v < 0 then max (v + (n:Int)) 0 else min v (n:Int))=(((if v < 0 then (v + (n:Int)).toNat else min v.toNat n):Nat):Int)
 by_cases hv:v < 0
 ·simp only [if_pos hv];omega
 ·simp only [if_neg hv];omega
theorem zl8 (lo hi:Option Int) (n:Nat):Builtin.Slice.sliceAdjust lo hi 1 (n:Int)=(((sIx n 0 lo:Nat):Int),((sIx n n hi:Nat):Int)):=by
 have h1:¬ ((1:Int) < 0):=by omega
 unfold Builtin.Slice.sliceAdjust
 simp only [h1,if_false]
 refine Prod.ext ?_ ?_
 ·cases lo with
  | none=>rfl
  | some v=>exact zoa v n 0
 ·cases hi with
  | none=>rfl
  | some v=>exact zoa v n n
theorem zlk (i j:Nat):Builtin.Slice.slicePlaces (i:Int) (j:Int) 1=j - i:=by
 unfold Builtin.Slice.slicePlaces
 have h1:(1:Int) > 0:=by omega
 simp only [h1,if_true,Int.ediv_one]
 split <;> omega
theorem zb6 {v:Value} {o:Option Int} {Q:Option Int->Shared->Prop} (p:IsPart v o) (h:Q o s):wpAny (model prog w) A (Builtin.Slice.slicePartIndex v) Q E s:=by
 cases p with
 | none=>exact slicePart_none h
 | int i t=>exact slicePart_int h
theorem zcf {sl:Addr} {vl vu:Value} {lo hi:Option Int} {n:Nat} {Q:Int × Int × Nat->Shared->Prop} (hs:s.heap.IsSliceOf sl vl vu .none) (pl:IsPart vl lo) (pu:IsPart vu hi)
  (h:Q (((sIx n 0 lo:Nat):Int),1,sIx n n hi - sIx n 0 lo) s):wpAny (model prog w) A (Builtin.Slice.sliceApplied (.ref sl) (pure (n:Int))) Q E s:=by
 obtain⟨os,hos,hcs,hds⟩:=id hs
 unfold Builtin.Slice.sliceApplied Builtin.Slice.sliceFields
 refine wpAny_bind (wpAny_bind (wpAny_field hos hds (x:=vl) rfl (wpAny_bind (wpAny_field hos hds (x:=vu) rfl (wpAny_bind (wpAny_field hos hds (x:=.none) rfl (wpAny_pure ?_)))))))
 refine wpAny_bind (slicePart_none ?_)
 show wpAny _ _ (if ((1:Int) == 0)=true then _ else _) _ _ s
 rw[if_neg (by decide)]
 refine wpAny_bind (zb6 pl (wpAny_bind (zb6 pu (wpAny_bind (wpAny_pure ?_)))))
 show wpAny _ _ (match Builtin.Slice.sliceAdjust lo hi 1 (n:Int) with | (lo,hi)=>pure (lo,(1:Int),Builtin.Slice.slicePlaces lo hi 1)) _ _ s
 rw[zl8 lo hi n]
 show wpAny _ _ (pure (((sIx n 0 lo:Nat):Int),(1:Int),Builtin.Slice.slicePlaces ((sIx n 0 lo:Nat):Int) ((sIx n n hi:Nat):Int) 1)) _ _ s
 rw[zlk]
 exact wpAny_pure h
theorem zo5 (xs:Array Value) (i k:Nat):((List.range k).filterMap fun (m:Nat)=>xs[((i:Int) + (m:Int) * 1).toNat]?).toArray=((xs.toList.drop i).take k).toArray:=by
 have e:(fun (m:Nat)=>xs[((i:Int) + (m:Int) * 1).toNat]?)=fun m=>xs[i + m]?:=by
  funext m
  have:((i:Int) + (m:Int) * 1).toNat=i + m:=by omega
  rw[this]
 rw[e]
 have:=pick_run xs i k
 rw[List.filterMap_map] at this
 have e2:((fun x=>xs[x]?) ∘ fun x=>i + x)=fun m=>xs[i + m]?:=rfl
 rw[e2] at this
 rw[this]
theorem zdm {t sl:Addr} {items:Array Value} {vl vu:Value} {lo hi:Option Int} {Q:Value->Shared->Prop} (ht:IsTup s.heap t items) (hs:s.heap.IsSliceOf sl vl vu .none) (pl:IsPart vl lo) (pu:IsPart vu hi)
  (hw:¬ (sIx items.size 0 lo=0∧sIx items.size items.size hi=items.size))
  (h:Q (.ref s.heap.objs.size) { s with heap:=s.heap.push { cls:=.type "tuple",data:=.seq ((items.toList.drop (sIx items.size 0 lo)).take (sIx items.size items.size hi - sIx items.size 0 lo)).toArray } })
  (hsz:items.size≤sizeLine):wpAny (model prog w) A (getItem (.ref t) (.ref sl)) Q E s:=by
 have htake:sizeOk (.seq ((items.toList.drop (sIx items.size 0 lo)).take (sIx items.size items.size hi - sIx items.size 0 lo)).toArray):=by
  show ((items.toList.drop (sIx items.size 0 lo)).take (sIx items.size items.size hi - sIx items.size 0 lo)).toArray.size≤sizeLine
  rw[List.size_toArray,List.length_take,List.length_drop,Array.length_toList]
  omega
 have hj:sIx items.size items.size hi≤items.size:=zr3 _ _ (Nat.le_refl _) hi
 obtain⟨os,hos,hcs,hds⟩:=id hs
 have hTs:s.TypeIs (.ref sl) "slice":=⟨os,hos,hcs⟩
 unfold getItem
 try with_reducible refine wpAny_holding ?_
 first | refine wpAny_bind (wpAny_pure ?_) | skip
 refine wpAny_bind (wpAny_sequenceKey ht.typeIs (by decide) ?_)
 refine wpAny_bind (wpAny_callSpecial?_slot (name:=Str.ofString "__getitem__") ht.typeIs PyProof.Rows.slot_tuple_getitem
  (wpAny_call_entry PyProof.Rows.slot_tuple_getitem ht.typeIs entry_tuple_getitem ?_ (args_tuple_getitem _ _)))
 show wpAny _ _ (Builtin.Tuple.tupleItemsOf (.ref t) >>= _) _ _ s
 refine wpAny_bind (tupleItemsOf_ ht ?_)
 refine wpAny_bind (wpAny_typeOf hTs ?_)
 rw[if_pos (by decide)]
 refine wpAny_bind (zcf hs pl pu ?_)
 have hno:¬ ((((sIx items.size 0 lo:Nat):Int) == 0 && (1:Int) == 1 && (sIx items.size items.size hi - sIx items.size 0 lo) == items.size)=true):=by
  intro q
  rw[Bool.and_eq_true,Bool.and_eq_true] at q
  have q1:((sIx items.size 0 lo:Nat):Int)=0:=eq_of_beq q.1.1
  have q2:sIx items.size items.size hi - sIx items.size 0 lo=items.size:=eq_of_beq q.2
  exact hw ⟨by omega,by omega⟩
 show wpAny _ _ (if (((sIx items.size 0 lo:Nat):Int) == 0 && (1:Int) == 1 && (sIx items.size items.size hi - sIx items.size 0 lo) == items.size)=true then _ else _) _ _ s
 rw[if_neg hno,zo5]
 first
  | exact wpAny_bind (m:=Builtin.Tuple.tupleExact _) (wpAny_newObj_type (wpAny_pure ⟨_,rfl,wpAny_pure h⟩) htake)
  | exact wpAny_bind (m:=Builtin.Tuple.tupleExact _) (wpAny_newObj_type (wpAny_bind (wpAny_pure (wpAny_pure ⟨_,rfl,wpAny_pure h⟩))) htake)
  | exact wpAny_bind (wpAny_bind (m:=Builtin.Tuple.tupleExact _) (wpAny_newObj_type (wpAny_pure (wpAny_pure ⟨_,rfl,wpAny_pure h⟩)) htake))
  | exact wpAny_bind (wpAny_bind (m:=Builtin.Tuple.tupleExact _) (wpAny_newObj_type (wpAny_pure ⟨_,rfl,wpAny_pure h⟩) htake))
end
end HT
namespace L2
open PySem PySem.Spec PyProof.Rows
abbrev TO:=St->Hp->(Option Int->Hp->Prop)->Prop
/-- a slice's part (left out, or an int) -/
def PO (X:Cx) (e:Option Expr) (t:TO):Prop :=
 ∀ (pins:List (Addr × Obj)) (s:Shared) (σ:St) (H:Hp) (Q:Option Int->Hp->Prop),Inv X pins σ H s->t σ H Q ->
  wpAny (model X.prog X.w) X.A (evalPart e X.env) (fun u s'=>∃ o H',Inv X pins σ H' s'∧IsPart u o∧Q o H') X.xe s
def tNoPart:TO:=fun _ H Q=>Q none H
def tPart (t:TE):TO:=fun σ H Q=>t σ H fun x H1=>∃ i,x=.int i∧Q (some i) H1
theorem zbm {ns:List Int}:∀ {us:List Value},Vals (ns.map V.int) us->IntsAre us ns:=by
 induction ns with
 | nil=>intro us r;rw[List.map_nil] at r;cases r;exact .nil
 | cons n ns ih =>
  intro us r
  rw[List.map_cons] at r
  cases r with
  | cons r1 r2 =>
   obtain⟨t,e⟩:=r1
   subst e
   exact .cons n t (ih r2)
section
variable {X:Cx} {e:Expr} {te:TE} {lo hi:Option Expr} {tl th:TO} {pos p2:Pos}
theorem zbe:PO X none tNoPart:=by
 intro pins s σ H Q I h
 rw[evalPart_none]
 exact wpAny_pure ⟨none,H,I,.none,h⟩
theorem zbk (h:PE X e te):PO X (some e) (tPart te):=by
 intro pins s σ H Q I hw
 rw[evalPart_some]
 refine thn (h pins s σ H _ I hw) fun u s1 ⟨x,H1,I1,r1,q1⟩=>?_
 obtain⟨i,rfl,q⟩:=q1
 obtain⟨t,rfl⟩:=r1
 exact⟨some i,H1,I1,.int i t,q⟩
/-- what a slice of a value is, by values: the slice object stands at sl -/
def SlR (X:Cx) (r:V->Option Int->Option Int->Hp->VK->Prop):Prop :=
 ∀ (pins:List (Addr × Obj)) (s:Shared) (σ:St) (H:Hp) (x:V) (v vl vu:Value) (lo hi:Option Int) (sl:Addr) (Q:VK),Inv X pins σ H s->RelV x v->s.heap.IsSliceOf sl vl vu .none->IsPart vl lo->IsPart vu hi->r x lo hi H Q ->
  ∃ T id,typeLookup (.type T) "__getitem__"=pure (some (.builtin id))∧s.TypeIs v T∧wpAny (model X.prog X.w) X.A (getItem v (.ref sl)) (EP X pins σ Q) X.xe s
def tSl (r:V->Option Int->Option Int->Hp->VK->Prop) (te:TE) (tl th:TO):TE:=fun σ H Q=>te σ H fun x H1=>tl σ H1 fun l H2=>th σ H2 fun u H3=>r x l u H3 Q
/-- a[lo:hi], any a -/
theorem za9 {r:V->Option Int->Option Int->Hp->VK->Prop} (hr:SlR X r) (he:PE X e te) (hl:PO X lo tl) (hu:PO X hi th):PE X (.Subscript e (.Slice lo hi none p2) pos) (tSl r te tl th):=by
 intro pins s σ H Q I h
 refine Subscript_ (thn (he pins s σ H _ I h) fun v s1 ⟨x,H1,I1,r1,q1⟩=>?_)
 refine wpAny_Slice (thn (hl pins s1 σ H1 _ I1 q1) fun vl s2 ⟨l,H2,I2,pl,q2⟩=>thn (hu pins s2 σ H2 _ I2 q2) fun vu s3 ⟨u,H3,I3,pu,q3⟩=>?_)
 rw[evalPart_none]
 refine wpAny_pure ?_
 have I4:Inv X pins σ H3 { s3 with heap:=s3.heap.push { cls:=.type "slice",data:=.fields #[vl,vu,.none] } }:=I3.kept (t':=s3.toks) fun b ob q=>Heap.get?_push_of_some _ q
 obtain⟨T,id,hT,ht,hg⟩:=hr pins { s3 with heap:=s3.heap.push { cls:=.type "slice",data:=.fields #[vl,vu,.none] } } σ H3 x v vl vu l u s3.heap.objs.size Q I4 r1 (Heap.IsSliceOf.new ..) pl pu q3
 show wpAny (model X.prog X.w) X.A (subscriptTail e (.Slice lo hi none p2) v (.ref s3.heap.objs.size)) (EP X pins σ Q) X.xe { s3 with heap:=s3.heap.push { cls:=.type "slice",data:=.fields #[vl,vu,.none] } }
 exact tail_any (ops:=[.ref s3.heap.objs.size,v]) ht hT hg (by with_unfolding_all rfl)
/-- the items of xs[lo:hi] -/
def cutV (xs:List V) (lo hi:Option Int):List V:=(xs.drop (HT.sIx xs.length 0 lo)).take (HT.sIx xs.length xs.length hi - HT.sIx xs.length 0 lo)
theorem zjv (xs:List V) (lo hi:Option Int):(cutV xs lo hi).length≤xs.length:=by
 unfold cutV
 rw[List.length_take,List.length_drop]
 omega
/-- t[lo:hi], not the whole of it (the whole would be t itself) -/
def rSlT (K:PySem.W.Frag):V->Option Int->Option Int->Hp->VK->Prop:=fun x lo hi H Q=>∃ a xs,x=.ref a∧SqT K H a xs ∧
 ¬ (HT.sIx xs.length 0 lo=0∧HT.sIx xs.length xs.length hi=xs.length)∧∀ p,H p=none->Q (.ref p) (upd H p (.tup (cutV xs lo hi)))
theorem zr1:SlR X (rSlT X.K):=by
 intro pins s σ H x v vl vu lo hi sl Q I rx hs pl pu h
 obtain⟨a,xs,rfl,hx,hw,q⟩:=h
 cases rx
 obtain⟨its,r,ht,hz⟩:=I.tuple hx
 have hlen:its.toArray.size=xs.length:=by rw[List.size_toArray];exact r.length.symm
 refine⟨"tuple",_,PyProof.Rows.slot_tuple_getitem.lookup,ht.typeIs,?_⟩
 refine HT.zdm ht hs pl pu (by rw[hlen];exact hw) ?_ (by rw[hlen];exact hz)
 rw[hlen]
 refine⟨.ref s.heap.objs.size,_,I.laid (t':=s.toks) (o:=.tup (cutV xs lo hi)) (fun b ob q=>Heap.get?_push_of_some _ q) (Nat.le_refl _) ?_,rfl,q _ (I.hok.fresh (Nat.le_refl _))⟩
 exact⟨Nat.le_trans (zjv xs lo hi) hz,_,(r.drop (HT.sIx xs.length 0 lo)).take (HT.sIx xs.length xs.length hi - HT.sIx xs.length 0 lo),TupN.new _ _⟩
def rLtT (K:PySem.W.Frag):R2:=fun x y H Q=>∃ a b ns ms,x=.ref a∧y=.ref b∧SqT K H a (ns.map V.int)∧SqT K H b (ms.map V.int)∧Q (.bl (HT.lexLt ns ms)) H
theorem zsd (hu:X.A.units < cLine):OpR X (compareOp .Lt) (rLtT X.K):=by
 intro pins s σ H x y v u Q I rx ry h
 obtain⟨a,b,ns,ms,rfl,rfl,ha,hb,q⟩:=h
 cases rx
 cases ry
 obtain⟨its,r1,p1,_⟩:=I.tuple ha
 obtain⟨its2,r2,p2,_⟩:=I.tuple hb
 have i1:IntsAre its.toArray.toList ns:=zbm r1
 have i2:IntsAre its2.toArray.toList ms:=zbm r2
 exact HT.zlr p1 p2 i1 i2 hu ⟨.bl (HT.lexLt ns ms),H,I,rfl,q⟩
/-- t + u, t not empty: u empty gives t itself -/
def rCatT (K:PySem.W.Frag):R2:=fun x y H Q=>∃ a b xs ys,x=.ref a∧y=.ref b∧SqT K H a xs∧SqT K H b ys∧xs≠[]∧xs.length + ys.length≤sizeLine ∧
 (ys=[]->Q (.ref a) H)∧(ys≠[]->∀ p,H p=none->Q (.ref p) (upd H p (.tup (xs++ys))))
theorem Vals.nil_iff {xs:List V} {us:List Value} (r:Vals xs us):us=[]↔xs=[]:=by
 cases r with
 | nil=>simp
 | cons _ _=>simp
theorem zrb:OpR X (binaryOp .Add) (rCatT X.K):=by
 intro pins s σ H x y v u Q I rx ry h
 obtain⟨a,b,xs,ys,rfl,rfl,ha,hb,hx,hz,q1,q2⟩:=h
 cases rx
 cases ry
 obtain⟨its,r1,p1,_⟩:=I.tuple ha
 obtain⟨its2,r2,p2,_⟩:=I.tuple hb
 refine HT.zrq p1 p2 (fun z=>hx (r1.nil_iff.mp z)) (fun z=>⟨.ref a,H,I,rfl,q1 (r2.nil_iff.mp z)⟩) (fun z=>?_) (by rw[← r1.length,← r2.length];exact hz)
 refine⟨.ref s.heap.objs.size,_,I.laid (t':=s.toks) (o:=.tup (xs++ys)) (fun b ob q=>Heap.get?_push_of_some _ q) (Nat.le_refl _) ?_,rfl,q2 (fun w=>z (r2.nil_iff.mpr w)) _ (I.hok.fresh (Nat.le_refl _))⟩
 exact⟨by rw[List.length_append];exact hz,_,r1.append r2,TupN.new _ _⟩
end
end L2
namespace L2
open PySem PySem.Spec PyProof.Rows
/-- the place that an index of any sign means -/
def ixN (n:Nat) (i:Int):Option Nat:=if 0≤i then (if i < n then some i.toNat else none) else if -(n:Int)≤i then some (i + n).toNat else none
def atI {α:Type} (xs:List α) (i:Int):Option α:=(ixN xs.length i).bind fun j=>xs[j]?
theorem zjo {n:Nat} {i:Int} {j:Nat} (h:ixN n i=some j):seqIndex? i n=some j∧j < n∧-(n:Int)≤i∧i < n:=by
 unfold ixN at h
 by_cases h0:0≤i
 ·rw[if_pos h0] at h
  by_cases h1:i < n
  ·rw[if_pos h1] at h
   have e:i.toNat=j:=Option.some.inj h
   exact⟨by rw[seqIndex_of h0 h1,e],by omega,by omega,h1⟩
  ·rw[if_neg h1] at h;cases h
 ·rw[if_neg h0] at h
  by_cases h1:-(n:Int)≤i
  ·rw[if_pos h1] at h
   have e:(i + n).toNat=j:=Option.some.inj h
   exact⟨by rw[seqIndex_neg (by omega) h1,e],by omega,h1,by omega⟩
  ·rw[if_neg h1] at h;cases h
theorem zok {α:Type} {xs:List α} {i:Int} {v:α} (h:atI xs i=some v):∃ j,seqIndex? i xs.length=some j∧xs[j]?=some v∧j < xs.length∧-(xs.length:Int)≤i∧i < xs.length:=by
 unfold atI at h
 cases e:ixN xs.length i with
 | none=>rw[e] at h;cases h
 | some j =>
  rw[e] at h
  obtain⟨h1,h2,h3,h4⟩:=zjo e
  exact⟨j,h1,h,h2,h3,h4⟩
theorem zoj {α:Type} {xs:List α} {j:Nat} {v:α} (h:xs[j]?=some v):atI xs (j:Int)=some v:=by
 have hj:j < xs.length:=(List.getElem?_eq_some_iff.mp h).1
 have e:ixN xs.length (j:Int)=some j:=by
  unfold ixN
  rw[if_pos (by omega),if_pos (by omega)];simp
 unfold atI;rw[e];exact h
theorem zk5 {α:Type} (xs:List α) (v:α):atI (xs++[v]) (-1)=some v:=by
 have hl:(xs++[v]).length=xs.length + 1:=by simp
 have e:ixN (xs++[v]).length (-1)=some xs.length:=by
  unfold ixN
  rw[hl,if_neg (by decide),if_pos (by omega)]
  congr 1
  omega
 unfold atI
 rw[e]
 show (xs++[v])[xs.length]?=some v
 simp
/-- what stands as an index of a plain subscript -/
def PlainIx (b:Expr):Prop:=∀ o i,subscripted b false o i=operate [o,i] (getItem o i)
/-- a subscript by values -/
def IxR (X:Cx) (r:R2):Prop :=
 ∀ (value slice:Expr) (pins:List (Addr × Obj)) (s:Shared) (σ:St) (H:Hp) (x y:V) (v u:Value) (Q:VK),Inv X pins σ H s->RelV x v->RelV y u->r x y H Q ->
  subscripted slice false v u=operate [v,u] (getItem v u)->wpAny (model X.prog X.w) X.A (subscriptTail value slice v u) (EP X pins σ Q) X.xe s
/-- a call of a builtin's method by values: the receiver, the arguments -/
def MtR (X:Cx) (id:String) (r:V->List V->Hp->VK->Prop):Prop :=
 ∀ (pins:List (Addr × Obj)) (s:Shared) (σ:St) (H:Hp) (x:V) (xs:List V) (v:Value) (us:List Value) (Q:VK),Inv X pins σ H s->RelV x v->Vals xs us->r x xs H Q ->
  wpAny (model X.prog X.w) X.A (call (.builtin id) (v::us)) (EP X pins σ Q) X.xe s
section
variable {X:Cx} {a b:Expr} {ta tb:TE} {pos:Pos}
/-- a[b] -/
theorem zav {r:R2} (hr:IxR X r) (ha:PE X a ta) (hb:PE X b tb) (hs:PlainIx b):PE X (.Subscript a b pos) (tOp r ta tb):=by
 intro pins s σ H Q I h
 exact Subscript_ (binT ha hb I h fun v u s2 x y H2 I2 rx ry q=>hr a b pins s2 σ H2 x y v u Q I2 rx ry q (hs _ _))
def rIxL (K:PySem.W.Frag):R2:=fun x y H Q=>∃ p xs i v,x=.ref p∧y=.int i∧SqL K H p xs∧atI xs i=some v∧Q v H
def rIxT (K:PySem.W.Frag):R2:=fun x y H Q=>∃ p xs i v,x=.ref p∧y=.int i∧SqT K H p xs∧atI xs i=some v∧Q v H
theorem zay:IxR X (rIxL X.K):=by
 intro value slice pins s σ H x y v u Q I rx ry h hs
 obtain⟨p,xs,i,z,rfl,rfl,hq,he,q⟩:=h
 cases rx
 obtain⟨t,rfl⟩:=ry
 obtain⟨its,r,pl,hz⟩:=I.list hq
 obtain⟨j,h1,h2,h3,h4,h5⟩:=zok he
 obtain⟨w,ew,rw'⟩:=r.get h2
 have hl:=r.length
 have hn:=line63
 have fin:EP X pins σ Q w s:=⟨z,H,I,rw',q⟩
 by_cases h0:0≤i
 ·have hj:i.toNat=j:=by
   rw[seqIndex_of h0 h5] at h1
   exact Option.some.inj h1
  exact item_listR pl.isList h0 (by omega) (by rw[hj];simpa using ew) fin hs
 ·have hj:(i + (its.toArray.size:Int)).toNat=j:=by
   rw[seqIndex_neg (by omega) h4] at h1
   rw[List.size_toArray,← hl]
   exact Option.some.inj h1
  exact subscriptTail_builtinR (x:=w) pl.isList.typeIs slot_list_getitem.lookup
   (wpAny_getItem_list_neg (Q:=fun r s'=>r=w∧EP X pins σ Q r s') pl.isList (by omega) (by rw[List.size_toArray] <;> omega) (by omega) (by rw[hj];simpa using ew) ⟨rfl,fin⟩) hs
theorem zbc:IxR X (rIxT X.K):=by
 intro value slice pins s σ H x y v u Q I rx ry h hs
 obtain⟨p,xs,i,z,rfl,rfl,hq,he,q⟩:=h
 cases rx
 obtain⟨t,rfl⟩:=ry
 obtain⟨its,r,pl,hz⟩:=I.tuple hq
 obtain⟨j,h1,h2,h3,h4,h5⟩:=zok he
 obtain⟨w,ew,rw'⟩:=r.get h2
 have hl:=r.length
 have hn:=line63
 have fin:EP X pins σ Q w s:=⟨z,H,I,rw',q⟩
 exact subscriptTail_builtinR (x:=w) pl.typeIs slot_tuple_getitem.lookup
  (getItem_tuple (j:=j) (Q:=fun r s'=>r=w∧EP X pins σ Q r s') pl (by omega) (by omega) (by rw[List.size_toArray,← hl];exact h1) (by simpa using ew) ⟨rfl,fin⟩) hs
/-- the list's object behind a store -/
theorem zlq (its:List Value) (n j:Nat) (u:Value):Obj.mapSeq (·.setIfInBounds j u) { cls:=.type "list",data:=.seq its.toArray n }={ cls:=.type "list",data:=.seq (its.set j u).toArray n }:=by
 simp [Obj.mapSeq]
theorem Inv.lst {pins:List (Addr × Obj)} {σ:St} {H:Hp} {s:Shared} {p:Addr} {xs:List V} (I:Inv X pins σ H s) (h:H p=some (.lst xs)) :
  ∃ (its:List Value) (n:Nat),Vals xs its∧s.heap.get? p=some { cls:=.type "list",data:=.seq its.toArray n }∧xs.length≤sizeLine:=by
 obtain⟨z,its,n,r,e⟩:=I.hok p _ h
 exact⟨its,n,r,e,z⟩
/-- the list at p is written by an update of its object -/
theorem Inv.lstUpd {pins:List (Addr × Obj)} {σ:St} {H:Hp} {s:Shared} {p:Addr} {xs ys:List V} {its its':List Value} {n n':Nat} {f:Obj->Obj} (I:Inv X pins σ H s) (h:H p=some (.lst xs))
  (ho:s.heap.get? p=some { cls:=.type "list",data:=.seq its.toArray n }) (hf:f { cls:=.type "list",data:=.seq its.toArray n }={ cls:=.type "list",data:=.seq its'.toArray n' }) (r:Vals ys its') (hz:ys.length≤sizeLine) (t:Nat) :
  Inv X pins σ (upd H p (.lst ys)) { s with heap:=s.heap.update p f,toks:=t }:=by
 have e:(s.heap.update p f).get? p=some { cls:=.type "list",data:=.seq its'.toArray n' }:=by
  rw[Heap.get?_update_self f ho (by rw[hf] <;> rfl),hf]
 refine I.write (x:=p) (e:=p) (by rw[h];trivial) (.inl rfl) (fun b u hb q=>(Heap.get?_update_other _ _ (Ne.symm hb)).trans q) ⟨_,e⟩ ?_
 exact⟨hz,its',n',r,e⟩
def rSetL:V->V->V->Hp->(Hp->Prop)->Prop:=fun o i v H Q=>∃ p xs k j,o=.ref p∧i=.int k∧H p=some (.lst xs)∧ixN xs.length k=some j∧Q (upd H p (.lst (xs.set j v)))
theorem zb3:PSet X rSetL:=by
 intro pins s σ H o i v ov iv u Q I ro ri rv h
 obtain⟨p,xs,k,j,rfl,rfl,hp,hj,q⟩:=h
 cases ro
 obtain⟨t,rfl⟩:=ri
 obtain⟨its,n,r,ho,hz⟩:=I.lst hp
 obtain⟨h1,h2,h3,h4⟩:=zjo hj
 have hl:=r.length
 have hn:=line63
 have I':Inv X pins σ (upd H p (.lst (xs.set j v))) { s with heap:=s.heap.update p (Obj.mapSeq (·.setIfInBounds j u)) } :=
  I.lstUpd hp ho (zlq its n j u) (r.set rv j) (by rw[List.length_set];exact hz) s.toks
 by_cases h0:0≤k
 ·have hk:k.toNat=j:=by
   rw[seqIndex_of h0 h4] at h1
   exact Option.some.inj h1
  exact PySem.W.ki_setAt ho h0 (by omega) (by rw[List.size_toArray,← hl];exact h4) (by rw[hk];exact⟨_,I',q⟩)
 ·have hk:(k + (its.toArray.size:Int)).toNat=j:=by
   rw[seqIndex_neg (by omega) h3] at h1
   rw[List.size_toArray,← hl]
   exact Option.some.inj h1
  exact PySem.W.ki_setBack ho (by omega) (by rw[List.size_toArray,← hl];exact h3) (by omega) (by rw[hk];exact⟨_,I',q⟩)
def flatV:V->Bool
 | .non=>true
 | .bl _=>true
 | .int _=>true
 | .str _=>true
 | _=>false
/-- == of flat values -/
def eqV:V->V->Bool
 | .non,.non=>true
 | .bl a,.bl b=>a == b
 | .bl a,.int b=>(if a then 1 else 0) == b
 | .int a,.bl b=>a == (if b then 1 else 0)
 | .int a,.int b=>a == b
 | .str a,.str b=>a == b
 | _,_=>false
theorem zsr {A:Around} {s:Shared} {y x:V} {u v:Value} (ry:RelV y u) (rx:RelV x v) (fy:flatV y=true) (fx:flatV x=true):SeqAt.EqAt A s u v (eqV y x):=by
 cases y with
 | non =>
  cases ry
  cases x with
  | non=>cases rx;exact SeqAt.EqAt.same _
  | bl b=>cases rx;exact SeqAt.EqAt.none_bool b
  | int b=>obtain⟨t,rfl⟩:=rx;exact SeqAt.EqAt.none_int b t
  | str b=>obtain⟨t,rfl⟩:=rx;exact SeqAt.EqAt.none_str b t
  | _=>exact absurd (show false=true from fx) Bool.false_ne_true
 | bl a =>
  cases ry
  cases x with
  | non=>cases rx;exact SeqAt.EqAt.bool_none a
  | bl b=>cases rx;exact SeqAt.EqAt.bool_bool a b
  | int b=>obtain⟨t,rfl⟩:=rx;exact SeqAt.EqAt.bool_int a b t
  | str b=>obtain⟨t,rfl⟩:=rx;exact SeqAt.EqAt.bool_str a b t
  | _=>exact absurd (show false=true from fx) Bool.false_ne_true
 | int a =>
  obtain⟨t',rfl⟩:=ry
  cases x with
  | non=>cases rx;exact SeqAt.EqAt.int_none a t'
  | bl b=>cases rx;exact SeqAt.EqAt.int_bool a t' b
  | int b=>obtain⟨t,rfl⟩:=rx;exact SeqAt.EqAt.int_int a t' b t
  | str b=>obtain⟨t,rfl⟩:=rx;exact SeqAt.EqAt.int_str a t' b t
  | _=>exact absurd (show false=true from fx) Bool.false_ne_true
 | str a =>
  obtain⟨t',rfl⟩:=ry
  cases x with
  | non=>cases rx;exact SeqAt.EqAt.str_none a t'
  | bl b=>cases rx;exact SeqAt.EqAt.str_bool a t' b
  | int b=>obtain⟨t,rfl⟩:=rx;exact SeqAt.EqAt.str_int a t' b t
  | str b=>obtain⟨t,rfl⟩:=rx;exact SeqAt.EqAt.str_str a t' b t
  | _=>exact absurd (show false=true from fx) Bool.false_ne_true
 | _=>exact absurd (show false=true from fy) Bool.false_ne_true
/-- the items' answers, read off the values (a value's own answer does not lean on its token) -/
def eqU (x:V) (u:Value):Bool:=match u with
 | .none=>eqV .non x
 | .bool b=>eqV (.bl b) x
 | .int i _=>eqV (.int i) x
 | .str z _=>eqV (.str z) x
 | _=>false
theorem zqk {x y:V} {u:Value} (r:RelV y u) (f:flatV y=true):eqU x u=eqV y x:=by
 cases y with
 | non=>cases r;rfl
 | bl b=>cases r;rfl
 | int i=>obtain⟨t,rfl⟩:=r;rfl
 | str z=>obtain⟨t,rfl⟩:=r;rfl
 | _=>exact absurd (show false=true from f) Bool.false_ne_true
theorem zfb {x:V}:∀ {xs:List V} {us:List Value},Vals xs us->xs.all flatV=true->us.any (eqU x)=xs.any fun y=>eqV y x
 | _,_,.nil,_=>rfl
 | y::xs,u::us,.cons r t,f=>by
  rw[List.all_cons,Bool.and_eq_true] at f
  rw[List.any_cons,List.any_cons,zqk r f.1,zfb t f.2]
theorem zc6 {A:Around} {s:Shared} {x:V} {v:Value} (rx:RelV x v) (fx:flatV x=true):∀ {xs:List V} {us:List Value},Vals xs us->xs.all flatV=true->∀ u ∈ us,SeqAt.EqAt A s u v (eqU x u)
 | _,_,.nil,_=>fun u hu=>by cases hu
 | y::xs,u::us,.cons r t,f=>fun u' hu=>by
  rw[List.all_cons,Bool.and_eq_true] at f
  rcases List.mem_cons.mp hu with rfl | hu
  ·rw[zqk r f.1];exact zsr r rx f.1 fx
  ·exact zc6 rx fx t f.2 u' hu
def inV (x:V) (xs:List V):Bool:=xs.any fun y=>eqV y x
/-- x in a list or tuple of flat items -/
def rIn (K:PySem.W.Frag) (neg:Bool):R2:=fun x y H Q=>∃ p xs,y=.ref p∧(SqL K H p xs∨SqT K H p xs)∧flatV x=true∧xs.all flatV=true∧Q (.bl (if neg then !inV x xs else inV x xs)) H
theorem zm8:OpR X (compareOp .In) (rIn X.K false):=by
 intro pins s σ H x y v u Q I rx ry h
 obtain⟨p,xs,rfl,hq,fx,fs,q⟩:=h
 cases ry
 rcases hq with hq | hq
 ·obtain⟨its,r,pl,hz⟩:=I.list hq
  refine SeqAt.in_listAt (eqU x) pl.isList (fun w hw=>zc6 rx fx r fs w (by simpa using hw)) ⟨.bl _,H,I,rfl,?_⟩
  rw[show its.toArray.any (eqU x)=its.any (eqU x) by simp,zfb r fs]
  exact q
 ·obtain⟨its,r,pl,hz⟩:=I.tuple hq
  refine SeqAt.in_tupleAt (eqU x) pl (fun w hw=>zc6 rx fx r fs w (by simpa using hw)) ⟨.bl _,H,I,rfl,?_⟩
  rw[show its.toArray.any (eqU x)=its.any (eqU x) by simp,zfb r fs]
  exact q
theorem zhu:OpR X (compareOp .NotIn) (rIn X.K true):=by
 intro pins s σ H x y v u Q I rx ry h
 obtain⟨p,xs,rfl,hq,fx,fs,q⟩:=h
 cases ry
 rcases hq with hq | hq
 ·obtain⟨its,r,pl,hz⟩:=I.list hq
  refine SeqAt.notIn_listAt (eqU x) pl.isList (fun w hw=>zc6 rx fx r fs w (by simpa using hw)) ⟨.bl _,H,I,rfl,?_⟩
  rw[show its.toArray.any (eqU x)=its.any (eqU x) by simp,zfb r fs]
  exact q
 ·obtain⟨its,r,pl,hz⟩:=I.tuple hq
  refine SeqAt.notIn_tupleAt (eqU x) pl (fun w hw=>zc6 rx fx r fs w (by simpa using hw)) ⟨.bl _,H,I,rfl,?_⟩
  rw[show its.toArray.any (eqU x)=its.any (eqU x) by simp,zfb r fs]
  exact q
theorem zau:CallR X (.builtin "len") (fun xs H Q=>∃ p ys,xs=[.ref p]∧(SqL X.K H p ys∨SqT X.K H p ys)∧Q (.int ys.length) H):=by
 intro pins s σ H xs us Q I r h
 obtain⟨p,ys,rfl,hq,q⟩:=h
 obtain⟨u,rfl,rx⟩:=vals1 r
 cases rx
 have hn:=line63
 rcases hq with hq | hq
 ·obtain⟨its,r',pl,hz⟩:=I.list hq
  have hlen:=r'.length
  exact Calls.call_len_list pl.isList (by simp only [List.size_toArray] <;> omega) ⟨.int ys.length,H,I.tok _,⟨s.toks + 1,by rw[List.size_toArray,hlen]⟩,q⟩
 ·obtain⟨its,r',pl,hz⟩:=I.tuple hq
  have hlen:=r'.length
  exact len_tuple pl (by simp only [List.size_toArray] <;> omega) ⟨.int ys.length,H,I.tok _,⟨s.toks + 1,by rw[List.size_toArray,hlen]⟩,q⟩
theorem zdz:CallR X (.type "list") (fun xs H Q=>∃ p ys,xs=[.ref p]∧(SqL X.K H p ys∨SqT X.K H p ys)∧∀ l,H l=none->Q (.ref l) (upd H l (.lst ys))):=by
 intro pins s σ H xs us Q I r h
 obtain⟨p,ys,rfl,hq,q⟩:=h
 obtain⟨u,rfl,rx⟩:=vals1 r
 cases rx
 have fin : ∀ (its : List Value), Vals ys its → ys.length ≤ sizeLine → ∀ (h' : Heap) (c' : Nat), (∀ b o', s.heap.get? b = some o' → h'.get? b = some o') →
     h'.get? s.heap.objs.size=some { cls:=.type "list",dict:=none,data:=.seq its.toArray c',slots:=#[] }->EP X pins σ Q (.ref s.heap.objs.size) { s with heap:=h' }:=fun its r' hz h' c' kp e =>
  ⟨.ref s.heap.objs.size,_,I.laid (t':=s.toks) kp (Nat.le_refl _) (show ObjOk X.prog X.w _ h' _ (.lst ys) from ⟨hz,its,c',r',e⟩),rfl,q _ (I.hok.fresh (Nat.le_refl _))⟩
 rcases hq with hq | hq
 ·obtain⟨its,r',pl,hz⟩:=I.list hq
  have hlen:=r'.length
  obtain⟨o,ho,hc,n,hd⟩:=pl.isList
  exact call_list_seq p (.inl rfl) ho hc hd (fun h' c' kp e=>fin its r' hz h' c' kp e) (by simp only [List.size_toArray] <;> omega)
 ·obtain⟨its,r',pl,hz⟩:=I.tuple hq
  have hlen:=r'.length
  obtain⟨o,ho,hc,n,hd⟩:=pl
  exact call_list_seq p (.inr rfl) ho hc hd (fun h' c' kp e=>fin its r' hz h' c' kp e) (by simp only [List.size_toArray] <;> omega)
theorem zdb:CallR X (.type "tuple") (fun xs H Q=>∃ p ys,xs=[.ref p]∧((SqL X.K H p ys∧∀ l,H l=none->Q (.ref l) (upd H l (.tup ys)))∨(SqT X.K H p ys∧Q (.ref p) H))):=by
 intro pins s σ H xs us Q I r h
 obtain⟨p,ys,rfl,h⟩:=h
 obtain⟨u,rfl,rx⟩:=vals1 r
 cases rx
 rcases h with ⟨hq,q⟩ | ⟨hq,q⟩
 ·obtain⟨its,r',pl,hz⟩:=I.list hq
  have hlen:=r'.length
  refine call_tuple_list pl.isList (fun h' kp=>?_) (by simp only [List.size_toArray] <;> omega)
  have I1:Inv X pins σ H { s with heap:=h' }:=I.kept (t':=s.toks) kp
  have I2:Inv X pins σ (upd H h'.objs.size (.tup ys)) { s with heap:=h'.push { cls:=.type "tuple",data:=.seq its.toArray } } :=
   I1.laid (t':=s.toks) (fun b o e=>Heap.get?_push_of_some _ e) (Nat.le_refl _) (show ObjOk X.prog X.w _ _ _ (.tup ys) from ⟨hz,its,r',TupN.new _ _⟩)
  exact⟨.ref h'.objs.size,_,I2,rfl,q _ (I1.hok.fresh (Nat.le_refl _))⟩
 ·obtain⟨its,r',pl,hz⟩:=I.tuple hq
  exact call_tuple_same pl ⟨.ref p,H,I,rfl,q⟩
/-- the value is of that builtin type -/
def tyV (K:PySem.W.Frag) (T:String) (x:V) (H:Hp):Prop:=match x with
 | .str _=>T="str"
 | .int _=>T="int"
 | .ref p => (T = "list" ∧ ∃ xs, SqL K H p xs) ∨ (T = "tuple" ∧ ∃ o, K.lookup p = some o ∧ o.cls = .type "tuple" ∧ o.dict = none) ∨
     (T="dict"∧((∃ kvs,H p=some (.dK kvs))∨∃ kvs,H p=some (.dT kvs)))∨(T="set"∧∃ S n,H p=some (.set S n))
 | _=>False
theorem zry {pins:List (Addr × Obj)} {σ:St} {H:Hp} {s:Shared} {T:String} {x:V} {v:Value} (I:Inv X pins σ H s) (r:RelV x v) (ty:tyV X.K T x H) :
  s.TypeIs v T∧∀ a,v=.ref a->∃ ob,s.heap.get? a=some ob∧ob.dict=none:=by
 cases x with
 | str z =>
  obtain⟨t,rfl⟩:=r
  cases (show T="str" from ty)
  exact⟨typeIs_str s z t,fun _ e=>nomatch e⟩
 | int i =>
  obtain⟨t,rfl⟩:=r
  cases (show T="int" from ty)
  exact⟨typeIs_int s i t,fun _ e=>nomatch e⟩
 | ref p =>
  cases r
  rcases ty with ⟨rfl,xs,hq⟩ | ⟨rfl,o,hk,hc,hd⟩ | ⟨rfl,hk⟩ | ⟨rfl,S,n,hk⟩
  ·obtain⟨its,_,pl,_⟩:=I.list hq
   refine⟨pl.isList.typeIs,fun a e=>?_⟩
   cases e
   obtain⟨o,n,e,c,hd,_⟩:=pl
   exact⟨o,e,hd⟩
  ·refine⟨⟨o,I.kIn p o hk,hc⟩,fun a e=>?_⟩
   cases e
   exact⟨o,I.kIn _ o hk,hd⟩
  ·have z:∃ o,s.heap.get? p=some o∧o.ExactDict:=by
    rcases hk with ⟨kvs,hk⟩ | ⟨kvs,hk⟩
    ·obtain⟨_,_,_,_,o,_,_,e,ex,_⟩:=I.hok p _ hk
     exact⟨o,e,ex⟩
    ·obtain⟨_,_,_,_,o,_,_,e,ex,_⟩:=I.hok p _ hk
     exact⟨o,e,ex⟩
   obtain⟨o,e,ex⟩:=z
   refine⟨⟨o,e,ex.1⟩,fun a e2=>?_⟩
   cases e2
   exact⟨o,e,ex.2.1⟩
  ·obtain⟨o,_,_,_,e,ex,_⟩:=I.hok p _ hk
   refine⟨⟨o,e,ex.1⟩,fun a e2=>?_⟩
   cases e2
   exact⟨o,e,ex.2.1⟩
 | _=>exact False.elim ty
def tBM (K:PySem.W.Frag) (T:String) (r:V->List V->Hp->VK->Prop) (to:TE) (t:TA):TE:=fun σ H Q=>to σ H fun x H1=>tyV K T x H1∧t σ H1 fun xs H2=>r x xs H2 Q
variable {o e:Expr} {es:List Expr} {to:TE} {t:TA} {name:Str} {apos cpos:Pos} {T id:String} {r:V->List V->Hp->VK->Prop}
theorem zd0 (pa:PlainAttrs T) (slot:Slot T name id) (hty:typeOf (.builtin id)=pure (.type "method_descriptor")) (hm:MtR X id r) (ho:PE X o to) (ha:PA X (e::es) t)
  (hbase:attributeBase o name X.env (eval o X.env)=eval o X.env:=by rfl)
  (hfew:((backTo cpos (starEach (e::es) X.env)).all (fun x=>!x.1) && (backToKw cpos (keywordEach [] X.env)).all (fun x=>x.1.isSome)
   && decide ((e::es).length + ([]:List Keyword).length + (if ([]:List Keyword).isEmpty then 0 else 1) < 30))=true:=by rfl)
  (hline:(apos.endLine == cpos.line)=true:=by rfl) (hs:starEach (e::es) X.env=(false,eval e X.env)::starEach es X.env:=by rfl) (hplain:(backTo cpos (starEach es X.env)).any (·.1)=false:=by rfl) :
  PE X (.Call (.Attribute o name apos) (e::es) [] cpos) (tBM X.K T r to t):=by
 intro pins s σ H Q I h
 refine wpAny_Call_method_late hbase hfew hline rfl (thn (ho pins s σ H _ I h) fun v s1 ⟨x,H1,I1,r1,ty,q1⟩=>?_)
 obtain⟨h1,h2⟩:=zry I1 r1 ty
 refine⟨T,id,pa,slot,hty,h1,h2,?_⟩
 have hA:=ha cpos pins s1 σ H1 _ I1 q1
 rw[hs] at hA ⊢
 refine Calls.callWith_builtin (by show (false || (backTo cpos (starEach es X.env)).any (·.1))=false;rw[hplain] <;> rfl) (Calls.evalArgs_plain ?_)
 exact thn hA fun us s2 ⟨vs,H2,I2,r2,q2⟩=>hm pins s2 σ H2 x vs v us Q I2 r1 r2 q2
end
end L2
namespace L2
open PySem PySem.Spec PyProof.Rows
def MtM (X:Cx) (id:String) (r:V->List V->Hp->VK->Prop):Prop :=
 ∀ (pins:List (Addr × Obj)) (s:Shared) (σ:St) (H:Hp) (x:V) (xs:List V) (v:Value) (us:List Value) (Q:VK),Inv X pins σ H s->RelV x v->Vals xs us->r x xs H Q ->
  wpAny (model X.prog X.w) X.A (call (.builtin id) (v::us)) (EP X pins σ Q) X.xe s
theorem Vals.one:∀ {x:V} {us:List Value},Vals [x] us->∃ u,us=[u]∧RelV x u
 | _,_,.cons r .nil=>⟨_,rfl,r⟩
theorem Vals.two:∀ {x y:V} {us:List Value},Vals [x,y] us->∃ u v,us=[u,v]∧RelV x u∧RelV y v
 | _,_,_,.cons r (.cons q .nil)=>⟨_,_,rfl,r,q⟩
theorem Vals.eraseIdx:∀ {xs:List V} {us:List Value} (i:Nat),Vals xs us->Vals (xs.eraseIdx i) (us.eraseIdx i)
 | _,_,_,.nil=>.nil
 | _,_,0,.cons _ t=>t
 | _,_,i + 1,.cons r t=>.cons r (Vals.eraseIdx i t)
theorem Vals.reverse {xs:List V} {us:List Value} (h:Vals xs us):Vals xs.reverse us.reverse:=by
 induction h with
 | nil=>exact .nil
 | cons r t ih=>rw[List.reverse_cons,List.reverse_cons];exact Vals.append ih (.cons r .nil)
theorem Vals.rep {xs:List V} {us:List Value} (h:Vals xs us):∀ k:Nat,Vals (List.replicate k xs).flatten (List.replicate k us).flatten
 | 0=>.nil
 | k + 1=>by
  rw[List.replicate_succ,List.replicate_succ,List.flatten_cons,List.flatten_cons]
  exact Vals.append h (Vals.rep h k)
theorem zib {α:Type}:∀ (l:List α) (i:Nat),(l.eraseIdx i).length≤l.length
 | [],_=>Nat.le_refl _
 | _::_,0=>Nat.le_succ _
 | _::r,i + 1=>Nat.succ_le_succ (zib r i)
theorem zic (its:List Value):∀ (k:Nat) (acc:List Value),
  List.foldl (fun x1 x2=>x1++x2) acc.toArray (List.replicate k its.toArray)=(acc++(List.replicate k its).flatten).toArray
 | 0,acc=>by simp
 | k + 1,acc=>by
  have e:acc.toArray++its.toArray=(acc++its).toArray:=by simp
  have e2:(acc++its)++(List.replicate k its).flatten=acc++(List.replicate (k + 1) its).flatten:=by
   rw[List.replicate_succ,List.flatten_cons,List.append_assoc]
  rw[← e2,← zic its k (acc++its),← e,List.replicate_succ,List.foldl_cons]
section
variable {X:Cx} {pins:List (Addr × Obj)} {σ:St} {H:Hp} {s:Shared} {l b:Addr} {xs ys zs:List V}
theorem Inv.lset {its its':List Value} {n:Nat} {f:Array Value->Array Value} {t':Nat} (I:Inv X pins σ H s) (hH:H l=some (.lst xs))
  (e:s.heap.get? l=some { cls:=.type "list",data:=.seq its.toArray n }) (hf:f its.toArray=its'.toArray) (hv:Vals ys its') (hz:ys.length≤sizeLine) :
  Inv X pins σ (upd H l (.lst ys)) { s with heap:=s.heap.update l (Obj.mapSeq f),toks:=t' }:=by
 have q:=PySem.IsL.update e f
 rw[hf] at q
 refine I.write (x:=l) (e:=l) (by rw[hH];exact trivial) (.inl rfl) (fun b' u hb hu=>(Heap.get?_update_other s.heap (Obj.mapSeq f) (Ne.symm hb)).trans hu) ⟨_,q⟩ ?_
 exact⟨hz,its',_,hv,q⟩
theorem Inv.lnew {its:List Value} {t':Nat} (I:Inv X pins σ H s) (hv:Vals ys its) (hz:ys.length≤sizeLine) :
  Inv X pins σ (upd H s.heap.objs.size (.lst ys)) { s with heap:=s.heap.push { cls:=.type "list",data:=.seq its.toArray },toks:=t' } :=
 I.laid (fun _ _ q=>Heap.get?_push_of_some _ q) (Nat.le_refl _) ⟨hz,its,0,hv,Heap.get?_push_size _ rfl⟩
theorem Inv.fresh (I:Inv X pins σ H s):H s.heap.objs.size=none:=I.hok.fresh (Nat.le_refl _)
theorem Inv.lstM (I:Inv X pins σ H s) (hH:H l=some (.lst xs)):xs.length≤sizeLine∧∃ (its:List Value) (n:Nat),Vals xs its∧xs.length=its.length∧s.heap.get? l=some { cls:=.type "list",data:=.seq its.toArray n }:=by
 obtain⟨z,its,n,r,e⟩:=I.hok l _ hH
 exact⟨z,its,n,r,r.length,e⟩
theorem notLongL {n:Nat} (h:n≤sizeLine):Builtin.List.listTooLong n=false:=by
 unfold Builtin.List.listTooLong
 exact decide_eq_false (by omega)
end
section
variable {X:Cx}
def rAppend:V->List V->Hp->VK->Prop:=fun x vs H Q=>∃ l xs y,x=.ref l∧vs=[y]∧H l=some (.lst xs)∧xs.length < sizeLine∧Q .non (upd H l (.lst (xs++[y])))
theorem zc5:MtM X "list.append" rAppend:=by
 intro pins s σ H x vs v us Q I rx rv h
 obtain⟨l,xs,y,rfl,rfl,hH,hz,q⟩:=h
 cases rx
 obtain⟨u,rfl,ru⟩:=rv.one
 obtain⟨z,its,n,r,hl,e⟩:=I.lstM hH
 refine call_meets F.slot_list_append ⟨_,e,rfl⟩ F.entry_list_append (F.args_list_append_2 _ _) (PySem.list_append l its.toArray n u (by rw[List.size_toArray];omega)) ⟨e,?_⟩
 refine⟨.non,_,I.lset (its':=its++[u]) hH e (by simp) (r.append (.cons ru .nil)) ?_,rfl,q⟩
 rw[List.length_append,List.length_singleton]
 omega
def rExtend:V->List V->Hp->VK->Prop:=fun x vs H Q=>∃ l b xs zs,x=.ref l∧vs=[.ref b]∧H l=some (.lst xs)∧H b=some (.lst zs)∧xs.length + zs.length≤sizeLine∧Q .non (upd H l (.lst (xs++zs)))
theorem zh8:MtM X "list.extend" rExtend:=by
 intro pins s σ H x vs v us Q I rx rv h
 obtain⟨l,b,xs,zs,rfl,rfl,hH,hB,hz,q⟩:=h
 cases rx
 obtain⟨u,rfl,ru⟩:=rv.one
 cases ru
 obtain⟨z,its,n,r,hl,e⟩:=I.lstM hH
 obtain⟨z2,its2,n2,r2,hl2,e2⟩:=I.lstM hB
 have hsz:its.toArray.size + its2.toArray.size≤sizeLine:=by rw[List.size_toArray,List.size_toArray];omega
 have hlong:¬ (!its.toArray.isEmpty && Builtin.List.listTooLong (its.toArray.size + its2.toArray.size))=true:=by
  rw[notLongL hsz,Bool.and_false]
  exact Bool.false_ne_true
 refine call_meets F.slot_list_extend ⟨_,e,rfl⟩ F.entry_list_extend (F.args_list_extend_2 _ _)
  (AutoSeq1.list_extend_list_list_0 l its.toArray n b its2.toArray n2 hlong (by rw[List.size_toArray];omega) (by omega)) ⟨e,e2,?_⟩
 refine⟨.non,_,I.lset (its':=its++its2) hH e (by simp) (r.append r2) ?_,rfl,q⟩
 rw[List.length_append]
 omega
def rPopAt:V->List V->Hp->VK->Prop:=fun x vs H Q=>∃ l xs i k y,x=.ref l∧vs=[.int i]∧H l=some (.lst xs)∧-(2 ^ 63)≤i∧i < 2 ^ 63∧seqIndex? i xs.length=some k∧xs[k]?=some y∧Q y (upd H l (.lst (xs.eraseIdx k)))
theorem zpb:MtM X "list.pop" rPopAt:=by
 intro pins s σ H x vs v us Q I rx rv h
 obtain⟨l,xs,i,k,y,rfl,rfl,hH,h1,h2,hk,hy,q⟩:=h
 cases rx
 obtain⟨u,rfl,ru⟩:=rv.one
 obtain⟨t,rfl⟩:=ru
 obtain⟨z,its,n,r,hl,e⟩:=I.lstM hH
 obtain⟨w,hw,rw'⟩:=r.get hy
 refine call_meets F.slot_list_pop ⟨_,e,rfl⟩ F.entry_list_pop (F.args_list_pop_2 _ _)
  (MeetsSeq.list_pop_at l its.toArray n i t k w (fitsIndex_both h1 h2) (by rw[List.size_toArray,← hl];exact hk) (by rw[← Array.getElem?_toList];exact hw) (by rw[List.size_toArray];omega)) ⟨e,?_⟩
 refine⟨y,_,I.lset (its':=its.eraseIdx k) hH e ?_ (r.eraseIdx k) ?_,rw',q⟩
 ·show its.toArray.eraseIdxIfInBounds k=(its.eraseIdx k).toArray
  rw[List.eraseIdxIfInBounds_toArray]
 ·have:=zib xs k
  omega
/-- a list times an int (a negative one is nothing) -/
def rRep:R2:=fun x y H Q=>∃ l k xs,x=.ref l∧y=.int k∧H l=some (.lst xs)∧-(2 ^ 63)≤k∧k < 2 ^ 63∧xs.length * k.toNat≤sizeLine ∧
 ∀ p,H p=none->Q (.ref p) (upd H p (.lst (List.replicate k.toNat xs).flatten))
theorem zre {α:Type} (xs:List α) (k:Nat):(List.replicate k xs).flatten.length=k * xs.length:=by
 induction k with
 | zero=>simp
 | succ k ih=>rw[List.replicate_succ,List.flatten_cons,List.length_append,ih,Nat.succ_mul,Nat.add_comm]
theorem zsc:OpR X (binaryOp .Mult) rRep:=by
 intro pins s σ H x y v u Q I rx ry h
 obtain⟨l,k,xs,rfl,rfl,hH,h1,h2,hz,q⟩:=h
 cases rx
 obtain⟨t,rfl⟩:=ry
 obtain⟨z,its,n,r,hl,e⟩:=I.lstM hH
 have hlen:its.toArray.size * k.toNat≤sizeLine:=by rw[List.size_toArray,← hl];exact hz
 have hcap:¬ its.toArray.size * k.toNat > (2 ^ 63 - 1) / 8:=by
  have:(sizeLine:Nat)≤(2 ^ 63 - 1) / 8:=by decide
  omega
 have hfit:¬ (!Builtin.List.listFitsIndex k)=true:=by
  rw[fitsIndex_both h1 h2]
  exact Bool.false_ne_true
 have hlong:¬ Builtin.List.listTooLong (its.toArray.size * k.toNat)=true:=by
  rw[notLongL hlen]
  exact Bool.false_ne_true
 have hnew:List.foldl (fun x1 x2=>x1++x2) #[] (List.replicate (if its.toArray.isEmpty=true then 0 else k.toNat) its.toArray)=(List.replicate k.toNat its).flatten.toArray:=by
  have f0:∀ m:Nat,List.foldl (fun x1 x2=>x1++x2) #[] (List.replicate m its.toArray)=(List.replicate m its).flatten.toArray:=fun m=>by
   have:=zic its m []
   rw[List.nil_append] at this
   exact this
  rw[f0]
  cases its with
  | nil=>simp
  | cons a r'=>rw[if_neg (by simp)]
 refine wpAny_binaryOp_repeat_ref (T:="list") (U:="int") (by decide) ⟨_,e,rfl⟩ (fun s'=>typeIs_int s' k t) noFill_list_mul F.fills_int_mul F.slot_int_rmul repeat_list F.slot_int_index.lookup
  (call_meets F.slot_int_rmul (typeIs_int s k t) F.entry_int_rmul (F.args_int_rmul_2 _ _) (int___rmul___int_list k t l its.toArray n)
   ⟨e,rfl,⟨_,e,rfl⟩,call_meets F.slot_list_mul ⟨_,e,rfl⟩ F.entry_list_mul (F.args_list_mul_2 _ _) (AutoListH.list___mul___list_int_3 l its.toArray n k t hfit hcap hlong) ⟨e,?_⟩⟩)
 rw[hnew]
 exact⟨.ref _,_,I.lnew (t':=s.toks) (r.rep k.toNat) (by rw[zre,Nat.mul_comm];exact hz),rfl,q _ I.fresh⟩
end
section
variable {prog:Program} {w:World} {A:Around} {E:Value->Shared->Prop} {s:Shared}
end
section
variable {X:Cx}
end
end L2
namespace Att
open PySem PySem.W PySem.Calls PyProof.Rows
theorem ze3 {P:Params} {h:Heap}:∀ (ns:List Int) (vs:List Value),WellAll P h vs (ns.map WData.int)->IntsAre vs ns:=by
 intro ns
 induction ns with
 | nil =>
  intro vs w
  rw[List.map_nil] at w
  cases w
  exact .nil
 | cons n ns ih =>
  intro vs w
  rw[List.map_cons] at w
  cases w with
  | cons a b =>
   cases a
   exact .cons _ _ (ih _ b)
theorem zmq {l:OpenLaw} {n:Nat} (hn:l.most=some n) {P:Params} {h:Heap} {args:List WData} {vals:List Value}
  (hpre:l.row.toRowW.claim.pre args=true) (hwl:WellAll P h vals args) :
  ∃ a vs ns,vals=[Value.ref a]∧args=[WData.list (ns.map WData.int)]∧h.get? a=some { cls:=.type "list",data:=.seq vs.toArray }∧IntsAre vs ns∧ns.length≤n:=by
 have hsh:WShape.hasAll [] args [.list .int]=true:=(pre_splitW hpre).1
 have hc:l.pre.holds [] { args:=args }=true:=(pre_splitW hpre).2
 obtain⟨d,r,rfl,h1,h2⟩:=hasAllW_cons hsh
 obtain rfl:=hasAllW_nil h2
 obtain⟨xs,rfl,h3⟩:=hasW_list h1
 obtain⟨ns,rfl⟩:=items_int h3
 have hlen:ns.length≤n:=by
  unfold OpenLaw.pre at hc
  have h4:(WTm.not (.lt (.lit (.int (n:Int))) (.len (.arg 0)))).holds [] { args:=[.list (ns.map .int)] }=true:=by
   have h4:=(holds_andW hc).1
   rw[hn] at h4
   exact h4
  have h5:=condW_of h4 (w_not (w_lt w_lit (w_len_list (w_arg rfl))))
  rw[List.length_map] at h5
  refine Nat.le_of_not_lt fun q=>?_
  have q':(n:Int) < ((ns.length:Nat):Int):=by omega
  first
   | (rw[decide_eq_true q'] at h5;exact absurd h5 (by decide))
   | (simp at h5;omega)
 cases hwl with
 | cons w1 w2 =>
  cases w2
  cases w1 with
  | list ho hall=>exact⟨_,_,ns,rfl,rfl,ho,ze3 ns _ hall,hlen⟩
theorem zmy (l:OpenLaw) (args:List WData):l.row.toRowW.claim.post args (.bool true) args=true :=
 postW_of (r:=l.row.toRowW) (X:=(true == true))
  (show WShape.has [] (.bool true) .bool=true by first | rfl | decide | simp [WShape.has,WShape.arms,WShape.armsAll])
  (show (WTm.eq .res (.lit (.bool true))).value [] { args:=args,res:=some (.bool true),after:=args }=some (.bool (true == true)) from w_eq_bool (w_res rfl) w_lit) rfl
/-- the same from a codeAny of the CALL (for a layer whose function contracts speak of calls) -/
theorem attach_call {l:OpenLaw} {n:Nat} {q:Program} {loose:List Str} {XP:(Str->Option Value)->Heap->Prop} {YP:World->Heap->Prop} {d:DefRec}
  (hn:l.most=some n) (hdf:d.params.defaults=[])
  (call:∀ (w:World) (s₀ s₁:Shared) (mg mb:Str->Option Value) (fa:Addr) (o:Obj) (pm cd doc:Value) (a:Addr) (vs:List Value) (ns:List Int),
   Ground q loose [] XP w s₀ mg mb s₁.heap->YP w s₁.heap ->
   s₁.heap.get? fa=some o->o.data=.func (docDef d.name d.params d.body d.scope pm cd doc)->s₁.heap.CodeRec cd d.name->mg d.name=some (.ref fa) ->
   s₁.heap.get? a=some { cls:=.type "list",data:=.seq vs.toArray }->IntsAre vs ns->ns.length≤n->s₁.gens=#[] ->
   codeAny (model l.prog w) callerA (.call (.ref fa) ⟨[.ref a],[]⟩) (fun r s'=>r=.ok (.ret (.bool true))∧OldK s₁.heap s'.heap∧s'.os=s₁.os∧AllBare s'.gens) s₁) :
  WalkO q loose XP YP l.row.toRowW d [] (fun f vs=>PySem.call f vs):=by
 intro w s₀ s₁ mg mb G Y fa o pm cd doc dV kV ho hd hcd hD hmg hg args vals as hpre hlay hrd hwl hlo
 obtain rfl:dV=.none:=Dflts.none hD hdf
 obtain rfl:kV=.none:=Dflts.noKw hD
 obtain⟨a,vs,ns,rfl,rfl,hobj,hints,hlen⟩:=zmq hn hpre hwl
 refine enter_call (codeAny_mono (call w s₀ s₁ mg mb fa o pm cd doc a vs ns G Y ho (fd_plain hd) hcd hmg hobj hints hlen hg) fun r s' hq=>?_)
 obtain⟨rfl,h2,h3,h4⟩:=hq
 exact⟨.inl ⟨.bool true,.bool true,[],rfl,fun _=>rfl,.bool true,zmy l _,fun _=>⟨List.Pairwise.nil,fun _ hm=>(nomatch hm)⟩⟩,h2,h3,h4⟩
section
variable {prog:Program} {w:World} {A:Around} {E:Value->Shared->Prop} {s:Shared} {K:Frag}
def ledger (h:Heap) (L d:Addr):List (Addr × Obj):=(List.range h.objs.size).filterMap fun a=>if a=L∨a=d then none else (h.get? a).map fun o=>(a,o)
end
end Att
namespace L2
open PySem PySem.Spec PyProof.Rows
theorem zhg:∀ {vs:List Value} {ns:List Int},IntsAre vs ns->Vals (ns.map V.int) vs
 | _,_,.nil=>.nil
 | _,_,.cons n t h=>.cons ⟨t,rfl⟩ (zhg h)
/-- nothing is tracked but the script, known to the object (or it is an object of the module) -/
def Only (H:Hp):Prop:=∀ b,H b=none∨∃ o xs,H b=some (.frz o (.lst xs))
/-- THE HEAD: the law's promise, at the heap behind the top. F, the promise of the law's def, may use that base is part of the heap (so K.In base, base.Ns mainGlobals mg stand in Mod) -/
theorem zpc {P:Program} {w:World} {K:PySem.W.Frag} {mg mb:Str->Option Value} {CX:CXT} {k:Nat} {fa a:Addr} {fd:FuncData} {x:Str} {sp:Sp} {s₁:Shared} {vs:List Value} {ns:List Int}
  (KX:K.In s₁.heap) (hns:s₁.heap.Ns mainGlobals mg) (hb:s₁.heap.Ns builtinsNs mb) (hbb:∀ x:Str,x≠"__name__"->mb x=bootBuiltins x) (hlim:s₁.heap.NoLimit) (hg:s₁.gens=#[])
  (ha:s₁.heap.get? a=some { cls:=.type "list",data:=.seq vs.toArray }) (hi:IntsAre vs ns) (hl:ns.length≤sizeLine) (hr:Room k callerA)
  (F:∀ base:Heap,K.In base->base.Ns mainGlobals mg->FnOk P w K mg base CX k fa fd [x] sp) (hbind:∀ (s:Shared) (u:Value),BindsTo s fd ⟨[u],[]⟩ [(x,u)])
  (hsp:∀ H:Hp,Only H->SqL K H a (ns.map V.int)->sp [.ref a] H (fun v _=>v=.bl true) fun _ _ _=>False)
  (hCX:∀ H e s',CX [] H s₁ (fun _ _ _=>False) e s'->False) :
  codeAny (model P w) callerA (.call (.ref fa) ⟨[.ref a],[]⟩) (fun r s'=>r=.ok (.ret (.bool true))∧OldK s₁.heap s'.heap∧s'.os=s₁.os∧AllBare s'.gens) s₁:=by
 have rv:=zhg hi
 have lenV:=hi.length
  -- from an abstract heap in which nothing but the script may be tracked
 have core : ∀ H : Hp, Only H → SqL K H a (ns.map V.int) → HOk P w H s₁.heap → (∀ b, H b ≠ none → b = a) → (H a ≠ none → K.lookup a = none) →
     codeAny (model P w) callerA (.call (.ref fa) ⟨[.ref a],[]⟩) (fun r s'=>r=.ok (.ret (.bool true))∧OldK s₁.heap s'.heap∧s'.os=s₁.os∧AllBare s'.gens) s₁:=by
  intro H hO hS hok hA hK
  have base_of:∀ {b:Addr} {o:Obj},s₁.heap.get? b=some o->H b=none->(hidT s₁.heap H).get? b=some o:=fun e n=>zph e n
  have noA:∀ {b:Addr} {o:Obj} {es:Array DictEntry} {ep:Nat},s₁.heap.get? b=some o->o.data=.dict es ep->H b=none:=fun {b o es ep} e d=>by
   cases q:H b with
   | none=>rfl
   | some u =>
    have e':b=a:=hA b (by rw[q];simp)
    subst e'
    rw[ha] at e;cases e
    have d':Data.seq vs.toArray _=Data.dict es ep:=d
    cases d'
  have nsK:∀ {b:Addr} {m:Str->Option Value},s₁.heap.Ns b m->(hidT s₁.heap H).Ns b m:=fun {b m} ⟨o,es,ep,e,d,r⟩=>⟨o,es,ep,base_of e (noA e d),d,r⟩
  have hKb:K.In (hidT s₁.heap H):=fun b o e=>base_of (KX b o e) (by
   cases q:H b with
   | none=>rfl
   | some u =>
    have e':b=a:=hA b (by rw[q];simp)
    subst e'
    rw[hK (by rw[q];simp)] at e;cases e)
  have hM:Mod K mg (hidT s₁.heap H):=⟨hKb,nsK hns,⟨mb,nsK hb,hbb⟩,let ⟨mc,h1,h2⟩:=hlim;⟨mc,nsK h1,h2⟩⟩
  have e0:Env0 P w K mg (hidT s₁.heap H) callerA [] s₁ H:=⟨rfl,hM,fun b o e=>zrc e,Nat.le_of_eq (znz _ _),trivial,fun b hb=>absurd (show b ∈ ([]:List Addr) from hb) (by simp),hok,.of_eq hg⟩
  refine codeAny_mono ((F _ hKb (nsK hns)).run callerA [] s₁ H ⟨[.ref a],[]⟩ [.ref a] [.ref a] _ _ hr e0 (hbind s₁ (.ref a)) (.cons rfl .nil) (hsp H hO hS)) fun r s' h=>?_
  cases r with
  | error e=>exact (hCX H e s' h).elim
  | ok fl =>
   cases fl with
   | next=>exact False.elim h
   | brk=>exact False.elim h
   | cont=>exact False.elim h
   | ret u =>
    obtain⟨v,H',os,bare,un,hok',r',q⟩:=h
    have q':v=.bl true:=q
    subst q'
    obtain rfl:u=Value.bool true:=r'
    refine⟨rfl,OldK.of_keep fun b o e=>?_,os,bare⟩
    cases q:H b with
    | none=>exact un.keep b o e q (by intro z;exact absurd (show b ∈ ([]:List Addr) from z) (by simp)) (by simp)
    | some u =>
     rcases hO b with z | ⟨ob,xs,z⟩
     ·rw[q] at z;cases z
     ·have z2:=un.frzs b ob _ z
      obtain⟨e1,_⟩:=hok b _ z
      obtain⟨e2,_⟩:=hok' b _ z2
      rw[e] at e1;cases e1
      exact e2
 cases hk:K.lookup a with
 | some o =>
    -- the script is one of the module's own objects
  have e:=KX a o hk
  rw[ha] at e
  cases e
  refine core (fun _=>none) (fun _=>.inl rfl) (.inr ⟨_,vs.toArray,_,hk,rfl,rfl,rfl,by rw[List.size_toArray,lenV];exact hl,by simpa using rv⟩) (fun b u z=>by have z':(none:Option HO)=some u:=z;cases z') (fun b z=>absurd rfl z) fun z=>absurd rfl z
 | none =>
  refine core (fun b=>if b=a then some (.frz { cls:=.type "list",data:=.seq vs.toArray } (.lst (ns.map V.int))) else none) (fun b=>?_) (.inl (.inr ⟨{ cls:=.type "list",data:=.seq vs.toArray },if_pos rfl⟩)) (fun b u z=>?_) (fun b z=>?_) fun _=>hk
  ·by_cases hb:b=a
   ·exact .inr ⟨_,_,if_pos hb⟩
   ·exact .inl (if_neg hb)
  ·by_cases hb:b=a
   ·have z':=(if_pos hb).symm.trans z
    cases z'
    subst hb
    exact⟨ha,by rw[List.length_map];exact hl,vs,_,rv,ha⟩
   ·have z':=(if_neg hb).symm.trans z
    cases z'
  ·by_cases hb:b=a
   ·exact hb
   ·exact absurd (if_neg hb) z
end L2
namespace L2
open PySem PySem.Spec PyProof.Rows
/-- the goal that k_head leaves (case hc), from the law's promise. F gives the function object fd (K's own) once, then the promise over every base -/
theorem zqr {l:PySem.W.OpenLaw} {n k:Nat} {q:Program} {loose:List Str} {XP:(Str->Option Value)->Heap->Prop} {YP:World->Heap->Prop} {d:DefRec} {K:Params->PySem.W.Frag} {CX:World->CXT} {sp:World->Sp} {x:Str}
  (hn:l.most=some n) (hn2:n≤sizeLine) (hdf:d.params.defaults=[]) (hr:Room k callerA)
  (hY:∀ (w:World) (h:Heap),YP w h->(K w.params).In h)
  (F:∀ (w:World) (mg:Str->Option Value) (fa:Addr) (h:Heap),(K w.params).In h->h.Ns mainGlobals mg->mg d.name=some (.ref fa) ->
   ∃ fd:FuncData,(∀ (s:Shared) (u:Value),BindsTo s fd ⟨[u],[]⟩ [(x,u)]) ∧
    ∀ base:Heap,(K w.params).In base->base.Ns mainGlobals mg->FnOk l.prog w (K w.params) mg base (CX w) k fa fd [x] (sp w))
  (hsp:∀ (w:World) (H:Hp) (a:Addr) (ns:List Int),ns.length≤n->Only H->SqL (K w.params) H a (ns.map V.int)->sp w [.ref a] H (fun v _=>v=.bl true) fun _ _ _=>False)
  (hCX:∀ (w:World) (H:Hp) (s:Shared) (e:Value) (s':Shared),CX w [] H s (fun _ _ _=>False) e s'->False) :
  PySem.W.WalkO q loose XP YP l.row.toRowW d [] (fun f vs=>PySem.call f vs):=by
 refine Att.attach_call hn hdf fun w s₀ s₁ mg mb fa o pm cd doc a vs ns G Y ho hd hcd hmg hobj hints hlen hg=>?_
 have KX:=hY w _ Y
 obtain⟨fd,hb,hF⟩:=F w mg fa _ KX G.T.g hmg
 exact zpc KX G.T.g G.T.b G.T.builtins G.T.nolimit hg hobj hints (Nat.le_trans hlen hn2) hr hF hb (fun H hO hS=>hsp w H a ns hlen hO hS) fun H e s'=>hCX w H s₁ e s'
end L2
namespace L2
open PySem PySem.Spec PyProof.Rows
def defArgs (s:Stmt):Arguments:=match s with
 | .FunctionDef _ a _ _ _ _ _ _ _ _=>a
 | _=>{ posonlyargs:=[],args:=[],vararg:=none,kwonlyargs:=[],kw_defaults:=[],kwarg:=none,defaults:=[] }
def defBody (s:Stmt):List Stmt:=match s with
 | .FunctionDef _ _ b _ _ _ _ _ _ _=>b
 | _=>[]
def defScope (s:Stmt):Scope:=match s with
 | .FunctionDef _ _ _ _ _ _ sc _ _ _=>sc
 | _=>{ kind:=.function,names:=[],isGenerator:=false,isCoroutine:=false }
abbrev CX0:CXT:=fun _ _ _ _ _ _=>False
abbrev E0:XK:=fun _ _ _=>False
theorem pass0 {X:Cx}:Passes CX0 X E0:=fun _ _ _ _ _ _ _ h=>h.elim
structure Fun (K:PySem.W.Frag) (x qual:Str) (st:Stmt) (f:Addr) (fd:FuncData):Prop where
 ex:∃ (oc:Value) (od:Option Addr) (kV doc pm:Value) (an:Option Addr) (cdv ct:Value) (osl:Array (Option Value)),
  fd=PySem.W.fnOf x qual (defArgs st) (defBody st) (defScope st) .none kV doc pm an cdv ct∧K.lookup f=some ⟨oc,od,.func fd,osl⟩∧PySem.W.codeIn K cdv qual=true
 kp:PySem.W.keepIn K (.ref f)=true
section
variable {P:Program} {w:World} {K:PySem.W.Frag} {mg:Str->Option Value} {base:Heap}
/-- THE RULE for a def: its body as a term of rules, and the reading of that term -/
theorem Fun.ok {x qual:Str} {st:Stmt} {f:Addr} {fd:FuncData} {N ps:List Str} {k:Nat} {sp:Sp} (F:Fun K x qual st f fd) (S:FnScope N ps (defScope st)) (len:∀ vs H Q E,sp vs H Q E->vs.length=ps.length)
  (hbody:∀ (cdv:Value) (A:Around) (outer:List Env) (s:Shared) (H:Hp) (vs:List V) (Q:VK) (E:XK),Room k (A.deeper (envOfC qual (defScope st) s.heap.objs.size f cdv))->sp vs H Q E ->
   ∃ t,PSs (cxOf CX0 P w K mg base N qual (defScope st) f cdv A outer s H E).nox (defBody st) t∧t { nx:=fun _ H'=>Q .non H',rt:=Q } (start N vs) H):FnOk P w K mg base CX0 (k + 1) f fd ps sp:=by
 obtain⟨oc,od,kV,doc,pm,an,cdv,ct,osl,rfl,lk,hcd⟩:=F.ex
 refine zs5 lk hcd S len fun A outer s H vs Q E hr hsp=>?_
 obtain⟨t,h,q⟩:=hbody cdv A outer s H vs Q E hr hsp
 exact⟨t,h.nox,q⟩
/-- how its arguments bind (no defaults): h is «fun _ _ _ _ _ _ us hl => match us, hl with | [_, _], _ => rfl», one _ a parameter -/
theorem Fun.binds {x qual:Str} {st:Stmt} {f:Addr} {fd:FuncData} {ps:List Str} (F:Fun K x qual st f fd)
  (h:∀ (kV doc pm:Value) (an:Option Addr) (cdv ct:Value) (us:List Value),us.length=ps.length->bindArgs (PySem.W.fnOf x qual (defArgs st) (defBody st) (defScope st) .none kV doc pm an cdv ct) ⟨us,[]⟩=pure (ps.zip us)):Binds K fd ps []:=by
 obtain⟨oc,od,kV,doc,pm,an,cdv,ct,osl,rfl,lk,hcd⟩:=F.ex
 exact .all (h kV doc pm an cdv ct)
theorem zqj {x qual:Str} {st:Stmt} {f:Addr} {oc:Value} {od an:Option Addr} {osl:Array (Option Value)} {kV doc pm cdv ct:Value} (l:K.lookup f=some ⟨oc,od,.func (PySem.W.fnOf x qual (defArgs st) (defBody st) (defScope st) .none kV doc pm an cdv ct),osl⟩)
  (c:PySem.W.codeIn K cdv qual=true) (k:PySem.W.keepIn K (.ref f)=true):Fun K x qual st f (PySem.W.fnOf x qual (defArgs st) (defBody st) (defScope st) .none kV doc pm an cdv ct):=⟨⟨oc,od,kV,doc,pm,an,cdv,ct,osl,rfl,l,c⟩,k⟩
end
section
variable {X:Cx}
theorem pv (i:Nat) {x:Str} {pos:Pos} (hN:X.N[i]?=some x:=by rfl) (hv:Vis X.env.scope x:=by first | exact Or.inl rfl | exact Or.inr (Or.inl rfl) | exact Or.inr (Or.inr rfl)) (hd:(x == ("__debug__":Str))=false:=by decide)
  (hcd:(x == ("__classdict__":Str))=false:=by decide):PE X (.Name x pos) (tVar i):=zsa hN hv hd hcd
end
theorem iteF {A B:Prop} (h:B):if false=true then A else B:=by
 rw[if_neg Bool.false_ne_true]
 exact h
theorem iteT {A B:Prop} (h:A):if true=true then A else B:=by
 rw[if_pos rfl]
 exact h
theorem ite2 {c A B:Prop} [Decidable c] (h1:c->A) (h2:¬ c->B):if c then A else B:=by
 by_cases h:c
 ·rw[if_pos h]
  exact h1 h
 ·rw[if_neg h]
  exact h2 h
theorem iteNS {c A B:Prop} [Decidable c] (hc:c) (h:B):if (!decide c)=true then A else B:=by
 rw[decide_eq_true hc]
 exact iteF h
/-- all that was tracked is as it was -/
def Same (H H':Hp):Prop:=∀ b o,H b=some o->H' b=some o
theorem Same.refl (H:Hp):Same H H:=fun _ _ h=>h
theorem Same.trans {H H1 H2:Hp} (a:Same H H1) (b:Same H1 H2):Same H H2:=fun c o h=>b c o (a c o h)
theorem Same.free {H H':Hp} (e:Same H H') {l:Addr} (h:H' l=Option.none):H l=Option.none:=by
 cases q:H l with
 | none=>rfl
 | some o =>
  rw[e l o q] at h
  cases h
theorem Same.seq {K:PySem.W.Frag} {H H':Hp} {a:Addr} {xs:List V} (e:Same H H') (h:SqL K H a xs):SqL K H' a xs:=by
 rcases h with (h | ⟨o,h⟩) | h
 ·exact .inl (.inl (e _ _ h))
 ·exact .inl (.inr ⟨o,e _ _ h⟩)
 ·exact .inr h
end L2
namespace L2
open PySem PySem.Spec PyProof.Rows
section
variable {κ:Type} [DecidableEq κ]
def valV (kvs:List (κ × V)) (k:κ):Option V:=(kvs.find? fun kv=>decide (kv.1=k)).map (·.2)
/-- in its place, or at the end -/
def putK (kvs:List (κ × V)) (k:κ) (v:V):List (κ × V) :=
 if (kvs.any fun kv=>decide (kv.1=k))=true then kvs.map (fun kv=>if kv.1=k then (kv.1,v) else kv) else kvs++[(k,v)]
def dropK (kvs:List (κ × V)) (k:κ):List (κ × V):=kvs.filter fun kv=>decide (kv.1≠k)
theorem RelO.getD {o:Option V} {u:Option Value} {d:V} {d':Value} (r:RelO o u) (rd:RelV d d'):RelV (o.getD d) (u.getD d'):=by
 cases o with
 | none=>cases u with
  | none=>exact rd
  | some _=>exact (show False from r).elim
 | some _=>cases u with
  | none=>exact (show False from r).elim
  | some _=>exact r
theorem KV.length {kvs:List (κ × V)} {vs:List (κ × Value)} (r:KV kvs vs):kvs.length=vs.length:=Paired.length r
end
/-- raw entries of a dict with tuple keys -/
abbrev KT (H:Hp):List (List Key × V)->List (List Key × Addr × Value)->Prop:=Paired fun p q=>p.1=q.1∧H q.2.1=some (.tup (p.1.map kV))∧RelV p.2 q.2.2
section
variable {P:Program} {w:World} {H:Hp} {h:Heap} {a:Addr}
end
/-- what the dict at a holds at the key y -/
def DGet (H:Hp) (a:Addr) (y:V) (r:Option V):Prop :=
 (∃ kvs k,Rd H a (.dK kvs)∧y=kV k∧r=valV kvs k)∨∃ kvs k b,Rd H a (.dT kvs)∧y=.ref b∧H b=some (.tup (k.map kV))∧r=valV kvs k
/-- the heap behind a[y] = v -/
def DPut (H:Hp) (a:Addr) (y v:V) (H':Hp):Prop :=
 (∃ kvs k,H a=some (.dK kvs)∧y=kV k∧kvs.length < sizeLine∧H'=upd H a (.dK (putK kvs k v))) ∨
 ∃ kvs k b,H a=some (.dT kvs)∧y=.ref b∧H b=some (.tup (k.map kV))∧kvs.length < sizeLine∧H'=upd H a (.dT (putK kvs k v))
section
variable {X:Cx} {pins:List (Addr × Obj)} {σ:St} {H:Hp} {s:Shared} {a:Addr} {y v:V} {u r:Value} {o:Option V} {A:Around} {E:Value->Shared->Prop}
end
section
variable {X:Cx} {pins:List (Addr × Obj)} {σ:St} {H:Hp} {s:Shared} {a:Addr} {kvs:List (Key × V)} {k:Key} {u:Value} {A:Around} {E:Value->Shared->Prop}
end
section
variable {X:Cx} {o i e value:Expr} {pos pos' tpos:Pos} {td ty tv:TE}
end
section
variable {X:Cx} {pos:Pos}
end
end L2
set_option maxHeartbeats 4000000
namespace Srt
open PySem PySem.W PyProof.Rows
section
variable {N:Nat} {r:Nat->Int} {cmp:Nat->Nat->(Bool->Shared->Prop)->Shared->Prop} {s:Shared}
def ky (r:Nat->Int) (p:Array Nat) (m:Nat):Int:=r (p.getD m 0)
def Up (r:Nat->Int) (p:Array Nat) (n:Nat):Prop:=∀ i j,i≤j->j < n->ky r p i≤ky r p j
def Dn (r:Nat->Int) (p:Array Nat) (n:Nat):Prop:=∀ i j,i≤j->j < n->ky r p j≤ky r p i
def Ask (N:Nat) (r:Nat->Int) (cmp:Nat->Nat->(Bool->Shared->Prop)->Shared->Prop) (s:Shared):Prop :=
 ∀ i j C,i < N->j < N->C (decide (r i < r j)) s->cmp i j C s
def Gd (N:Nat) (p:Array Nat):Prop:=p.Perm (List.toArray (List.range N))
theorem Gd.sz {p:Array Nat} (g:Gd N p):p.size=N:=by
 have:=g.size_eq
 simpa using this
theorem Gd.lt {p:Array Nat} (g:Gd N p) (h:0 < N) (m:Nat):p.getD m 0 < N:=by
 by_cases hm:m < p.size
 ·have e:p.getD m 0=p[m]:=by simp [Array.getD,hm]
  rw[e]
  have h1:p[m] ∈ p:=Array.getElem_mem hm
  have h2:p[m] ∈ List.toArray (List.range N):=g.mem_iff.mp h1
  simpa using h2
 ·have e:p.getD m 0=0:=by simp [Array.getD,hm]
  omega
theorem znr {p q:Array Nat} {i j:Nat} (h:p[i]?=q[j]?):ky r p i=ky r q j:=by
 have e:∀ (a:Array Nat) (k:Nat),a.getD k 0=(a[k]?).getD 0:=fun a k=>by
  by_cases hk:k < a.size <;> simp [Array.getD,hk]
 unfold ky
 rw[e,e,h]
theorem znq {p:Array Nat} {i j:Nat} (hj:j≤p.size) (k:Nat):ky r (kas_rev p i j) k=if i≤k∧k < j then ky r p (i + j - 1 - k) else ky r p k:=by
 have e:=getElem?_mirror_all (i:=i) hj k
 by_cases h:i≤k∧k < j
 ·rw[if_pos h] at e ⊢
  exact znr e
 ·rw[if_neg h] at e ⊢
  exact znr e
theorem zsk {p:Array Nat} {k d:Nat} (hs:k < p.size) (hd:d≤k) (m:Nat) :
  ky r (bubble p k d) m=if m=k - d then ky r p k else if k - d < m∧m≤k then ky r p (m - 1) else ky r p m:=by
 have e:=getElem?_bubble hs d hd m
 by_cases h1:m=k - d
 ·rw[if_pos h1] at e ⊢
  exact znr e
 ·rw[if_neg h1] at e ⊢
  by_cases h2:k - d < m∧m≤k
  ·rw[if_pos h2] at e ⊢
   exact znr e
  ·rw[if_neg h2] at e ⊢
   exact znr e
theorem Gd.rev {p:Array Nat} (g:Gd N p) (i j:Nat):Gd N (kas_rev p i j):=(mirror_perm p i j _).trans g
theorem Gd.bub {p:Array Nat} (g:Gd N p) (i j:Nat):Gd N (bubble p i j):=(bubble_perm p i j).trans g
theorem zk6 (h:Ask N r cmp s) (hN:0 < N) {p:Array Nat} (g:Gd N p) {Q:Nat->Shared->Prop}:∀ f n,1≤n->Up r p n ->
  (∀ m,n≤m->m≤n + f->Up r p m->(m < n + f->ky r p m < ky r p (m - 1))->Q m s)->(kas_asc p f n).kasWp cmp Q s
 | 0,n,_,hu,q=>q n (Nat.le_refl _) (Nat.le_refl _) hu (fun z=>absurd z (Nat.lt_irrefl _))
 | f + 1,n,h1,hu,q=>by
  refine h _ _ _ (g.lt hN _) (g.lt hN _) ?_
  by_cases c:r (p.getD n 0) < r (p.getD (n - 1) 0)
  ·rw[decide_eq_true c]
   exact q n (Nat.le_refl _) (by omega) hu (fun _=>c)
  ·rw[decide_eq_false c]
   refine zk6 h hN g f (n + 1) (by omega) (fun i j hij hj=>?_) (fun m a b u d=>q m (by omega) (by omega) u (fun z=>d (by omega)))
   have c':ky r p (n - 1)≤ky r p n:=by unfold ky;omega
   by_cases e:j=n
   ·subst e
    by_cases e2:i=j
    ·subst e2;exact Int.le_refl _
    ·exact Int.le_trans (hu i (j - 1) (by omega) (by omega)) c'
   ·exact hu i j hij (by omega)
theorem ze1 {p:Array Nat} {i j:Nat} (hj:j≤p.size) (v:Int) (he:∀ k,i≤k->k < j->ky r p k=v) (k:Nat):ky r (kas_rev p i j) k=ky r p k:=by
 rw[znq hj]
 split
 ·rename_i c
  rw[he _ (by omega) (by omega),he k c.1 c.2]
 ·rfl
theorem zgz (h:Ask N r cmp s) (hN:0 < N) {Q:Array Nat × Nat × Nat->Shared->Prop}:∀ f p n q,Gd N p->1≤n->n + f≤N->Dn r p n->q + 1≤n->(∀ i,n - (q + 1)≤i->i < n->ky r p i=ky r p (n - 1)) ->
  (∀ p' n' q',Gd N p'->n≤n'->n'≤n + f->Dn r p' n'->q' + 1≤n'->(∀ i,n' - (q' + 1)≤i->i < n'->ky r p' i=ky r p' (n' - 1))->Q (p',n',q') s)->(kas_desc f p n q).kasWp cmp Q s
 | 0,p,n,q,g,_,_,hd,hq,he,z=>z p n q g (Nat.le_refl _) (Nat.le_refl _) hd hq he
 | f + 1,p,n,q,g,h1,hf,hd,hq,he,z=>by
  refine h _ _ _ (g.lt hN _) (g.lt hN _) ?_
  by_cases c:r (p.getD n 0) < r (p.getD (n - 1) 0)
  ·rw[decide_eq_true c]
   have c':ky r p n < ky r p (n - 1):=c
   have dn:∀ {p':Array Nat},(∀ k,ky r p' k=ky r p k)->Dn r p' (n + 1):=fun e i j hij hj=>by
    rw[e,e]
    by_cases ej:j=n
    ·subst ej
     by_cases ei:i=j
     ·subst ei;exact Int.le_refl _
     ·exact Int.le_trans (Int.le_of_lt c') (hd i (j - 1) (by omega) (by omega))
    ·exact hd i j hij (by omega)
   show KasT.kasWp cmp (if q > 0 then kas_desc f (kas_rev p (n - (q + 1)) n) (n + 1) 0 else kas_desc f p (n + 1) 0) Q s
   by_cases hq0:q > 0
   ·rw[if_pos hq0]
    have e:=ze1 (r:=r) (p:=p) (i:=n - (q + 1)) (j:=n) (by rw[g.sz];omega) (ky r p (n - 1)) he
    exact zgz h hN f _ (n + 1) 0 (g.rev _ _) (by omega) (by omega) (dn e) (by omega) (fun i a b=>by congr 1;omega)
     (fun p' n' q' g' a b d e1 e2=>z p' n' q' g' (by omega) (by omega) d e1 e2)
   ·rw[if_neg hq0]
    exact zgz h hN f _ (n + 1) 0 g (by omega) (by omega) (dn fun _=>rfl) (by omega) (fun i a b=>by congr 1;omega)
     (fun p' n' q' g' a b d e1 e2=>z p' n' q' g' (by omega) (by omega) d e1 e2)
  ·rw[decide_eq_false c]
   refine h _ _ _ (g.lt hN _) (g.lt hN _) ?_
   by_cases d:r (p.getD (n - 1) 0) < r (p.getD n 0)
   ·rw[decide_eq_true d]
    exact z p n q g (Nat.le_refl _) (by omega) hd hq he
   ·rw[decide_eq_false d]
    have e:ky r p n=ky r p (n - 1):=by unfold ky;omega
    refine zgz h hN f p (n + 1) (q + 1) g (by omega) (by omega) (fun i j hij hj=>?_) (by omega) (fun i a b=>?_)
     (fun p' n' q' g' a b d e1 e2=>z p' n' q' g' (by omega) (by omega) d e1 e2)
    ·by_cases ej:j=n
     ·subst ej
      by_cases ei:i=j
      ·subst ei;exact Int.le_refl _
      ·rw[e];exact hd i (j - 1) (by omega) (by omega)
     ·exact hd i j hij (by omega)
    ·rw[show n + 1 - 1=n by omega]
     by_cases ei:i=n
     ·rw[ei]
     ·rw[e];exact he i (by omega) (by omega)
theorem zka (h:Ask N r cmp s) (hN:0 < N) {Q:Nat × Array Nat->Shared->Prop} {p:Array Nat} {n:Nat} (g:Gd N p) (h1:1≤n) (hn:n≤N) (hd:Dn r p n)
  (z:∀ m p',Gd N p'->1≤m->m≤N->Up r p' m->Q (m,p') s):(kas_tail3 n N p).kasWp cmp Q s:=by
 unfold kas_tail3
 rw[KasT.kasWp_bind]
 refine zk6 h hN (g.rev 0 n) _ n h1 (fun i j hij hj=>?_) (fun m a b u _=>z m _ (g.rev 0 n) (by omega) (by omega) u)
 rw[znq (by rw[g.sz];omega),znq (by rw[g.sz];omega),if_pos (by omega),if_pos (by omega)]
 exact hd _ _ (by omega) (by omega)
theorem ze5 (h:Ask N r cmp s) (hN:0 < N) {Q:Nat × Array Nat->Shared->Prop} {p:Array Nat} {n:Nat} (g:Gd N p) (h1:1≤n) (hn:n + 1≤N) (hd:Dn r p (n + 1))
  (z:∀ m p',Gd N p'->1≤m->m≤N->Up r p' m->Q (m,p') s):(kas_descPart n N p).kasWp cmp Q s:=by
 unfold kas_descPart
 rw[KasT.kasWp_bind]
 refine zgz h hN _ p (n + 1) 0 g (by omega) (by omega) hd (by omega) (fun i a b=>by congr 1;omega) (fun p' n' q' g' a b d e1 e2=>?_)
 show KasT.kasWp cmp (if q' > 0 then kas_tail3 n' N (kas_rev p' (n' - (q' + 1)) n') else kas_tail3 n' N p') Q s
 by_cases hq:q' > 0
 ·rw[if_pos hq]
  have e:=ze1 (r:=r) (p:=p') (i:=n' - (q' + 1)) (j:=n') (by rw[g'.sz];omega) (ky r p' (n' - 1)) e2
  exact zka h hN (g'.rev _ _) (by omega) (by omega) (fun i j hij hj=>by rw[e,e];exact d i j hij hj) z
 ·rw[if_neg hq]
  exact zka h hN g' (by omega) (by omega) d z
theorem zps (h:Ask N r cmp s) (hN:0 < N) {Q:Nat × Array Nat->Shared->Prop} {p:Array Nat} (g:Gd N p)
  (z:∀ m p',Gd N p'->1≤m->m≤N->Up r p' m->Q (m,p') s):(kas_count N p).kasWp cmp Q s:=by
 unfold kas_count
 rw[KasT.kasWp_bind]
 refine zk6 h hN g _ 1 (Nat.le_refl _) (fun i j hij hj=>?_) (fun m a b u d=>?_)
 ·have:i=j:=by omega
  subst this;exact Int.le_refl _
 show KasT.kasWp cmp (if (m == N)=true then .ret (m,p) else if m > 1 then .ask (p.getD 0 0) (p.getD (m - 1) 0) fun c=>if c=true then .ret (m,p) else kas_descPart m N (kas_rev p 0 m) else kas_descPart m N p) Q s
 by_cases hm:m=N
 ·rw[if_pos (by simpa using hm)]
  exact z m p g a (by omega) u
 ·rw[if_neg (by simpa using hm)]
  have d':=d (by omega)
  by_cases h1:m > 1
  ·rw[if_pos h1]
   refine h _ _ _ (g.lt hN _) (g.lt hN _) ?_
   by_cases c:r (p.getD 0 0) < r (p.getD (m - 1) 0)
   ·rw[decide_eq_true c]
    exact z m p g a (by omega) u
   ·rw[decide_eq_false c]
    have c':ky r p (m - 1)≤ky r p 0:=by unfold ky;omega
    have eq:∀ k,0≤k->k < m->ky r p k=ky r p 0:=fun k _ hk=>by
     have a1:=u 0 k (by omega) hk
     have a2:=u k (m - 1) (by omega) (by omega)
     omega
    have e:=ze1 (r:=r) (p:=p) (i:=0) (j:=m) (by rw[g.sz];omega) (ky r p 0) eq
    refine ze5 h hN (g.rev 0 m) (by omega) (by omega) (fun i j hij hj=>?_) z
    rw[e,e]
    by_cases ej:j=m
    ·subst ej
     by_cases ei:i=j
     ·subst ei;exact Int.le_refl _
     ·rw[eq i (by omega) (by omega)]
      have:=eq (j - 1) (by omega) (by omega)
      omega
    ·rw[eq i (by omega) (by omega),eq j (by omega) (by omega)]
     exact Int.le_refl _
  ·rw[if_neg h1]
   have e1:m=1:=by omega
   subst e1
   refine ze5 h hN g (by omega) (by omega) (fun i j hij hj=>?_) z
   by_cases ej:j=1
   ·subst ej
    by_cases ei:i=1
    ·subst ei;exact Int.le_refl _
    ·have:i=0:=by omega
     subst this
     exact Int.le_of_lt d'
   ·have:i=j:=by omega
    subst this;exact Int.le_refl _
theorem zgg (h:Ask N r cmp s) (hN:0 < N) {Q:Nat->Shared->Prop} {p:Array Nat} {k:Nat} (g:Gd N p) (hu:Up r p k):∀ f l rr,l≤rr->rr≤k->rr - l≤f->(∀ i,i < l->ky r p i≤ky r p k)->(∀ i,rr≤i->i < k->ky r p k < ky r p i) ->
  (∀ l',l'≤k->(∀ i,i < l'->ky r p i≤ky r p k)->(∀ i,l'≤i->i < k->ky r p k < ky r p i)->Q l' s)->(kas_place p k f l rr).kasWp cmp Q s
 | 0,l,rr,h1,h2,h3,a,b,z=>z l (by omega) a (fun i x y=>b i (by omega) y)
 | f + 1,l,rr,h1,h2,h3,a,b,z=>by
  unfold kas_place
  by_cases hl:l ≥ rr
  ·rw[if_pos hl]
   exact z l (by omega) a (fun i x y=>b i (by omega) y)
  ·rw[if_neg hl]
   refine h _ _ _ (g.lt hN _) (g.lt hN _) ?_
   by_cases c:r (p.getD k 0) < r (p.getD ((l + rr) / 2) 0)
   ·rw[decide_eq_true c]
    have c':ky r p k < ky r p ((l + rr) / 2):=c
    exact zgg h hN g hu f l ((l + rr) / 2) (by omega) (by omega) (by omega) a (fun i x y=>Int.lt_of_lt_of_le c' (hu _ _ x y)) z
   ·rw[decide_eq_false c]
    have c':ky r p ((l + rr) / 2)≤ky r p k:=by unfold ky;omega
    exact zgg h hN g hu f ((l + rr) / 2 + 1) rr (by omega) (by omega) (by omega) (fun i x=>Int.le_trans (hu i ((l + rr) / 2) (by omega) (by omega)) c') b z
theorem zqo (h:Ask N r cmp s) (hN:0 < N) {Q:Array Nat->Shared->Prop}:∀ f p k,Gd N p->k + f≤N->Up r p k->(∀ p',Gd N p'->Up r p' (k + f)->Q p' s)->(kas_bin f p k).kasWp cmp Q s
 | 0,p,k,g,_,hu,z=>z p g hu
 | f + 1,p,k,g,hk,hu,z=>by
  unfold kas_bin
  rw[KasT.kasWp_bind]
  refine zgg h hN g hu k 0 k (by omega) (Nat.le_refl _) (by omega) (fun i x=>absurd x (Nat.not_lt_zero _)) (fun i x y=>absurd (Nat.lt_of_le_of_lt x y) (Nat.lt_irrefl _)) (fun l hl a b=>?_)
  have e:=fun m=>zsk (r:=r) (p:=p) (k:=k) (d:=k - l) (by rw[g.sz];omega) (by omega) m
  refine zqo h hN f _ (k + 1) (g.bub _ _) (by omega) (fun i j hij hj=>?_) (fun p' g' u'=>z p' g' (by rw[show k + (f + 1)=k + 1 + f by omega];exact u'))
  rw[e,e]
  have ekl:k - (k - l)=l:=by omega
  rw[ekl]
  by_cases i1:i=l
  ·rw[if_pos i1]
   by_cases j1:j=l
   ·rw[if_pos j1];exact Int.le_refl _
   ·rw[if_neg j1,if_pos (by omega)]
    exact Int.le_of_lt (b _ (by omega) (by omega))
  ·rw[if_neg i1]
   by_cases i2:l < i∧i≤k
   ·rw[if_pos i2,if_neg (by omega),if_pos (by omega)]
    exact hu _ _ (by omega) (by omega)
   ·rw[if_neg i2]
    by_cases j1:j=l
    ·rw[if_pos j1];exact a _ (by omega)
    ·rw[if_neg j1]
     by_cases j2:l < j∧j≤k
     ·rw[if_pos j2];exact hu _ _ (by omega) (by omega)
     ·rw[if_neg j2];exact hu _ _ hij (by omega)
/-- the sort's tree, asked by ranks, ends at an order of the places by which the ranks rise -/
theorem zqz (h:Ask N r cmp s) (hN:0 < N) {Q:Array Nat->Shared->Prop} (z:∀ p,Gd N p->Up r p N->Q p s):(kas_sort N).kasWp cmp Q s:=by
 unfold kas_sort
 rw[KasT.kasWp_bind]
 refine zps h hN (Array.Perm.refl _) (fun m p g h1 hm u=>?_)
 show KasT.kasWp cmp (if m < N then kas_bin (N - max m 1) p (max m 1) else .ret p) Q s
 by_cases c:m < N
 ·rw[if_pos c,Nat.max_eq_left h1]
  exact zqo h hN _ p m g (by omega) u (fun p' g' u'=>z p' g' (by rw[show m + (N - m)=N by omega] at u';exact u'))
 ·rw[if_neg c]
  have:m=N:=by omega
  subst this
  exact z p g u
end
end Srt
namespace Srt
open PySem PySem.W PyProof.Rows
section
variable {n:Nat} {lt:Nat->Nat->Bool}
def rank (n:Nat) (lt:Nat->Nat->Bool) (i:Nat):Int:=(((List.range n).countP fun k=>lt k i:Nat):Int)
theorem zcl {α:Type} {p q:α->Bool}:∀ {l:List α} {x:α},(∀ y ∈ l,p y=true->q y=true)->x ∈ l->p x=false->q x=true->l.countP p < l.countP q
 | [],_,_,hx,_,_=>by cases hx
 | a::r,x,h,hx,hp,hq=>by
  have hr:∀ y ∈ r,p y=true->q y=true:=fun y hy=>h y (List.mem_cons_of_mem _ hy)
  have mono:r.countP p≤r.countP q:=List.countP_mono_left hr
  rw[List.countP_cons,List.countP_cons]
  rcases List.mem_cons.mp hx with e | hx
  ·subst e
   simp only [hp,hq,Bool.false_eq_true,if_false,if_true]
   omega
  ·have ih:=zcl hr hx hp hq
   cases hpa:p a with
   | false=>simp only [Bool.false_eq_true,if_false];split <;> omega
   | true =>
    have:=h a List.mem_cons_self hpa
    simp only [this,if_true]
    omega
theorem zei (hi:∀ i,lt i i=false) (ht:∀ i j k,i < n->j < n->k < n->lt i j=true->lt j k=true->lt i k=true) (hn:∀ i j k,i < n->j < n->k < n->lt i k=true->lt i j=true∨lt j k=true)
  {i j:Nat} (h1:i < n) (h2:j < n):decide (rank n lt i < rank n lt j)=lt i j:=by
 unfold rank
 cases e:lt i j with
 | true =>
  refine decide_eq_true ?_
  have:=zcl (p:=fun k=>lt k i) (q:=fun k=>lt k j) (l:=List.range n) (x:=i) (fun k hk q=>ht k i j (List.mem_range.mp hk) h1 h2 q e) (List.mem_range.mpr h1) (hi i) e
  omega
 | false =>
  refine decide_eq_false ?_
  have:(List.range n).countP (fun k=>lt k j)≤(List.range n).countP (fun k=>lt k i):=List.countP_mono_left fun k hk q=>by
   rcases hn k i j (List.mem_range.mp hk) h1 h2 q with z | z
   ·exact z
   ·rw[e] at z;cases z
  omega
end
section
variable {prog:Program} {w:World} {A:Around} {E:Value->Shared->Prop} {s:Shared}
abbrev Stay (a:Addr) (h h':Heap):Prop:=∀ b o,b≠a->h.get? b=some o->h'.get? b=some o
def outOf (vs:List Value) (p:Array Nat):List Value:=p.toList.map fun i=>vs.getD i Value.none
theorem zht (vs:List Value):outOf vs (List.toArray (List.range vs.length))=vs:=by
 unfold outOf
 refine List.ext_getElem (by simp) fun i h1 h2=>?_
 simp
 rw[List.getElem?_eq_getElem h2]
 rfl
theorem zqi {vs:List Value} {p:Array Nat} (g:Gd vs.length p):(outOf vs p).length=vs.length:=by
 unfold outOf
 rw[List.length_map,Array.length_toList,g.sz]
/-- list.sort of a list whose items are told apart by ranks; nothing is written by a comparison -/
theorem lsort {a:Addr} {vs:List Value} {n:Nat} {P:PySem.Fin->Shared->Prop} {r:Nat->Int} {κ:SortKind} (ho:s.heap.get? a=some (seqObj "list" vs.toArray n)) (h64:vs.length < 64)
  (hk:2≤vs.length->∀ (s':Shared) (Q:SortKind->Shared->Prop),Stay a s.heap s'.heap->Q κ s'->wpAny (model prog w) A (keyKind' vs.toArray) Q (fun _ _=>False) s')
  (hc:∀ (s':Shared) (i j:Nat) (C:Bool->Shared->Prop),Stay a s.heap s'.heap->i < vs.length->j < vs.length->C (decide (r i < r j)) s'->kas_ask prog w A κ vs i j C s')
  (h:∀ (p:Array Nat) (h':Heap) (c:Nat),Gd vs.length p->Up r p vs.length->Stay a s.heap h'->h'.get? a=some (seqObj "list" (outOf vs p).toArray c)->P (.done (.ret .none)) { s with heap:=h' }) :
  wpAny (model prog w) A (Builtin.«list.sort» ⟨[.ref a],[]⟩) P E s:=by
 rw[list_sort_plain]
 have ha:a < s.heap.objs.size:=Heap.lt_size ho
 have line:(64:Nat)≤sizeLine:=by rw[sizeLine_eq];decide
 refine wpAny_bind (listItems_at ho rfl (wpAny_bind (listUpdate_at ho rfl ?_ (by rw[List.size_toArray];omega) (Nat.zero_le _))))
 have e1:=get?_update_seq ho fun _=>(#[]:Array Value)
 generalize (if ((fun _=>(#[]:Array Value)) vs.toArray).size == vs.toArray.size then n else n + 1)=n1 at e1
 have k1:Stay a s.heap (s.heap.update a (Obj.mapSeq fun _=>(#[]:Array Value))):=fun b o hb q=>(Heap.get?_update_other s.heap _ (Ne.symm hb)).trans q
 refine wpAny_bind (seqEpoch_at e1 rfl (wpAny_bind (wpAny_newTuple ?_ (by show vs.length≤_;omega))))
 refine wpAny_bind (wpAny_newList ?_ (Nat.zero_le _))
 refine wpAny_holding ?_
 show wpAny (model prog w) A _ P E { s with heap:=(((s.heap.update a (Obj.mapSeq fun _=>(#[]:Array Value))).push (seqObj "tuple" vs.toArray 0)).push (seqObj "list" #[] 0):Heap) }
 generalize hg:((s.heap.update a (Obj.mapSeq fun _=>(#[]:Array Value))).push (seqObj "tuple" vs.toArray 0)).push (seqObj "list" #[] 0)=g
 have e2:g.get? a=some (seqObj "list" #[] n1):=by rw[← hg];exact Heap.get?_push_of_some _ (Heap.get?_push_of_some _ e1)
 have k2:Stay a s.heap g:=fun b o hb q=>by rw[← hg];exact Heap.get?_push_of_some _ (Heap.get?_push_of_some _ (k1 b o hb q))
 have fin:∀ (p:Array Nat),Gd vs.length p->Up r p vs.length->P (.done (.ret .none)) { s with heap:=g.update a (Obj.mapSeq fun _=>(outOf vs p).toArray) }:=fun p g1 u1 =>
  h p _ _ g1 u1 (fun b o hb q=>(Heap.get?_update_other g _ (Ne.symm hb)).trans (k2 b o hb q)) (get?_update_seq e2 fun _=>(outOf vs p).toArray)
 by_cases h2:vs.length < 2
 ·have h2':vs.toArray.size < 2:=by rw[List.size_toArray];exact h2
  simp only [if_pos h2']
  refine wpAny_bind (wpAny_pure ?_)
  rw[StateT.run_pure]
  refine wpAny_bind (wpAny_pure ?_)
  have eo:((arrOf (SortSt.mk' general' (vs.toArray.zip vs.toArray) #[] 7 none)).map (·.2))=vs.toArray:=by
   apply Array.toList_inj.mp
   show ((vs.toArray.zip vs.toArray).map (·.2)).toList=_
   rw[Array.toList_map]
   simp only [Array.toList_zip,List.toList_toArray]
   exact List.map_snd_zip (Nat.le_refl _)
  dsimp only
  refine wpAny_bind (seqEpoch_at e2 rfl ?_)
  rw[eo]
  refine wpAny_bind (listUpdate_at e2 rfl ?_ (Nat.zero_le _) (by rw[List.size_toArray];omega))
  simp only [bne_self_eq_false,Bool.false_eq_true,if_false]
  have f:=fin (List.toArray (List.range vs.length)) (Array.Perm.refl _) (fun i j hij hj=>by
   have:i=j:=by omega
   subst this;exact Int.le_refl _)
  rw[zht] at f
  exact wpAny_pure f
 ·have h2':¬ vs.toArray.size < 2:=by rw[List.size_toArray];exact h2
  simp only [if_neg h2']
  refine wpAny_bind (wpAny_mono (hk (by omega) { s with heap:=g } (fun κ' s'=>κ'=κ∧s'={ s with heap:=g }) k2 ⟨rfl,rfl⟩) (fun κ' s' hq=>?_) fun _ _ x=>x.elim)
  obtain⟨rfl,rfl⟩:=hq
  refine wpAny_bind (wpAny_mono (kat_run (ks:=vs) (Q:=fun st' s'=>∃ p:Array Nat,arrOf st'=p.map (kas_item (vs.toArray.zip vs.toArray))∧failedOf st'=none∧s'={ s with heap:=g }∧Gd vs.length p∧Up r p vs.length)
   (G:=fun p s'=>s'={ s with heap:=g }∧Gd vs.length p∧Up r p vs.length) rfl (by omega) h64 (fun p st' s' _ b2 b3 b4=>⟨p,b2,b3,b4.1,b4.2.1,b4.2.2⟩)
   (zqz (r:=r) (fun i j C hi hj q=>hc _ i j C k2 hi hj q) (by omega) fun p g1 u1=>⟨rfl,g1,u1⟩)) ?_ fun _ _ e=>e)
  rintro ⟨⟨⟩,st'⟩ s' ⟨p,har,hf,rfl,g1,u1⟩
  have hout:=kat_snds (ks:=vs) (vs:=vs) rfl har
  have ol:(outOf vs p).length=vs.length:=zqi g1
  dsimp only
  rw[hout]
  refine wpAny_bind (seqEpoch_at e2 rfl ?_)
  refine wpAny_bind (listUpdate_at e2 rfl ?_ (Nat.zero_le _) (by show (outOf vs p).toArray.size≤_;rw[List.size_toArray];omega))
  rw[hf]
  simp only [bne_self_eq_false,Bool.false_eq_true,if_false]
  exact wpAny_pure (fin p g1 u1)
/-- sorted(l) -/
theorem zhm {l:Addr} {vs:List Value} {Q:Value->Shared->Prop} {r:Nat->Int} {κ:SortKind} (hl:s.heap.IsList l vs.toArray) (h64:vs.length < 64)
  (hk:2≤vs.length->∀ (A':Around) (s':Shared) (Q:SortKind->Shared->Prop),(∀ b o,s.heap.get? b=some o->s'.heap.get? b=some o)->Q κ s'->wpAny (model prog w) A' (keyKind' vs.toArray) Q (fun _ _=>False) s')
  (hc:∀ (A':Around) (s':Shared) (i j:Nat) (C:Bool->Shared->Prop),(∀ b o,s.heap.get? b=some o->s'.heap.get? b=some o)->i < vs.length->j < vs.length->C (decide (r i < r j)) s'->kas_ask prog w A' κ vs i j C s')
  (h:∀ (p:Array Nat) (h':Heap) (c:Nat),Gd vs.length p->Up r p vs.length->(∀ b o,s.heap.get? b=some o->h'.get? b=some o)->h'.get? (s.heap.objs.size + 1)=some (seqObj "list" (outOf vs p).toArray c)->Q (.ref (s.heap.objs.size + 1)) { s with heap:=h' }) :
  wpAny (model prog w) A (call (.builtin "sorted") [.ref l]) Q E s:=by
 have line:(64:Nat)≤sizeLine:=by rw[sizeLine_eq];decide
 refine Calls.call_function_entry kind_sorted plain_sorted entry_sorted (args_sorted1 _) ?_
 unfold Builtin.«sorted»
 refine wpAny_bind (m:=checkCount "sorted" 1 1 _) (wpAny_pure (wpAny_bind (collect_list hl (wpAny_bind (wpAny_newList ?_ (by omega))) (by omega))))
 generalize hg:(s.heap.push (seqObj "list" #[] 0)).update s.heap.objs.size (Obj.mapSeq (·++vs.toArray))=g
 have sz:g.objs.size=s.heap.objs.size + 1:=by rw[← hg,Heap.size_update,size_push']
 have k1:∀ b o,s.heap.get? b=some o->g.get? b=some o:=fun b o q=>by
  rw[← hg]
  exact (Heap.get?_update_other _ _ (Ne.symm (Nat.ne_of_lt (Heap.lt_size q)))).trans (Heap.get?_push_of_some _ q)
 have hoL:(g.push { cls:=.type "list",data:=.seq vs.toArray }).get? (s.heap.objs.size + 1)=some (seqObj "list" vs.toArray 0):=by rw[← sz];exact Heap.get?_push_size _ rfl
 have k2:∀ b o,s.heap.get? b=some o->(g.push { cls:=.type "list",data:=.seq vs.toArray }).get? b=some o:=fun b o q=>Heap.get?_push_of_some _ (k1 b o q)
 have ne:∀ b o,s.heap.get? b=some o->b≠s.heap.objs.size + 1:=fun b o q=>Nat.ne_of_lt (Nat.lt_succ_of_lt (Heap.lt_size q))
 show wpAny _ _ _ _ _ { s with heap:=g.push { cls:=.type "list",data:=.seq vs.toArray } }
 rw[sz]
 refine wpAny_bind (wpAny_holding (wpAny_call_entry slot_list_sort ⟨_,hoL,rfl⟩ entry_list_sort ?_ (args_list_sort _)))
 refine lsort (s:={ s with heap:=g.push { cls:=.type "list",data:=.seq vs.toArray } }) (r:=r) (κ:=κ) hoL h64 (fun h2 s' Q' st q=>hk h2 _ s' Q' (fun b o e=>st b o (ne b o e) (k2 b o e)) q)
  (fun s' i j C st hi hj q=>hc _ s' i j C (fun b o e=>st b o (ne b o e) (k2 b o e)) hi hj q) fun p h' c g1 u1 st e=>⟨_,rfl,?_⟩
 exact wpAny_pure ⟨_,rfl,h p h' c g1 u1 (fun b o e=>st b o (ne b o e) (k2 b o e)) e⟩
def lexI:List Int->List Int->Bool
 | [],[]=>false
 | [],_::_=>true
 | _::_,[]=>false
 | x::xs,y::ys=>if x=y then lexI xs ys else decide (x < y)
theorem zb4:∀ xs,lexI xs xs=false
 | []=>rfl
 | x::xs=>by show (if x=x then lexI xs xs else _)=false;rw[if_pos rfl];exact zb4 xs
theorem zbr:∀ xs ys zs,lexI xs ys=true->lexI ys zs=true->lexI xs zs=true
 | [],[],_,h,_=>by cases h
 | [],_::_,[],_,h=>by cases h
 | [],_::_,_::_,_,_=>rfl
 | _::_,[],_,h,_=>by cases h
 | _::_,_::_,[],_,h=>by cases h
 | x::xs,y::ys,z::zs,h1,h2=>by
  simp only [lexI] at h1 h2 ⊢
  by_cases e1:x=y
  ·subst e1
   rw[if_pos rfl] at h1
   by_cases e2:x=z
   ·rw[if_pos e2] at h2 ⊢;exact zbr xs ys zs h1 h2
   ·rw[if_neg e2] at h2 ⊢;exact h2
  ·rw[if_neg e1] at h1
   have l1:x < y:=of_decide_eq_true h1
   by_cases e2:y=z
   ·subst e2
    rw[if_neg e1];exact h1
   ·rw[if_neg e2] at h2
    have l2:y < z:=of_decide_eq_true h2
    rw[if_neg (by omega)]
    exact decide_eq_true (by omega)
theorem zcq:∀ xs ys zs,lexI xs zs=true->lexI xs ys=true∨lexI ys zs=true
 | [],[],_,h=>.inr h
 | [],_::_,_,_=>.inl rfl
 | _::_,_,[],h=>by cases h
 | _::_,[],_::_,_=>.inr rfl
 | x::xs,y::ys,z::zs,h=>by
  simp only [lexI] at h ⊢
  by_cases e:x=z
  ·subst e
   rw[if_pos rfl] at h
   by_cases e1:x=y
   ·subst e1
    rw[if_pos rfl,if_pos rfl];exact zcq xs ys zs h
   ·rw[if_neg e1,if_neg (Ne.symm e1)]
    by_cases l:x < y
    ·exact .inl (decide_eq_true l)
    ·exact .inr (decide_eq_true (by omega))
  ·rw[if_neg e] at h
   have l:x < z:=of_decide_eq_true h
   by_cases e1:x=y
   ·subst e1
    rw[if_neg e];exact .inr h
   ·by_cases e2:y=z
    ·subst e2
     rw[if_neg e1];exact .inl h
    ·rw[if_neg e1,if_neg e2]
     by_cases l1:x < y
     ·exact .inl (decide_eq_true l1)
     ·exact .inr (decide_eq_true (by omega))
theorem zkl:∀ xs ys,lexI xs ys=false->lexI ys xs=false->xs=ys
 | [],[],_,_=>rfl
 | [],_::_,h,_=>by cases h
 | _::_,[],_,h=>by cases h
 | x::xs,y::ys,h1,h2=>by
  simp only [lexI] at h1 h2
  by_cases e:x=y
  ·subst e
   rw[if_pos rfl] at h1 h2
   rw[zkl xs ys h1 h2]
  ·rw[if_neg e] at h1
   rw[if_neg (Ne.symm e)] at h2
   have:=of_decide_eq_false h1
   have:=of_decide_eq_false h2
   exact absurd (by omega) e
/-- the values of a list that are tuples of ints -/
def TupI (h:Heap) (v:Value) (k:List Int):Prop:=∃ a o its n,v=.ref a∧h.get? a=some o∧o.cls=.type "tuple"∧o.data=.seq its n∧IntsAre its.toList k
theorem TupI.to {h h':Heap} {v:Value} {k:List Int} (t:TupI h v k) (e:∀ b o,h.get? b=some o->h'.get? b=some o):TupI h' v k :=
 let ⟨a,o,its,n,q1,q2,q3⟩:=t
 ⟨a,o,its,n,q1,e _ _ q2,q3⟩
theorem katI {C:Bool->Shared->Prop}:∀ {xs ys:List Value} {k k':List Int} (i:Nat),IntsAre xs k->IntsAre ys k'->C (lexI k k') s->KatLex prog w A true (decide (k.length < k'.length)) C (xs.zip ys) i s
 | _,_,_,_,i,.nil,.nil,h=>h
 | _,_,_,_,i,.nil,.cons c u h',h=>by
  rw[List.zip_nil_left]
  refine kat_nil ?_
  rw[decide_eq_true (by simp)]
  exact h
 | _,_,_,_,i,.cons a t h',.nil,h=>by
  rw[List.zip_nil_right]
  refine kat_nil ?_
  rw[decide_eq_false (by simp)]
  exact h
 | _,_,_,_,i,.cons a t (vs:=xs) (ns:=k) h1,.cons c u (vs:=ys) (ns:=k') h2,h=>by
  rw[List.zip_cons_cons]
  refine kat_cons (wpAny_eqBool_int ?_)
  have ef:decide ((a::k).length < (c::k').length)=decide (k.length < k'.length):=by simp
  have hh:C (if a=c then lexI k k' else decide (a < c)) s:=h
  rw[ef]
  by_cases e:a=c
  ·rw[if_pos e] at hh
   rw[show (a == c)=true by simpa using e]
   exact kat_yes (katI (i + 1) h1 h2 hh)
  ·rw[if_neg e] at hh
   rw[show (a == c)=false by simpa using e]
   refine kat_no ?_
   cases hi:(true && i == 0) with
   | true=>exact oneLt_int hh
   | false=>exact kat_one _ _ (lt_int hh)
theorem zmg {vs:List Value} {ks:List (List Int)} (hk:Paired (TupI s.heap) vs ks) {i j:Nat} {C:Bool->Shared->Prop} (hi:i < vs.length) (hj:j < vs.length) (h:C (lexI (ks.getD i []) (ks.getD j [])) s):kas_ask prog w A (tuples' true) vs i j C s:=by
 have at_:∀ {vs:List Value} {ks:List (List Int)} (i:Nat),Paired (TupI s.heap) vs ks->i < vs.length->TupI s.heap (vs.getD i Value.none) (ks.getD i []):=by
  intro vs ks i p
  induction p generalizing i with
  | nil=>intro h;exact absurd h (by simp)
  | cons r t ih =>
   intro h
   cases i with
   | zero=>exact r
   | succ i=>exact ih i (by simpa using h)
 obtain⟨a,o,its,n,e1,q1,q2,q3,q4⟩:=at_ i hk hi
 obtain⟨a',o',its',n',e1',q1',q2',q3',q4'⟩:=at_ j hk hj
 unfold kas_ask
 rw[e1,e1']
 refine kat_lt q1 q3 q1' q3' ?_
 have l1:its.size=(ks.getD i []).length:=by have:=q4.length;simpa using this
 have l2:its'.size=(ks.getD j []).length:=by have:=q4'.length;simpa using this
 rw[l1,l2]
 exact katI 0 q4 q4' h
theorem zj6 {vs:List Value} {ks:List (List Int)} (hk:Paired (TupI s.heap) vs ks) (hne:∀ k ∈ ks,k≠[]) (h2:2≤vs.length) {Q:SortKind->Shared->Prop} (h:Q (tuples' true) s):wpAny (model prog w) A (keyKind' vs.toArray) Q E s:=by
 have mk:∀ {vs:List Value} {ks:List (List Int)},Paired (TupI s.heap) vs ks->(∀ k ∈ ks,k≠[])->∃ fs:List Value,KatTups s.heap vs fs∧fs.length=vs.length∧∀ f ∈ fs,∃ n t,f=.int n t:=by
  intro vs ks p
  induction p with
  | nil=>exact fun _=>⟨[],.nil,rfl,fun f hf=>nomatch hf⟩
  | cons r t ih =>
   intro hn
   obtain⟨fs,g1,g2,g3⟩:=ih fun k hk=>hn k (List.mem_cons_of_mem _ hk)
   obtain⟨a,o,its,n,e1,q1,q2,q3,q4⟩:=r
   have hne:=hn _ List.mem_cons_self
   subst e1
   cases hz:its.toList with
   | nil=>rw[hz] at q4;cases q4;exact absurd rfl hne
   | cons v r =>
    rw[hz] at q4
    obtain⟨m,tk,ev⟩:=q4.all v List.mem_cons_self
    refine⟨v::fs,.cons q1 q2 q3 ?_ g1,by simp [g2],fun f hf=>?_⟩
    ·rw[← Array.getElem?_toList,hz];rfl
    ·rcases List.mem_cons.mp hf with e | hf
     ·exact⟨m,tk,e.trans ev⟩
     ·exact g3 f hf
 obtain⟨fs,g1,g2,g3⟩:=mk hk hne
 refine kat_kind (T:=.type "int") g1 (by omega) (fun v hv=>?_) (by decide +kernel) h
 obtain⟨m,tk,rfl⟩:=g3 v hv
 exact Looks.of_pure rfl
theorem zjq {vs:List Value} {ns:List Int} (hk:IntsAre vs ns) {i j:Nat} {C:Bool->Shared->Prop} (hi:i < vs.length) (hj:j < vs.length) (h:C (decide (ns.getD i 0 < ns.getD j 0)) s):kas_ask prog w A oneType' vs i j C s:=by
 have at_:∀ {vs:List Value} {ns:List Int} (i:Nat),IntsAre vs ns->i < vs.length->∃ t,vs.getD i Value.none=.int (ns.getD i 0) t:=by
  intro vs ns i p
  induction p generalizing i with
  | nil=>intro h;exact absurd h (by simp)
  | cons n t r ih =>
   intro h
   cases i with
   | zero=>exact⟨t,rfl⟩
   | succ i=>exact ih i (by simpa using h)
 obtain⟨t,e1⟩:=at_ i hk hi
 obtain⟨u,e2⟩:=at_ j hk hj
 unfold kas_ask
 rw[e1,e2]
 exact kat_lt_int h
theorem zgq {vs:List Value} {ns:List Int} (hk:IntsAre vs ns) (h2:2≤vs.length) {Q:SortKind->Shared->Prop} (h:Q oneType' s):wpAny (model prog w) A (keyKind' vs.toArray) Q E s:=by
 refine kas_kind (T:=.type "int") h2 (fun v hv=>?_) (by decide +kernel) (by decide +kernel) h
 obtain⟨m,tk,rfl⟩:=hk.all v hv
 exact Looks.of_pure rfl
end
end Srt
namespace Z3
open PySem
section
variable {prog:Program} {w:World} {A:Around} {E:Value->Shared->Prop} {s:Shared}
/-- a sequence (t: a tuple, else a list) and an iterator over it -/
def SqAt (t:Bool) (h:Heap) (l:Addr) (xs:Array Value):Prop:=if t=true then h.IsTuple l xs else h.IsList l xs
def ItAt (t:Bool) (h:Heap) (it l:Addr) (i:Nat):Prop:=if t=true then h.IsTupleIter it l i else h.IsListIter it l i
def itObj (t:Bool) (l:Addr):Obj:=if t=true then { cls:=.type "tuple_iterator",data:=.fields #[.ref l,.int 0 0] } else { cls:=.type "list_iterator",data:=.fields #[.ref l,.int 0 0] }
theorem SqAt.to {t:Bool} {h h':Heap} {l:Addr} {xs:Array Value} (x:SqAt t h l xs) (e:∀ o,h.get? l=some o->h'.get? l=some o):SqAt t h' l xs:=by
 cases t with
 | true=>exact Heap.IsTuple.at (show h.IsTuple l xs from x) e
 | false=>exact Heap.IsList.at (show h.IsList l xs from x) e
theorem ItAt.to {t:Bool} {h h':Heap} {it l:Addr} {i:Nat} (x:ItAt t h it l i) (e:∀ o,h.get? it=some o->h'.get? it=some o):ItAt t h' it l i:=by
 cases t with
 | true=>exact Heap.IsTupleIter.at (show h.IsTupleIter it l i from x) e
 | false=>exact Heap.IsListIter.at (show h.IsListIter it l i from x) e
theorem ItAt.obj {t:Bool} {h:Heap} {it l:Addr} {i:Nat} (x:ItAt t h it l i):∃ o n,h.get? it=some o∧o.cls=.type n∧o.data=.fields #[.ref l,.int i 0]:=by
 cases t with
 | true=>obtain⟨o,a,b,c⟩:=(show h.IsTupleIter it l i from x);exact⟨o,_,a,b,c⟩
 | false=>obtain⟨o,a,b,c⟩:=(show h.IsListIter it l i from x);exact⟨o,_,a,b,c⟩
theorem ItAt.new {t:Bool} {h:Heap} {l:Addr}:ItAt t (h.push (itObj t l)) h.objs.size l 0:=by
 cases t with
 | true=>exact⟨_,Heap.get?_push_size _ rfl,rfl,rfl⟩
 | false=>exact⟨_,Heap.get?_push_size _ rfl,rfl,rfl⟩
theorem ze2 {t:Bool} {l:Addr} {xs:Array Value} {Q:Value->Shared->Prop} (hl:SqAt t s.heap l xs) (h:Q (.ref s.heap.objs.size) { s with heap:=s.heap.push (itObj t l) }):wpAny (model prog w) A (pyIter (.ref l)) Q E s:=by
 cases t with
 | true=>exact wpAny_pyIter_tuple hl h
 | false=>exact wpAny_pyIter_list hl h
theorem zpp {it l:Addr} {i:Nat} {xs:Array Value} {x:Value} {Q:Value->Shared->Prop} (hi:s.heap.IsTupleIter it l i) (hl:s.heap.IsTuple l xs) (hx:xs[i]?=some x)
  (h:∀ h',h'.IsTupleIter it l (i + 1)->Heap.SameBut it s.heap h'->Q x { s with heap:=h' }):wpAny (model prog w) A (Builtin.SmallTypes.nextOf (.ref it)) Q E s:=by
 obtain⟨o1,q1,q2,q3⟩:=id hi
 obtain⟨o2,q4,_,n2,q5⟩:=hl
 unfold Builtin.SmallTypes.nextOf
 refine wpAny_bind (wpAny_callSpecial?_slot (name:=Str.ofString "__next__") hi.typeIs F.slot_tuple_iterator_next (wpAny_call_entry F.slot_tuple_iterator_next hi.typeIs F.entry_tuple_iterator_next ?_ (F.args_tuple_iterator_next_1 _)))
 show wpAny _ _ (field (.ref it) 0 >>= _) _ _ s
 refine wpAny_bind (wpAny_field q1 q3 (x:=.ref l) rfl ?_)
 show wpAny _ _ (if (Value.ref l == Value.none)=true then _ else _) _ _ s
 rw[if_neg (show ¬ ((Value.ref l == Value.none)=true) from Bool.false_ne_true)]
 show wpAny _ _ (field (.ref it) 1 >>= _) _ _ s
 refine wpAny_bind (wpAny_field q1 q3 (x:=.int i 0) rfl ?_)
 show wpAny _ _ (seqItems? (.ref l) >>= _) _ _ s
 refine wpAny_bind (wpAny_seqItems q4 q5 ?_)
 simp only [Int.toNat_natCast,hx]
 refine wpAny_bind (wpAny_setField q1 q3 (by simp) (wpAny_pure ⟨x,rfl,wpAny_pure (h _ ?_ (Heap.SameBut.update ..))⟩))
 exact⟨_,Heap.get?_update_self _ q1 (Obj.isFreed_of_fields (Obj.data_mapFields q3 _)),(Obj.cls_mapFields ..).trans q2,by rw[Obj.data_mapFields q3];simp [rawInt]⟩
theorem zo0 {it l:Addr} {i:Nat} {xs:Array Value} {Q:Value->Shared->Prop} (hh:A.handled=none) (hi:s.heap.IsTupleIter it l i) (hl:s.heap.IsTuple l xs) (hx:xs[i]?=none)
  (h:∀ h' e,Heap.ExtBut it s.heap h'->(∃ o,h'.get? e=some o∧o.cls=.type "StopIteration")->E (.ref e) { s with heap:=h' }):wpAny (model prog w) A (Builtin.SmallTypes.nextOf (.ref it)) Q E s:=by
 obtain⟨o1,q1,q2,q3⟩:=id hi
 obtain⟨o2,q4,_,n2,q5⟩:=hl
 unfold Builtin.SmallTypes.nextOf
 refine wpAny_bind (wpAny_callSpecial?_slot (name:=Str.ofString "__next__") hi.typeIs F.slot_tuple_iterator_next (wpAny_call_entry F.slot_tuple_iterator_next hi.typeIs F.entry_tuple_iterator_next ?_ (F.args_tuple_iterator_next_1 _)))
 show wpAny _ _ (field (.ref it) 0 >>= _) _ _ s
 refine wpAny_bind (wpAny_field q1 q3 (x:=.ref l) rfl ?_)
 show wpAny _ _ (if (Value.ref l == Value.none)=true then _ else _) _ _ s
 rw[if_neg (show ¬ ((Value.ref l == Value.none)=true) from Bool.false_ne_true)]
 show wpAny _ _ (field (.ref it) 1 >>= _) _ _ s
 refine wpAny_bind (wpAny_field q1 q3 (x:=.int i 0) rfl ?_)
 show wpAny _ _ (seqItems? (.ref l) >>= _) _ _ s
 refine wpAny_bind (wpAny_seqItems q4 q5 ?_)
 simp only [Int.toNat_natCast,hx]
 refine wpAny_bind (wpAny_rule (wpAny_bind (wpAny_setField q1 q3 (by simp) ?_)))
 show wpAny _ _ (newExc (.type "StopIteration") [] >>= _) _ _ { s with heap:=_ }
 refine wpAny_bind (by
  simp only [newExc,newTuple]
  refine wpAny_bind (wpAny_newObj_type ?_ (by size_fits))
  refine wpAny_bind (m:=firstArgMember _ _) (wpAny_of_eq (a:=Value.none) (by first | rfl | (simp only [firstArgMember];rfl)) ?_)
  refine wpAny_newObj_type ?_ (by size_fits)
  simp only [raiseNew]
  refine wpAny_bind (wpAny_handled ?_)
  first | rw[show A.in1.handled=none from hh] | rw[hh]
  exact wpAny_bind (wpAny_pure (wpAny_throw (h _ _ (((Heap.SameBut.update ..).extBut.push _).push _) ⟨_,Heap.get?_push_size _ rfl,rfl⟩))))
theorem zgy {t:Bool} {it l:Addr} {i:Nat} {xs:Array Value} {x:Value} {Q:Value->Shared->Prop} (hi:ItAt t s.heap it l i) (hl:SqAt t s.heap l xs) (hx:xs[i]?=some x)
  (h:∀ h',ItAt t h' it l (i + 1)->Heap.SameBut it s.heap h'->Q x { s with heap:=h' }):wpAny (model prog w) A (Builtin.SmallTypes.nextOf (.ref it)) Q E s:=by
 cases t with
 | true=>exact zpp hi hl hx h
 | false=>exact wpAny_nextOf_list_item hi hl hx h
theorem zi8 {t:Bool} {it l:Addr} {i:Nat} {xs:Array Value} {Q:Value->Shared->Prop} (hh:A.handled=none) (hi:ItAt t s.heap it l i) (hl:SqAt t s.heap l xs) (hx:xs[i]?=none)
  (h:∀ h' e,Heap.ExtBut it s.heap h'->(∃ o,h'.get? e=some o∧o.cls=.type "StopIteration")->E (.ref e) { s with heap:=h' }):wpAny (model prog w) A (Builtin.SmallTypes.nextOf (.ref it)) Q E s:=by
 cases t with
 | true=>exact zo0 hh hi hl hx h
 | false=>exact wpAny_nextOf_list_end hh hi hl hx h
/-- a zip of two sequences: all its objects at their places -/
structure Zd (t1 t2:Bool) (h:Heap) (z TI TO i1 i2 l1 l2:Addr) (f0:Value) (k:Nat):Prop where
 z:IsZip h z TI TO f0
 ti:IsPair h TI (.ref i1) (.ref i2)
 to:∃ a b,IsPair h TO a b
 a1:ItAt t1 h i1 l1 k
 a2:ItAt t2 h i2 l2 k
/-- its five own objects differ; those it walks are others -/
structure Ap (z TI TO i1 i2:Addr):Prop where
 n1:TI≠z
 n2:TO≠z
 n3:i1≠z
 n4:i2≠z
 n5:TI≠TO
 n6:TI≠i1
 n7:TI≠i2
 n8:TO≠i1
 n9:TO≠i2
 n10:i1≠i2
def Out (z TI TO i1 i2 l:Addr):Prop:=l≠z∧l≠TI∧l≠TO∧l≠i1∧l≠i2
theorem zor {t1 t2:Bool} {z TI TO i1 i2 l1 l2:Addr} {k:Nat} {xs ys:Array Value} {x y:Value} {Q:Value->Shared->Prop} (D:Ap z TI TO i1 i2) (o1:Out z TI TO i1 i2 l1) (o2:Out z TI TO i1 i2 l2)
  (Z:Zd t1 t2 s.heap z TI TO i1 i2 l1 l2 .none k) (hl1:SqAt t1 s.heap l1 xs) (hl2:SqAt t2 s.heap l2 ys) (hx:xs[k]?=some x) (hy:ys[k]?=some y)
  (hQ:∀ h',Zd t1 t2 h' z TI TO i1 i2 l1 l2 (rawInt s.heap.objs.size) (k + 1)->IsPair h' s.heap.objs.size x y->h'.objs.size=s.heap.objs.size + 1 ->
   (∀ c o,c≠z->c≠TO->c≠i1->c≠i2->s.heap.get? c=some o->h'.get? c=some o)->Q (.ref s.heap.objs.size) { s with heap:=h' }) :
  wpAny (model prog w) A (Builtin.«zip.__next__» ⟨[.ref z],[]⟩) (fun fin s'=>∃ v,fin=.done (.ret v)∧Q v s') E s:=by
 obtain⟨hz,hti,⟨a,b,hto⟩,h1,h2⟩:=Z
 show wpAny _ _ (field (.ref z) 2 >>= _) _ _ s
 refine wpAny_bind (wpAny_field hz rfl (x:=.bool false) rfl ?_)
 show wpAny _ _ (field (.ref z) 3 >>= _) _ _ s
 refine wpAny_bind (wpAny_field hz rfl (x:=.ref TI) rfl ?_)
 refine wpAny_bind (wpAny_seqItems hti rfl ?_)
 show wpAny _ _ (Builtin.SmallTypes.ownedTupleIsFree (.ref z) >>= _) _ _ s
 refine wpAny_bind ?_
 unfold Builtin.SmallTypes.ownedTupleIsFree
 refine wpAny_bind (wpAny_field hz rfl (x:=.none) rfl (wpAny_pure ?_))
 simp only [if_true]
 refine wpAny_bind (wpAny_rule ?_)
 refine wpAny_bind (wpAny_field hz rfl (x:=.ref TO) rfl ?_)
 refine wpAny_bind (wpAny_setField_rec hz (by simp) fun g1 z1 e1=>?_)
 replace z1:IsZip g1 z TI TO .ellipsis:=z1
 refine wpAny_bind ?_
 simp only [List.zipIdx_cons,List.zipIdx_nil,List.forIn_cons,List.forIn_nil]
 refine wpAny_bind (wpAny_bind (wpAny_onRaise ?_))
 show wpAny _ _ (Builtin.SmallTypes.nextOf (.ref i1) >>= _) _ _ { s with heap:=g1 }
 refine wpAny_bind (zgy (h1.to fun o e=>e1.extBut _ _ D.n3 e) (hl1.to fun o e=>e1.extBut _ _ o1.1 e) hx fun g2 a2 e2=>wpAny_pure ?_)
 have b2:IsPair g2 TO a b:=e2.extBut _ _ D.n8 (e1.extBut _ _ D.n2 hto)
 refine wpAny_bind (wpAny_seqItems b2 rfl ?_)
 refine wpAny_bind (wpAny_updateSeq_pair b2 fun g3 b3 e3=>?_)
 replace b3:IsPair g3 TO x b:=b3
 refine wpAny_bind (wpAny_letGo (wpAny_pure ?_))
 refine wpAny_bind (wpAny_bind (wpAny_onRaise ?_))
 show wpAny _ _ (Builtin.SmallTypes.nextOf (.ref i2) >>= _) _ _ { s with heap:=g3 }
 refine wpAny_bind (zgy (h2.to fun o e=>e3.extBut _ _ D.n9.symm (e2.extBut _ _ D.n10.symm (e1.extBut _ _ D.n4 e))) (hl2.to fun o e=>e3.extBut _ _ o2.2.2.1 (e2.extBut _ _ o2.2.2.2.1 (e1.extBut _ _ o2.1 e))) hy fun g4 a4 e4=>wpAny_pure ?_)
 have b4:IsPair g4 TO x b:=e4.extBut _ _ D.n9 b3
 refine wpAny_bind (wpAny_seqItems b4 rfl ?_)
 refine wpAny_bind (wpAny_updateSeq_pair b4 fun g5 b5 e5=>?_)
 replace b5:IsPair g5 TO x y:=b5
 refine wpAny_bind (wpAny_letGo (wpAny_pure (wpAny_pure ?_)))
 refine wpAny_bind (wpAny_seqItems b5 rfl ?_)
 refine wpAny_bind (wpAny_newTuple ?_)
 have sz:g5.objs.size=s.heap.objs.size:=by rw[e5.1,e4.1,e3.1,e2.1,e1.1]
 have z5:IsZip g5 z TI TO .ellipsis:=e5.extBut _ _ D.n2.symm (e4.extBut _ _ D.n4.symm (e3.extBut _ _ D.n2.symm (e2.extBut _ _ D.n3.symm z1)))
 have k5:∀ c o,c≠z->c≠TO->c≠i1->c≠i2->s.heap.get? c=some o->g5.get? c=some o:=fun c o c1 c2 c3 c4 e =>
  e5.extBut _ _ c2 (e4.extBut _ _ c4 (e3.extBut _ _ c2 (e2.extBut _ _ c3 (e1.extBut _ _ c1 e))))
 have a15:ItAt t1 g5 i1 l1 (k + 1):=a2.to fun o e=>e5.extBut _ _ D.n8.symm (e4.extBut _ _ D.n10 (e3.extBut _ _ D.n8.symm e))
 have a25:ItAt t2 g5 i2 l2 (k + 1):=a4.to fun o e=>e5.extBut _ _ D.n9.symm e
 have zlt:z < g5.objs.size:=Heap.lt_size z5
 show wpAny _ _ (Builtin.SmallTypes.ownedTupleHandOut (.ref z) (.ref g5.objs.size) >>= _) _ _ { s with heap:=_ }
 refine wpAny_bind ?_
 unfold Builtin.SmallTypes.ownedTupleHandOut
 have z6:IsZip (g5.push { cls:=.type "tuple",data:=.seq #[x,y] }) z TI TO .ellipsis:=Heap.get?_push_of_some _ z5
 refine wpAny_bind (wpAny_setField_rec z6 (by simp) fun g7 z7 e7=>?_)
 replace z7:IsZip g7 z TI TO (rawInt g5.objs.size):=z7
 refine wpAny_setField_rec z7 (by simp) fun g8 z8 e8=>?_
 replace z8:IsZip g8 z TI TO (rawInt g5.objs.size):=z8
 have up:∀ c o,c≠z->g5.get? c=some o->g8.get? c=some o:=fun c o c1 e=>e8.extBut _ _ c1 (e7.extBut _ _ c1 (Heap.get?_push_of_some _ e))
 have t8:IsPair g8 g5.objs.size x y:=e8.extBut _ _ (Nat.ne_of_gt zlt) (e7.extBut _ _ (Nat.ne_of_gt zlt) (Heap.get?_push_size _ rfl))
 have sz8:g8.objs.size=g5.objs.size + 1:=by rw[e8.1,e7.1,Heap.size_push]
 rw[sz] at z8 t8 sz8
 refine wpAny_pure ⟨_,rfl,?_⟩
 show Q (.ref g5.objs.size) { s with heap:=g8 }
 rw[sz]
 exact hQ g8 ⟨z8,up _ _ D.n1 (k5 _ _ D.n1 D.n5 D.n6 D.n7 hti),⟨x,y,up _ _ D.n2 b5⟩,a15.to fun o e=>up _ o D.n3 e,a25.to fun o e=>up _ o D.n4 e⟩ t8 sz8 fun c o c1 c2 c3 c4 e=>up c o c1 (k5 c o c1 c2 c3 c4 e)
theorem zoq {t1 t2:Bool} {z TI TO i1 i2 l1 l2:Addr} {k:Nat} {xs ys:Array Value} {Q:Fin->Shared->Prop} (hh:A.handled=none) (D:Ap z TI TO i1 i2) (o1:Out z TI TO i1 i2 l1) (o2:Out z TI TO i1 i2 l2)
  (Z:Zd t1 t2 s.heap z TI TO i1 i2 l1 l2 .none k) (hl1:SqAt t1 s.heap l1 xs) (hl2:SqAt t2 s.heap l2 ys) (hend:xs[k]?=none∨ys[k]?=none)
  (hE:∀ h' e,(∀ c o,c≠z->c≠TO->c≠i1->c≠i2->s.heap.get? c=some o->h'.get? c=some o)->(∃ o,h'.get? e=some o∧o.cls=.type "StopIteration")->E (.ref e) { s with heap:=h' }) :
  wpAny (model prog w) A (Builtin.«zip.__next__» ⟨[.ref z],[]⟩) Q E s:=by
 obtain⟨hz,hti,⟨a,b,hto⟩,h1,h2⟩:=Z
 show wpAny _ _ (field (.ref z) 2 >>= _) _ _ s
 refine wpAny_bind (wpAny_field hz rfl (x:=.bool false) rfl ?_)
 show wpAny _ _ (field (.ref z) 3 >>= _) _ _ s
 refine wpAny_bind (wpAny_field hz rfl (x:=.ref TI) rfl ?_)
 refine wpAny_bind (wpAny_seqItems hti rfl ?_)
 show wpAny _ _ (Builtin.SmallTypes.ownedTupleIsFree (.ref z) >>= _) _ _ s
 refine wpAny_bind ?_
 unfold Builtin.SmallTypes.ownedTupleIsFree
 refine wpAny_bind (wpAny_field hz rfl (x:=.none) rfl (wpAny_pure ?_))
 simp only [if_true]
 refine wpAny_bind (wpAny_rule ?_)
 refine wpAny_bind (wpAny_field hz rfl (x:=.ref TO) rfl ?_)
 refine wpAny_bind (wpAny_setField_rec hz (by simp) fun g1 z1 e1=>?_)
 replace z1:IsZip g1 z TI TO .ellipsis:=z1
 refine wpAny_bind ?_
 simp only [List.zipIdx_cons,List.zipIdx_nil,List.forIn_cons,List.forIn_nil]
 refine wpAny_bind (wpAny_bind (wpAny_onRaise ?_))
 show wpAny _ _ (Builtin.SmallTypes.nextOf (.ref i1) >>= _) _ _ { s with heap:=g1 }
 cases hx:xs[k]? with
 | none =>
  refine wpAny_bind (zi8 hh (h1.to fun o e=>e1.extBut _ _ D.n3 e) (hl1.to fun o e=>e1.extBut _ _ o1.1 e) hx fun g2 e e2 he=>?_)
  obtain⟨oe,p1,p2⟩:=he
  have z2:IsZip g2 z TI TO .ellipsis:=e2 _ _ D.n3.symm z1
  have ez:e≠z:=fun q=>by subst q;rw[z2] at p1;cases p1;simp at p2
  exact wpAny_setField_rec z2 (by simp) fun g3 _ e3=>hE g3 e (fun c o c1 _ c3 _ q=>e3.extBut _ _ c1 (e2 _ _ c3 (e1.extBut _ _ c1 q))) ⟨oe,e3.extBut _ _ ez p1,p2⟩
 | some x =>
  have hy:ys[k]?=none:=by
   rcases hend with q | q
   ·rw[hx] at q;cases q
   ·exact q
  refine wpAny_bind (zgy (h1.to fun o e=>e1.extBut _ _ D.n3 e) (hl1.to fun o e=>e1.extBut _ _ o1.1 e) hx fun g2 a2 e2=>wpAny_pure ?_)
  have b2:IsPair g2 TO a b:=e2.extBut _ _ D.n8 (e1.extBut _ _ D.n2 hto)
  refine wpAny_bind (wpAny_seqItems b2 rfl ?_)
  refine wpAny_bind (wpAny_updateSeq_pair b2 fun g3 b3 e3=>?_)
  refine wpAny_bind (wpAny_letGo (wpAny_pure ?_))
  refine wpAny_bind (wpAny_bind (wpAny_onRaise ?_))
  show wpAny _ _ (Builtin.SmallTypes.nextOf (.ref i2) >>= _) _ _ { s with heap:=g3 }
  refine wpAny_bind (zi8 hh (h2.to fun o e=>e3.extBut _ _ D.n9.symm (e2.extBut _ _ D.n10.symm (e1.extBut _ _ D.n4 e))) (hl2.to fun o e=>e3.extBut _ _ o2.2.2.1 (e2.extBut _ _ o2.2.2.2.1 (e1.extBut _ _ o2.1 e))) hy fun g4 e e4 he=>?_)
  obtain⟨oe,p1,p2⟩:=he
  have z4:IsZip g4 z TI TO .ellipsis:=e4 _ _ D.n4.symm (e3.extBut _ _ D.n2.symm (e2.extBut _ _ D.n3.symm z1))
  have ez:e≠z:=fun q=>by subst q;rw[z4] at p1;cases p1;simp at p2
  exact wpAny_setField_rec z4 (by simp) fun g5 _ e5=>hE g5 e (fun c o c1 c2 c3 c4 q=>e5.extBut _ _ c1 (e4 _ _ c4 (e3.extBut _ _ c2 (e2.extBut _ _ c3 (e1.extBut _ _ c1 q))))) ⟨oe,e5.extBut _ _ ez p1,p2⟩
theorem zni {t1 t2:Bool} {z TI TO i1 i2 l1 l2:Addr} {k:Nat} {xs ys:Array Value} {x y:Value} {Q:Option Value->Shared->Prop} (D:Ap z TI TO i1 i2) (o1:Out z TI TO i1 i2 l1) (o2:Out z TI TO i1 i2 l2)
  (Z:Zd t1 t2 s.heap z TI TO i1 i2 l1 l2 .none k) (hl1:SqAt t1 s.heap l1 xs) (hl2:SqAt t2 s.heap l2 ys) (hx:xs[k]?=some x) (hy:ys[k]?=some y)
  (hQ:∀ h',Zd t1 t2 h' z TI TO i1 i2 l1 l2 (rawInt s.heap.objs.size) (k + 1)->IsPair h' s.heap.objs.size x y->h'.objs.size=s.heap.objs.size + 1 ->
   (∀ c o,c≠z->c≠TO->c≠i1->c≠i2->s.heap.get? c=some o->h'.get? c=some o)->Q (some (.ref s.heap.objs.size)) { s with heap:=h' }) :
  wpAny (model prog w) A (pyNext (.ref z)) Q E s:=by
 have hT:s.TypeIs (.ref z) "zip":=⟨_,Z.z,rfl⟩
 unfold pyNext
 exact wpAny_bind (wpAny_attempt (wpAny_callSpecial?_slot (name := Str.ofString "__next__") hT F.slot_zip_next (wpAny_call_entry F.slot_zip_next hT F.entry_zip_next
     (zor D o1 o2 Z hl1 hl2 hx hy fun h' b1 b2 b3 b4=>wpAny_pure (hQ h' b1 b2 b3 b4)) (F.args_zip_next_1 _))))
theorem znh {t1 t2:Bool} {z TI TO i1 i2 l1 l2:Addr} {k:Nat} {xs ys:Array Value} {Q:Option Value->Shared->Prop} (hh:A.handled=none) (D:Ap z TI TO i1 i2) (o1:Out z TI TO i1 i2 l1) (o2:Out z TI TO i1 i2 l2)
  (Z:Zd t1 t2 s.heap z TI TO i1 i2 l1 l2 .none k) (hl1:SqAt t1 s.heap l1 xs) (hl2:SqAt t2 s.heap l2 ys) (hend:xs[k]?=none∨ys[k]?=none)
  (hQ:∀ h',(∀ c o,c≠z->c≠TO->c≠i1->c≠i2->s.heap.get? c=some o->h'.get? c=some o)->Q none { s with heap:=h' }):wpAny (model prog w) A (pyNext (.ref z)) Q E s:=by
 have hT:s.TypeIs (.ref z) "zip":=⟨_,Z.z,rfl⟩
 unfold pyNext
 refine wpAny_bind (wpAny_attempt (wpAny_callSpecial?_slot (name := Str.ofString "__next__") hT F.slot_zip_next (wpAny_call_entry F.slot_zip_next hT F.entry_zip_next
     (zoq hh D o1 o2 Z hl1 hl2 hend fun h' e hk he=>?_) (F.args_zip_next_1 _))))
 obtain⟨o,p1,p2⟩:=he
 exact wpAny_bind (wpAny_isInstance (T:="StopIteration") (b:=true) ⟨o,p1,p2⟩ isSubtype_stop (wpAny_pure (hQ _ hk)))
abbrev zh1 (h:Heap) (t1:Bool) (l1:Addr):Heap:=h.push (itObj t1 l1)
abbrev zh2 (h:Heap) (t1 t2:Bool) (l1 l2:Addr):Heap:=(zh1 h t1 l1).push (itObj t2 l2)
abbrev zh3 (h:Heap) (t1 t2:Bool) (l1 l2:Addr):Heap:=(zh2 h t1 t2 l1 l2).push { cls:=.type "tuple",data:=.seq #[.ref h.objs.size,.ref (zh1 h t1 l1).objs.size] }
abbrev zh4 (h:Heap) (t1 t2:Bool) (l1 l2:Addr):Heap:=(zh3 h t1 t2 l1 l2).push { cls:=.type "tuple",data:=.seq #[.none,.none] }
abbrev zh5 (h:Heap) (t1 t2:Bool) (l1 l2:Addr):Heap:=(zh4 h t1 t2 l1 l2).push { cls:=.type "zip",data:=.fields #[.none,.bool false,.bool false,.ref (zh2 h t1 t2 l1 l2).objs.size,.ref (zh3 h t1 t2 l1 l2).objs.size] }
theorem zqq (t1 t2:Bool) (l1 l2:Addr) (xs ys:Array Value) :
  Meets (Builtin.«zip.__new__» ⟨[.type "zip",.ref l1,.ref l2],[]⟩) (fun _ R s=>SqAt t1 s.heap l1 xs∧SqAt t2 s.heap l2 ys∧R (.ok (.ret (.ref (zh4 s.heap t1 t2 l1 l2).objs.size))) { s with heap:=zh5 s.heap t1 t2 l1 l2 }) :=
 .of_wp fun prog w A R s h=>by
  obtain⟨hp,g,d,tk,os⟩:=s;obtain⟨hl1,hl2,h⟩:=h
  have hsub:=sub_zip
  have b1:SqAt t1 (Shared.heap ⟨hp,g,d,tk,os⟩) l1 xs:=hl1
  have b2:SqAt t2 (Shared.heap ⟨hp.push (itObj t1 l1),g,d,tk,os⟩) l2 ys:=SqAt.to hl2 fun o e=>Heap.get?_push_of_some _ e
  wp_walk using ze2 b1,ze2 b2
  exact⟨_,rfl,h⟩
theorem zpw {t1 t2:Bool} {l1 l2:Addr} {xs ys:Array Value} {Q:Value->Shared->Prop} (hl1:SqAt t1 s.heap l1 xs) (hl2:SqAt t2 s.heap l2 ys)
  (h:∀ h',Zd t1 t2 h' (s.heap.objs.size + 4) (s.heap.objs.size + 2) (s.heap.objs.size + 3) s.heap.objs.size (s.heap.objs.size + 1) l1 l2 .none 0->h'.objs.size=s.heap.objs.size + 5 ->
   (∀ c o,s.heap.get? c=some o->h'.get? c=some o)->Q (.ref (s.heap.objs.size + 4)) { s with heap:=h' }) :
  wpAny (model prog w) A (call (.type "zip") [.ref l1,.ref l2]) Q E s:=by
 refine callType_new F.called_zip (by decide) (F.typeCall_zip_2 _ _) (F.newCall_zip_2 _ _) (fun obj=>F.args_object_init_3 obj _ _) F.entry_zip_new (zqq t1 t2 l1 l2 xs ys) ⟨hl1,hl2,?_⟩
 have z1:(zh1 s.heap t1 l1).objs.size=s.heap.objs.size + 1:=Heap.size_push ..
 have z2:(zh2 s.heap t1 t2 l1 l2).objs.size=s.heap.objs.size + 2:=by rw[Heap.size_push,z1]
 have z3:(zh3 s.heap t1 t2 l1 l2).objs.size=s.heap.objs.size + 3:=by rw[Heap.size_push,z2]
 have z4:(zh4 s.heap t1 t2 l1 l2).objs.size=s.heap.objs.size + 4:=by rw[Heap.size_push,z3]
 have z5:(zh5 s.heap t1 t2 l1 l2).objs.size=s.heap.objs.size + 5:=by rw[Heap.size_push,z4]
 have g5:(zh5 s.heap t1 t2 l1 l2).get? (zh4 s.heap t1 t2 l1 l2).objs.size=some _:=Heap.get?_push_size _ rfl
 have g4:(zh5 s.heap t1 t2 l1 l2).get? (zh3 s.heap t1 t2 l1 l2).objs.size=some _:=Heap.get?_push_of_some _ (Heap.get?_push_size _ rfl)
 have g3:(zh5 s.heap t1 t2 l1 l2).get? (zh2 s.heap t1 t2 l1 l2).objs.size=some _:=Heap.get?_push_of_some _ (Heap.get?_push_of_some _ (Heap.get?_push_size _ rfl))
 have g2:ItAt t2 (zh5 s.heap t1 t2 l1 l2) (zh1 s.heap t1 l1).objs.size l2 0:=(ItAt.new (t:=t2) (h:=zh1 s.heap t1 l1) (l:=l2)).to fun o e=>Heap.get?_push_of_some _ (Heap.get?_push_of_some _ (Heap.get?_push_of_some _ e))
 have g1:ItAt t1 (zh5 s.heap t1 t2 l1 l2) s.heap.objs.size l1 0:=(ItAt.new (t:=t1) (h:=s.heap) (l:=l1)).to fun o e=>Heap.get?_push_of_some _ (Heap.get?_push_of_some _ (Heap.get?_push_of_some _ (Heap.get?_push_of_some _ e)))
 show _∧_
 rw[z2,z3,z4] at g5
 rw[z1,z2] at g3
 rw[z3] at g4
 rw[z1] at g2
 rw[z4]
 exact⟨⟨_,g5,rfl⟩,h _ ⟨g5,g3,⟨_,_,g4⟩,g1,g2⟩ z5 fun c o q=>Heap.get?_push_of_some _ (Heap.get?_push_of_some _ (Heap.get?_push_of_some _ (Heap.get?_push_of_some _ (Heap.get?_push_of_some _ q))))⟩
theorem zsx (n:Nat):Ap (n + 4) (n + 2) (n + 3) n (n + 1):=by
 constructor <;> (show (_:Nat)≠(_:Nat)) <;> omega
theorem zm4 {n l:Nat} (h:l < n):Out (n + 4) (n + 2) (n + 3) n (n + 1) l:=by
 refine⟨?_,?_,?_,?_,?_⟩ <;> (show (_:Nat)≠(_:Nat)) <;> omega
end
end Z3
namespace U3
open PySem PyProof.Rows
section
variable {prog:Program} {w:World} {A:Around} {E:Value->Shared->Prop} {s:Shared}
theorem zkv {it l:Addr} {xs:Array Value} (hne:l≠it):∀ (n i:Nat) (s:Shared) (Q:List Value->Shared->Prop),s.heap.IsListIter it l i->s.heap.IsList l xs->i + n≤xs.size ->
  (∀ h',h'.IsListIter it l (i + n)->Heap.SameBut it s.heap h'->Q ((xs.toList.drop i).take n) { s with heap:=h' })->wpAny (model prog w) A (draw (.ref it) n) Q E s
 | 0,i,s,Q,hi,_,_,h=>by
  show wpAny _ _ (pure []) Q E s
  exact wpAny_pure (by simpa using h s.heap hi (Heap.SameBut.refl ..))
 | n + 1,i,s,Q,hi,hl,hle,h=>by
  have lt:i < xs.size:=by omega
  show wpAny _ _ (pyNext (.ref it) >>= _) Q E s
  refine wpAny_bind (wpAny_pyNext_list_item hi hl (x:=xs[i]) (by simp [lt]) fun g1 i1 e1=>?_)
  refine wpAny_bind (wpAny_holding (zkv hne n (i + 1) _ _ i1 (hl.extBut e1.extBut hne) (by omega) fun g2 i2 e2=>wpAny_pure ?_))
  have hd:xs.toList.drop i=xs[i]::xs.toList.drop (i + 1):=by simp [List.drop_eq_getElem_cons,lt]
  have q:=h g2 (by rw[show i + (n + 1)=i + 1 + n by omega];exact i2) (e1.trans e2)
  rw[hd,List.take_succ_cons] at q
  exact q
theorem zk9 {l:Addr} {xs:Array Value} {targets:List (Bool × (Value->Sem Unit))} {Q:Unit->Shared->Prop} (hh:A.handled=none) (hl:s.heap.IsList l xs)
  (hn:targets.length=xs.size) (hs:targets.findIdx? (·.1)=none)
  (h:∀ h',Heap.ExtBut s.heap.objs.size s.heap h'->wpAny (model prog w) A (assignInOrder (targets.map (·.2)) xs.toList) Q E { s with heap:=h' }) :
  wpAny (model prog w) A (unpack (.ref l) targets) Q E s:=by
 have ne:l≠s.heap.objs.size:=by obtain⟨o,ho,_⟩:=hl;exact Nat.ne_of_lt (Heap.lt_size ho)
 unfold unpack
 rw[hn,hs]
 refine wpAny_bind (wpAny_holding ?_)
 unfold unpackItems
 refine wpAny_bind ?_
 unfold notIterableAtAll
 refine wpAny_bind (wpAny_specialOf hl.typeIs slot_list_iter.lookup ?_)
 refine wpAny_pure ?_
 simp only [Bool.false_eq_true,if_false]
 refine wpAny_bind (wpAny_holding (wpAny_pyIter_list hl ?_))
 refine wpAny_bind (wpAny_holding (zkv ne xs.size 0 _ _ ⟨_,Heap.get?_push_size _ rfl,rfl,rfl⟩ (hl.push _) (by omega) fun g1 i1 e1=>?_))
 have all:List.take xs.size (List.drop 0 xs.toList)=xs.toList:=by
  rw[List.drop_zero];exact List.take_of_length_le (by simp)
 rw[all,if_neg (by simp)]
 have l1:g1.IsList l xs:=(hl.push _).extBut e1.extBut ne
 refine wpAny_bind (wpAny_holding (wpAny_pyNext_list_end hh i1 l1 (by simp) fun g2 e2=>?_))
 simp only [Option.isSome_none,Bool.false_eq_true,if_false]
 exact wpAny_pure (h g2 fun b o hb e=>e2 b o hb (e1.extBut b o hb (Heap.get?_push_of_some _ e)))
theorem assign_tuple_lst {env:Env} {elts:List Expr} {x1} {pos:Pos} {l:Addr} {xs:Array Value} {Q:Unit->Shared->Prop} (hh:A.handled=none) (hl:s.heap.IsList l xs)
  (hn:(assignEach elts env).length=xs.size) (hs:(assignEach elts env).findIdx? (·.1)=none)
  (h:∀ h',Heap.ExtBut s.heap.objs.size s.heap h'->wpAny (model prog w) A (assignInOrder ((assignEach elts env).map (·.2)) xs.toList) Q E { s with heap:=h' }) :
  wpAny (model prog w) A (assign (.Tuple elts x1 pos) env (.ref l)) Q E s:=by
 rw[assign_Tuple]
 exact wpAny_bind (wpAny_standAt (zk9 hh hl hn hs h))
end
end U3
namespace L3
open PySem PySem.Spec PyProof.Rows L2
abbrev Fls:Value->Shared->Prop:=fun _ _=>False
abbrev testsOf (ifs:List Expr) (env:Env):Sem Bool :=
 forIn ifs true fun c r=>if r=true then do let ok ← isTrue c env (eval c env);pure (ForInStep.yield ok) else pure (ForInStep.yield r)
section
variable {prog:Program} {w:World} {A:Around} {R:Result->Shared->Prop} {s:Shared}
/-- a list comprehension of one clause, turn by turn; nothing raises in it -/
theorem zlv {elt tg iter:Expr} {ifs:List Expr} {scope:Scope} {pos:Pos} {it acc:Value} {env:Env} (W:Nat->Shared->Prop)
  (step:∀ n s,W n s->wpAny (model prog w) A (pyNext it) (fun r s1=>(r=none∧R (.ok .next) s1)∨∃ v,r=some v ∧
   wpAny (model prog w) A (letOwnedTupleGo tg it v) (fun _ s2=>wpAny (model prog w) A (assign tg env v) (fun _ s3 =>
    wpAny (model prog w) A (testsOf ifs env) (fun ok s4=>if ok=true then wpAny (model prog w) A (eval elt env) (fun x s5 =>
     wpAny (model prog w) A (call (.builtin "list.append") [acc,x]) (fun _ s6=>∃ m,m < n∧W m s6) Fls s5) Fls s4 else ∃ m,m < n∧W m s4) Fls s3) Fls s2) Fls s1) Fls s)
  (n:Nat) (h:W n s):codeAny (model prog w) A (.compLoop (.ListComp elt [⟨tg,iter,ifs,0⟩] scope pos) 0 it acc env) R s:=by
 refine codeAny_loop rfl W (fun k s1 hk=>?_) n h
 show wpAny _ A ((compTurn (.ListComp elt [⟨tg,iter,ifs,0⟩] scope pos) 0 it acc env).onRaise (fun x=>do noteFrame x env;theTreesLotGoes x)) _ _ s1
 refine wpAny_noted ?_
 rw[compTurn_list]
 refine wpAny_bind (wpAny_standAt (wpAny_bind (wpAny_mono (step k s1 hk) (fun r s2 h2=>?_) fun _ _ z=>z.elim)))
 rcases h2 with ⟨rfl,h2⟩ | ⟨v,rfl,h2⟩
 ·exact wpAny_pure h2
 ·refine wpAny_bind (wpAny_mono h2 (fun _ s3 h3=>?_) fun _ _ z=>z.elim)
  refine wpAny_bind (wpAny_mono h3 (fun _ s4 h4=>?_) fun _ _ z=>z.elim)
  refine wpAny_bind (wpAny_mono h4 (fun ok s5 h5=>?_) fun _ _ z=>z.elim)
  cases ok with
  | false=>exact wpAny_pure ⟨rfl,h5⟩
  | true =>
   refine wpAny_bind (wpAny_bind (wpAny_mono h5 (fun x s6 h6=>?_) fun _ _ z=>z.elim))
   refine wpAny_bind (wpAny_mono h6 (fun _ s7 h7=>?_) fun _ _ z=>z.elim)
   exact wpAny_pure (wpAny_pure ⟨rfl,h7⟩)
end
def clOf (cells:List (Str × Addr)):List (Str × NameKind)->List (Str × Addr)->List (Str × Addr)
 | [],cs=>cs
 | (n,k)::r,cs=>clOf cells r (if k=.free then (n,(cells.lookup n).getD 0)::cs else cs)
theorem zkz {cells:List (Str × Addr)}:∀ {names:List (Str × NameKind)} {cs:List (Str × Addr)} {p:Str × Addr},p ∈ clOf cells names cs->p ∈ cs∨((p.1,NameKind.free) ∈ names∧p.2=(cells.lookup p.1).getD 0)
 | [],_,_,h=>.inl h
 | (n,k)::r,cs,p,h=>by
  rcases zkz (names:=r) h with q | ⟨q1,q2⟩
  ·by_cases hk:k=.free
   ·rw[if_pos hk] at q
    rcases List.mem_cons.mp q with e | q
    ·subst e;subst hk;exact .inr ⟨List.mem_cons_self,rfl⟩
    ·exact .inl q
   ·rw[if_neg hk] at q;exact .inl q
  ·exact .inr ⟨List.mem_cons_of_mem _ q1,q2⟩
theorem zk0 {cells:List (Str × Addr)}:∀ {names:List (Str × NameKind)} {cs:List (Str × Addr)} {x:Str},((x,NameKind.free) ∈ names∨∃ c,(x,c) ∈ cs)->∃ c,(x,c) ∈ clOf cells names cs
 | [],_,_,h=>h.elim (fun z=>nomatch z) id
 | (n,k)::r,cs,x,h=>by
  refine zk0 (names:=r) ?_
  rcases h with h | ⟨c,h⟩
  ·rcases List.mem_cons.mp h with e | h
   ·cases e
    exact .inr ⟨_,by rw[if_pos rfl];exact List.mem_cons_self⟩
   ·exact .inl h
  ·refine .inr ⟨c,?_⟩
   split
   ·exact List.mem_cons_of_mem _ h
   ·exact h
theorem zdn {env:Env}:∀ (names:List (Str × NameKind)) (cs:List (Str × Addr)),(∀ y ∈ names,y.2=.free->∃ c,env.cells.lookup y.1=some c) ->
  (forIn names cs fun x r=>(match x with | (n,k)=>if (k == NameKind.free)=true then do let c ← cellOf env n;pure (ForInStep.yield ((n,c)::r)) else pure (ForInStep.yield r):Sem (ForInStep (List (Str × Addr)))))=pure (clOf env.cells names cs)
 | [],cs,_=>rfl
 | (n,k)::r,cs,h=>by
  rw[List.forIn_cons]
  by_cases hk:k=.free
  ·subst hk
   obtain⟨c,hc⟩:=h (n,.free) List.mem_cons_self rfl
   have e1:cellOf env n=pure c:=by unfold cellOf;rw[hc]
   have e2:clOf env.cells ((n,NameKind.free)::r) cs=clOf env.cells r ((n,c)::cs):=by
    show clOf env.cells r (if NameKind.free=NameKind.free then (n,(env.cells.lookup n).getD 0)::cs else cs)=_
    rw[if_pos rfl,hc]
    rfl
   rw[e2,← zdn r ((n,c)::cs) fun y hy=>h y (List.mem_cons_of_mem _ hy)]
   simp only [beq_self_eq_true,if_true,e1,pure_bind]
  ·have e2:clOf env.cells ((n,k)::r) cs=clOf env.cells r cs:=by
    show clOf env.cells r (if k=NameKind.free then _ else cs)=_
    rw[if_neg hk]
   have hb:(k == NameKind.free)=false:=by simpa using hk
   rw[e2,← zdn r cs fun y hy=>h y (List.mem_cons_of_mem _ hy)]
   simp only [hb,Bool.false_eq_true,if_false,pure_bind]
theorem zlw {scope:Scope} {env:Env} (h:∀ y ∈ scope.names,y.2=.free->∃ c,env.cells.lookup y.1=some c):closureFor scope env=pure (clOf env.cells scope.names []):=by
 have q:=zdn (env:=env) scope.names [] h
 unfold closureFor
 refine Eq.trans ?_ q
 first | rfl | simp
theorem zb8 {env:Env}:∀ {names:List (Str × NameKind)} {x:Str},names.lookup x=some .free ->
  (names.map fun (n,k)=>if (k == NameKind.free && env.scope.kind == .function && env.kindOf n == some .cell) then (n,NameKind.cell) else (n,k)).lookup x=some .cell ∨
  (names.map fun (n,k)=>if (k == NameKind.free && env.scope.kind == .function && env.kindOf n == some .cell) then (n,NameKind.cell) else (n,k)).lookup x=some .free
 | [],_,h=>by simp at h
 | (n,k)::r,x,h=>by
  have ih:=@zb8 env r x
  rw[List.map_cons]
  by_cases hx:(x == n)=true
  ·rw[List.lookup_cons,hx] at h
   have h':k=.free:=by simpa using h
   subst h'
   dsimp only
   split
   ·left;rw[List.lookup_cons,hx]
   ·right;rw[List.lookup_cons,hx]
  ·have hx':(x == n)=false:=by simpa using hx
   rw[List.lookup_cons,hx'] at h
   dsimp only
   split
   ·rw[List.lookup_cons,hx'];exact ih h
   ·rw[List.lookup_cons,hx'];exact ih h
theorem zf1 {env:Env}:∀ {names:List (Str × NameKind)} {x:Str},(∀ y ∈ names,y.2≠.cell) ->
  ((names.map fun (n,k)=>if (k == NameKind.free && env.scope.kind == .function && env.kindOf n == some .cell) then (n,NameKind.cell) else (n,k)).lookup x=some .cell ∨
  (names.map fun (n,k)=>if (k == NameKind.free && env.scope.kind == .function && env.kindOf n == some .cell) then (n,NameKind.cell) else (n,k)).lookup x=some .free)->(x,NameKind.free) ∈ names
 | [],_,_,h=>by simp at h
 | (n,k)::r,x,hc,h=>by
  rw[List.map_cons] at h
  by_cases hx:(x == n)=true
  ·have e:x=n:=by simpa using hx
   subst e
   dsimp only at h
   by_cases hk:(k == NameKind.free && env.scope.kind == .function && env.kindOf x == some .cell)=true
   ·rw[if_pos hk] at h
    have:k=.free:=by
     simp only [Bool.and_eq_true] at hk
     simpa using hk.1.1
    subst this
    exact List.mem_cons_self
   ·rw[if_neg hk,List.lookup_cons,hx] at h
    rcases h with h | h
    ·exact absurd (by simpa using h) (hc (x,k) List.mem_cons_self)
    ·have:k=.free:=by simpa using h
     subst this
     exact List.mem_cons_self
  ·have hx':(x == n)=false:=by simpa using hx
   refine List.mem_cons_of_mem _ (zf1 (env:=env) (fun y hy=>hc y (List.mem_cons_of_mem _ hy)) ?_)
   dsimp only at h
   split at h
   ·rw[List.lookup_cons,hx'] at h;exact h
   ·rw[List.lookup_cons,hx'] at h;exact h
/-- what is looked at of the two scopes: closed, for decide -/
def compOk (N:List Str) (sc0 scope:Scope) (fr:List Str) (js:List Nat):Bool :=
 decide (scope.kind=.function) && (scope.names.all fun y=>decide (y.2≠.cell) && (decide (y.2≠.free) || decide (sc0.names.lookup y.1=some .cell) || decide (sc0.names.lookup y.1=some .free)) &&
  (decide (y.2≠.local) || decide (scope.names.lookup y.1=some .local))) && decide (fr.length=js.length) &&
 ((fr.zip js).all fun p=>decide (N[p.2]?=some p.1) && decide (scope.names.lookup p.1=some .free) && (decide (sc0.names.lookup p.1=some .cell) || decide (sc0.names.lookup p.1=some .free)))
/-- the context of the block -/
def cxComp (X:Cx) (own fr:List Str) (scope:Scope) (fp:List Addr) (pins:List (Addr × Obj)) (s3:Shared) (H3:Hp):Cx :=
 { X with N:=own++fr,s₀:=s3,H₀:=H3,env:=compEnvC scope (clOf X.env.cells scope.names []) s3.heap.objs.size X.env,outer:=X.stack,stack:=X.stack,ex:=fp,fn:=fun _=>false,pn:=X.pn++pins,xe:=Fls }
/-- the tests of a clause -/
def PTs (X:Cx) (ifs:List Expr) (t:TT):Prop :=
 ∀ (pins:List (Addr × Obj)) (s:Shared) (σ:L2.St) (H:Hp) (Q:Bool->Hp->Prop),Inv X pins σ H s->t σ H Q->wpAny (model X.prog X.w) X.A (testsOf ifs X.env) (TP X pins σ Q) X.xe s
def tTrue:TT:=fun _ H Q=>Q true H
theorem zcb {X:Cx}:PTs X [] tTrue:=fun _ _ _ H _ I h=>wpAny_tests_nil ⟨H,I,h⟩
theorem zct {X:Cx} {c:Expr} {t:TT} (h:PT X c t):PTs X [c] t:=fun pins s σ H Q I q=>wpAny_tests_one (h pins s σ H Q I q)
def start3 (own:List Str) (js:List Nat) (σ:L2.St):L2.St:=List.replicate own.length none++js.map fun j=>(σ[j]?).join
/-- the reading: W is the word, by the turn, a measure, what is laid by so far, the names, the heap; D the new list -/
def CompGo (own:List Str) (js:List Nat) (g:TG) (tt:TT) (te:TE) (σ:L2.St) (Q:VK) (J:It) (H1:Hp):Prop:=∀ D,H1 D=none->∃ W:Nat->Nat->List V->L2.St->Hp->Prop,
 (∃ m,W 0 m [] (start3 own js σ) (upd H1 D (.lst [])))∧∀ i m ys σ' H',W i m ys σ' H'->H' D=some (.lst ys) ->
  (J.stop i H'∧Q (.ref D) H')∨(J.go i H'∧∀ x H2,J.yld i H' x H2->g x σ' H2 fun σ3 H3=>tt σ3 H3 fun b H4 =>
   if b=true then te σ3 H4 fun v H5=>H5 D=some (.lst ys)∧ys.length < sizeLine∧∃ m',m' < m∧W (i + 1) m' (ys++[v]) σ3 (upd H5 D (.lst (ys++[v])))
   else H4 D=some (.lst ys)∧∃ m',m' < m∧W (i + 1) m' ys σ3 H4)
def tComp (own:List Str) (js:List Nat) (wi:TI) (g:TG) (tt:TT) (te:TE):TE:=fun σ H Q=>wi σ H fun J H1=>CompGo own js g tt te σ Q J H1
section
variable {X:Cx} {elt tg iter:Expr} {ifs:List Expr} {scope sc0:Scope} {pos:Pos} {own fr N:List Str} {js:List Nat} {wi:TI} {g:TG} {tt:TT} {te:TE}
theorem znt {σ:L2.St} {js:List Nat} {k:Nat} {v:V} (e:(js.map fun j=>(σ[j]?).join)[k]?=some (some v)):∃ j,js[k]?=some j∧σ[j]?=some (some v):=by
 rw[List.getElem?_map] at e
 cases hj:js[k]? with
 | none=>rw[hj] at e;cases e
 | some j =>
  rw[hj] at e
  refine⟨j,rfl,?_⟩
  have e':(σ[j]?).join=some v:=by simpa using e
  cases hs:σ[j]? with
  | none=>rw[hs] at e';cases e'
  | some o=>rw[hs] at e';exact congrArg some e'
theorem zpf {pins:List (Addr × Obj)} {σ:L2.St} {H3:Hp} {s3:Shared} {fp:List Addr} {h4:Heap} {t4:Nat} {m4:Str->Option Value}
  (hN:X.N=N) (hsc:X.env.scope=sc0) (hok:compOk N sc0 scope fr js=true) (I:Inv X pins σ H3 s3) (hf:∀ b ∈ fp,FpOk X pins H3 b) (hlt:∀ b ∈ fp,b < s3.heap.objs.size)
  (k:∀ b o,s3.heap.get? b=some o->h4.get? b=some o) (hns:h4.Ns s3.heap.objs.size m4):Inv (cxComp X own fr scope fp pins s3 H3) [] (start3 own js σ) H3 { s3 with heap:=h4,toks:=t4 }:=by
 subst hN hsc
 unfold compOk at hok
 simp only [Bool.and_eq_true,decide_eq_true_eq,List.all_eq_true] at hok
 obtain⟨⟨⟨hk,hall⟩,hlen⟩,hfr⟩:=hok
 have hfree:∀ y ∈ scope.names,y.2=.free->∃ c,X.env.cells.lookup y.1=some c:=fun y hy e=>by
  have q:=(hall y hy).1.2
  simp only [Bool.or_eq_true,decide_eq_true_eq] at q
  rcases q with (q | q) | q
  ·exact absurd e q
  ·exact I.ok.has y.1 (.inl q)
  ·exact I.ok.has y.1 (.inr q)
 have hcl:∀ x c,(clOf X.env.cells scope.names []).lookup x=some c->X.env.cells.lookup x=some c:=fun x c e=>by
  rcases zkz (PySem.mem_of_lookup e) with z | ⟨z1,z2⟩
  ·exact absurd z (by simp)
  ·obtain⟨c',hc'⟩:=hfree _ z1 rfl
   have hc'':X.env.cells.lookup x=some c':=hc'
   have z2':c=(X.env.cells.lookup x).getD 0:=z2
   rw[hc''] at z2' ⊢
   simp at z2'
   rw[z2']
 have hasC:∀ x,(x,NameKind.free) ∈ scope.names->∃ c,(clOf X.env.cells scope.names []).lookup x=some c:=fun x hx=>by
  obtain⟨c,hc⟩:=zk0 (cells:=X.env.cells) (cs:=[]) (.inl hx)
  cases q:(clOf X.env.cells scope.names []).lookup x with
  | some c'=>exact⟨c',rfl⟩
  | none =>
   have:∀ (l:List (Str × Addr)),(x,c) ∈ l->l.lookup x≠none:=fun l=>by
    induction l with
    | nil=>intro z;cases z
    | cons p r ih =>
     intro z
     obtain⟨p1,p2⟩:=p
     rw[List.lookup_cons]
     rcases List.mem_cons.mp z with z | z
     ·cases z
      simp
     ·split
      ·simp
      ·exact ih z
   exact absurd q (this _ hc)
 have hcell:∀ y ∈ scope.names,y.2≠.cell:=fun y hy=>(hall y hy).1.1
 have sz:X.base.objs.size≤s3.heap.objs.size:=Nat.le_trans I.ok.bsz I.sz
 refine⟨⟨I.ok.mod,hk,I.ok.glob,I.ok.blt,Nat.le_refl _,fun x y c e1 e2=>I.ok.inj x y c (hcl x c e1) (hcl y c e2),fun x hx=>hasC x (zf1 hcell hx),fun x c z=>absurd z (by simp [cxComp]),
  I.ok.hd,I.ok.frames,.inl rfl,fun b hb=>⟨Nat.ne_of_lt (hlt b hb),fun x c e=>(hf b hb).2.2.2.2.1 x c (hcl x c e)⟩,I.bs,sz,fun b o e hb=>?_,fun b hb z=>?_,I.stack,I.stkFree⟩,
  rfl,I.bare,Un.kept k,⟨m4,hns,fun i x v e1 e2 e3=>?_⟩,fun x c e=>?_,I.hok.fresh (Nat.le_refl _),fun x c e=>I.freeC x c (hcl x c e),fun p hp=>?_,I.hok.kept k,?_⟩
 ·obtain⟨_,_,_,f3,_⟩:=hf b hb
  rcases f3 with f3 | f3
  ·exact I.ok.noex b o e f3
  ·exact absurd (Nat.lt_of_lt_of_le (Heap.lt_size e) (Nat.le_trans I.ok.bsz f3)) (Nat.lt_irrefl _)
 ·obtain⟨_,f1,f2,_⟩:=hf b hb
  rcases List.mem_cons.mp (I.stkSub b z) with z | z
  ·exact f1 z
  ·exact f2 z
 ·have e2':(List.replicate own.length (none:Option V)++js.map fun j=>(σ[j]?).join)[i]?=some (some v):=e2
  have e1':(own++fr)[i]?=some x:=e1
  by_cases hi:i < own.length
  ·rw[List.getElem?_append_left (by simpa using hi),List.getElem?_replicate,if_pos hi] at e2'
   cases e2'
  ·rw[List.getElem?_append_right (by simpa using hi),List.length_replicate] at e2'
   rw[List.getElem?_append_right (by omega)] at e1'
   obtain⟨j,hj,hv⟩:=znt e2'
   have hz:(fr.zip js)[i - own.length]?=some (x,j):=by
    rw[List.getElem?_zip_eq_some]
    exact⟨e1',hj⟩
   have q:=hfr _ (List.mem_of_getElem? hz)
   obtain⟨⟨q1,q2⟩,q3⟩:=q
   have q3'':X.env.scope.names.lookup x=some .cell∨X.env.scope.names.lookup x=some .free:=by simpa using q3
   have q3':X.env.kindOf x=some .cell∨X.env.kindOf x=some .free:=q3''
   obtain⟨m,hn,hl⟩:=I.loc
   obtain⟨u,r,l⟩:=hl j x v q1 hv (q3'.elim (fun z=>.inr (.inl z)) fun z=>.inr (.inr z))
   refine⟨u,r,.inr ⟨zb8 q2,?_⟩⟩
   rcases l with ⟨z,_⟩ | ⟨_,c,hc,hcellv⟩
   ·rcases q3' with w | w <;> (rw[z] at w;cases w)
   ·obtain⟨c',hc'⟩:=hasC x (PySem.mem_of_lookup q2)
    have e:=hcl x c' hc'
    rw[hc] at e
    cases e
    obtain⟨o,ho,hd⟩:=hcellv
    exact⟨c,hc',o,k c o ho,hd⟩
 ·obtain⟨v,o,ho,hd⟩:=I.cell x c (hcl x c e)
  exact⟨v,o,k c o ho,hd⟩
 ·have hp':p ∈ X.pn++pins:=by
   have:p ∈ (X.pn++pins)++([]:List (Addr × Obj)):=hp
   simpa using this
  obtain⟨a,b,c,d,f⟩:=I.pin p hp'
  refine⟨k _ _ a,b,Nat.ne_of_lt (Heap.lt_size a),fun z=>?_,f⟩
  rcases List.mem_cons.mp (I.stkSub p.1 z) with z | z
  ·exact c z
  ·exact d z
 ·show (List.replicate own.length (none:Option V)++js.map fun j=>(σ[j]?).join).length=(own++fr).length
  simp [hlen]
theorem zie {pins:List (Addr × Obj)} {s:Shared} {σ:L2.St} {H:Hp} {Q:VK} {use:Option (Value->Sem Unit)} {Qo:Value->Shared->Prop} {cpos:Pos}
  (hc:X.calm=true) (hi:PI X tg iter wi) (hg:∀ fp pins s3 H3,PG (cxComp X own fr scope fp pins s3 H3) tg g) (ht:∀ fp pins s3 H3,PTs (cxComp X own fr scope fp pins s3 H3) ifs tt)
  (he:∀ fp pins s3 H3,PE (cxComp X own fr scope fp pins s3 H3) elt te) (hok:compOk N sc0 scope fr js=true) (hN:X.N=N) (hsc:X.env.scope=sc0)
  (hs:∀ x,foldedSetIterable iter X.env x=pure x) (I:Inv X pins σ H s) (h:tComp own js wi g tt te σ H Q)
  (fin:∀ (C D:Addr) (s6:Shared) (H6:Hp) (m6:Str->Option Value),Inv X pins σ H6 s6->FpOk X pins H6 C->s6.heap.Ns C m6->Q (.ref D) H6->compPost (model X.prog X.w) X.A X.xe use Qo (.ref D) C (.ok .next) s6) :
  wpAny (model X.prog X.w) X.A (comprehension (.ListComp elt [⟨tg,iter,ifs,0⟩] scope pos) scope X.env cpos (newList []) false (eval iter X.env) use) Qo X.xe s:=by
 have hok':=hok
 unfold compOk at hok'
 simp only [Bool.and_eq_true,decide_eq_true_eq,List.all_eq_true] at hok'
 obtain⟨⟨⟨hk,hall⟩,hlen⟩,hfr⟩:=hok'
 have hcell:∀ y ∈ scope.names,y.2≠.cell:=fun y hy=>(hall y hy).1.1
 have hloc:∀ y ∈ scope.names,y.2=.local->scope.names.lookup y.1=some .local:=fun y hy e=>by
  have q:=(hall y hy).2
  simp only [Bool.or_eq_true,decide_eq_true_eq] at q
  rcases q with q | q
  ·exact absurd e q
  ·exact q
 have hfree:∀ y ∈ scope.names,y.2=.free->∃ c,X.env.cells.lookup y.1=some c:=fun y hy e=>by
  have q:=(hall y hy).1.2
  simp only [Bool.or_eq_true,decide_eq_true_eq] at q
  rw[← hsc] at q
  rcases q with (q | q) | q
  ·exact absurd e q
  ·exact I.ok.has y.1 (.inl q)
  ·exact I.ok.has y.1 (.inr q)
 refine wpAny_comprehension_free (use:=use) rfl hs (zlw hfree) hk hloc (thn (hi pins s σ H _ I h) fun v s1 h1=>thn h1 fun itv s2 h2=>?_)
 obtain⟨it,fp,tn,J,H2,e,I2,T,st2,f2,rd⟩:=h2
 subst e
 have hD2:H2 s2.heap.objs.size=none:=I2.fresh
 obtain⟨W,⟨m0,w0⟩,turn⟩:=rd s2.heap.objs.size hD2
  -- the new list
 refine wpAny_newList ?_ (Nat.zero_le _)
 have I3:Inv X pins σ (upd H2 s2.heap.objs.size (.lst [])) { s2 with heap:=s2.heap.push { cls:=.type "list",data:=.seq ([]:List Value).toArray } }:=I2.lnew (t':=s2.toks) .nil (Nat.zero_le _)
 generalize hs3:({ s2 with heap:=s2.heap.push { cls:=.type "list",data:=.seq ([]:List Value).toArray } }:Shared)=s3 at I3
 generalize hD:s2.heap.objs.size=D at *
 have fpl:∀ b ∈ fp,b < D:=fun b hb=>by
  obtain⟨o,ho,_⟩:=T.obj _ _ st2 b hb
  rw[← hD];exact Heap.lt_size ho
 have k23:∀ b o,s2.heap.get? b=some o->s3.heap.get? b=some o:=fun b o e=>by rw[← hs3];exact Heap.get?_push_of_some _ e
 have hD3:s3.heap.objs.size=D + 1:=by rw[← hs3,← hD];exact Heap.size_push ..
 have f3:∀ b ∈ fp,FpOk X pins (upd H2 D (.lst [])) b:=fun b hb=>by
  obtain⟨f0,f⟩:=f2 b hb
  exact⟨by rw[zap (Nat.ne_of_lt (fpl b hb))];exact f0,f⟩
 refine wpAny_newFunctionEnv hcell (by intro y hy;simp at hy) (fun h4 hns4 hsb4=>?_) hk
 have k34:∀ b o,s3.heap.get? b=some o->h4.get? b=some o:=fun b o e=>hsb4.extBut b o (Nat.ne_of_lt (Heap.lt_size e)) (Heap.get?_push_of_some _ e)
 have I4:=zpf (own:=own) (t4:=s3.toks + ([]:List (Str × Value)).length) hN hsc hok I3 f3 (fun b hb=>Nat.lt_of_lt_of_le (fpl b hb) (by rw[hD3];exact Nat.le_succ _)) k34 hns4
 have tn4:tn 0 h4:=T.keep 0 s2.heap h4 st2 fun b hb o e=>k34 b o (k23 b o e)
 have I4o:=I4.ok
 have fpS:∀ {H'':Hp},(∀ b ∈ fp,H'' b=none)->∀ b ∈ fp,FpOk (cxComp X own fr scope fp pins s3 (upd H2 D (.lst []))) [] H'' b:=fun hn b hb =>
  ⟨hn b hb,(I4o.exf b hb).1,I4o.exfs b hb,.inl hb,(I4o.exf b hb).2,fun p hp=>(f2 b hb).2.2.2.2.2 p (by
   have:p ∈ (X.pn++pins)++([]:List (Addr × Obj)):=hp
   simpa using this)⟩
 have loop : codeAny (model X.prog X.w) X.A (.compLoop (.ListComp elt [⟨tg, iter, ifs, 0⟩] scope pos) 0 (.ref it) (.ref D) (compEnvC scope (clOf X.env.cells scope.names []) s3.heap.objs.size X.env))
     (compPost (model X.prog X.w) X.A X.xe use Qo (.ref D) s3.heap.objs.size) { s3 with heap:=h4,toks:=s3.toks + ([]:List (Str × Value)).length }:=by
  refine zlv (fun n s'=>∃ i ys σ' H',Inv (cxComp X own fr scope fp pins s3 (upd H2 D (.lst []))) [] σ' H' s'∧tn i s'.heap∧(∀ b ∈ fp,H' b=none)∧H' D=some (.lst ys)∧W i n ys σ' H')
   ?step m0 ⟨0,[],_,_,I4,tn4,fun b hb=>(f3 b hb).1,zag,w0⟩
  rintro n s5 ⟨i,ys,σ5,H5,I5,tn5,fr5,d5,w5⟩
  rcases turn i n ys σ5 H5 w5 d5 with ⟨stop,q⟩ | ⟨go,stp⟩
  ·refine thn (T.done (cxComp X own fr scope fp pins s3 (upd H2 D (.lst []))) rfl rfl rfl hc i [] s5 σ5 H5 Fls I5 (fpS fr5) tn5 stop) fun r s6 ⟨hr,I6⟩=>.inl ⟨hr,?_⟩
   obtain⟨m6,hn6,_⟩:=id I6.loc
   have u1:Un (frs X.stack) fp H2 H5 s2.heap s6.heap:=(Un.laid k23 (Nat.le_of_eq hD) hD2).trans I6.base
   have fC:H5 s3.heap.objs.size=none:=I6.free
   have IX:Inv X pins σ H5 s6:=I2.call' (s':=s6) (ch:=fp) (by
    have:=I6.os
    rw[← hs3] at this
    exact this) u1 I6.hok I6.bare fun b hb=>by
     obtain⟨_,g1,_,g3,g4,g5⟩:=f2 b hb
     exact⟨g3,g1,g4,g5⟩
   exact fin s3.heap.objs.size D s6 H5 m6 IX (I2.fpOk (by rw[hD3,hD];exact Nat.le_succ _) fC) hn6 q
  ·refine thn (T.item (cxComp X own fr scope fp pins s3 (upd H2 D (.lst []))) rfl rfl rfl hc i [] s5 σ5 H5 Fls I5 (fpS fr5) tn5 go) fun r s6 ⟨u,hr,h6⟩=>.inr ⟨u,hr,thn h6 fun _ s7 ⟨x,H7,I7,r7,y7,tn7,fr7⟩=>?_⟩
   have I7':=I7.pinned (fpS fr7) (T.obj _ _ tn7)
   refine thn (hg fp pins s3 (upd H2 D (.lst [])) _ s7 σ5 H7 x u _ I7' r7 (stp x H7 y7)) fun _ s8 ⟨σ8,H8,I8,q8⟩=>?_
   refine thn (ht fp pins s3 (upd H2 D (.lst [])) _ s8 σ8 H8 _ I8 q8) fun ok s9 ⟨H9,I9,q9⟩=>?_
   have back:∀ {σ':L2.St} {H':Hp} {s':Shared},Inv (cxComp X own fr scope fp pins s3 (upd H2 D (.lst []))) ([]++pinsAt fp s7.heap) σ' H' s'->tn (i + 1) s'.heap∧∀ b ∈ fp,H' b=none:=fun {σ' H' s'} J=>by
    refine⟨T.keep _ _ _ tn7 fun b hb o e=>(J.pin (b,o) (List.mem_append_right _ (List.mem_append_right _ (zcp hb e)))).1,fun b hb=>?_⟩
    obtain⟨o,e,_⟩:=T.obj _ _ tn7 b hb
    exact (J.pin (b,o) (List.mem_append_right _ (List.mem_append_right _ (zcp hb e)))).2.1
   cases ok with
   | false =>
    rw[if_neg Bool.false_ne_true] at q9
    obtain⟨d9,m',hm,w9⟩:=q9
    rw[if_neg Bool.false_ne_true]
    exact⟨m',hm,i + 1,ys,σ8,H9,I9.unpinned,(back I9).1,(back I9).2,d9,w9⟩
   | true =>
    rw[if_pos rfl] at q9 ⊢
    refine thn (he fp pins s3 (upd H2 D (.lst [])) _ s9 σ8 H9 _ I9 q9) fun xv s10 ⟨v,H10,I10,r10,d10,len,m',hm,w10⟩=>?_
    refine thn (zc5 (X:=cxComp X own fr scope fp pins s3 (upd H2 D (.lst []))) _ s10 σ8 H10 (.ref D) [v] (.ref D) [xv] (fun _ H'=>H'=upd H10 D (.lst (ys++[v]))) I10 rfl (.cons r10 .nil) ⟨D,ys,v,rfl,rfl,d10,len,rfl⟩) fun _ s11 ⟨_,H11,I11,_,e11⟩=>?_
    subst e11
    exact⟨m',hm,i + 1,ys++[v],σ8,_,I11.unpinned,(back I11).1,(back I11).2,zag,w10⟩
 exact codeAny_compStart_list loop (T.self X.A 0 _ _ _ tn4 loop)
theorem zbv (hc:X.calm=true) (hi:PI X tg iter wi) (hg:∀ fp pins s3 H3,PG (cxComp X own fr scope fp pins s3 H3) tg g) (ht:∀ fp pins s3 H3,PTs (cxComp X own fr scope fp pins s3 H3) ifs tt)
  (he:∀ fp pins s3 H3,PE (cxComp X own fr scope fp pins s3 H3) elt te) (hok:compOk N sc0 scope fr js=true:=by decide +kernel) (hN:X.N=N:=by rfl) (hsc:X.env.scope=sc0:=by rfl)
  (hs:∀ x,foldedSetIterable iter X.env x=pure x:=by intro _;rfl):PE X (.ListComp elt [⟨tg,iter,ifs,0⟩] scope pos) (tComp own js wi g tt te):=by
 intro pins s σ H Q I h
 rw[eval_ListComp]
 refine zie hc hi hg ht he hok hN hsc hs I h fun C D s6 H6 m6 I6 f6 n6 q6=>⟨m6,n6,fun h7 sb=>⟨.ref D,H6,?_,rfl,q6⟩⟩
 obtain⟨f0,f1,_,f3,f4,f5⟩:=f6
 exact I6.turned (it:=C) (t':=s6.toks) (fun b o hb e=>sb.extBut b o hb e) f0 f1 f3 f4 f5
/-- name = [..], where the machine stores ahead of letting the block's names go -/
theorem zco {i:Nat} {y:Str} {py spos:Pos} (hc:X.calm=true) (hi:PI X tg iter wi) (hg:∀ fp pins s3 H3,PG (cxComp X own fr scope fp pins s3 H3) tg g) (ht:∀ fp pins s3 H3,PTs (cxComp X own fr scope fp pins s3 H3) ifs tt)
  (he:∀ fp pins s3 H3,PE (cxComp X own fr scope fp pins s3 H3) elt te) (hNd:X.N.Nodup) (hy:X.N[i]?=some y) (hx:Loc X.env.scope y) (hok:compOk N sc0 scope fr js=true:=by decide +kernel) (hN:X.N=N:=by rfl) (hsc:X.env.scope=sc0:=by rfl)
  (hsw:swapsWith (.ListComp elt [⟨tg,iter,ifs,0⟩] scope pos) (some (.Name y py)) spos.line X.env=pure true:=by rfl) (hf:X.fn y=true∨X.env.scope.names.lookup y=some .local:=by first | exact .inl rfl | exact .inr rfl | assumption)
  (hs:∀ x,foldedSetIterable iter X.env x=pure x:=by intro _;rfl):PS X (.Assign [.Name y py] (.ListComp elt [⟨tg,iter,ifs,0⟩] scope pos) spos) (tAsg (tComp own js wi g tt te) (gName i)):=by
 intro pins s σ H D I h
 rw[exec_Assign_Name_used _ _ _ _ hsw]
 refine wpAny_bind (wpAny_standAt (wpAny_bind ?_))
 show wpAny _ _ (do let _ ← comprehension (.ListComp elt [⟨tg,iter,ifs,0⟩] scope pos) scope X.env _ (newList []) false (eval iter X.env) (some (assign (.Name y py) X.env))) _ _ s
 refine wpAny_bind (wpAny_mono (zie (use:=some (assign (.Name y py) X.env)) (Qo:=fun _ s'=>SP X pins D .next s') hc hi hg ht he hok hN hsc hs I h fun C L s6 H6 m6 I6 f6 n6 q6=>?_) (fun _ s' q=>wpAny_pure (wpAny_pure q)) fun _ _ z=>z)
 obtain⟨f0,f1,f2,f3,f4,f5⟩:=f6
 show wpAny _ _ (assign (.Name y py) X.env (.ref L)) _ _ s6
 refine wpAny_assign_Name (zhl I6 hNd hy hx (v:=.ref L) rfl (fun s7 I7 ⟨a,sb,ha⟩=>?_) hf)
 have ne:C≠a:=by
  rcases ha with e | e
  ·rw[e];exact f1
  ·exact fun z=>f4 y a e z.symm
 refine⟨m6,n6.sameBut sb ne,fun h8 sb8=>⟨σ.set i (some (.ref L)),H6,?_,q6⟩⟩
 exact I7.turned (it:=C) (t':=s7.toks) (fun b o hb e=>sb8.extBut b o hb e) f0 f1 f3 f4 f5
end
end L3
namespace L3
open PySem PySem.Spec PyProof.Rows L2
section
variable {X:Cx} {pins:List (Addr × Obj)} {σ:L2.St} {H H':Hp} {s:Shared} {h':Heap} {ch:List Addr} {t':Nat}
/-- several own records have turned, the abstract heap has grown -/
theorem turnsTo (I:Inv X pins σ H s) (hf:∀ b ∈ ch,FpOk X pins H b) (k:∀ b o,b ∉ ch->s.heap.get? b=some o->h'.get? b=some o) (hH:∀ b u,H b=some u->H' b=some u)
  (hfree:∀ b o,s.heap.get? b=some o->H b=none->H' b=none) (hok:HOk X.prog X.w H' h'):Inv X pins σ H' { s with heap:=h',toks:=t' }:=by
 refine I.step (g':=s.gens) (d':=s.drawn) (ch:=ch) (fun b hb=>?_) (fun b o _ _ hc e _=>k b o hc e) (fun b o _ _ hc e _=>⟨o.slots,k b o hc e⟩) (fun b o _ e n=>hfree b o e n) (fun b o hc e=>⟨o,k b o hc e⟩)
  (fun b xs e=>hH _ _ e) (fun b o u e=>hH _ _ e) (fun b ps e=>⟨#[],by rw[hH _ _ e];simp⟩) (fun m hm=>?_) hok I.bare
 ·obtain⟨_,f1,_,f3,f4,f5⟩:=hf b hb
  exact⟨f3,f1,f4,f5⟩
 ·obtain⟨o,es,ep,ho,r⟩:=hm
  exact⟨o,es,ep,k _ o (fun z=>(hf _ z).2.1 rfl) ho,r⟩
theorem turns (I:Inv X pins σ H s) (hf:∀ b ∈ ch,FpOk X pins H b) (k:∀ b o,b ∉ ch->s.heap.get? b=some o->h'.get? b=some o):Inv X pins σ H { s with heap:=h',toks:=t' }:=by
 refine turnsTo I hf k (fun _ _ e=>e) (fun _ _ _ n=>n) fun b u e=>?_
 refine (I.hok b u e).stay (fun c v hc q=>k c v (fun z=>?_) q) (fun _ q=>q) fun _ _ q=>q
 have n:=(hf c z).1
 rcases hc with rfl | hc
 ·rw[n] at e;cases e
 ·rw[n] at hc;cases hc
theorem turnsTup {xs:List V} {its:List Value} {T:Addr} (I:Inv X pins σ H s) (hf:∀ b ∈ ch,FpOk X pins H b) (k:∀ b o,b ∉ ch->s.heap.get? b=some o->h'.get? b=some o) (hT:s.heap.objs.size≤T)
  (hz:xs.length≤sizeLine) (hv:Vals xs its) (ht:TupN h' T its.toArray):Inv X pins σ (upd H T (.tup xs)) { s with heap:=h',toks:=t' }:=by
 have fr:H T=none:=I.hok.fresh hT
 have ne:∀ b u,H b=some u->b≠T:=fun b u e=>zaj e fr
 refine turnsTo I hf k (fun b u e=>by rw[zap (ne b u e)];exact e) (fun b o e n=>by rw[zap (Nat.ne_of_lt (Nat.lt_of_lt_of_le (Heap.lt_size e) hT))];exact n) fun b u e=>?_
 by_cases hb:b=T
 ·subst hb
  rw[zag] at e
  cases e
  exact⟨hz,its,hv,ht⟩
 ·rw[zap hb] at e
  refine (I.hok b u e).stay (fun c v hc q=>k c v (fun z=>?_) q) (fun c q=>by rw[zap (ne c _ q)];exact q) fun c ys q=>by rw[zap (ne c _ q)];exact q
  have n:=(hf c z).1
  rcases hc with rfl | hc
  ·rw[n] at e;cases e
  ·rw[n] at hc;cases hc
end
def SqX (t:Bool) (K:PySem.W.Frag) (H:Hp) (a:Addr) (xs:List V):Prop:=if t=true then SqT K H a xs else SqL K H a xs
section
variable {X:Cx} {pins:List (Addr × Obj)} {σ:L2.St} {H:Hp} {s:Shared} {a:Addr} {xs ys:List V} {t:Bool}
theorem seqX (I:Inv X pins σ H s) (h:SqX t X.K H a xs):∃ its:List Value,Vals xs its∧Z3.SqAt t s.heap a its.toArray∧xs.length≤sizeLine:=by
 cases t with
 | true=>obtain⟨its,r,p,z⟩:=I.tuple (show SqT X.K H a xs from h);exact⟨its,r,p,z⟩
 | false=>obtain⟨its,r,p,z⟩:=I.list (show SqL X.K H a xs from h);exact⟨its,r,p.isList,z⟩
theorem zgb (I:Inv X pins σ H s) (h:SqX t X.K H a xs) (h':SqX t X.K H a ys):xs=ys:=by
 cases t with
 | true=>exact I.tuple_inj h h'
 | false=>exact I.list_inj h h'
end
def Itz (t1 t2:Bool) (K:PySem.W.Frag) (l1 l2:Addr):It :=
 ⟨fun i H=>∃ xs ys x y,SqX t1 K H l1 xs∧SqX t2 K H l2 ys∧xs[i]?=some x∧ys[i]?=some y,
  fun i H v H'=>∃ T x y,H T=none∧v=.ref T∧H'=upd H T (.tup [x,y])∧(∀ xs,SqX t1 K H l1 xs->xs[i]?=some x)∧(∀ ys,SqX t2 K H l2 ys->ys[i]?=some y),
  fun i H=>∃ xs ys,SqX t1 K H l1 xs∧SqX t2 K H l2 ys∧(xs.length≤i∨ys.length≤i)⟩
theorem zou {P:Program} {w:World} {K:PySem.W.Frag} {elts:List Expr} {kk:Nat} {pos:Pos} {t1 t2:Bool} {z TI TO i1 i2 l1 l2:Addr} (D:Z3.Ap z TI TO i1 i2) (o1:Z3.Out z TI TO i1 i2 l1) (o2:Z3.Out z TI TO i1 i2 l2) :
  Turn P w K (.Tuple elts kk pos) (Itz t1 t2 K l1 l2) [z,TI,TO,i1,i2] z (fun i h=>Z3.Zd t1 t2 h z TI TO i1 i2 l1 l2 .none i) where
 mem:=by simp
 obj:=fun i h st b hb=>by
  obtain⟨q1,q2,⟨_,_,q3⟩,q4,q5⟩:=st
  obtain⟨o4,n4,e4,_,d4⟩:=q4.obj
  obtain⟨o5,n5,e5,_,d5⟩:=q5.obj
  simp only [List.mem_cons,List.not_mem_nil,or_false] at hb
  rcases hb with rfl | rfl | rfl | rfl | rfl
  ·exact⟨_,q1,fun v q=>by cases q⟩
  ·exact⟨_,q2,fun v q=>by cases q⟩
  ·exact⟨_,q3,fun v q=>by cases q⟩
  ·exact⟨_,e4,fun v q=>by rw[d4] at q;cases q⟩
  ·exact⟨_,e5,fun v q=>by rw[d5] at q;cases q⟩
 keep:=fun i h h' st k=>by
  obtain⟨q1,q2,⟨a,b,q3⟩,q4,q5⟩:=st
  exact⟨k z (by simp) _ q1,k TI (by simp) _ q2,⟨a,b,k TO (by simp) _ q3⟩,q4.to fun o e=>k i1 (by simp) o e,q5.to fun o e=>k i2 (by simp) o e⟩
 item:=by
  intro X hP hw hK hc i pins s σ H E I hf st hg
  subst hP hw hK
  obtain⟨xs,ys,x,y,q1,q2,hx,hy⟩:=hg
  obtain⟨its1,r1,p1,z1⟩:=seqX I q1
  obtain⟨its2,r2,p2,z2⟩:=seqX I q2
  obtain⟨u1,hu1,ru1⟩:=r1.get hx
  obtain⟨u2,hu2,ru2⟩:=r2.get hy
  have hf4:∀ b ∈ [z,TO,i1,i2],FpOk X pins H b:=fun b hb=>hf b (by
   simp only [List.mem_cons,List.not_mem_nil,or_false] at hb ⊢
   rcases hb with rfl | rfl | rfl | rfl <;> simp)
  refine Z3.zni D o1 o2 st p1 p2 (x:=u1) (y:=u2) (by simpa using hu1) (by simpa using hu2) fun h' zd tp sz kp=>?_
  have I1 : Inv X pins σ (upd H s.heap.objs.size (.tup [x, y])) { s with heap := h', toks := s.toks } := turnsTup (ch := [z, TO, i1, i2]) (its := [u1, u2]) I hf4 (fun b o hb e => by
      simp only [List.mem_cons,List.not_mem_nil,or_false,not_or] at hb
      exact kp b o hb.1 hb.2.1 hb.2.2.1 hb.2.2.2 e) (Nat.le_refl _) (by show 2≤sizeLine;rw[sizeLine_eq];decide) (.cons ru1 (.cons ru2 .nil)) ⟨_,tp,rfl,⟨_,rfl⟩,rfl⟩
  have fr:H s.heap.objs.size=none:=I.fresh
  have zne:∀ b ∈ [z,TI,TO,i1,i2],b≠s.heap.objs.size:=fun b hb e=>by
   have key:∃ o,s.heap.get? b=some o:=by
    obtain⟨q1,q2,⟨_,_,q3⟩,q4,q5⟩:=st
    obtain⟨o4,n4,e4,_,d4⟩:=q4.obj
    obtain⟨o5,n5,e5,_,d5⟩:=q5.obj
    simp only [List.mem_cons,List.not_mem_nil,or_false] at hb
    rcases hb with rfl | rfl | rfl | rfl | rfl
    ·exact⟨_,q1⟩
    ·exact⟨_,q2⟩
    ·exact⟨_,q3⟩
    ·exact⟨_,e4⟩
    ·exact⟨_,e5⟩
   obtain⟨o,ho⟩:=key
   exact absurd (Heap.lt_size ho) (by rw[e];exact Nat.lt_irrefl _)
  refine⟨_,rfl,wpAny_letOwnedTupleGo_zip zd.z fun h2 zd2 sb=>?_⟩
  obtain⟨f0,f1,f2,f3,f4,f5⟩:=hf z (by simp)
  have I2:Inv X pins σ (upd H s.heap.objs.size (.tup [x,y])) { s with heap:=h2,toks:=s.toks }:=Inv.turned (s:={ s with heap:=h',toks:=s.toks }) (it:=z) (t':=s.toks) I1 (fun b o hb e=>sb.extBut b o hb e) (by rw[zap (zne z (by simp))];exact f0) f1 f3 f4 f5
  refine⟨.ref s.heap.objs.size,_,I2,rfl,⟨_,x,y,fr,rfl,rfl,fun zs hz=>by rw[zgb I hz q1];exact hx,fun zs hz=>by rw[zgb I hz q2];exact hy⟩,?_,fun b hb=>by rw[zap (zne b hb)];exact (hf b hb).1⟩
  obtain⟨_,w2,⟨a3,b3,w3⟩,w4,w5⟩:=zd
  exact⟨zd2,sb.extBut _ _ D.n1 w2,⟨a3,b3,sb.extBut _ _ D.n2 w3⟩,w4.to fun o e=>sb.extBut _ _ D.n3 e,w5.to fun o e=>sb.extBut _ _ D.n4 e⟩
 done:=by
  intro X hP hw hK hc i pins s σ H E I hf st hg
  subst hP hw hK
  obtain⟨xs,ys,q1,q2,hx⟩:=hg
  obtain⟨its1,r1,p1,z1⟩:=seqX I q1
  obtain⟨its2,r2,p2,z2⟩:=seqX I q2
  have l1:=r1.length
  have l2:=r2.length
  have hf4:∀ b ∈ [z,TO,i1,i2],FpOk X pins H b:=fun b hb=>hf b (by
   simp only [List.mem_cons,List.not_mem_nil,or_false] at hb ⊢
   rcases hb with rfl | rfl | rfl | rfl <;> simp)
  refine Z3.znh (I.ok.hd hc) D o1 o2 st p1 p2 (hx.elim (fun q=>.inl (by simp;omega)) fun q=>.inr (by simp;omega)) fun h' kp=>⟨rfl,?_⟩
  exact turns (ch:=[z,TO,i1,i2]) (t':=s.toks) I hf4 fun b o hb e=>by
   simp only [List.mem_cons,List.not_mem_nil,or_false,not_or] at hb
   exact kp b o hb.1 hb.2.1 hb.2.2.1 hb.2.2.2 e
 self:=fun _ _ _ _ _ st h=>wpAny_pyIter_zip st.z h
def iZip (t1 t2:Bool) (K:PySem.W.Frag) (ta:TA):TI:=fun σ H R=>ta σ H fun vs H1=>∃ l1 l2,vs=[.ref l1,.ref l2]∧(∃ xs,SqX t1 K H1 l1 xs)∧(∃ ys,SqX t2 K H1 l2 ys)∧R (Itz t1 t2 K l1 l2) H1
theorem zr8 {X:Cx} {elts:List Expr} {kk:Nat} {pos':Pos} (t1 t2:Bool) {a b:Expr} {ta:TA} {p pos:Pos} (hg:Gl X "zip") (hm:X.mg "zip"=none) (ha:PA X [a,b] ta)
  (hs:starEach [a,b] X.env=[(false,eval a X.env),(false,eval b X.env)]:=by rfl) (hs2:starEach [b] X.env=[(false,eval b X.env)]:=by rfl) :
  PI X (.Tuple elts kk pos') (.Call (.Name "zip" p) [a,b] [] pos) (iZip t1 t2 X.K ta):=by
 intro pins s σ H R I h
 refine Call_ (zdw I hg hm boot_zip (PyProof.Rows.callWith_type1 (thn (ha pos pins s σ H _ I h) fun us s1 ⟨vs,H1,I1,r1,q1⟩=>?_) (by rw[hs,hs2]) (by rw[hs2];rfl)))
 obtain⟨l1,l2,e,⟨xs,qx⟩,⟨ys,qy⟩,q⟩:=q1
 subst e
 cases r1 with
 | cons r rr =>
  cases rr with
  | cons r' rr =>
   cases rr
   cases r
   cases r'
   obtain⟨its1,r1,p1,z1⟩:=seqX I1 qx
   obtain⟨its2,r2,p2,z2⟩:=seqX I1 qy
   have lt:∀ {t:Bool} {l:Addr} {xs:Array Value},Z3.SqAt t s1.heap l xs->l < s1.heap.objs.size:=fun {t l xs} q=>by
    cases t with
    | true=>obtain⟨o,e,_⟩:=(show s1.heap.IsTuple l xs from q);exact Heap.lt_size e
    | false=>obtain⟨o,e,_⟩:=(show s1.heap.IsList l xs from q);exact Heap.lt_size e
   refine Z3.zpw p1 p2 fun h' zd sz kp=>wpAny_pyIter_zip zd.z ?_
   have I2:Inv X pins σ H1 { s1 with heap:=h',toks:=s1.toks }:=I1.kept (t':=s1.toks) kp
   refine⟨s1.heap.objs.size + 4,[s1.heap.objs.size + 4,s1.heap.objs.size + 2,s1.heap.objs.size + 3,s1.heap.objs.size,s1.heap.objs.size + 1],_,_,H1,rfl,I2,zou (Z3.zsx _) (Z3.zm4 (lt p1)) (Z3.zm4 (lt p2)),zd,fun b hb=>?_,q⟩
   have hb':s1.heap.objs.size≤b:=by
    simp only [List.mem_cons,List.not_mem_nil,or_false] at hb
    rcases hb with rfl | rfl | rfl | rfl | rfl
    ·exact Nat.le_add_right _ _
    ·exact Nat.le_add_right _ _
    ·exact Nat.le_add_right _ _
    ·exact Nat.le_refl _
    ·exact Nat.le_add_right _ _
   exact I1.fpOk hb' (I1.hok.fresh hb')
section
variable {X:Cx} {pos:Pos}
def gLst (K:PySem.W.Frag) (n:Nat) (t:TGs):TG:=fun v σ H Q=>∃ a xs,v=.ref a∧SqL K H a xs∧xs.length=n∧t xs σ H Q
theorem zr9 {es:List Expr} {k:Nat} {t:TGs} {n:Nat} (hc:X.calm=true) (h:PGs X es t) (hn:(assignEach es X.env).length=n:=by rfl) (hst:(assignEach es X.env).findIdx? (·.1)=none:=by rfl):PG X (.Tuple es k pos) (gLst X.K n t):=by
 intro pins s σ H v u Q I r hw
 obtain⟨a,xs,e1,hq,hl,hw⟩:=hw
 subst e1
 cases r
 obtain⟨its,rv,ht,hz⟩:=I.list hq
 refine U3.assign_tuple_lst (I.ok.hd hc) ht.isList (by simp [hn,← hl,rv.length]) hst fun h' hx=>?_
 have I1:Inv X pins σ H { s with heap:=h' }:=I.kept (t':=s.toks) fun b o e=>hx b o (Nat.ne_of_lt (Heap.lt_size e)) e
 exact h pins _ σ H xs _ Q I1 (by simpa using rv) hw
theorem zov {prog:Program} {w:World} {A:Around} {bs:List Bool} {its:List Value} (r:Vals (bs.map V.bl) its):TruthOf prog w A (fun i v=>its.toArray[i]?=some v) (fun i=>bs.getD i true):=by
 intro i v s Q E hP hq
 have hP':its[i]?=some v:=by simpa using hP
 have hl:=r.length
 have hi:i < its.length:=(List.getElem?_eq_some_iff.mp hP').1
 have hb:i < bs.length:=by rw[List.length_map] at hl;omega
 obtain⟨u,hu,ru⟩:=r.get (i:=i) (x:=V.bl bs[i]) (by rw[List.getElem?_map,List.getElem?_eq_getElem hb];rfl)
 rw[hP'] at hu
 cases hu
 have e:v=Value.bool bs[i]:=ru
 subst e
 have e2:bs.getD i true=bs[i]:=by simp [List.getD,hb]
 have hq':Q (bs.getD i true) s:=hq
 rw[e2] at hq'
 exact wpAny_truthy_bool hq'
theorem zon (bs:List Bool):((List.range bs.length).all fun i=>bs.getD i true)=bs.all id:=by
 rw[Bool.eq_iff_iff,List.all_eq_true,List.all_eq_true]
 constructor
 ·intro h b hb
  obtain⟨i,hi,e⟩:=List.getElem_of_mem hb
  have:=h i (List.mem_range.mpr hi)
  rw[← e]
  simpa [List.getD,hi] using this
 ·intro h i hi
  have hi':=List.mem_range.mp hi
  have:=h bs[i] (List.getElem_mem hi')
  simpa [List.getD,hi'] using this
theorem zg3 (hh:X.calm=true):CallR X (.builtin "all") (fun xs H Q=>∃ (p:Addr) (bs:List Bool),xs=[.ref p]∧SqL X.K H p (bs.map V.bl)∧Q (.bl (bs.all id)) H):=by
 intro pins s σ H xs us Q I r h
 obtain⟨p,bs,rfl,hq,q⟩:=h
 obtain⟨u,rfl,rx⟩:=vals1 r
 cases rx
 obtain⟨its,rv,pl,hz⟩:=I.list hq
 have hl:=rv.length
 have lt:p≠s.heap.objs.size:=by obtain⟨o,e,_⟩:=pl.isList;exact Nat.ne_of_lt (Heap.lt_size e)
 refine call_all_walk (wpAny_pyIter_list pl.isList ?_)
 have W:=Walks.list (prog:=X.prog) (w:=X.w) (A:=X.A.in1) (show X.A.in1.handled=none from I.ok.hd hh) s.heap.objs.size p lt its.toArray
 refine⟨s.heap.objs.size,_,_,_,_,_,_,rfl,W,⟨⟨_,Heap.get?_push_size _ rfl,rfl,rfl⟩,pl.isList.push _⟩,zov rv,fun h' tk hk=>?_⟩
 refine⟨.bl (bs.all id),H,I.kept (t':=tk) fun b o e=>hk b o (fun z=>?_) (Heap.get?_push_of_some _ e),?_,q⟩
 ·have:b=s.heap.objs.size:=by simpa using z
  exact absurd (Heap.lt_size e) (by rw[this];exact Nat.lt_irrefl _)
 ·show Value.bool _=Value.bool _
  have e1:its.toArray.size=bs.length:=by rw[List.size_toArray,← hl,List.length_map]
  rw[e1,zon]
theorem zde {n:String}:CallR X (.builtin "isinstance") (fun xs H Q=>∃ x t b,xs=[x,.ty n]∧TyOf X.K H x t∧PySem.W.kitOne X.K t (.type n)=some b∧Q (.bl b) H):=by
 intro pins s σ H xs us Q I r h
 obtain⟨x,t,b,rfl,ty,e,q⟩:=h
 obtain⟨u,c,rfl,ru,rc⟩:=r.two
 cases rc
 exact znv I ru ty e fun tk=>⟨.bl b,H,I.tok tk,rfl,q⟩
variable {a b c d:Expr} {ta tb tc td:TE}
end
end L3
namespace L3
open PySem PySem.Spec PyProof.Rows L2
mutual
def Is (K:PySem.W.Frag) (H:Hp):PyData->V->Prop
 | .none,v=>v=.non
 | .bool b,v=>v=.bl b
 | .int i,v=>v=.int i
 | .str x,v=>v=.str x
 | .tuple ds,v=>∃ p vs,v=.ref p∧H p=some (.tup vs)∧IsAll K H ds vs
 | .list ds,v=>∃ p vs,v=.ref p∧H p=some (.lst vs)∧IsAll K H ds vs
 | .dict kvs,v=>kvs=[]∧∃ p,v=.ref p∧H p=some (.dK [])
def IsAll (K:PySem.W.Frag) (H:Hp):List PyData->List V->Prop
 | [],vs=>vs=[]
 | d::ds,vs=>∃ v r,vs=v::r∧Is K H d v∧IsAll K H ds r
end
section
variable {K:PySem.W.Frag} {H H':Hp}
mutual
theorem Is.same (e:Same H H'):∀ (d:PyData) {v:V},Is K H d v->Is K H' d v
 | .none,_,h=>h
 | .bool _,_,h=>h
 | .int _,_,h=>h
 | .str _,_,h=>h
 | .tuple ds,_,h=>let ⟨p,vs,q1,q2,q3⟩:=h;⟨p,vs,q1,e _ _ q2,IsAll.same e ds q3⟩
 | .list ds,_,h=>let ⟨p,vs,q1,q2,q3⟩:=h;⟨p,vs,q1,e _ _ q2,IsAll.same e ds q3⟩
 | .dict kvs,_,h=>let ⟨q0,p,q1,q2⟩:=h;⟨q0,p,q1,e _ _ q2⟩
theorem IsAll.same (e:Same H H'):∀ (ds:List PyData) {vs:List V},IsAll K H ds vs->IsAll K H' ds vs
 | [],_,h=>h
 | d::ds,_,h=>let ⟨v,r,q1,q2,q3⟩:=h;⟨v,r,q1,Is.same e d q2,IsAll.same e ds q3⟩
end
theorem IsAll.length:∀ {ds:List PyData} {vs:List V},IsAll K H ds vs->vs.length=ds.length
 | [],_,h=>by rw[show _=[] from h];rfl
 | d::ds,_,⟨v,r,q1,q2,q3⟩=>by rw[q1,List.length_cons,List.length_cons,IsAll.length q3]
theorem IsAll.get:∀ {ds:List PyData} {vs:List V} {i:Nat} {d:PyData},IsAll K H ds vs->ds[i]?=some d->∃ v,vs[i]?=some v∧Is K H d v
 | [],_,_,_,_,e=>by simp at e
 | d::ds,_,0,d',⟨v,r,q1,q2,q3⟩,e=>by
  have e':d=d':=by simpa using e
  subst e';subst q1;exact⟨v,rfl,q2⟩
 | d::ds,_,i + 1,_,⟨v,r,q1,q2,q3⟩,e=>by
  subst q1
  obtain⟨u,h1,h2⟩:=IsAll.get (i:=i) q3 (by simpa using e)
  exact⟨u,by simpa using h1,h2⟩
theorem IsAll.of:∀ {ds:List PyData} {vs:List V},vs.length=ds.length->(∀ (i:Nat) (d:PyData) (v:V),ds[i]?=some d->vs[i]?=some v->Is K H d v)->IsAll K H ds vs
 | [],[],_,_=>rfl
 | [],_::_,h,_=>by simp at h
 | _::_,[],h,_=>by simp at h
 | d::ds,v::vs,h,q=>⟨v,vs,rfl,q 0 d v rfl rfl,IsAll.of (by simpa using h) fun i d' v' h1 h2=>q (i + 1) d' v' (by simpa using h1) (by simpa using h2)⟩
theorem IsAll.ints (ns:List Int):IsAll K H (ns.map .int) (ns.map V.int):=by
 refine IsAll.of (by simp) fun i d v h1 h2=>?_
 rw[List.getElem?_map] at h1 h2
 cases e:ns[i]? with
 | none=>rw[e] at h1;cases h1
 | some n=>rw[e] at h1 h2;cases h1;cases h2;exact rfl
theorem IsAll.of_ints:∀ {ns:List Int} {vs:List V},IsAll K H (ns.map .int) vs->vs=ns.map V.int
 | [],_,h=>h
 | n::ns,_,⟨v,r,q1,q2,q3⟩=>by
  have e:v=.int n:=q2
  rw[q1,e,IsAll.of_ints q3];rfl
end
section
variable {X:Cx} {pins:List (Addr × Obj)} {σ:L2.St} {H:Hp} {s:Shared}
mutual
theorem zc1 (I:Inv X pins σ H s):∀ (d:PyData) {v:V} {u:Value},Is X.K H d v->RelV v u->∃ as,Reads s.heap u d as
 | .none,_,_,h,r=>by
  have e:_=V.non:=h
  subst e;cases r;exact⟨_,.none⟩
 | .bool b,_,_,h,r=>by
  have e:_=V.bl b:=h
  subst e;cases r;exact⟨_,.bool b⟩
 | .int i,_,_,h,r=>by
  have e:_=V.int i:=h
  subst e;obtain⟨t,rfl⟩:=r;exact⟨_,.int i t⟩
 | .str x,_,_,h,r=>by
  have e:_=V.str x:=h
  subst e;obtain⟨t,rfl⟩:=r;exact⟨_,.str x t⟩
 | .tuple ds,_,_,h,r=>by
  obtain⟨p,vs,rfl,q2,q3⟩:=(show ∃ p vs,_=V.ref p∧H p=some (.tup vs)∧IsAll X.K H ds vs from h)
  cases r
  obtain⟨its,rv,⟨o,e1,e2,n,e3⟩,_⟩:=I.tuple (SqT.of q2)
  obtain⟨as,ra⟩:=zca I ds q3 rv
  exact⟨_,.tuple e1 e2 e3 (by simpa using ra)⟩
 | .list ds,_,_,h,r=>by
  obtain⟨p,vs,rfl,q2,q3⟩:=(show ∃ p vs,_=V.ref p∧H p=some (.lst vs)∧IsAll X.K H ds vs from h)
  cases r
  obtain⟨its,rv,⟨o,n,e1,e2,_,e3⟩,_⟩:=I.list (SqL.of q2)
  obtain⟨as,ra⟩:=zca I ds q3 rv
  exact⟨_,.list e1 e2 e3 (by simpa using ra)⟩
 | .dict kvs,_,_,h,r=>by
  obtain⟨e0,p,rfl,q2⟩:=(show kvs=[]∧∃ p,_=V.ref p∧H p=some (.dK []) from h)
  subst e0
  cases r
  obtain⟨_,_,vs,kv,o,es,ep,g1,g2,g3,_,g4,_⟩:=(show ObjOk X.prog X.w H s.heap p (.dK []) from I.hok p _ q2)
  cases kv
  have e1:es.toList=[]:=by cases h:es.toList with
   | nil=>rfl
   | cons x r=>rw[h] at g4;cases g4
  exact⟨_,.dict g1 g2.1 g3 (by rw[e1];exact .nil) (by rw[e1];exact .nil)⟩
theorem zca (I:Inv X pins σ H s):∀ (ds:List PyData) {vs:List V} {us:List Value},IsAll X.K H ds vs->Vals vs us->∃ as,ReadsAll s.heap us ds as
 | [],_,_,h,r=>by
  have e:_=[]:=h
  subst e;cases r;exact⟨_,.nil⟩
 | d::ds,_,_,h,r=>by
  obtain⟨v,vr,rfl,q2,q3⟩:=(show ∃ v r,_=v::r∧Is X.K H d v∧IsAll X.K H ds r from h)
  cases r with
  | cons r1 r2 =>
   obtain⟨as,a1⟩:=zc1 I d q2 r1
   obtain⟨bs,a2⟩:=zca I ds q3 r2
   exact⟨_,.cons a1 a2⟩
end
/-- == and != of data -/
theorem zna:OpR X (compareOp .Eq) (fun x y H Q=>∃ da db,Is X.K H da x∧Is X.K H db y∧da.canLay0=true∧db.canLay0=true∧X.A.units + min da.depth db.depth < cLine∧Q (.bl (PyData.eqv da db)) H):=by
 intro pins s σ H x y v u Q I rx ry h
 obtain⟨da,db,h1,h2,c1,c2,hu,q⟩:=h
 obtain⟨as,ra⟩:=zc1 I da h1 rx
 obtain⟨bs,rb⟩:=zc1 I db h2 ry
 exact SeqAt.compareEq_reads ra rb c1 c2 hu (za0 I q rfl)
theorem zpi {ys:List V} {its:List Value} (r:Vals ys its) {i:Nat} (hi:i < ys.length):RelV (ys.getD i .non) (its.getD i .none):=by
 have hl:=r.length
 obtain⟨u,hu,ru⟩:=r.get (i:=i) (x:=ys[i]) (List.getElem?_eq_getElem hi)
 have e1:ys.getD i .non=ys[i]:=by simp [List.getD,hi]
 have e2:its.getD i .none=u:=by simp [List.getD,hu]
 rw[e1,e2];exact ru
theorem zcm {ys:List V} {its:List Value} (r:Vals ys its):∀ (l:List Nat),(∀ i ∈ l,i < ys.length)->Vals (l.map fun i=>ys.getD i .non) (l.map fun i=>its.getD i Value.none)
 | [],_=>.nil
 | i::l,h=>.cons (zpi r (h i List.mem_cons_self)) (zcm r l fun j hj=>h j (List.mem_cons_of_mem _ hj))
theorem zc8 {n:Nat} {p:Array Nat} (g:Srt.Gd n p):∀ i ∈ p.toList,i < n:=fun i hi=>by
 have:=g.mem_iff.mp (Array.mem_toList_iff.mp hi)
 simpa using this
theorem ze4 {α:Type} {n:Nat} {p:Array Nat} (g:Srt.Gd n p) (f:Nat->α):(p.toList.map f).Perm ((List.range n).map f):=by
 have h:=Array.perm_iff_toList_perm.mp g
 exact (by simpa using h:p.toList.Perm (List.range n)).map f
theorem zeh {n:Nat} {p:Array Nat} {r:Nat->Int} {R:Nat->Nat->Prop} (g:Srt.Gd n p) (u:Srt.Up r p n) (h:∀ i j,i < n->j < n->r i≤r j->R i j):p.toList.Pairwise R:=by
 rw[List.pairwise_iff_getElem]
 intro i j hi hj hij
 have sz:=g.sz
 have hi':i < p.size:=by simpa using hi
 have hj':j < p.size:=by simpa using hj
 have q:=u i j (Nat.le_of_lt hij) (by omega)
 have e:∀ k (hk:k < p.size),p.getD k 0=p[k]:=fun k hk=>by simp [Array.getD,hk]
 unfold Srt.ky at q
 rw[e i hi',e j hj'] at q
 have m:∀ k (hk:k < p.size),p[k] < n:=fun k hk=>zc8 g _ (by simp)
 have:=h p[i] p[j] (m i hi') (m j hj') q
 simpa using this
theorem zbf {α:Type} (l:List α) (d:α):(List.range l.length).map (fun i=>l.getD i d)=l:=by
 refine List.ext_getElem (by simp) fun i h1 h2=>?_
 simp [List.getD,h2]
theorem zdy:CallR X (.builtin "sorted") (fun xs H Q=>∃ p ns,xs=[.ref p]∧SqL X.K H p (ns.map V.int)∧ns.length < 64∧∀ ms:List Int,ms.Perm ns->ms.Pairwise (·≤·)->∀ l,H l=none->Q (.ref l) (upd H l (.lst (ms.map V.int)))):=by
 intro pins s σ H xs us Q I r h
 obtain⟨p,ns,rfl,hq,h64,q⟩:=h
 obtain⟨u,rfl,rx⟩:=vals1 r
 cases rx
 obtain⟨its,rv,pl,hz⟩:=I.list hq
 have hl:=rv.length
 rw[List.length_map] at hl
 have hI:IntsAre its ns:=zbm rv
 have line:(64:Nat)≤sizeLine:=by rw[sizeLine_eq];decide
 refine Srt.zhm (r:=fun i=>ns.getD i 0) (κ:=oneType') pl.isList (by omega) (fun h2 A' s' Q' _ q'=>Srt.zgq hI h2 q') (fun A' s' i j C _ hi hj q'=>Srt.zjq hI hi hj q') fun pp h' c g u kp e=>?_
 have g':Srt.Gd ns.length pp:=by rw[hl];exact g
 have u':Srt.Up (fun i=>ns.getD i 0) pp ns.length:=by rw[hl];exact u
 have pm:(pp.toList.map fun i=>ns.getD i 0).Perm ns:=by
  have:=ze4 g' fun i=>ns.getD i 0
  rw[zbf] at this
  exact this
 have pw:(pp.toList.map fun i=>ns.getD i 0).Pairwise (·≤·):=by
  rw[List.pairwise_map]
  exact zeh g' u' fun i j _ _ z=>z
 have fr:H (s.heap.objs.size + 1)=none:=I.hok.fresh (Nat.le_succ _)
 have ev:((pp.toList.map fun i=>ns.getD i 0).map V.int)=pp.toList.map fun i=>(ns.map V.int).getD i .non:=by
  rw[List.map_map]
  refine List.map_congr_left fun i hi=>?_
  have:=zc8 g' i hi
  simp [List.getD,this]
 refine⟨.ref (s.heap.objs.size + 1),_,I.laid (a:=s.heap.objs.size + 1) (o:=.lst ((pp.toList.map fun i=>ns.getD i 0).map V.int)) (t':=s.toks) kp (Nat.le_succ _) ⟨?_,Srt.outOf its pp,c,?_,e⟩,rfl,q _ pm pw _ fr⟩
 ·have:=pm.length_eq
  rw[List.length_map,this];omega
 ·rw[ev]
  exact zcm rv pp.toList fun i hi=>by rw[List.length_map];exact zc8 g' i hi
theorem zig:CallR X (.builtin "sorted") (fun xs H Q=>∃ p ys ks,xs=[.ref p]∧SqL X.K H p ys∧ys.length < 64∧Paired (fun (y:V) (k:List Int)=>∃ a,y=.ref a∧SqT X.K H a (k.map V.int)) ys ks∧(∀ k ∈ ks,k≠[]) ∧
  ∀ qs:List (V × List Int),qs.Perm (ys.zip ks)->qs.Pairwise (fun a b=>Srt.lexI b.2 a.2=false)->∀ l,H l=none->Q (.ref l) (upd H l (.lst (qs.map (·.1))))):=by
 intro pins s σ H xs us Q I r h
 obtain⟨p,ys,ks,rfl,hq,h64,hp,hne,q⟩:=h
 obtain⟨u,rfl,rx⟩:=vals1 r
 cases rx
 obtain⟨its,rv,pl,hz⟩:=I.list hq
 have hl:=rv.length
 have hlk:ys.length=ks.length:=Paired.length hp
 have line:(64:Nat)≤sizeLine:=by rw[sizeLine_eq];decide
 have hT:∀ {ys:List V} {ks:List (List Int)} {its:List Value},Paired (fun (y:V) (k:List Int)=>∃ a,y=.ref a∧SqT X.K H a (k.map V.int)) ys ks->Vals ys its->Paired (Srt.TupI s.heap) its ks:=by
  intro ys ks its hp
  induction hp generalizing its with
  | nil=>intro rv;cases rv;exact .nil
  | cons r t ih =>
   intro rv
   cases rv with
   | cons r1 r2 =>
    refine .cons ?_ (ih r2)
    obtain⟨a,rfl,qa⟩:=r
    cases r1
    obtain⟨its',rv',⟨o,e1,e2,n,e3⟩,_⟩:=I.tuple qa
    exact⟨a,o,its'.toArray,n,rfl,e1,e2,e3,by simpa using zbm rv'⟩
 have tp:=hT hp rv
 have mono:∀ {h':Heap},(∀ b o,s.heap.get? b=some o->h'.get? b=some o)->Paired (Srt.TupI h') its ks:=fun k=>Paired.mapP tp fun v k' z=>z.to k
 refine Srt.zhm (r:=Srt.rank its.length fun i j=>Srt.lexI (ks.getD i []) (ks.getD j [])) (κ:=tuples' true) pl.isList (by omega) (fun h2 A' s' Q' k q'=>Srt.zj6 (mono k) hne h2 q')
  (fun A' s' i j C k hi hj q'=>Srt.zmg (mono k) hi hj (by rw[Srt.zei (lt:=fun i j=>Srt.lexI (ks.getD i []) (ks.getD j [])) (fun i=>Srt.zb4 _) (fun _ _ _ _ _ _=>Srt.zbr _ _ _) (fun _ _ _ _ _ _=>Srt.zcq _ _ _) hi hj] at q';exact q')) fun pp h' c g u kp e=>?_
 have fr:H (s.heap.objs.size + 1)=none:=I.hok.fresh (Nat.le_succ _)
 have pm:(pp.toList.map fun i=>(ys.getD i .non,ks.getD i [])).Perm (ys.zip ks):=by
  have h1:=ze4 g fun i=>(ys.getD i V.non,ks.getD i [])
  have e1:(List.range its.length).map (fun i=>(ys.getD i V.non,ks.getD i []))=ys.zip ks:=by
   refine List.ext_getElem (by simp;omega) fun i h1 h2=>?_
   have hi:i < its.length:=by simpa using h1
   have a1:i < ys.length:=by omega
   have a2:i < ks.length:=by omega
   simp [List.getD,a1,a2]
  rw[e1] at h1
  exact h1
 have pw:(pp.toList.map fun i=>(ys.getD i V.non,ks.getD i [])).Pairwise (fun a b=>Srt.lexI b.2 a.2=false):=by
  rw[List.pairwise_map]
  refine zeh g u fun i j hi hj z=>?_
  have w:=Srt.zei (n:=its.length) (lt:=fun i j=>Srt.lexI (ks.getD i []) (ks.getD j [])) (fun i=>Srt.zb4 _) (fun _ _ _ _ _ _=>Srt.zbr _ _ _) (fun _ _ _ _ _ _=>Srt.zcq _ _ _) hj hi
  rw[decide_eq_false (by omega)] at w
  exact w.symm
 have ev:(pp.toList.map fun i=>(ys.getD i V.non,ks.getD i [])).map (·.1)=pp.toList.map fun i=>ys.getD i V.non:=by
  rw[List.map_map];rfl
 refine⟨.ref (s.heap.objs.size + 1),_,I.laid (a:=s.heap.objs.size + 1) (o:=.lst ((pp.toList.map fun i=>(ys.getD i V.non,ks.getD i [])).map (·.1))) (t':=s.toks) kp (Nat.le_succ _) ⟨?_,Srt.outOf its pp,c,?_,e⟩,rfl,q _ pm pw _ fr⟩
 ·have:=pm.length_eq
  rw[List.length_map,this,List.length_zip];omega
 ·rw[ev]
  exact zcm rv pp.toList fun i hi=>by have:=zc8 g i hi;omega
end
end L3
namespace L3
open PySem PySem.Spec PyProof.Rows L2
def Ok (P:Program) (w:World) (K:PySem.W.Frag) (mg:Str->Option Value) (base:Heap) (k:Nat) (x:Str) (ps:List Str) (sp:Sp):Prop :=
 ∃ (f:Addr) (fd:FuncData),FnOk P w K mg base CX0 k f fd ps sp∧Binds K fd ps []∧PySem.W.keepIn K (.ref f)=true∧mg x=some (.ref f)
def DefOk (K:PySem.W.Frag) (mg:Str->Option Value) (x:Str) (st:Stmt) (ps:List Str):Prop :=
 ∃ (f:Addr) (fd:FuncData),Fun K x x st f fd∧Binds K fd ps []∧mg x=some (.ref f)
section
variable {P:Program} {w:World} {K:PySem.W.Frag} {mg:Str->Option Value} {base:Heap} {x:Str} {ps N:List Str} {sp sp':Sp} {k:Nat} {st:Stmt}
theorem Ok.mono {j:Nat} (O:Ok P w K mg base j x ps sp) (h:j≤k):Ok P w K mg base k x ps sp:=let ⟨f,fd,F,r⟩:=O;⟨f,fd,F.mono h,r⟩
theorem Ok.imp (O:Ok P w K mg base k x ps sp) (h:∀ vs H Q E,sp' vs H Q E->sp vs H Q E):Ok P w K mg base k x ps sp':=let ⟨f,fd,F,r⟩:=O;⟨f,fd,F.imp h,r⟩
theorem zbb (D:DefOk K mg x st ps) (S:FnScope N ps (defScope st)) (len:∀ vs H Q E,sp vs H Q E->vs.length=ps.length)
  (hbody:∀ (f:Addr) (cdv:Value) (A:Around) (outer:List Env) (s:Shared) (H:Hp) (vs:List V) (Q:VK) (E:XK),Room k (A.deeper (envOfC x (defScope st) s.heap.objs.size f cdv))->sp vs H Q E ->
   ∃ t,PSs (cxOf CX0 P w K mg base N x (defScope st) f cdv A outer s H E).nox (defBody st) t∧t { nx:=fun _ H'=>Q .non H',rt:=Q } (start N vs) H):Ok P w K mg base (k + 1) x ps sp:=by
 obtain⟨f,fd,F,b,m⟩:=D
 exact⟨f,fd,F.ok S len (fun cdv A outer s H vs Q E hr h=>hbody f cdv A outer s H vs Q E hr h),b,F.kp,m⟩
theorem zae {X:Cx} {p pos:Pos} {e:Expr} {es:List Expr} {t:TA} (O:Ok X.prog X.w X.K X.mg X.base k x ps sp) (hr:Room k X.A) (hg:Gl X x) (ha:PA X (e::es) t)
  (hdb:(x == ("__debug__":Str))=false:=by decide) (he:starEach (e::es) X.env=(false,eval e X.env)::starEach es X.env:=by rfl) (hpl:(backTo pos (starEach es X.env)).any (·.1)=false:=by rfl) :
  PE X (.Call (.Name x p) (e::es) [] pos) (tCall sp [] E0 t):=by
 obtain⟨f,fd,F,b,kp,m⟩:=O
 exact zq8 F hr hg m kp b .nil pass0 ha hdb he hpl
end
/-- the built-ins' names are not taken -/
structure Bi (mg:Str->Option Value):Prop where
 z_len:mg "len"=none
 z_range:mg "range"=none
 z_zip:mg "zip"=none
 z_all:mg "all"=none
 z_sorted:mg "sorted"=none
 z_isinstance:mg "isinstance"=none
 z_min:mg "min"=none
 z_max:mg "max"=none
 z_tuple:mg "tuple"=none
 z_list:mg "list"=none
 z_int:mg "int"=none
 z_bool:mg "bool"=none
 z_str:mg "str"=none
 z_enumerate:mg "enumerate"=none
 z_sum:mg "sum"=none
 z_abs:mg "abs"=none
 z_set:mg "set"=none
 z_reversed:mg "reversed"=none
 z_any:mg "any"=none
 z_repr:mg "repr"=none
 z_dict:mg "dict"=none
def But (p:Addr) (H H':Hp):Prop:=∀ b o,b≠p->H b=some o->H' b=some o
section
variable {K:PySem.W.Frag} {H H1 H2:Hp} {p a:Addr} {o:HO} {xs ys:List V}
theorem But.refl:But p H H:=fun _ _ _ h=>h
theorem But.trans (a:But p H H1) (b:But p H1 H2):But p H H2:=fun c o n h=>b c o n (a c o n h)
theorem But.upd:But p H (upd H p o):=fun b u n h=>by rw[zap n];exact h
theorem Same.but (h:Same H H1):But p H H1:=fun b o _ q=>h b o q
theorem zal (h:H a=none):Same H (upd H a o):=fun b u q=>by rw[zap (zaj q h)];exact q
end
mutual
def tupD:PyData->Bool
 | .none | .bool _ | .int _ | .str _=>true
 | .tuple ds=>tupAll ds
 | .list _ | .dict _=>false
def tupAll:List PyData->Bool
 | []=>true
 | d::ds=>tupD d && tupAll ds
end
mutual
theorem Is.but {K:PySem.W.Frag} {H H':Hp} {p:Addr} {xs:List V} (e:But p H H') (hp:H p=some (.lst xs)):∀ (d:PyData) {v:V},tupD d=true->Is K H d v->Is K H' d v
 | .none,_,_,h=>h
 | .bool _,_,_,h=>h
 | .int _,_,_,h=>h
 | .str _,_,_,h=>h
 | .tuple ds,_,t,h=>let ⟨q,vs,q1,q2,q3⟩:=h;⟨q,vs,q1,e _ _ (fun z=>by subst z;rw[hp] at q2;cases q2) q2,IsAll.but e hp ds t q3⟩
 | .list ds,_,t,h=>by cases t
 | .dict _,_,t,h=>by cases t
theorem IsAll.but {K:PySem.W.Frag} {H H':Hp} {p:Addr} {xs:List V} (e:But p H H') (hp:H p=some (.lst xs)):∀ (ds:List PyData) {vs:List V},tupAll ds=true->IsAll K H ds vs->IsAll K H' ds vs
 | [],_,_,h=>h
 | d::ds,_,t,h=>by
  have t':(tupD d && tupAll ds)=true:=t
  rw[Bool.and_eq_true] at t'
  obtain⟨v,r,q1,q2,q3⟩:=h
  exact⟨v,r,q1,Is.but e hp d t'.1 q2,IsAll.but e hp ds t'.2 q3⟩
end
/-- a pot: its two numbers -/
def Pot (H:Hp) (p:Addr):Prop:=∃ a b:Int,H p=some (.lst [.int a,.int b])∧0≤a∧0≤b∧b < 2147483647
theorem Pot.lst {H:Hp} {p:Addr} (h:Pot H p):∃ xs,H p=some (.lst xs):=let ⟨a,b,e,_⟩:=h;⟨_,e⟩
def spPot (K:PySem.W.Frag):Sp:=fun vs H Q _=>∃ a k,∃ ns:List Int,vs=[.ref a,.int k]∧SqL K H a (ns.map V.int)∧0≤k∧k≤100∧∀ l H',Same H H'->H l=none->Pot H' l->Q (.ref l) H'
def spTake:Sp:=fun vs H Q _=>∃ p m,vs=[.ref p,.int m]∧Pot H p∧0 < m∧m < 1073741824∧∀ r H',0≤r->r < m->But p H H'->Pot H' p->Q (.int r) H'
def spOrder:Sp:=fun vs H Q _=>∃ p m,vs=[.ref p,.int m]∧Pot H p∧0≤m∧m≤1000∧∀ l H' (ms:List Int),But p H H'->Pot H' p->H l=none->l≠p->H' l=some (.lst (ms.map V.int))->ms.Perm ((List.range m.toNat).map fun i:Nat=>(i:Int))->Q (.ref l) H'
abbrev Tie:=Int × Int × Int
def tieI (t:Tie):List Int:=[t.1,t.2.1,t.2.2]
def tieD (t:Tie):PyData:=.tuple ((tieI t).map .int)
def webD (n:Int) (ties:List Tie):PyData:=.tuple [.int n,.tuple (ties.map tieD)]
/-- less by its ends -/
def endLt (s t:Tie):Prop:=s.1 < t.1∨(s.1=t.1∧s.2.1 < t.2.1)
structure WebOk (n:Int) (ties:List Tie):Prop where
 n1:1≤n
 n24:n≤24
 rise:ties.Pairwise endLt
 few:ties.length≤60
 tie:∀ t ∈ ties,0≤t.1∧t.1 < t.2.1∧t.2.1 < n∧1≤t.2.2∧t.2.2≤10 ^ 18
end L3
namespace L3
structure Grown (n:Nat) (ms:List Int) (b a:Nat) (ties:List Tie):Prop where
 few:ties.length≤60
 ok:∀ t ∈ ties,0≤t.1∧t.1 < t.2.1∧t.2.1 < (n:Int)∧1≤t.2.2∧t.2.2≤10 ^ 18
 of:∀ t ∈ ties,∃ a' b':Nat,a' < b'∧b' < n∧(b' < b∨(b'=b∧a' < a))∧((t.1=ms.getD a' 0∧t.2.1=ms.getD b' 0)∨(t.1=ms.getD b' 0∧t.2.1=ms.getD a' 0))
 nd:ties.Pairwise fun s t=>¬ (s.1=t.1∧s.2.1=t.2.1)
theorem Grown.start {n:Nat} {ms:List Int}:Grown n ms 0 0 []:=⟨Nat.zero_le _,(fun t h=>by cases h),(fun t h=>by cases h),List.Pairwise.nil⟩
theorem Grown.down {n:Nat} {ms:List Int} {b:Nat} {ties:List Tie} (g:Grown n ms b b ties):Grown n ms (b + 1) 0 ties :=
 ⟨g.few,g.ok,fun t h=>by
  obtain⟨a',b',h1,h2,h3,h4⟩:=g.of t h
  exact⟨a',b',h1,h2,.inl (by omega),h4⟩,g.nd⟩
theorem Grown.skip {n:Nat} {ms:List Int} {b a:Nat} {ties:List Tie} (g:Grown n ms b a ties):Grown n ms b (a + 1) ties :=
 ⟨g.few,g.ok,fun t h=>by
  obtain⟨a',b',h1,h2,h3,h4⟩:=g.of t h
  exact⟨a',b',h1,h2,by omega,h4⟩,g.nd⟩
structure Perm0 (n:Nat) (ms:List Int):Prop where
 len:ms.length=n
 lo:∀ i,i < n->0≤ms.getD i 0∧ms.getD i 0 < (n:Int)
 inj:∀ i j,i < n->j < n->ms.getD i 0=ms.getD j 0->i=j
theorem Perm0.of {n:Nat} {ms:List Int} (h:ms.Perm ((List.range n).map fun i:Nat=>(i:Int))):Perm0 n ms:=by
 have hl:ms.length=n:=by simpa using h.length_eq
 have nd:ms.Nodup:=(h.nodup_iff).mpr (by
  rw[List.Nodup,List.pairwise_map]
  exact (List.nodup_range (n:=n)).imp fun h z=>h (by omega))
 refine⟨hl,fun i hi=>?_,fun i j hi hj e=>?_⟩
 ·have e:ms.getD i 0=ms[i]:=by simp [List.getD,show i < ms.length by omega]
  have m:ms[i]'(by omega) ∈ (List.range n).map fun i:Nat=>(i:Int):=h.mem_iff.mp (List.getElem_mem _)
  rw[e]
  obtain⟨k,hk,ek⟩:=List.mem_map.mp m
  have:=List.mem_range.mp hk
  omega
 ·have e1:ms.getD i 0=ms[i]:=by simp [List.getD,show i < ms.length by omega]
  have e2:ms.getD j 0=ms[j]:=by simp [List.getD,show j < ms.length by omega]
  rw[e1,e2] at e
  exact (List.getElem_inj nd).mp e
theorem Grown.add {n:Nat} {ms:List Int} {b a:Nat} {ties:List Tie} {x y l:Int} (g:Grown n ms b a ties) (pm:Perm0 n ms) (ha:a < b) (hb:b < n) (hf:ties.length < 60) (hl:1≤l) (hl2:l≤10 ^ 18)
  (hxy:(x=ms.getD a 0∧y=ms.getD b 0)∨(x=ms.getD b 0∧y=ms.getD a 0)) (hle:x≤y):Grown n ms b (a + 1) (ties++[(x,y,l)]):=by
 have han:=Nat.lt_trans ha hb
 have la:=pm.lo a han
 have lb:=pm.lo b hb
 have ne:ms.getD a 0≠ms.getD b 0:=fun e=>Nat.ne_of_lt ha (pm.inj a b han hb e)
 refine⟨by rw[List.length_append,List.length_singleton];exact hf,fun t ht=>?_,fun t ht=>?_,?_⟩
 ·rcases List.mem_append.mp ht with h | h
  ·exact g.ok t h
  ·have e:t=(x,y,l):=List.mem_singleton.mp h
   subst e
   refine⟨?_,?_,?_,hl,hl2⟩
   ·show 0≤x
    rcases hxy with ⟨q1,q2⟩ | ⟨q1,q2⟩
    ·rw[q1];exact la.1
    ·rw[q1];exact lb.1
   ·show x < y
    refine Int.lt_iff_le_and_ne.mpr ⟨hle,fun z=>?_⟩
    rcases hxy with ⟨q1,q2⟩ | ⟨q1,q2⟩
    ·exact ne (q1.symm.trans (z.trans q2))
    ·exact ne (q2.symm.trans (z.symm.trans q1))
   ·show y < (n:Int)
    rcases hxy with ⟨q1,q2⟩ | ⟨q1,q2⟩
    ·rw[q2];exact lb.2
    ·rw[q2];exact la.2
 ·rcases List.mem_append.mp ht with h | h
  ·obtain⟨a',b',h1,h2,h3,h4⟩:=g.of t h
   exact⟨a',b',h1,h2,h3.imp id fun z=>⟨z.1,Nat.lt_succ_of_lt z.2⟩,h4⟩
  ·have e:t=(x,y,l):=List.mem_singleton.mp h
   subst e
   exact⟨a,b,ha,hb,.inr ⟨rfl,Nat.lt_succ_self _⟩,hxy⟩
 ·rw[List.pairwise_append]
  refine⟨g.nd,List.pairwise_singleton _ _,fun t ht u hu=>?_⟩
  have e:u=(x,y,l):=List.mem_singleton.mp hu
  subst e
  rintro ⟨e1,e2⟩
  obtain⟨a',b',h1,h2,h3,h4⟩:=g.of t ht
  have e1':t.1=x:=e1
  have e2':t.2.1=y:=e2
  have h1n:=Nat.lt_trans h1 h2
  have fin:a'=a->b'=b->False:=fun ea eb=>h3.elim (fun z=>Nat.ne_of_lt z eb) fun z=>Nat.ne_of_lt z.2 ea
  have fin2:a'=b->b'=a->False:=fun ea eb=>Nat.lt_asymm ha (by rw[← ea,← eb];exact h1)
  rcases h4 with ⟨p1,p2⟩ | ⟨p1,p2⟩ <;> rcases hxy with ⟨q1,q2⟩ | ⟨q1,q2⟩
  ·exact fin (pm.inj a' a h1n han (p1.symm.trans (e1'.trans q1))) (pm.inj b' b h2 hb (p2.symm.trans (e2'.trans q2)))
  ·exact fin2 (pm.inj a' b h1n hb (p1.symm.trans (e1'.trans q1))) (pm.inj b' a h2 han (p2.symm.trans (e2'.trans q2)))
  ·exact fin2 (pm.inj a' b h1n hb (p2.symm.trans (e2'.trans q2))) (pm.inj b' a h2 han (p1.symm.trans (e1'.trans q1)))
  ·exact fin (pm.inj a' a h1n han (p2.symm.trans (e2'.trans q2))) (pm.inj b' b h2 hb (p1.symm.trans (e1'.trans q1)))
theorem zq2 {ts:List Tie} (h:ts.Pairwise fun a b=>Srt.lexI (tieI b) (tieI a)=false) (nd:ts.Pairwise fun s t=>¬ (s.1=t.1∧s.2.1=t.2.1)):ts.Pairwise endLt:=by
 refine (h.and nd).imp fun {a b} hab=>?_
 obtain⟨h1,h2⟩:=hab
 obtain⟨a1,a2,a3⟩:=a
 obtain⟨b1,b2,b3⟩:=b
 simp only [tieI,Srt.lexI] at h1
 show a1 < b1∨(a1=b1∧a2 < b2)
 have h2':¬ (a1=b1∧a2=b2):=h2
 by_cases e1:b1=a1
 ·rw[if_pos e1] at h1
  by_cases e2:b2=a2
  ·exact absurd ⟨e1.symm,e2.symm⟩ h2'
  ·rw[if_neg e2] at h1
   have:=of_decide_eq_false h1
   exact .inr ⟨e1.symm,by omega⟩
 ·rw[if_neg e1] at h1
  have:=of_decide_eq_false h1
  exact .inl (by omega)
end L3
namespace L3
open PySem PySem.Spec PyProof.Rows L2
section
variable {X:Cx} {pos:Pos}
theorem zm7:OpR X (compareOp .IsNot) (fun x y H Q=>∃ i j,x=.bl i∧y=.bl j∧Q (.bl (!(i == j))) H):=by
 intro pins s σ H x y v u Q I rx ry h
 obtain⟨i,j,rfl,rfl,q⟩:=h
 cases rx
 cases ry
 exact isnot_bool (za0 I q rfl)
theorem zm5:OpR X (binaryOp .Mult) (rI (fun i j=>IntMulOk i j) fun i j=>.int (i * j)):=opI fun _ _ _ _ _ _ _ hc q=>mul_int q hc
theorem mulB:IntMulOk ((10:Int) ^ (60:Int).toNat) ((10:Int) ^ (60:Int).toNat):=IntMulOk.of_bits (by decide +kernel) (by decide +kernel)
theorem mulB2:IntMulOk ((10:Int) ^ (60:Int).toNat * (10:Int) ^ (60:Int).toNat) ((10:Int) ^ (60:Int).toNat):=IntMulOk.of_bits (by decide +kernel) (by decide +kernel)
theorem posB:(0:Int) < (10:Int) ^ (60:Int).toNat * (10:Int) ^ (60:Int).toNat * (10:Int) ^ (60:Int).toNat:=by decide +kernel
/-- range(n) as a value -/
theorem zdo:CallR X (.type "range") (fun xs H Q=>∃ j:Int,xs=[.int j]∧∀ p,H p=none->Q (.ref p) (upd H p (.rng 0 j))):=by
 intro pins s σ H xs us Q I r h
 obtain⟨j,rfl,q⟩:=h
 obtain⟨u,rfl,t,rfl⟩:=vals1 r
 refine call_range_1 ⟨.ref s.heap.objs.size,_,I.laid (a:=s.heap.objs.size) (o:=.rng 0 j) (fun b o e=>Heap.get?_push_of_some _ e) (Nat.le_refl _) ⟨_,_,_,Heap.get?_push_size _ rfl⟩,rfl,q _ I.fresh⟩
/-- list(range(n)) -/
theorem zdd (hh:X.calm=true):CallR X (.type "list") (fun xs H Q=>∃ (p:Addr) (j:Int),xs=[.ref p]∧H p=some (.rng 0 j)∧0≤j∧j≤1000∧∀ l,H l=none->Q (.ref l) (upd H l (.lst ((List.range j.toNat).map fun i:Nat=>V.int (i:Int))))):=by
 intro pins s σ H xs us Q I r h
 obtain⟨p,j,rfl,hp,hj0,hj,q⟩:=h
 obtain⟨u,rfl,rx⟩:=vals1 r
 cases rx
 obtain⟨t,u,v,e⟩:=(show ObjOk X.prog X.w H s.heap p (.rng 0 j) from I.hok p _ hp)
 refine call_list_range (n:=j.toNat) (I.ok.hd hh) (show IsRange s.heap p 0 j 1 t u v from e) (small_one (by omega) (by omega) (by omega) (by omega)) (by rw[rangeSize_one];split <;> omega) (by omega) fun h' tk acc c hk hS hacc=>?_
 refine⟨.ref s.heap.objs.size,_,I.laid (a:=s.heap.objs.size) (o:=.lst ((List.range j.toNat).map fun i:Nat=>V.int (i:Int))) (t':=tk) hk (Nat.le_refl _) ⟨?_,acc.toList,c,?_,by simpa using hS⟩,rfl,q _ I.fresh⟩
 ·rw[List.length_map,List.length_range,sizeLine_eq];omega
 ·have go:∀ (n:Nat) (l:List Value),l.length=n->(∀ (k:Nat) (v:Value),l[k]?=some v->∃ t,v=Value.int (0 + (k:Int) * 1) t)->Vals ((List.range n).map fun i:Nat=>V.int (i:Int)) l:=by
   intro n l hl hv
   have gen:∀ (l:List Value) (o:Nat),(∀ (k:Nat) (v:Value),l[k]?=some v->∃ t,v=Value.int ((o + k:Nat):Int) t)->Vals ((List.range' o l.length).map fun i:Nat=>V.int (i:Int)) l:=by
    intro l
    induction l with
    | nil=>intro o _;exact .nil
    | cons x r ih =>
     intro o h
     rw[List.length_cons,List.range'_succ,List.map_cons]
     obtain⟨t,ht⟩:=h 0 x rfl
     refine .cons ⟨t,by simpa using ht⟩ (ih (o + 1) fun k v hk=>?_)
     obtain⟨t,ht⟩:=h (k + 1) v (by simpa using hk)
     exact⟨t,by rw[ht];congr 1;omega⟩
   have:=gen l 0 fun k v hk=>by
    obtain⟨t,ht⟩:=hv k v hk
    exact⟨t,by rw[ht];congr 1;omega⟩
   rw[hl] at this
   rw[List.range_eq_range']
   exact this
  refine go _ _ (by simpa using hacc.1) fun k v hk=>hacc.2 k v (by simpa using hk)
end
theorem zf4 {α:Type}:∀ (l:List α) (k:Nat) (h:k < l.length),(l[k]::l.eraseIdx k).Perm l
 | [],k,h=>absurd h (Nat.not_lt_zero _)
 | a::l,0,_=>List.Perm.refl _
 | a::l,k + 1,h=>by
  have h':k < l.length:=by simpa using h
  show (l[k]::a::l.eraseIdx k).Perm (a::l)
  exact (List.Perm.swap a l[k] _).trans ((zf4 l k h').cons a)
theorem zia {α β:Type} (f:α->β):∀ (l:List α) (k:Nat),(l.eraseIdx k).map f=(l.map f).eraseIdx k
 | [],_=>rfl
 | _::_,0=>rfl
 | a::l,k + 1=>by
  show f a::(l.eraseIdx k).map f=f a::(l.map f).eraseIdx k
  rw[zia f l k]
end L3
namespace L3
open PySem PySem.Spec PyProof.Rows L2
/-- a list's values are tuples of the ties -/
def TieL (H:Hp) (ys:List V) (ts:List Tie):Prop:=Paired (fun (y:V) (t:Tie)=>∃ a,y=.ref a∧H a=some (.tup ((tieI t).map V.int))) ys ts
theorem TieL.keep {H H':Hp} {ys:List V} {ts:List Tie} (h:TieL H ys ts) (k:∀ a xs,H a=some (.tup xs)->H' a=some (.tup xs)):TieL H' ys ts :=
 Paired.mapP h fun y t ⟨a,e1,e2⟩=>⟨a,e1,k _ _ e2⟩
theorem TieL.snoc {H:Hp} {ys:List V} {ts:List Tie} {a:Addr} {t:Tie} (h:TieL H ys ts) (e:H a=some (.tup ((tieI t).map V.int))):TieL H (ys++[.ref a]) (ts++[t]):=Paired.snoc h ⟨a,rfl,e⟩
theorem zf0 {α β γ:Type} {F:β->γ->Prop} (f:α->β) (g:α->γ):∀ {l:List α},(∀ x ∈ l,F (f x) (g x))->Paired F (l.map f) (l.map g)
 | [],_=>.nil
 | x::l,h=>.cons (h x List.mem_cons_self) (zf0 f g fun y hy=>h y (List.mem_cons_of_mem _ hy))
theorem zfy {α β γ:Type} {F:α->β->Prop} {f:β->γ}:∀ {l:List α} {r:List β},Paired F l r->∀ q ∈ l.zip (r.map f),∃ b,q.2=f b∧F q.1 b
 | _,_,.nil,q,h=>by cases h
 | _,_,.cons (a:=a) (b:=b) x t,q,h=>by
  rw[List.map_cons,List.zip_cons_cons] at h
  rcases List.mem_cons.mp h with e | h
  ·subst e;exact⟨b,rfl,x⟩
  ·exact zfy t q h
theorem zep {F:V->Tie->Prop} {G:V->List Int->Prop} (h:∀ y t,F y t->G y (tieI t)):∀ {ys:List V} {ts:List Tie},Paired F ys ts->Paired G ys (ts.map tieI)
 | _,_,.nil=>.nil
 | _,_,.cons x t=>.cons (h _ _ x) (zep h t)
def tieOf:List Int->Tie
 | [a,b,c]=>(a,b,c)
 | _=>(0,0,0)
theorem zqw (t:Tie):tieOf (tieI t)=t:=rfl
theorem zqu {H:Hp} {ys:List V} {ts:List Tie} (h:TieL H ys ts) {qs:List (V × List Int)} (p:qs.Perm (ys.zip (ts.map tieI))) (w:qs.Pairwise fun a b=>Srt.lexI b.2 a.2=false) :
  ∃ ts':List Tie,ts'.Perm ts∧TieL H (qs.map (·.1)) ts'∧ts'.Pairwise fun a b=>Srt.lexI (tieI b) (tieI a)=false:=by
 have mem:∀ q ∈ qs,∃ t,q.2=tieI t∧∃ a,q.1=.ref a∧H a=some (.tup ((tieI t).map V.int)):=fun q hq=>zfy h q (p.mem_iff.mp hq)
 have back:∀ q ∈ qs,tieI (tieOf q.2)=q.2:=fun q hq=>by
  obtain⟨t,e,_⟩:=mem q hq
  rw[e];rfl
 refine⟨qs.map fun q=>tieOf q.2,?_,zf0 _ _ fun q hq=>?_,?_⟩
 ·have e1:(qs.map fun q=>tieOf q.2).Perm ((ys.zip (ts.map tieI)).map fun q=>tieOf q.2):=p.map _
  have e2:(ys.zip (ts.map tieI)).map (fun q=>tieOf q.2)=ts:=by
   have l:ys.length=(ts.map tieI).length:=by rw[List.length_map];exact Paired.length h
   have:(ys.zip (ts.map tieI)).map (fun q=>tieOf q.2)=((ys.zip (ts.map tieI)).map (·.2)).map tieOf:=by rw[List.map_map];rfl
   rw[this,List.map_snd_zip (Nat.le_of_eq l.symm),List.map_map]
   exact (List.map_congr_left fun t _=>zqw t).trans (List.map_id _)
  rw[e2] at e1
  exact e1
 ·obtain⟨t,e,a,ea,eh⟩:=mem q hq
  refine⟨a,ea,?_⟩
  rw[back q hq,e];exact eh
 ·rw[List.pairwise_map]
  refine w.imp_of_mem fun {a b} ha hb z=>?_
  rw[back a ha,back b hb];exact z
theorem TieL.is {K:PySem.W.Frag} {H:Hp}:∀ {ys:List V} {ts:List Tie},TieL H ys ts->IsAll K H (ts.map tieD) ys
 | _,_,.nil=>rfl
 | _,_,.cons (a:=y) (b:=t) ⟨a,e1,e2⟩ r=>⟨_,_,rfl,⟨a,_,e1,e2,IsAll.ints _⟩,TieL.is r⟩
theorem zla {x y:Int} {ms:List Int} (p:ms.Perm [x,y]) (w:ms.Pairwise (·≤·)):∃ a b,ms=[a,b]∧a≤b∧((a=x∧b=y)∨(a=y∧b=x)):=by
 have hl:=p.length_eq
 match ms,hl,p,w with
 | [a,b],_,p,w =>
  refine⟨a,b,rfl,by simpa using w,?_⟩
  have ha:a ∈ [x,y]:=p.mem_iff.mp (by simp)
  rcases List.mem_cons.mp ha with e | e
  ·subst e
   have:=(List.perm_cons a).mp p
   have e2:b=y:=by simpa using List.perm_singleton.mp this
   exact .inl ⟨rfl,e2⟩
  ·have e':a=y:=by simpa using e
   subst e'
   have p2:[a,b].Perm [a,x]:=p.trans (List.Perm.swap a x [])
   have:=(List.perm_cons a).mp p2
   have e2:b=x:=by simpa using List.perm_singleton.mp this
   exact .inr ⟨rfl,e2⟩
end L3
namespace L3
open PySem PySem.Spec PyProof.Rows L2
def TupKeep (H H':Hp):Prop:=∀ a xs,H a=some (.tup xs)->H' a=some (.tup xs)
section
variable {J:It} {g:TG} {te:TE} {own:List Str} {js:List Nat} {σ:L2.St} {H1:Hp} {Q:VK}
/-- no test, nothing that stands is changed: item i is worth R i -/
theorem zg0 (n:Nat) (Sg:L2.St->Prop) (R:Nat->V->Hp->Prop) (hn:n≤1000) (h0:Sg (start3 own js σ)) (mono:∀ i v H H',TupKeep H H'->R i v H->R i v H')
  (go:∀ i H',i < n->Same H1 H'->J.go i H') (stop:∀ H',Same H1 H'->J.stop n H')
  (step:∀ i x σ' H' H2,i < n->Same H1 H'->J.yld i H' x H2->Sg σ'->∀ C:L2.St->V->Hp->Prop,(∀ σ3 v H5,Sg σ3->Same H' H5->R i v H5->C σ3 v H5)->g x σ' H2 fun σ3 H3=>te σ3 H3 fun v H5=>C σ3 v H5)
  (fin:∀ D ys H',H1 D=none->Same H1 H'->H' D=some (.lst ys)->ys.length=n->(∀ i v,ys[i]?=some v->R i v H')->Q (.ref D) H'):CompGo own js g tTrue te σ Q J H1:=by
 intro D hD
 refine⟨fun i m ys σ' H'=>m=n - i∧i≤n∧Sg σ'∧Same H1 H'∧ys.length=i∧∀ j v,ys[j]?=some v->R j v H',⟨n,rfl,Nat.zero_le _,h0,zal hD,rfl,fun j v e=>by simp at e⟩,?_⟩
 rintro i m ys σ' H' ⟨rfl,hi,sg,sm,hl,hr⟩ hd
 by_cases hlt:i < n
 ·refine .inr ⟨go i H' hlt sm,fun x H2 hy=>?_⟩
  refine step i x σ' H' H2 hlt sm hy sg (fun σ3 v H5=>H5 D=some (.lst ys)∧ys.length < sizeLine∧∃ m',m' < n - i∧(m'=n - (i + 1)∧i + 1≤n∧Sg σ3∧Same H1 (upd H5 D (.lst (ys++[v])))∧(ys++[v]).length=i + 1∧∀ j u,(ys++[v])[j]?=some u->R j u (upd H5 D (.lst (ys++[v]))))) fun σ3 v H5 sg3 s5 r5=>?_
  have hd5:=s5 _ _ hd
  refine⟨hd5,Nat.lt_of_le_of_lt (by omega:ys.length≤1000) (by decide),n - (i + 1),by omega,rfl,hlt,sg3,fun b o e=>?_,by rw[List.length_append,List.length_singleton,hl],fun j u e=>?_⟩
  ·rw[zap (zaj e hD)];exact s5 _ _ (sm _ _ e)
  ·have tk5:TupKeep H5 (upd H5 D (.lst (ys++[v]))):=fun a xs e=>by rw[zap (fun z=>by rw[z,hd5] at e;cases e)];exact e
   by_cases hj:j < ys.length
   ·rw[List.getElem?_append_left hj] at e
    exact mono _ _ _ _ tk5 (mono _ _ _ _ (fun a xs z=>s5 _ _ z) (hr j u e))
   ·rw[List.getElem?_append_right (by omega)] at e
    have ej:j=ys.length:=by
     have:=(List.getElem?_eq_some_iff.mp e).1
     simp at this;omega
    subst ej
    have eu:v=u:=by simpa using e
    subst eu
    rw[hl]
    exact mono _ _ _ _ tk5 r5
 ·have e:i=n:=by omega
  subst e
  exact .inl ⟨stop H' sm,fin D ys H' hD sm hd hl hr⟩
theorem zeg {K:PySem.W.Frag} {a:Addr} {xs:List V} (hx:H1 a=some (.tup xs)) (Sg:L2.St->Prop) (R:Nat->V->Hp->Prop) (hn:xs.length≤1000) (h0:Sg (start3 own js σ)) (mono:∀ i v H H',TupKeep H H'->R i v H->R i v H')
  (step:∀ i x σ' H',xs[i]?=some x->Same H1 H'->Sg σ'->∀ C:L2.St->V->Hp->Prop,(∀ σ3 v H5,Sg σ3->Same H' H5->R i v H5->C σ3 v H5)->g x σ' H' fun σ3 H3=>te σ3 H3 fun v H5=>C σ3 v H5)
  (fin:∀ D ys H',H1 D=none->Same H1 H'->H' D=some (.lst ys)->ys.length=xs.length->(∀ i v,ys[i]?=some v->R i v H')->Q (.ref D) H'):CompGo own js g tTrue te σ Q (Itt K a) H1:=by
 refine zg0 xs.length Sg R hn h0 mono (fun i H' hi s=>⟨xs,xs[i],SqT.of (s _ _ hx),by simp [hi]⟩) (fun H' s=>⟨xs,SqT.of (s _ _ hx),Nat.le_refl _⟩) (fun i x σ' H' H2 hi s hy sg C hC=>?_) fin
 obtain⟨rfl,hy⟩:=hy
 exact step i x σ' _ (hy xs (SqT.of (s _ _ hx))) s sg C hC
theorem zpu {K:PySem.W.Frag} {a:Addr} {xs:List V} (hx:H1 a=some (.lst xs)) (Sg:L2.St->Prop) (R:Nat->V->Hp->Prop) (hn:xs.length≤1000) (h0:Sg (start3 own js σ)) (mono:∀ i v H H',TupKeep H H'->R i v H->R i v H')
  (step:∀ i x σ' H',xs[i]?=some x->Same H1 H'->Sg σ'->∀ C:L2.St->V->Hp->Prop,(∀ σ3 v H5,Sg σ3->Same H' H5->R i v H5->C σ3 v H5)->g x σ' H' fun σ3 H3=>te σ3 H3 fun v H5=>C σ3 v H5)
  (fin:∀ D ys H',H1 D=none->Same H1 H'->H' D=some (.lst ys)->ys.length=xs.length->(∀ i v,ys[i]?=some v->R i v H')->Q (.ref D) H'):CompGo own js g tTrue te σ Q (Itl K a) H1:=by
 refine zg0 xs.length Sg R hn h0 mono (fun i H' hi s=>⟨xs,xs[i],SqL.of (s _ _ hx),by simp [hi]⟩) (fun H' s=>⟨xs,SqL.of (s _ _ hx),Nat.le_refl _⟩) (fun i x σ' H' H2 hi s hy sg C hC=>?_) fin
 obtain⟨rfl,hy⟩:=hy
 exact step i x σ' _ (hy xs (SqL.of (s _ _ hx))) s sg C hC
theorem SqX.of {t:Bool} {K:PySem.W.Frag} {H:Hp} {a:Addr} {xs:List V} (h:H a=some (if t=true then .tup xs else .lst xs)):SqX t K H a xs:=by
 cases t with
 | true=>exact SqT.of h
 | false=>exact SqL.of h
theorem zpt {t1 t2:Bool} {K:PySem.W.Frag} {a b:Addr} {xs zs:List V} (hx:H1 a=some (if t1=true then .tup xs else .lst xs)) (hz:H1 b=some (if t2=true then .tup zs else .lst zs)) (Sg:L2.St->Prop) (R:Nat->V->Hp->Prop) (hn:xs.length≤1000)
  (h0:Sg (start3 own js σ)) (mono:∀ i v H H',TupKeep H H'->R i v H->R i v H')
  (step:∀ i x z T σ' H',xs[i]?=some x->zs[i]?=some z->Same H1 H'->H' T=none->Sg σ'->∀ C:L2.St->V->Hp->Prop,(∀ σ3 v H5,Sg σ3->Same H' H5->R i v H5->C σ3 v H5)->g (.ref T) σ' (upd H' T (.tup [x,z])) fun σ3 H3=>te σ3 H3 fun v H5=>C σ3 v H5)
  (fin:∀ D ys H',H1 D=none->Same H1 H'->H' D=some (.lst ys)->ys.length=min xs.length zs.length->(∀ i v,ys[i]?=some v->R i v H')->Q (.ref D) H'):CompGo own js g tTrue te σ Q (Itz t1 t2 K a b) H1:=by
 have s1:∀ H',Same H1 H'->SqX t1 K H' a xs:=fun H' s=>SqX.of (s _ _ hx)
 have s2:∀ H',Same H1 H'->SqX t2 K H' b zs:=fun H' s=>SqX.of (s _ _ hz)
 refine zg0 (min xs.length zs.length) Sg R (by omega) h0 mono (fun i H' hi s=>⟨xs,zs,xs[i]'(by omega),zs[i]'(by omega),s1 H' s,s2 H' s,by simp [show i < xs.length by omega],by simp [show i < zs.length by omega]⟩)
  (fun H' s=>⟨xs,zs,s1 H' s,s2 H' s,by omega⟩) (fun i x σ' H' H2 hi s hy sg C hC=>?_) fin
 obtain⟨T,x1,z1,hT,rfl,rfl,e1,e2⟩:=hy
 exact step i x1 z1 T σ' H' (e1 _ (s1 H' s)) (e2 _ (s2 H' s)) s hT sg C hC
end
theorem zk3 {f:Nat->Bool} {n:Nat} {ys:List V} (hl:ys.length=n) (h:∀ (i:Nat) (v:V),ys[i]?=some v->v=V.bl (f i)):ys=((List.range n).map f).map V.bl:=by
 refine List.ext_getElem? fun i=>?_
 by_cases hi:i < n
 ·obtain⟨v,hv⟩:∃ v,ys[i]?=some v:=⟨ys[i],List.getElem?_eq_getElem (by omega)⟩
  rw[hv,h i v hv]
  simp [hi]
 ·rw[List.getElem?_eq_none (by omega),List.getElem?_eq_none (by simp;omega)]
def tyD:PyData->String
 | .none=>"NoneType"
 | .bool _=>"bool"
 | .int _=>"int"
 | .str _=>"str"
 | .tuple _=>"tuple"
 | .list _=>"list"
 | .dict _=>"dict"
theorem zqs {K:PySem.W.Frag} {H:Hp}:∀ {d:PyData} {v:V},Is K H d v->TyOf K H v (.type (tyD d))
 | .none,_,h=>by rw[show _=V.non from h];exact .non
 | .bool b,_,h=>by rw[show _=V.bl b from h];exact .bl b
 | .int i,_,h=>by rw[show _=V.int i from h];exact .int i
 | .str x,_,h=>by rw[show _=V.str x from h];exact .str x
 | .tuple _,_,⟨p,vs,e,h,_⟩=>by rw[e];exact .tup h
 | .list _,_,⟨p,vs,e,h,_⟩=>by rw[e];exact .lst h
 | .dict _,_,⟨_,p,e,h⟩=>by rw[e];exact .dK h
def wholeB:PyData->Bool
 | .int _=>true
 | _=>false
def tieB (n:Int):PyData->Bool
 | .tuple [.int a,.int b,.int l]=>decide (0≤a) && decide (a < b) && decide (b < n) && decide (1≤l) && decide (l≤10 ^ 18)
 | _=>false
/-- how many things a tuple or a list has, at most -/
def few:PyData->Prop
 | .tuple ds=>ds.length≤1000
 | .list ds=>ds.length≤1000
 | _=>True
def spD1 (K:PySem.W.Frag) (pre:PyData->Prop) (f:PyData->Bool):Sp:=fun vs H Q _=>∃ d v,vs=[v]∧Is K H d v∧pre d∧∀ H',Same H H'->Q (.bl (f d)) H'
end L3
namespace L3
open PySem PySem.Spec PyProof.Rows L2
section
variable {g:TG} {te:TE} {own:List Str} {js:List Nat} {σ:L2.St} {H1:Hp} {Q:VK}
end
def e2 (e:Int × Int):List Int:=[e.1,e.2]
def risingB (es:List (Int × Int)):Bool:=((List.range (min es.length (es.drop 1).length)).map fun i=>HT.lexLt (e2 (es.getD i (0,0))) (e2 ((es.drop 1).getD i (0,0)))).all id
def TwoL (H:Hp) (ys:List V) (es:List (Int × Int)):Prop:=Paired (fun (y:V) (e:Int × Int)=>∃ a,y=.ref a∧H a=some (.tup [.int e.1,.int e.2])) ys es
theorem TwoL.get {H:Hp}:∀ {ys:List V} {es:List (Int × Int)} {i:Nat} {y:V},TwoL H ys es->ys[i]?=some y->∃ a,y=.ref a∧H a=some (.tup ((e2 (es.getD i (0,0))).map V.int))
 | _,_,_,_,.nil,h=>by simp at h
 | _,_,0,y,.cons (a:=y0) r t,h=>by
  have e:y0=y:=by simpa using h
  subst e
  exact r
 | _,_,i + 1,_,.cons r t,h=>TwoL.get (i:=i) t (by simpa using h)
section
variable {g:TG} {te:TE} {own:List Str} {js:List Nat} {σ:L2.St} {H1:Hp} {Q:VK}
end
theorem TieL.get {H:Hp} {ys:List V} {us:List Tie} {i:Nat} {x:V} (h:TieL H ys us) (e:ys[i]?=some x):∃ a,x=.ref a∧H a=some (.tup ((tieI (us.getD i (0,0,0))).map V.int)):=by
 induction h generalizing i with
 | nil=>simp at e
 | @cons y0 _ _ _ r t ih =>
  cases i with
  | zero =>
   have e':y0=x:=by simpa using e
   rw[← e'];exact r
  | succ i=>exact ih (i:=i) (by simpa using e)
section
variable {X:Cx} {own fr:List Str} {scope:Scope} {fp:List Addr} {pins:List (Addr × Obj)} {s3:Shared} {H3:Hp} {pos:Pos}
theorem zjd {es:List Expr} {k:Nat} {t:TGs} {n:Nat} (hc:X.calm=true) (h:PGs (cxComp X own fr scope fp pins s3 H3) es t)
  (hn:(assignEach es (cxComp X own fr scope fp pins s3 H3).env).length=n:=by rfl) (hst:(assignEach es (cxComp X own fr scope fp pins s3 H3).env).findIdx? (·.1)=none:=by rfl):PG (cxComp X own fr scope fp pins s3 H3) (.Tuple es k pos) (gTup X.K n t) :=
 zb0 (X:=cxComp X own fr scope fp pins s3 H3) hc h hn hst
theorem zee:IxR (cxComp X own fr scope fp pins s3 H3) (rIxL X.K):=zay (X:=cxComp X own fr scope fp pins s3 H3)
theorem zb2:IxR (cxComp X own fr scope fp pins s3 H3) (rIxT X.K):=zbc (X:=cxComp X own fr scope fp pins s3 H3)
theorem zbx:OpR (cxComp X own fr scope fp pins s3 H3) (compareOp .NotIn) (rIn X.K true):=zhu (X:=cxComp X own fr scope fp pins s3 H3)
end
end L3
namespace L3
open PySem PySem.Spec PyProof.Rows L2
def KeepOk (m:Nat) (ks:List Nat):Prop:=ks.Pairwise (· < ·)∧∀ k ∈ ks,k < m
def keepI (ks:List Nat):List Int:=ks.map fun k:Nat=>(k:Int)
def keepD (ks:List Nat):PyData:=.tuple ((keepI ks).map .int)
theorem KeepOk.len {m:Nat} {ks:List Nat} (h:KeepOk m ks):ks.length≤m:=by
 have go:∀ (ks:List Nat) (lo m:Nat),ks.Pairwise (· < ·)->(∀ k ∈ ks,lo≤k∧k < m)->ks.length + lo≤max m lo:=by
  intro ks
  induction ks with
  | nil=>intro lo m _ _;simp;omega
  | cons k r ih =>
   intro lo m hp hb
   have h1:=hb k List.mem_cons_self
   have:=ih (k + 1) m (List.pairwise_cons.mp hp).2 fun j hj=>⟨(List.pairwise_cons.mp hp).1 j hj,(hb j (List.mem_cons_of_mem _ hj)).2⟩
   rw[List.length_cons]
   omega
 have:=go ks 0 m h.1 fun k hk=>⟨Nat.zero_le _,h.2 k hk⟩
 omega
theorem za7 {K:PySem.W.Frag} {H:Hp} {n:Int} {ts:List Tie} {v:V} (h:Is K H (webD n ts) v):∃ (p g:Addr) (ws:List V),v=.ref p∧H p=some (.tup [.int n,.ref g])∧H g=some (.tup ws)∧IsAll K H (ts.map tieD) ws∧ws.length=ts.length:=by
 obtain⟨p,vs,rfl,hp,v1,r1,rfl,e1,v2,r2,rfl,⟨g,ws,rfl,hg,hall⟩,e3⟩:=h
 have e1':v1=.int n:=e1
 have e3':r2=[]:=e3
 subst e1' e3'
 exact⟨p,g,ws,rfl,hp,hg,hall,by have:=hall.length;rw[List.length_map] at this;exact this⟩
end L3
namespace Z3
open PySem
section
variable {prog:Program} {w:World} {A:Around} {E:Value->Shared->Prop} {s:Shared}
theorem zpm (t:Bool) (l:Addr) (xs:Array Value) :
  Meets (Builtin.«enumerate.__new__» ⟨[.type "enumerate",.ref l],[]⟩) (fun _ R s=>SqAt t s.heap l xs ∧
   R (.ok (.ret (.ref (s.heap.push (itObj t l)).objs.size))) { s with heap:=(s.heap.push (itObj t l)).push { cls:=.type "enumerate",data:=.fields #[.none,.bool false,.ref s.heap.objs.size,rawInt 0,.none,.none] } }) :=
 .of_wp fun prog w A R s h=>by
  obtain⟨hp,g,d,tk,os⟩:=s;obtain⟨hl,h⟩:=h
  have hsub:=sub_enumerate
  have b1:SqAt t (Shared.heap ⟨hp,g,d,tk,os⟩) l xs:=hl
  obtain⟨o,ho⟩:∃ o,hp.get? l=some o:=by
   cases t with
   | true=>obtain⟨o,q,_⟩:=(show hp.IsTuple l xs from hl);exact⟨o,q⟩
   | false=>obtain⟨o,q,_⟩:=(show hp.IsList l xs from hl);exact⟨o,q⟩
  wp_walk using AutoSeq1.wpAny_loadPart' ho
  refine wpAny_stack_any fun st=>?_
  refine wpAny_pure ?_
  split
  ·rename_i c _ _ _ _ _
   rcases (c == Value.type "enumerate") with _ | _
   ·wp_walk using AutoSeq1.wpAny_loadPart' ho,ze2 b1
    exact⟨_,rfl,h⟩
   ·wp_walk using AutoSeq1.wpAny_loadPart' ho,ze2 b1
    exact⟨_,rfl,h⟩
  ·wp_walk using AutoSeq1.wpAny_loadPart' ho,ze2 b1
   exact⟨_,rfl,h⟩
theorem zod {t:Bool} {l:Addr} {xs:Array Value} {Q:Value->Shared->Prop} (hl:SqAt t s.heap l xs)
  (h:∀ h',IsEnum h' (s.heap.objs.size + 1) s.heap.objs.size ((0:Nat):Int) .none->ItAt t h' s.heap.objs.size l 0->h'.objs.size=s.heap.objs.size + 2->(∀ b o,s.heap.get? b=some o->h'.get? b=some o)->Q (.ref (s.heap.objs.size + 1)) { s with heap:=h' }) :
  wpAny (model prog w) A (call (.type "enumerate") [.ref l]) Q E s:=by
 refine callType_new F.called_enumerate (by decide) (F.typeCall_enumerate_1 _) (F.newCall_enumerate_1 _) (fun obj=>F.args_object_init_2 obj _) F.entry_enumerate_new (zpm t l xs) ⟨hl,?_⟩
 have z1:(s.heap.push (itObj t l)).objs.size=s.heap.objs.size + 1:=Heap.size_push ..
 have g1:ItAt t ((s.heap.push (itObj t l)).push { cls:=.type "enumerate",data:=.fields #[.none,.bool false,.ref s.heap.objs.size,rawInt 0,.none,.none] }) s.heap.objs.size l 0:=(ItAt.new (t:=t) (h:=s.heap) (l:=l)).to fun o e=>Heap.get?_push_of_some _ e
 have g2:((s.heap.push (itObj t l)).push { cls:=.type "enumerate",data:=.fields #[.none,.bool false,.ref s.heap.objs.size,rawInt 0,.none,.none] }).get? (s.heap.push (itObj t l)).objs.size=some _:=Heap.get?_push_size _ rfl
 show _∧_
 rw[z1] at g2 ⊢
 exact⟨⟨_,g2,rfl⟩,h _ g2 g1 (by rw[Heap.size_push,z1]) fun b o q=>Heap.get?_push_of_some _ (Heap.get?_push_of_some _ q)⟩
theorem zn4 {t:Bool} {e it l:Addr} {i:Nat} {xs:Array Value} {x old:Value} {Q:Value->Shared->Prop} (he:IsEnum s.heap e it i old) (hi:ItAt t s.heap it l i) (hl:SqAt t s.heap l xs) (hx:xs[i]?=some x) (ne:e≠it)
  (hQ:∀ h',IsEnumOut h' e it ((i:Int) + 1) x s.heap.objs.size->ItAt t h' it l (i + 1)->h'.get? s.heap.objs.size=some { cls:=.type "tuple",data:=.seq #[.int i s.toks,x] }->h'.objs.size=s.heap.objs.size + 1 ->
   (∀ b o,b≠e->b≠it->s.heap.get? b=some o->h'.get? b=some o)->Q (.ref s.heap.objs.size) { s with heap:=h',toks:=s.toks + 1 }) :
  wpAny (model prog w) A (Builtin.«enumerate.__next__» ⟨[.ref e],[]⟩) (fun fin s'=>∃ v,fin=.done (.ret v)∧Q v s') E s:=by
 obtain⟨hp,g,d,tk,os⟩:=s
 show wpAny _ _ (field (.ref e) 2 >>= _) _ _ _
 refine wpAny_bind (wpAny_field he rfl (x:=.ref it) rfl (wpAny_bind (zgy hi hl hx fun k1 i1 s1=>?_)))
 replace s1:Heap.SameBut it hp k1:=s1
 have q1:IsEnum k1 e it i old:=(s1.2 e ne).trans he
 show wpAny _ _ (field (.ref e) 3 >>= _) _ _ ⟨k1,g,d,tk,os⟩
 refine wpAny_bind (wpAny_field q1 rfl (x:=rawInt i) rfl ?_)
 show wpAny _ _ (field (.ref e) 4 >>= _) _ _ ⟨k1,g,d,tk,os⟩
 refine wpAny_bind (wpAny_field q1 rfl (x:=.none) rfl ?_)
 show wpAny _ _ (mkInt i >>= _) _ _ ⟨k1,g,d,tk,os⟩
 refine wpAny_bind (wpAny_mkInt ?_)
 show wpAny _ _ (setField (.ref e) 3 (rawInt ((i:Int) + 1)) >>= _) _ _ ⟨k1,g,d,tk + 1,os⟩
 refine wpAny_bind (wpAny_setField_rec q1 (by simp) fun k2 q2 s2=>?_)
 replace s2:Heap.SameBut e k1 k2:=s2
 replace q2:IsEnum k2 e it ((i:Int) + 1) old:=q2
 show wpAny _ _ (setField (.ref e) 4 .none >>= _) _ _ ⟨k2,g,d,tk + 1,os⟩
 refine wpAny_bind (wpAny_setField_rec q2 (by simp) fun k3 q3 s3=>?_)
 replace s3:Heap.SameBut e k2 k3:=s3
 replace q3:IsEnum k3 e it ((i:Int) + 1) old:=q3
 show wpAny _ _ (newTuple [.int i tk,x] >>= _) _ _ ⟨k3,g,d,tk + 1,os⟩
 refine wpAny_bind (wpAny_newTuple ?_)
 have q4:IsEnum (k3.push { cls:=.type "tuple",data:=.seq #[.int i tk,x] }) e it ((i:Int) + 1) old:=Heap.get?_push_of_some _ q3
 generalize hk4:k3.push { cls:=.type "tuple",data:=.seq #[.int i tk,x] }=k4 at q4
 have sz:k3.objs.size=hp.objs.size:=by rw[s3.1,s2.1,s1.1]
 have lt:e < hp.objs.size:=Heap.lt_size he
 have t4:k4.get? hp.objs.size=some { cls:=.type "tuple",data:=.seq #[.int i tk,x] }:=by rw[← hk4,← sz];exact Heap.get?_push_size _ rfl
 have z4:k4.objs.size=hp.objs.size + 1:=by rw[← hk4,Heap.size_push,sz]
 have up4:∀ b o,b≠e->b≠it->hp.get? b=some o->k4.get? b=some o:=fun b o n1 n2 q=>by
  rw[← hk4];exact Heap.get?_push_of_some _ (s3.extBut b o n1 (s2.extBut b o n1 (s1.extBut b o n2 q)))
 have i4:ItAt t k4 it l (i + 1):=i1.to fun o q=>by
  rw[← hk4];exact Heap.get?_push_of_some _ (s3.extBut _ _ ne.symm (s2.extBut _ _ ne.symm q))
 show wpAny _ _ (Builtin.SmallTypes.ownedTupleIsFree (.ref e) >>= _) _ _ ⟨k4,g,d,tk + 1,os⟩
 rw[sz]
 clear hk4 q3 s3 q2 s2 q1 s1 i1 sz k3 k2 k1
 refine wpAny_bind ?_
 unfold Builtin.SmallTypes.ownedTupleIsFree
 refine wpAny_bind (wpAny_field q4 rfl (x:=.none) rfl (wpAny_pure ?_))
 simp only [if_true]
 refine wpAny_bind (wpAny_rule (wpAny_bind (wpAny_field q4 rfl (x:=old) rfl (wpAny_bind (wpAny_setField_rec q4 (by simp) fun k5 q5 s5=>?_)))))
 replace s5:Heap.SameBut e k4 k5:=s5
 replace q5:IsEnum k5 e it ((i:Int) + 1) x:=q5
 show wpAny _ _ (Builtin.SmallTypes.ownedTupleHandOut (.ref e) (.ref hp.objs.size) >>= _) _ _ ⟨k5,g,d,tk + 1,os⟩
 refine wpAny_bind ?_
 unfold Builtin.SmallTypes.ownedTupleHandOut
 refine wpAny_bind (wpAny_setField_rec q5 (by simp) fun k6 q6 s6=>?_)
 replace s6:Heap.SameBut e k5 k6:=s6
 replace q6:IsEnumOut k6 e it ((i:Int) + 1) x hp.objs.size:=q6
 refine wpAny_setField_rec q6 (by simp) fun k7 q7 s7=>?_
 replace s7:Heap.SameBut e k6 k7:=s7
 replace q7:IsEnumOut k7 e it ((i:Int) + 1) x hp.objs.size:=q7
 have up:∀ b o,b≠e->k4.get? b=some o->k7.get? b=some o:=fun b o n q=>s7.extBut b o n (s6.extBut b o n (s5.extBut b o n q))
 exact wpAny_bind (wpAny_letGo (wpAny_pure ⟨_,rfl,hQ k7 q7 (i4.to fun o q=>up _ o ne.symm q) (up _ _ (Nat.ne_of_gt lt) t4) (by rw[s7.1,s6.1,s5.1,z4]) fun b o n1 n2 q=>up b o n1 (up4 b o n1 n2 q)⟩))
theorem zfm {t:Bool} {e it l:Addr} {i:Nat} {xs:Array Value} {x old:Value} {Q:Option Value->Shared->Prop} (he:IsEnum s.heap e it i old) (hi:ItAt t s.heap it l i) (hl:SqAt t s.heap l xs) (hx:xs[i]?=some x) (ne:e≠it)
  (hQ:∀ h',IsEnumOut h' e it ((i:Int) + 1) x s.heap.objs.size->ItAt t h' it l (i + 1)->h'.get? s.heap.objs.size=some { cls:=.type "tuple",data:=.seq #[.int i s.toks,x] }->h'.objs.size=s.heap.objs.size + 1 ->
   (∀ b o,b≠e->b≠it->s.heap.get? b=some o->h'.get? b=some o)->Q (some (.ref s.heap.objs.size)) { s with heap:=h',toks:=s.toks + 1 }) :
  wpAny (model prog w) A (pyNext (.ref e)) Q E s:=by
 have ty:s.TypeIs (.ref e) "enumerate":=⟨_,he,rfl⟩
 unfold pyNext
 exact wpAny_bind (wpAny_attempt (wpAny_callSpecial?_slot (name := Str.ofString "__next__") ty F.slot_enumerate_next (wpAny_call_entry F.slot_enumerate_next ty F.entry_enumerate_next
     (zn4 he hi hl hx ne fun h' a b c d k=>wpAny_pure (hQ h' a b c d k)) (F.args_enumerate_next_1 _))))
theorem zfl {t:Bool} {e it l:Addr} {i:Nat} {xs:Array Value} {old:Value} {Q:Option Value->Shared->Prop} (hh:A.handled=none) (he:IsEnum s.heap e it i old) (hi:ItAt t s.heap it l i) (hl:SqAt t s.heap l xs) (hx:xs[i]?=none)
  (hQ:∀ h',Heap.ExtBut it s.heap h'->Q none { s with heap:=h' }):wpAny (model prog w) A (pyNext (.ref e)) Q E s:=by
 have ty:s.TypeIs (.ref e) "enumerate":=⟨_,he,rfl⟩
 unfold pyNext
 refine wpAny_bind (wpAny_attempt (wpAny_callSpecial?_slot (name:=Str.ofString "__next__") ty F.slot_enumerate_next (wpAny_call_entry F.slot_enumerate_next ty F.entry_enumerate_next ?_ (F.args_enumerate_next_1 _))))
 show wpAny _ _ (field (.ref e) 2 >>= _) _ _ _
 refine wpAny_bind (wpAny_field he rfl (x:=.ref it) rfl (wpAny_bind (zi8 hh hi hl hx fun h' x k ⟨o,p1,p2⟩=>?_)))
 exact wpAny_bind (wpAny_isInstance (T:="StopIteration") (b:=true) ⟨o,p1,p2⟩ isSubtype_stop (wpAny_pure (hQ _ k)))
end
end Z3
namespace L3
open PySem PySem.Spec PyProof.Rows L2
def Itn (t:Bool) (K:PySem.W.Frag) (l:Addr):It :=
 ⟨fun i H=>∃ xs x,SqX t K H l xs∧xs[i]?=some x,
  fun i H v H'=>∃ T x,H T=none∧v=.ref T∧H'=upd H T (.tup [.int (i:Nat),x])∧(∀ xs,SqX t K H l xs->xs[i]?=some x),
  fun i H=>∃ xs,SqX t K H l xs∧xs.length≤i⟩
theorem zmd {P:Program} {w:World} {K:PySem.W.Frag} {elts:List Expr} {kk:Nat} {pos:Pos} {t:Bool} {e it l:Addr} (n1:e≠it) (n2:l≠e) (n3:l≠it) :
  Turn P w K (.Tuple elts kk pos) (Itn t K l) [e,it] e (fun i h=>(∃ old,IsEnum h e it (i:Int) old)∧Z3.ItAt t h it l i) where
 mem:=by simp
 obj:=fun i h st b hb=>by
  obtain⟨⟨old,q1⟩,q2⟩:=st
  obtain⟨o2,m2,e2,_,d2⟩:=q2.obj
  simp only [List.mem_cons,List.not_mem_nil,or_false] at hb
  rcases hb with rfl | rfl
  ·exact⟨_,q1,fun v q=>by cases q⟩
  ·exact⟨_,e2,fun v q=>by rw[d2] at q;cases q⟩
 keep:=fun i h h' st k=>by
  obtain⟨⟨old,q1⟩,q2⟩:=st
  exact⟨⟨old,k e (by simp) _ q1⟩,q2.to fun o z=>k it (by simp) o z⟩
 item:=by
  intro X hP hw hK hc i pins s σ H E I hf st hg
  subst hP hw hK
  obtain⟨xs,x,q1,hx⟩:=hg
  obtain⟨⟨old,en⟩,ia⟩:=st
  obtain⟨its1,r1,p1,z1⟩:=seqX I q1
  obtain⟨u1,hu1,ru1⟩:=r1.get hx
  refine Z3.zfm en ia p1 (x:=u1) (by simpa using hu1) n1 fun h' eo ia' tp sz kp=>?_
  have I1 : Inv X pins σ (upd H s.heap.objs.size (.tup [.int (i : Nat), x])) { s with heap := h', toks := s.toks + 1 } := turnsTup (ch := [e, it]) (its := [.int i s.toks, u1]) I hf (fun b o hb z => by
      simp only [List.mem_cons,List.not_mem_nil,or_false,not_or] at hb
      exact kp b o hb.1 hb.2 z) (Nat.le_refl _) (by show 2≤sizeLine;rw[sizeLine_eq];decide) (.cons ⟨_,rfl⟩ (.cons ru1 .nil)) ⟨_,tp,rfl,⟨_,rfl⟩,rfl⟩
  have fr:H s.heap.objs.size=none:=I.fresh
  have elt:e < s.heap.objs.size:=Heap.lt_size en
  have ilt:it < s.heap.objs.size:=by obtain⟨o2,m2,e2,_⟩:=ia.obj;exact Heap.lt_size e2
  have zne:∀ b ∈ [e,it],b≠s.heap.objs.size:=fun b hb=>by
   simp only [List.mem_cons,List.not_mem_nil,or_false] at hb
   rcases hb with rfl | rfl
   ·exact Nat.ne_of_lt elt
   ·exact Nat.ne_of_lt ilt
  refine⟨_,rfl,wpAny_letOwnedTupleGo_enum eo fun h2 en2 sb=>?_⟩
  obtain⟨f0,f1,f2,f3,f4,f5⟩:=hf e (by simp)
  have I2:Inv X pins σ (upd H s.heap.objs.size (.tup [.int (i:Nat),x])) { s with heap:=h2,toks:=s.toks + 1 }:=Inv.turned (s:={ s with heap:=h',toks:=s.toks + 1 }) (it:=e) (t':=s.toks + 1) I1 (fun b o hb z=>sb.extBut b o hb z) (by rw[zap (zne e (by simp))];exact f0) f1 f3 f4 f5
  refine⟨.ref s.heap.objs.size,_,I2,rfl,⟨_,x,fr,rfl,rfl,fun zs hz=>by rw[zgb I hz q1];exact hx⟩,?_,fun b hb=>by rw[zap (zne b hb)];exact (hf b hb).1⟩
  exact⟨⟨_,by simpa using en2⟩,ia'.to fun o z=>sb.extBut _ _ n1.symm z⟩
 done:=by
  intro X hP hw hK hc i pins s σ H E I hf st hg
  subst hP hw hK
  obtain⟨xs,q1,hx⟩:=hg
  obtain⟨⟨old,en⟩,ia⟩:=st
  obtain⟨its1,r1,p1,z1⟩:=seqX I q1
  have l1:=r1.length
  refine Z3.zfl (I.ok.hd hc) en ia p1 (by simp;omega) fun h' kp=>⟨rfl,?_⟩
  exact turns (ch:=[e,it]) (t':=s.toks) I hf fun b o hb z=>by
   simp only [List.mem_cons,List.not_mem_nil,or_false,not_or] at hb
   exact kp b o hb.2 z
 self:=fun _ _ _ _ _ st h=>by
  obtain⟨⟨old,en⟩,_⟩:=st
  exact wpAny_pyIter_enum en h
def iEnum (t:Bool) (K:PySem.W.Frag) (ta:TA):TI:=fun σ H R=>ta σ H fun vs H1=>∃ l,vs=[.ref l]∧(∃ xs,SqX t K H1 l xs)∧R (Itn t K l) H1
theorem zjc {X:Cx} {elts:List Expr} {kk:Nat} {pos':Pos} (t:Bool) {a:Expr} {ta:TA} {p pos:Pos} (hg:Gl X "enumerate") (hm:X.mg "enumerate"=none) (ha:PA X [a] ta)
  (hs:starEach [a] X.env=[(false,eval a X.env)]:=by rfl) (hs2:starEach [] X.env=[]:=by rfl) :
  PI X (.Tuple elts kk pos') (.Call (.Name "enumerate" p) [a] [] pos) (iEnum t X.K ta):=by
 intro pins s σ H R I h
 refine Call_ (zdw I hg hm boot_enumerate (PyProof.Rows.callWith_type1 (thn (ha pos pins s σ H _ I h) fun us s1 ⟨vs,H1,I1,r1,q1⟩=>?_) (by rw[hs,hs2]) (by rw[hs2];rfl)))
 obtain⟨l,e,⟨xs,qx⟩,q⟩:=q1
 subst e
 obtain⟨u,rfl,rx⟩:=vals1 r1
 cases rx
 obtain⟨its1,r1,p1,z1⟩:=seqX I1 qx
 have lt:l < s1.heap.objs.size:=by
  cases t with
  | true=>obtain⟨o,e,_⟩:=(show s1.heap.IsTuple l _ from p1);exact Heap.lt_size e
  | false=>obtain⟨o,e,_⟩:=(show s1.heap.IsList l _ from p1);exact Heap.lt_size e
 refine Z3.zod p1 fun h' en ia sz kp=>wpAny_pyIter_enum en ?_
 have I2:Inv X pins σ H1 { s1 with heap:=h',toks:=s1.toks }:=I1.kept (t':=s1.toks) kp
 refine⟨s1.heap.objs.size + 1,[s1.heap.objs.size + 1,s1.heap.objs.size],_,_,H1,rfl,I2,zmd (Nat.succ_ne_self _) (Nat.ne_of_lt (Nat.lt_succ_of_lt lt)) (Nat.ne_of_lt lt),⟨⟨_,en⟩,ia⟩,fun b hb=>?_,q⟩
 have hb':s1.heap.objs.size≤b:=by
  simp only [List.mem_cons,List.not_mem_nil,or_false] at hb
  rcases hb with rfl | rfl
  ·exact Nat.le_succ _
  ·exact Nat.le_refl _
 exact I1.fpOk hb' (I1.hok.fresh hb')
end L3
namespace HT
open PySem PyProof.Rows
section
variable {prog:Program} {w:World} {A:Around} {E:Value->Shared->Prop} {s:Shared}
theorem zi5 {t:Addr} {items:Array Value} {Q:Bool->Shared->Prop} (ht:IsTup s.heap t items) (h:Q true s):wpAny (model prog w) A (Builtin.Tuple.tupleIsExact (.ref t)) Q E s:=by
 unfold Builtin.Tuple.tupleIsExact
 exact wpAny_bind (wpAny_typeOf ht.typeIs (wpAny_pure h))
/-- t[lo:hi] that is all of t: t itself -/
theorem zcx {t sl:Addr} {items:Array Value} {vl vu:Value} {lo hi:Option Int} {Q:Value->Shared->Prop} (ht:IsTup s.heap t items) (hs:s.heap.IsSliceOf sl vl vu .none) (pl:IsPart vl lo) (pu:IsPart vu hi)
  (hw:sIx items.size 0 lo=0∧sIx items.size items.size hi=items.size) (h:Q (.ref t) s):wpAny (model prog w) A (getItem (.ref t) (.ref sl)) Q E s:=by
 obtain⟨os,hos,hcs,hds⟩:=id hs
 have ty:s.TypeIs (.ref sl) "slice":=⟨os,hos,hcs⟩
 unfold getItem
 try with_reducible refine wpAny_holding ?_
 first | refine wpAny_bind (wpAny_pure ?_) | skip
 refine wpAny_bind (wpAny_sequenceKey ht.typeIs (by decide) (wpAny_bind (wpAny_callSpecial?_slot (name:=Str.ofString "__getitem__") ht.typeIs PyProof.Rows.slot_tuple_getitem
  (wpAny_call_entry PyProof.Rows.slot_tuple_getitem ht.typeIs entry_tuple_getitem ?_ (args_tuple_getitem _ _)))))
 show wpAny _ _ (Builtin.Tuple.tupleItemsOf (.ref t) >>= _) _ _ s
 refine wpAny_bind (tupleItemsOf_ ht (wpAny_bind (wpAny_typeOf ty ?_)))
 rw[if_pos (by decide)]
 refine wpAny_bind (zcf hs pl pu ?_)
 have yes:(((sIx items.size 0 lo:Nat):Int) == 0 && (1:Int) == 1 && (sIx items.size items.size hi - sIx items.size 0 lo) == items.size)=true:=by
  rw[hw.1,hw.2];simp
 show wpAny _ _ (if (((sIx items.size 0 lo:Nat):Int) == 0 && (1:Int) == 1 && (sIx items.size items.size hi - sIx items.size 0 lo) == items.size)=true then _ else _) _ _ s
 rw[if_pos yes]
 refine wpAny_bind (zi5 ht ?_)
 rw[if_pos rfl]
 exact wpAny_bind (wpAny_rule (wpAny_bind (wpAny_pure (wpAny_pure ⟨_,rfl,wpAny_pure h⟩))))
/-- t[::-1] -/
theorem zek (xs:List Value):((List.range xs.length).filterMap fun (m:Nat)=>xs.toArray[((xs.length:Int) - 1 + (m:Int) * (-1)).toNat]?)=xs.reverse:=by
 refine List.ext_getElem? fun i=>?_
 have key:∀ (n:Nat),n≤xs.length->((List.range n).filterMap fun (m:Nat)=>xs.toArray[((xs.length:Int) - 1 + (m:Int) * (-1)).toNat]?)=xs.reverse.take n:=by
  intro n
  induction n with
  | zero=>intro _;simp
  | succ n ih =>
   intro hn
   rw[List.range_succ,List.filterMap_append,ih (by omega),List.take_add_one]
   congr 1
   have e:((xs.length:Int) - 1 + (n:Int) * (-1)).toNat=xs.length - 1 - n:=by omega
   have e2:xs.reverse[n]?=xs[xs.length - 1 - n]?:=List.getElem?_reverse (by omega)
   have h1:xs.length - 1 - n < xs.length:=by omega
   rw[List.filterMap_cons,e,e2]
   simp [h1]
 rw[key _ (Nat.le_refl _),List.take_of_length_le (by simp)]
theorem zli {sl:Addr} {t:Tok} {n:Nat} {Q:Int × Int × Nat->Shared->Prop} (hs:s.heap.IsSliceOf sl .none .none (.int (-1) t)) (h:Q ((n:Int) - 1,-1,n) s) :
  wpAny (model prog w) A (Builtin.Slice.sliceApplied (.ref sl) (pure (n:Int))) Q E s:=by
 obtain⟨os,hos,hcs,hds⟩:=id hs
 unfold Builtin.Slice.sliceApplied Builtin.Slice.sliceFields
 refine wpAny_bind (wpAny_bind (wpAny_field hos hds (x:=.none) rfl (wpAny_bind (wpAny_field hos hds (x:=.none) rfl (wpAny_bind (wpAny_field hos hds (x:=.int (-1) t) rfl (wpAny_pure ?_)))))))
 refine wpAny_bind (slicePart_int ?_)
 show wpAny _ _ (if ((-1:Int) == 0)=true then _ else _) _ _ s
 rw[if_neg (by decide)]
 refine wpAny_bind (slicePart_none (wpAny_bind (slicePart_none (wpAny_bind (wpAny_pure ?_)))))
 have e:Builtin.Slice.slicePlaces ((n:Int) - 1) (-1) (-1)=n:=by
  unfold Builtin.Slice.slicePlaces
  rw[if_neg (by decide)]
  split
  ·have:((n:Int) - 1 - -1 - 1) / (- -1) + 1=(n:Int):=by
    rw[show (- -1:Int)=1 by decide,Int.ediv_one];omega
   rw[this];exact Int.toNat_natCast n
  ·have:n=0:=by omega
   subst this;rfl
 show wpAny _ _ (pure ((n:Int) - 1,(-1:Int),Builtin.Slice.slicePlaces ((n:Int) - 1) (-1) (-1))) _ _ s
 rw[e]
 exact wpAny_pure h
theorem zb5 {t sl:Addr} {its:List Value} {u:Tok} {Q:Value->Shared->Prop} (ht:IsTup s.heap t its.toArray) (hs:s.heap.IsSliceOf sl .none .none (.int (-1) u))
  (h:Q (.ref s.heap.objs.size) { s with heap:=s.heap.push { cls:=.type "tuple",data:=.seq its.reverse.toArray } }) (hsz:its.length≤sizeLine):wpAny (model prog w) A (getItem (.ref t) (.ref sl)) Q E s:=by
 have fit:sizeOk (.seq its.reverse.toArray):=by
  show its.reverse.toArray.size≤sizeLine
  rw[List.size_toArray,List.length_reverse];exact hsz
 obtain⟨os,hos,hcs,hds⟩:=id hs
 have ty:s.TypeIs (.ref sl) "slice":=⟨os,hos,hcs⟩
 unfold getItem
 try with_reducible refine wpAny_holding ?_
 first | refine wpAny_bind (wpAny_pure ?_) | skip
 refine wpAny_bind (wpAny_sequenceKey ht.typeIs (by decide) (wpAny_bind (wpAny_callSpecial?_slot (name:=Str.ofString "__getitem__") ht.typeIs PyProof.Rows.slot_tuple_getitem
  (wpAny_call_entry PyProof.Rows.slot_tuple_getitem ht.typeIs entry_tuple_getitem ?_ (args_tuple_getitem _ _)))))
 show wpAny _ _ (Builtin.Tuple.tupleItemsOf (.ref t) >>= _) _ _ s
 refine wpAny_bind (tupleItemsOf_ ht (wpAny_bind (wpAny_typeOf ty ?_)))
 rw[if_pos (by decide)]
 have en:its.toArray.size=its.length:=List.size_toArray
 rw[en]
 refine wpAny_bind (zli hs ?_)
 show wpAny _ _ (if (((its.length:Int) - 1) == 0 && (-1:Int) == 1 && its.length == its.length)=true then _ else _) _ _ s
 rw[if_neg (by simp),zek]
 first
  | exact wpAny_bind (m:=Builtin.Tuple.tupleExact _) (wpAny_newObj_type (wpAny_pure ⟨_,rfl,wpAny_pure h⟩) fit)
  | exact wpAny_bind (m:=Builtin.Tuple.tupleExact _) (wpAny_newObj_type (wpAny_bind (wpAny_pure (wpAny_pure ⟨_,rfl,wpAny_pure h⟩))) fit)
  | exact wpAny_bind (wpAny_bind (m:=Builtin.Tuple.tupleExact _) (wpAny_newObj_type (wpAny_pure (wpAny_pure ⟨_,rfl,wpAny_pure h⟩)) fit))
  | exact wpAny_bind (wpAny_bind (m:=Builtin.Tuple.tupleExact _) (wpAny_newObj_type (wpAny_pure ⟨_,rfl,wpAny_pure h⟩) fit))
/-- () + u -/
theorem zrr {t b:Addr} {ws:List Value} {Q:Value->Shared->Prop} (ht:IsTup s.heap t ([]:List Value).toArray) (hb:IsTup s.heap b ws.toArray) (h:Q (.ref b) s):wpAny (model prog w) A (binaryOp .Add (.ref t) (.ref b)) Q E s:=by
 obtain⟨⟨cls,dd,data,sl⟩,ho,hc,n,hd⟩:=id ht
 obtain⟨⟨cls2,dd2,data2,sl2⟩,ho2,hc2,n2,hd2⟩:=id hb
 simp only at hc hd hc2 hd2
 subst hc hd hc2 hd2
 exact concat_meets ⟨_,ho,rfl⟩ ⟨_,ho2,rfl⟩ noFill_tuple_add seq_tuple_add PySem.F.slot_tuple_add PySem.F.entry_tuple_add (PySem.F.args_tuple_add_2 _ _) (tuple_addW0 t b _ ws.toArray n n2 dd dd2 sl sl2 rfl) ⟨ho,ho2,h⟩
end
end HT
namespace L3
open PySem PySem.Spec PyProof.Rows L2
section
variable {X:Cx} {pins:List (Addr × Obj)} {σ:L2.St} {H:Hp} {s:Shared} {e:Expr} {te:TE} {pos p2:Pos}
theorem zpq {xs:List V} {lo hi:Option Int} (h:HT.sIx xs.length 0 lo=0∧HT.sIx xs.length xs.length hi=xs.length):cutV xs lo hi=xs:=by
 unfold cutV
 rw[h.1,h.2]
 simp
/-- t[lo:hi], part or whole -/
def rSlA:V->Option Int->Option Int->Hp->VK->Prop:=fun x lo hi H Q=>∃ a xs,x=.ref a∧H a=some (.tup xs)∧∀ p H',Same H H'->H' p=some (.tup (cutV xs lo hi))->Q (.ref p) H'
theorem zbi:SlR X rSlA:=by
 intro pins s σ H x v vl vu lo hi sl Q I rx hs pl pu h
 obtain⟨a,xs,rfl,hx,q⟩:=h
 by_cases c:HT.sIx xs.length 0 lo=0∧HT.sIx xs.length xs.length hi=xs.length
 ·cases rx
  obtain⟨its,r,ht,hz⟩:=I.tuple (SqT.of hx)
  have hlen:its.toArray.size=xs.length:=by rw[List.size_toArray];exact r.length.symm
  refine⟨"tuple",_,PyProof.Rows.slot_tuple_getitem.lookup,ht.typeIs,HT.zcx ht hs pl pu (by rw[hlen];exact c) ⟨.ref a,H,I,rfl,q _ _ (Same.refl H) (by rw[zpq c];exact hx)⟩⟩
 ·exact zr1 (X:=X) pins s σ H (.ref a) v vl vu lo hi sl Q I rx hs pl pu ⟨a,xs,rfl,SqT.of hx,c,fun p hp=>q p _ (zal hp) zag⟩
/-- t + u -/
def rCatA:R2:=fun x y H Q=>∃ a b xs ys,x=.ref a∧y=.ref b∧H a=some (.tup xs)∧H b=some (.tup ys)∧xs.length + ys.length≤sizeLine∧∀ p H',Same H H'->H' p=some (.tup (xs++ys))->Q (.ref p) H'
theorem zb1:OpR X (binaryOp .Add) rCatA:=by
 intro pins s σ H x y v u Q I rx ry h
 obtain⟨a,b,xs,ys,rfl,rfl,ha,hb,hz,q⟩:=h
 by_cases c:xs=[]
 ·subst c
  cases rx
  cases ry
  obtain⟨its,r1,p1,_⟩:=I.tuple (SqT.of ha)
  obtain⟨its2,r2,p2,_⟩:=I.tuple (SqT.of hb)
  cases r1
  exact HT.zrr p1 p2 ⟨.ref b,H,I,rfl,q _ _ (Same.refl H) hb⟩
 ·refine zrb (X:=X) pins s σ H _ _ v u Q I rx ry ⟨a,b,xs,ys,rfl,rfl,SqT.of ha,SqT.of hb,c,hz,fun e=>q _ _ (Same.refl H) (by rw[e,List.append_nil];exact ha),fun _ p hp=>q p _ (zal hp) zag⟩
end
end L3
namespace L3
open PySem PySem.Spec PyProof.Rows L2
def numB (m:Nat):PyData->Bool
 | .int i=>decide (0≤i) && decide (i < (m:Int))
 | _=>false
def intOf:PyData->Int
 | .int i=>i
 | _=>0
def risI (ns:List Int):Bool:=((List.range (min ns.length (ns.drop 1).length)).map fun i=>decide (ns.getD i 0 < (ns.drop 1).getD i 0)).all id
def keepB (m:Nat):PyData->Bool
 | .tuple ds=>ds.all (numB m) && risI (ds.map intOf)
 | _=>false
theorem zjp {ds:List PyData} (h:∀ d ∈ ds,∃ i,d=.int i):ds=(ds.map intOf).map .int:=by
 rw[List.map_map]
 conv=>lhs;rw[← List.map_id ds]
 refine List.map_congr_left fun d hd=>?_
 obtain⟨i,rfl⟩:=h d hd
 rfl
structure Pre (m:Nat) (ds:List PyData) (i:Nat) (a:Int):Prop where
 num:∀ d ∈ ds.take i,numB m d=true
 up:((ds.take i).map intOf).Pairwise (· < ·)
 top:∀ x ∈ (ds.take i).map intOf,x≤a
 at_:a=-1∨a ∈ (ds.take i).map intOf
theorem zmm {α:Type} {ds:List α} {i:Nat} {d:α} (e:ds[i]?=some d):ds.take (i + 1)=ds.take i++[d]:=by
 rw[List.take_add_one,e];rfl
def flatD:V->Bool
 | .non | .bl _ | .int _ | .str _=>true
 | _=>false
theorem Pot.same {H H':Hp} {p:Addr} (h:Pot H p) (s:Same H H'):Pot H' p:=let ⟨a,b,e,z⟩:=h;⟨a,b,s _ _ e,z⟩
theorem zj8:∀ ns:List Int,tupAll (ns.map .int)=true
 | []=>rfl
 | n::ns=>by show (tupD (.int n) && tupAll (ns.map .int))=true;rw[zj8 ns];rfl
theorem zj4:∀ ts:List Tie,tupAll (ts.map tieD)=true
 | []=>rfl
 | t::r=>by show (tupD (tieD t) && tupAll (r.map tieD))=true;rw[zj4 r];rfl
theorem zme (n:Int) (ts:List Tie):tupD (webD n ts)=true:=by
 show (true && (tupAll (ts.map tieD) && true))=true
 rw[zj4 ts];rfl
theorem zj7 (ks:List Nat):tupD (keepD ks)=true:=zj8 _
end L3
namespace L3
end L3
namespace L3
open PySem PySem.Spec PyProof.Rows L2
theorem lI {c:TT} {a b:TS} {D:Ends} {σ:L2.St} {H:Hp} (h:let A:=a;let B:=b;let E:=D;let S:=σ;tIfS c A B E S H):tIfS c a b D σ H:=h
end L3
namespace HT
open PySem PyProof.Rows
section
open PySem.SeqAt
open PySem.AutoSeq1 (wpAny_loadPart')
open PySem.MeetsSeq PySem.MeetsSeq2 PySem.MeetsSeq3
end
section
variable {prog:Program} {w:World} {A:Around} {E:Value->Shared->Prop} {s:Shared}
end
end HT
namespace L3
open PySem PySem.Spec PyProof.Rows L2
section
variable {X:Cx}
end
end L3
namespace L3
open PySem PySem.Spec PyProof.Rows L2
/-- tuples and lists of at most a thousand things, so deep -/
def wide:Nat->PyData->Prop
 | 0,_=>True
 | k + 1,.tuple ds=>ds.length≤1000∧∀ d ∈ ds,wide k d
 | k + 1,.list ds=>ds.length≤1000∧∀ d ∈ ds,wide k d
 | _ + 1,_=>True
def endsD:PyData->Int × Int
 | .tuple [.int a,.int b,.int _]=>(a,b)
 | _=>(0,0)
def tiesB (n:Int):PyData->Bool
 | .tuple ds=>decide (ds.length≤60) && ds.all (tieB n) && risingB (ds.map endsD)
 | _=>false
/-- good values: flat, or tuples and lists of such, or {} -/
def Gd (H:Hp):Nat->V->Prop
 | 0,v=>flatD v=true
 | k + 1,v=>flatD v=true∨(∃ p vs,v=.ref p∧(H p=some (.tup vs)∨H p=some (.lst vs))∧vs.length≤1000∧∀ u ∈ vs,Gd H k u)∨(∃ p,v=.ref p∧H p=some (.dK []))
def lt2 (e f:Int × Int):Prop:=e.1 < f.1∨(e.1=f.1∧e.2 < f.2)
theorem zkk (e f:Int × Int):HT.lexLt (e2 e) (e2 f)=true↔lt2 e f:=by
 show (if e.1=f.1 then (if e.2=f.2 then false else decide (e.2 < f.2)) else decide (e.1 < f.1))=true↔_
 unfold lt2
 by_cases h:e.1=f.1
 ·rw[if_pos h]
  by_cases h2:e.2=f.2
  ·rw[if_pos h2];simp;omega
  ·rw[if_neg h2,decide_eq_true_eq];omega
 ·rw[if_neg h,decide_eq_true_eq];omega
structure PreT (n:Int) (ds:List PyData) (i:Nat) (a:Int × Int):Prop where
 tie:∀ d ∈ ds.take i,tieB n d=true
 up:((ds.take i).map endsD).Pairwise lt2
 top:∀ x ∈ (ds.take i).map endsD,x=a∨lt2 x a
 at_:a=(-1,-1)∨a ∈ (ds.take i).map endsD
end L3
namespace L3
open PySem PySem.Spec PyProof.Rows L2
section
variable {X:Cx} {es:List Expr} {t:TA} {pos:Pos}
def tTupG (t:TA):TE:=fun σ H Q=>t σ H fun xs H1=>xs.length≤1000∧∀ p H',Same H1 H'->H1 p=none->H' p=some (.tup xs)->Q (.ref p) H'
def tLstG (t:TA):TE:=fun σ H Q=>t σ H fun xs H1=>xs.length≤1000∧∀ p H',Same H1 H'->H1 p=none->H' p=some (.lst xs)->Q (.ref p) H'
theorem zar {x1} (h:PA X es t):PE X (.Tuple es x1 pos) (tTupG t):=by
 intro pins s σ H Q I hq
 refine wpAny_Tuple_spliced (thn (h pos pins s σ H _ I hq) fun us s1 ⟨xs,J,I1,r,z,q⟩=>?_)
 have z':xs.length≤sizeLine:=Nat.le_trans z (by decide)
 have fr:J s1.heap.objs.size=none:=I1.hok.fresh (Nat.le_refl _)
 refine⟨by rw[← r.length];exact z',.ref s1.heap.objs.size,upd J s1.heap.objs.size (.tup xs),I1.laid (t':=s1.toks) (fun b u e=>Heap.get?_push_of_some _ e) (Nat.le_refl _) ⟨z',us,r,⟨_,Heap.get?_push_size _ rfl,rfl,⟨_,rfl⟩,rfl⟩⟩,rfl,q _ _ (zal fr) fr zag⟩
theorem za5 (h:PA X es t):PE X (.List es pos) (tLstG t):=by
 intro pins s σ H Q I hq
 refine wpAny_List_spliced (thn (h pos pins s σ H _ I hq) fun us s1 ⟨xs,J,I1,r,z,q⟩=>?_)
 have z':xs.length≤sizeLine:=Nat.le_trans z (by decide)
 have fr:J s1.heap.objs.size=none:=I1.hok.fresh (Nat.le_refl _)
 refine⟨by rw[← r.length];exact z',.ref s1.heap.objs.size,upd J s1.heap.objs.size (.lst xs),I1.laid (t':=s1.toks) (fun b u e=>Heap.get?_push_of_some _ e) (Nat.le_refl _) ⟨z',us,0,r,Heap.get?_push_size _ rfl⟩,rfl,q _ _ (zal fr) fr zag⟩
/-- l.extend(m), l.append(x) -/
def rExtendG:V->List V->Hp->VK->Prop:=fun x vs H Q=>∃ l b xs zs,x=.ref l∧vs=[.ref b]∧H l=some (.lst xs)∧H b=some (.lst zs)∧xs.length + zs.length≤1000∧∀ H',But l H H'->H' l=some (.lst (xs++zs))->Q .non H'
theorem zlp:MtM X "list.extend" rExtendG:=by
 intro pins s σ H x vs v us Q I rx rv h
 obtain⟨l,b,xs,zs,rfl,rfl,hH,hB,hz,q⟩:=h
 exact zh8 (X:=X) pins s σ H _ _ v us Q I rx rv ⟨l,b,xs,zs,rfl,rfl,hH,hB,Nat.le_trans hz (by decide),q _ But.upd zag⟩
def rAppendG:V->List V->Hp->VK->Prop:=fun x vs H Q=>∃ l xs y,x=.ref l∧vs=[y]∧H l=some (.lst xs)∧xs.length < 1000∧∀ H',But l H H'->H' l=some (.lst (xs++[y]))->Q .non H'
theorem zb7:MtM X "list.append" rAppendG:=by
 intro pins s σ H x vs v us Q I rx rv h
 obtain⟨l,xs,y,rfl,rfl,hH,hz,q⟩:=h
 exact zc5 (X:=X) pins s σ H _ _ v us Q I rx rv ⟨l,xs,y,rfl,rfl,hH,Nat.lt_of_lt_of_le hz (by decide),q _ But.upd zag⟩
/-- list(..), tuple(..) of what stands -/
theorem zly:CallR X (.type "list") (fun xs H Q=>∃ p ys,xs=[.ref p]∧(H p=some (.lst ys)∨H p=some (.tup ys))∧∀ l H',Same H H'->H l=none->H' l=some (.lst ys)->Q (.ref l) H'):=by
 intro pins s σ H xs us Q I r h
 obtain⟨p,ys,rfl,hp,q⟩:=h
 exact zdz (X:=X) pins s σ H _ us Q I r ⟨p,ys,rfl,hp.elim (fun e=>.inl (SqL.of e)) (fun e=>.inr (SqT.of e)),fun l hl=>q l _ (zal hl) hl zag⟩
end
def Sm (H:Hp) (t:Addr):Prop:=∃ vs:List V,(H t=some (.tup vs)∨H t=some (.lst vs))∧vs.length≤1000∧vs.all flatD=true
def GdF (H:Hp) (xs:List V):Prop:=∀ u ∈ xs,∃ t,u=.ref t∧Sm H t
def GdL (l:Addr) (H:Hp) (xs:List V):Prop:=∀ u ∈ xs,∃ t,u=.ref t∧t≠l∧Sm H t
theorem zrs {prog:Program} {w:World} {A:Around} {E:Value->Shared->Prop} {s:Shared} {l b:Addr} {vs ws:List Value} {Q:Value->Shared->Prop} (hl:s.heap.IsList l vs.toArray) (hb:s.heap.IsList b ws.toArray)
  (h:Q (.ref s.heap.objs.size) { s with heap:=s.heap.push { cls:=.type "list",data:=.seq (vs++ws).toArray } }) (hz:vs.length + ws.length≤sizeLine):wpAny (model prog w) A (binaryOp .Add (.ref l) (.ref b)) Q E s:=by
 obtain⟨⟨c1,d1,t1,s1⟩,g1,h1,n1,e1⟩:=id hl
 obtain⟨⟨c2,d2,t2,s2⟩,g2,h2,n2,e2⟩:=id hb
 simp only at h1 e1 h2 e2
 subst h1 e1 h2 e2
 have e:vs.toArray++ws.toArray=(vs++ws).toArray:=by simp
 refine concat_meets ⟨_,g1,rfl⟩ ⟨_,g2,rfl⟩ noFill_list_add seq_list_add PySem.F.slot_list_add PySem.F.entry_list_add (PySem.F.args_list_add_2 _ _) (list_addW l b vs.toArray ws.toArray n1 n2 d1 d2 s1 s2 (by rw[List.size_toArray,List.size_toArray];exact hz)) ⟨g1,g2,?_⟩
 rw[e]
 exact h
/-- l + m -/
def rCatL:R2:=fun x y H Q=>∃ a b xs ys,x=.ref a∧y=.ref b∧H a=some (.lst xs)∧H b=some (.lst ys)∧xs.length + ys.length≤1000∧∀ p H',Same H H'->H p=none->H' p=some (.lst (xs++ys))->Q (.ref p) H'
theorem znb {X:Cx}:OpR X (binaryOp .Add) rCatL:=by
 intro pins s σ H x y v u Q I rx ry h
 obtain⟨a,b,xs,ys,rfl,rfl,ha,hb,hz,q⟩:=h
 cases rx
 cases ry
 obtain⟨its,r1,p1,_⟩:=I.list (SqL.of ha)
 obtain⟨jts,r2,p2,_⟩:=I.list (SqL.of hb)
 have hz':xs.length + ys.length≤sizeLine:=Nat.le_trans hz (by decide)
 have fr:H s.heap.objs.size=none:=I.hok.fresh (Nat.le_refl _)
 refine zrs p1.isList p2.isList ⟨.ref s.heap.objs.size,_,I.laid (t':=s.toks) (o:=.lst (xs++ys)) (fun b ob q=>Heap.get?_push_of_some _ q) (Nat.le_refl _) ⟨by rw[List.length_append];exact hz',_,0,r1.append r2,Heap.get?_push_size _ rfl⟩,rfl,q _ _ (zal fr) fr zag⟩ (by rw[← r1.length,← r2.length];exact hz')
section
variable {g:TG} {te:TE} {own:List Str} {js:List Nat} {σ:L2.St} {H1:Hp} {Q:VK}
end
theorem za1 {X:Cx}:CallR X (.type "tuple") (fun xs H Q=>∃ p ys,xs=[.ref p]∧H p=some (.lst ys)∧∀ l H',Same H H'->H l=none->H' l=some (.tup ys)->Q (.ref l) H'):=by
 intro pins s σ H xs us Q I r h
 obtain⟨p,ys,rfl,hp,q⟩:=h
 exact zdb (X:=X) pins s σ H _ us Q I r ⟨p,ys,rfl,.inl ⟨SqL.of hp,fun l hl=>q l _ (zal hl) hl zag⟩⟩
/-- rows of three whole numbers, sorted: the same rows -/
def Row3 (H:Hp) (v:V):Prop:=∃ (t:Addr) (x y z:Int),v=.ref t∧H t=some (.tup [.int x,.int y,.int z])
structure BE (X:Cx) (e:Expr) (t:TE):Prop where
 h:PE X e t
structure BA (X:Cx) (es:List Expr) (t:TA):Prop where
 h:PA X es t
structure BS (X:Cx) (st:Stmt) (t:TS):Prop where
 h:PS X st t
structure BSs (X:Cx) (ss:List Stmt) (t:TS):Prop where
 h:PSs X ss t
section
variable {X:Cx}
theorem zcd {st:Stmt} {rest:List Stmt} {t u:TS} (a:BS X st t) (b:BSs X rest u):BSs X (st::rest) (tSeq t u):=⟨zac a.h b.h⟩
theorem zjy {st:Stmt} {t:TS} (a:BS X st t):BSs X [st] t:=⟨zaf a.h⟩
theorem zk2 {pos:Pos} {i:Nat} {x:Str} {e:Expr} {te:TE} {pos':Pos} (hN:X.N.Nodup) (hi:X.N[i]?=some x) (hx:L2.Loc X.env.scope x) (he:BE X e te) (hs:swapsWith e (some (.Name x pos')) pos.line X.env=pure false:=by rfl)
  (hf:X.fn x=true∨X.env.scope.names.lookup x=some .local:=by first | exact .inl rfl | exact .inr rfl | assumption):BS X (.Assign [.Name x pos'] e pos) (tAsg te (gName i)):=⟨zan hN hi hx he.h hs hf⟩
theorem zoh {es:List Expr} {t:TA} {pos:Pos} (a:BA X es t):BE X (.List es pos) (tLstG t):=⟨za5 a.h⟩
theorem zg4 {es:List Expr} {t:TA} {pos:Pos} {x1:Nat} (a:BA X es t):BE X (.Tuple es x1 pos) (tTupG t):=⟨zar a.h⟩
theorem zf6:BA X [] tNil:=⟨zab⟩
theorem zst {a b:Expr} {ta tb:TE} {pos:Pos} {op:Operator} {r:R2} (ho:OpR X (binaryOp op) r) (ha:BE X a ta) (hb:BE X b tb):BE X (.BinOp a op b pos) (tOp r ta tb):=⟨zat ho ha.h hb.h⟩
end
end L3
namespace Far
/-- walks along arcs, with their lengths -/
inductive Walk (A:List (Nat × Nat × Int)) (s:Nat):Nat->Int->Prop
 | nil:Walk A s s 0
 | snoc {u v:Nat} {l x:Int}:Walk A s u x->(u,v,l) ∈ A->Walk A s v (x + l)
variable {A:List (Nat × Nat × Int)} {s:Nat}
def Pos (A:List (Nat × Nat × Int)):Prop:=∀ u v l,(u,v,l) ∈ A->1≤l
theorem Walk.nonneg (P:Pos A) {v:Nat} {x:Int} (h:Walk A s v x):0≤x:=by
 induction h with
 | nil=>exact Int.le_refl 0
 | snoc _ m ih=>have:=P _ _ _ m;omega
def Dst (A:List (Nat × Nat × Int)) (s v:Nat) (o:Option Int):Prop:=(∀ y,o=some y->Walk A s v y)∧∀ L,Walk A s v L->∃ y,o=some y∧y≤L
theorem Dst.unique {v:Nat} {o p:Option Int} (h:Dst A s v o) (k:Dst A s v p):o=p:=by
 cases o with
 | none =>
  cases p with
  | none=>rfl
  | some y=>obtain⟨_,e,_⟩:=h.2 y (k.1 y rfl);cases e
 | some x =>
  obtain⟨y,rfl,hy⟩:=k.2 x (h.1 x rfl)
  obtain⟨z,e,hz⟩:=h.2 y (k.1 y rfl)
  cases e
  rw[show x=y by omega]
theorem least {P:Nat->Prop}:∀ n,P n->∃ m,P m∧∀ k,P k->m≤k:=by
 intro n
 induction n using Nat.strongRecOn with
 | ind n ih =>
  intro h
  by_cases c:∃ k,k < n∧P k
  ·obtain⟨k,hk,pk⟩:=c;exact ih k hk pk
  ·exact⟨n,h,fun k pk=>by
    by_cases z:k < n
    ·exact absurd ⟨k,z,pk⟩ c
    ·omega⟩
theorem zlu (P:Pos A) (s v:Nat):∃ o,Dst A s v o:=by
 by_cases c:∃ x,Walk A s v x
 ·obtain⟨x,hx⟩:=c
  have nn:=hx.nonneg P
  obtain⟨m,hm,mn⟩:=least (P:=fun k=>Walk A s v (k:Int)) x.toNat (by rw[Int.toNat_of_nonneg nn];exact hx)
  refine⟨some m,fun y e=>by cases e;exact hm,fun L hL=>⟨m,rfl,?_⟩⟩
  have n2:=hL.nonneg P
  have:=mn L.toNat (by rw[Int.toNat_of_nonneg n2];exact hL)
  omega
 ·exact⟨none,⟨fun y e=>(by cases e),fun L hL=>absurd ⟨L,hL⟩ c⟩⟩
theorem Walk.cons {u v:Nat} {l:Int} (m:(u,v,l) ∈ A) {w:Nat} {x:Int} (h:Walk A v w x):Walk A u w (x + l):=by
 induction h with
 | nil=>exact .snoc .nil m
 | snoc _ m' ih=>rw[Int.add_right_comm];exact .snoc ih m'
def Sym (A:List (Nat × Nat × Int)):Prop:=∀ u v l,(u,v,l) ∈ A->(v,u,l) ∈ A
theorem Walk.back (S:Sym A) {v:Nat} {x:Int} (h:Walk A s v x):Walk A v s x:=by
 induction h with
 | nil=>exact .nil
 | snoc _ m ih=>exact ih.cons (S _ _ _ m)
theorem Dst.back (S:Sym A) {v:Nat} {o:Option Int} (h:Dst A s v o):Dst A v s o:=⟨fun y e=>(h.1 y e).back S,fun L hL=>h.2 L (hL.back S)⟩
def lt2 (e f:Int × Int):Prop:=e.1 < f.1∨(e.1=f.1∧e.2 < f.2)
def get {α:Type} (cs:List (Option α)) (v:Nat):Option α:=cs.getD v none
theorem za6 {α:Type} {cs:List (Option α)} {v i:Nat} {x:Option α} (h:v < cs.length):get (cs.set v x) i=if i=v then x else get cs i:=by
 unfold get
 rw[List.getD_eq_getElem?_getD,List.getElem?_set,List.getD_eq_getElem?_getD]
 by_cases c:v=i
 ·subst c;simp [h]
 ·simp [c,Ne.symm c]
def ct {α:Type}:List (Option α)->Nat
 | []=>0
 | none::r=>ct r
 | some _::r=>ct r + 1
theorem zpr {α:Type}:∀ cs:List (Option α),ct cs≤cs.length
 | []=>Nat.le_refl 0
 | none::r=>Nat.le_succ_of_le (zpr r)
 | some _::r=>Nat.succ_le_succ (zpr r)
theorem zkx {α:Type} {c:α}:∀ {cs:List (Option α)} {v:Nat},v < cs.length->ct (cs.set v (some c))=ct cs + (if (get cs v).isSome then 0 else 1)
 | none::r,0,_=>rfl
 | some _::r,0,_=>rfl
 | none::r,v + 1,h=>zkx (cs:=r) (v:=v) (by simpa using h)
 | some _::r,v + 1,h=>by
  have:=zkx (c:=c) (cs:=r) (v:=v) (by simpa using h)
  show ct (r.set v (some c)) + 1=ct r + 1 + _
  rw[this]
  show _=ct r + 1 + (if (get r v).isSome then 0 else 1)
  omega
theorem zqn {α:Type}:∀ {cs:List (Option α)} {v:Nat} {c:α},get cs v=some c->1≤ct cs
 | [],v,c,h=>by cases h
 | some _::r,_,_,_=>Nat.succ_le_succ (Nat.zero_le _)
 | none::r,0,c,h=>by cases h
 | none::r,v + 1,c,h=>zqn (cs:=r) (v:=v) (c:=c) h
/-- the weight of costs, which falls -/
def WM:Int:=2 ^ 130
def mW:Option (Int × Int)->Nat
 | none=>(2 ^ 250)
 | some c=>(c.1 * WM + c.2).toNat
def mu:List (Option (Int × Int))->Nat
 | []=>0
 | c::r=>mW c + mu r
theorem zqe {x:Option (Int × Int)}:∀ {cs:List (Option (Int × Int))} {v:Nat},v < cs.length->mW x < mW (get cs v)->mu (cs.set v x) < mu cs
 | c::r,0,_,h=>Nat.add_lt_add_right (k:=mu r) h
 | c::r,v + 1,hl,h=>Nat.add_lt_add_left (k:=mW c) (zqe (cs:=r) (v:=v) (by simpa using hl) h)
structure Good (A:List (Nat × Nat × Int)) (n s:Nat) (cs:List (Option (Int × Int))):Prop where
 len:cs.length=n
 walk:∀ v c,get cs v=some c->Walk A s v c.1
 w0:∀ v c,get cs v=some c->0≤c.2∧c.2≤c.1 * 2 ^ 60
 top:∀ v c,get cs v=some c->c.1≤((ct cs:Nat) - 1:Int) * 10 ^ 18
 start:∃ c,get cs s=some c∧c.1≤0
theorem Good.step {n u v:Nat} {l w:Int} {cs:List (Option (Int × Int))} {c:Int × Int} (P:Pos A) (n24:n≤24) (g:Good A n s cs) (arc:(u,v,l) ∈ A) (l1:l≤10 ^ 18) (w0:0≤w) (w1:w≤2 ^ 60) (hv:v < n) (hu:get cs u=some c)
  (h:get cs v=none∨∃ c',get cs v=some c'∧lt2 (c.1 + l,c.2 + w) c'):Good A n s (cs.set v (some (c.1 + l,c.2 + w)))∧mu (cs.set v (some (c.1 + l,c.2 + w))) < mu cs:=by
 have hv':v < cs.length:=by rw[g.len];exact hv
 have l0:=P _ _ _ arc
 have wk:=Walk.snoc (g.walk _ _ hu) arc
 have c0:=(g.walk _ _ hu).nonneg P
 obtain⟨cw0,cw1⟩:=g.w0 _ _ hu
 have ct24:ct cs≤24:=by have:=zpr cs;rw[g.len] at this;omega
 have ctp:=zqn hu
 have es:=zkx (c:=(c.1 + l,c.2 + w)) hv'
 have topc:=g.top _ _ hu
 have wbound:c.2 + w≤(c.1 + l) * 2 ^ 60:=by rw[Int.add_mul];omega
 have big:c.1 + l≤((ct (cs.set v (some (c.1 + l,c.2 + w))):Nat) - 1:Int) * 10 ^ 18:=by
  rw[es]
  rcases h with h | ⟨c',h,hlt⟩
  ·rw[h]
   show _≤(((ct cs + 1:Nat):Int) - 1) * 10 ^ 18
   omega
  ·rw[h]
   show _≤(((ct cs + 0:Nat):Int) - 1) * 10 ^ 18
   have:=g.top _ _ h
   unfold lt2 at hlt
   simp only at hlt
   omega
 have ctm:ct cs≤ct (cs.set v (some (c.1 + l,c.2 + w))):=by rw[es];exact Nat.le_add_right _ _
 refine⟨⟨by rw[List.length_set];exact g.len,fun v' d e=>?_,fun v' d e=>?_,fun v' d e=>?_,?_⟩,?_⟩
 ·rw[za6 hv'] at e
  split at e
  ·rename_i z;subst z;cases e;exact wk
  ·exact g.walk _ _ e
 ·rw[za6 hv'] at e
  split at e
  ·cases e;exact⟨by show 0≤c.2 + w;omega,wbound⟩
  ·exact g.w0 _ _ e
 ·rw[za6 hv'] at e
  split at e
  ·cases e;exact big
  ·have:=g.top _ _ e
   omega
 ·obtain⟨d,hd,hd0⟩:=g.start
  rw[za6 hv']
  split
  ·rename_i z;subst z
   refine⟨_,rfl,?_⟩
   rcases h with h | ⟨c',h,hlt⟩
   ·rw[h] at hd;cases hd
   ·rw[h] at hd;cases hd
    unfold lt2 at hlt
    simp only at hlt
    show c.1 + l≤0
    omega
  ·exact⟨d,hd,hd0⟩
 ·refine zqe hv' ?_
  have ctb:ct (cs.set v (some (c.1 + l,c.2 + w)))≤24:=by have:=zpr (cs.set v (some (c.1 + l,c.2 + w)));rw[List.length_set,g.len] at this;omega
  have x23:c.1 + l≤23 * 10 ^ 18:=by omega
  have y23:c.2 + w≤23 * 10 ^ 18 * 2 ^ 60:=by omega
  have WMe:WM=1361129467683753853853498429727072845824:=by decide
  rcases h with h | ⟨c',h,hlt⟩
  ·rw[h]
   show ((c.1 + l) * WM + (c.2 + w)).toNat < 2 ^ 250
   have:(c.1 + l) * WM + (c.2 + w) < 2 ^ 250:=by rw[WMe];omega
   omega
  ·rw[h]
   obtain⟨d0,d1⟩:=g.w0 _ _ h
   have t0:=(g.walk _ _ h).nonneg P
   have tt:=g.top _ _ h
   show ((c.1 + l) * WM + (c.2 + w)).toNat < (c'.1 * WM + c'.2).toNat
   unfold lt2 at hlt
   simp only at hlt
   have:(c.1 + l) * WM + (c.2 + w) < c'.1 * WM + c'.2:=by
    rw[WMe]
    rcases hlt with z | ⟨z,z'⟩
    ·omega
    ·rw[z];omega
   have p0:0≤(c.1 + l) * WM + (c.2 + w):=by rw[WMe];omega
   omega
/-- stable along arcs -/
def Stab (A:List (Nat × Nat × Int)) (cs:List (Option (Int × Int))):Prop:=∀ u v l c,(u,v,l) ∈ A->get cs u=some c->∃ c',get cs v=some c'∧c'.1≤c.1 + l
theorem Good.dst {n:Nat} {cs:List (Option (Int × Int))} (g:Good A n s cs) (st:Stab A cs) (v:Nat):Dst A s v ((get cs v).map (·.1)):=by
 refine⟨fun y e=>?_,fun L hL=>?_⟩
 ·cases h:get cs v with
  | none=>rw[h] at e;cases e
  | some c=>rw[h] at e;cases e;exact g.walk _ _ h
 ·have:∃ c,get cs v=some c∧c.1≤L:=by
   induction hL with
   | nil=>exact g.start
   | snoc _ m ih =>
    obtain⟨c,hc,hle⟩:=ih
    obtain⟨c',hc',hle'⟩:=st _ _ _ _ m hc
    exact⟨c',hc',by omega⟩
  obtain⟨c,hc,hle⟩:=this
  exact⟨c.1,by rw[hc];rfl,hle⟩
structure Snd (A:List (Nat × Nat × Int)) (n s:Nat) (D:List (Option Int)):Prop where
 len:D.length=n
 walk:∀ v x,get D v=some x->Walk A s v x
 start:∃ x,get D s=some x∧x≤0
structure Rnd (A:List (Nat × Nat × Int)) (n s:Nat) (δ:Nat->Option Int) (D0:List (Option Int)) (B:(Nat × Nat × Int)->Prop) (D:List (Option Int)):Prop where
 snd:Snd A n s D
 keep:∀ v,get D0 v=δ v->get D v=δ v
 arc:∀ u v l x,B (u,v,l)->get D0 u=δ u->δ u=some x->∃ y,get D v=some y∧y≤x + l
section
variable {n:Nat} {δ:Nat->Option Int} {D0 D:List (Option Int)} {B:(Nat × Nat × Int)->Prop} {u v:Nat} {l:Int}
def plus (B:(Nat × Nat × Int)->Prop) (a:Nat × Nat × Int):(Nat × Nat × Int)->Prop:=fun b=>B b∨b=a
end
theorem zcl {α:Type} {p q:α->Bool}:∀ {xs:List α},(∀ x ∈ xs,p x=true->q x=true)->(∃ x ∈ xs,q x=true∧p x=false)->xs.countP p < xs.countP q
 | [],_,⟨x,h,_⟩=>by cases h
 | a::r,h,⟨x,hx,e1,e2⟩=>by
  rw[List.countP_cons,List.countP_cons]
  have le:r.countP p≤r.countP q:=List.countP_mono_left fun x hx=>h x (List.mem_cons_of_mem _ hx)
  rcases List.mem_cons.mp hx with rfl | hx
  ·rw[e1,e2];simp;omega
  ·have:=zcl (xs:=r) (fun x hx=>h x (List.mem_cons_of_mem _ hx)) ⟨x,hx,e1,e2⟩
   have:=h a List.mem_cons_self
   cases e:p a <;> cases e':q a <;> simp_all <;> omega
def cnt (n:Nat) (δ:Nat->Option Int) (D:List (Option Int)):Nat:=(List.range n).countP fun v=>decide (get D v=δ v)
def Done (n:Nat) (δ:Nat->Option Int) (D:List (Option Int)) (k:Nat):Prop:=(∀ v,v < n->get D v=δ v)∨k + 1≤cnt n δ D
def PSt (c0:List (Option (Int × Int))) (B:(Nat × Nat × Int)->Prop) (cs:List (Option (Int × Int))) (ag:Bool):Prop :=
 (ag=false∧cs=c0∧∀ u v l c,B (u,v,l)->get c0 u=some c->∃ c',get c0 v=some c'∧c'.1≤c.1 + l)∨(ag=true∧mu cs < mu c0)
section
variable {c0 cs:List (Option (Int × Int))} {B B':(Nat × Nat × Int)->Prop} {ag:Bool} {u v:Nat} {l w:Int}
end
theorem zdl {α:Type} (n v:Nat):get (List.replicate n (none:Option α)) v=none:=by
 unfold get
 rw[List.getD_eq_getElem?_getD,List.getElem?_replicate]
 split <;> rfl
theorem zqm {α:Type}:∀ n:Nat,ct (List.replicate n (none:Option α))=0
 | 0=>rfl
 | n + 1=>zqm n
theorem Good.first {n:Nat} (hs:s < n):Good A n s ((List.replicate n none).set s (some (0,0))):=by
 have hl:s < (List.replicate n (none:Option (Int × Int))).length:=by rw[List.length_replicate];exact hs
 have cases':∀ v c,get ((List.replicate n (none:Option (Int × Int))).set s (some (0,0))) v=some c->v=s∧c=(0,0):=fun v c e=>by
  rw[za6 hl,zdl] at e
  split at e
  ·rename_i z;cases e;exact⟨z,rfl⟩
  ·cases e
 refine⟨by rw[List.length_set,List.length_replicate],fun v c e=>?_,fun v c e=>?_,fun v c e=>?_,⟨(0,0),?_,Int.le_refl _⟩⟩
 ·obtain⟨rfl,rfl⟩:=cases' _ _ e;exact .nil
 ·obtain⟨rfl,rfl⟩:=cases' _ _ e;exact⟨Int.le_refl _,by decide⟩
 ·obtain⟨rfl,rfl⟩:=cases' _ _ e
  rw[zkx hl,zqm,zdl];decide
 ·rw[za6 hl,if_pos rfl]
end Far
namespace L3
open PySem PySem.Spec PyProof.Rows L2
def tieAt (ts:List Tie) (k:Nat):Tie:=ts.getD k (0,0,0)
def arcs2 (t:Tie):List (Nat × Nat × Int):=[(t.1.toNat,t.2.1.toNat,t.2.2),(t.2.1.toNat,t.1.toNat,t.2.2)]
def arcs (ts:List Tie) (ks:List Nat):List (Nat × Nat × Int):=ks.flatMap fun k=>arcs2 (tieAt ts k)
theorem arcs_mem {ts:List Tie} {ks:List Nat} {a:Nat × Nat × Int}:a ∈ arcs ts ks↔∃ k,k ∈ ks∧a ∈ arcs2 (tieAt ts k):=by
 unfold arcs;rw[List.mem_flatMap]
theorem arcs2_mem {t:Tie} {a:Nat × Nat × Int}:a ∈ arcs2 t↔a=(t.1.toNat,t.2.1.toNat,t.2.2)∨a=(t.2.1.toNat,t.1.toNat,t.2.2):=by
 unfold arcs2;simp
theorem zaz {ts:List Tie} {k:Nat} (h:k < ts.length):ts[k]?=some (tieAt ts k)∧tieAt ts k ∈ ts:=by
 have e:ts[k]?=some (tieAt ts k):=by unfold tieAt;rw[List.getD_eq_getElem?_getD,List.getElem?_eq_getElem h];rfl
 exact⟨e,List.mem_of_getElem? e⟩
theorem zro {a b c d:Int} (h1:0≤a) (h2:a < b) (h3:0≤c) (h4:c < d) (h:a.toNat=c.toNat∧b.toNat=d.toNat∨a.toNat=d.toNat∧b.toNat=c.toNat):a=c∧b=d:=by omega
theorem zkt {s t:Tie} (h:endLt s t) (e1:s.1=t.1) (e2:s.2.1=t.2.1):False:=by
 rcases h with h | h
 ·exact Int.lt_irrefl _ (e1 ▸ h)
 ·exact Int.lt_irrefl _ (e2 ▸ h.2)
/-- two ties with the same ends are one -/
theorem zj9 {n:Int} {ts:List Tie} (ok:WebOk n ts) {k k':Nat} (hk:k < ts.length) (hk':k' < ts.length) (e1:(tieAt ts k).1=(tieAt ts k').1) (e2:(tieAt ts k).2.1=(tieAt ts k').2.1):k=k':=by
 have pw:∀ i j (hi:i < ts.length) (hj:j < ts.length),i < j->endLt (tieAt ts i) (tieAt ts j):=fun i j hi hj z=>by
  have q:=List.pairwise_iff_getElem.mp ok.rise i j hi hj z
  have g:∀ {i:Nat} (hi:i < ts.length),ts[i]=tieAt ts i:=fun {i} hi=>Option.some.inj ((List.getElem?_eq_getElem hi).symm.trans (zaz hi).1)
  rwa [g hi,g hj] at q
 rcases Nat.lt_trichotomy k k' with z | z | z
 ·exact (zkt (pw k k' hk hk' z) e1 e2).elim
 ·exact z
 ·exact (zkt (pw k' k hk' hk z) e1.symm e2.symm).elim
section
variable {n:Int} {ts:List Tie} {ks:List Nat}
theorem zp2 (ok:WebOk n ts) (ko:KeepOk ts.length ks):Far.Pos (arcs ts ks):=fun u v l h=>by
 obtain⟨k,hk,h⟩:=arcs_mem.mp h
 have:=ok.tie _ (zaz (ko.2 k hk)).2
 rcases arcs2_mem.mp h with h | h <;> cases h <;> omega
theorem zom (ok:WebOk n ts) (ko:KeepOk ts.length ks):∀ u v l,(u,v,l) ∈ arcs ts ks->u < n.toNat∧v < n.toNat:=fun u v l h=>by
 obtain⟨k,hk,h⟩:=arcs_mem.mp h
 have:=ok.tie _ (zaz (ko.2 k hk)).2
 rcases arcs2_mem.mp h with h | h <;> cases h <;> omega
end
def CV (H:Hp) (v:V):Option (Int × Int)->Prop
 | none=>v=.non
 | some e=>∃ t,v=.ref t∧H t=some (.tup [.int e.1,.int e.2])
theorem CV.keep {H H':Hp} (k:TupKeep H H') {v:V}:∀ {o:Option (Int × Int)},CV H v o->CV H' v o
 | none,h=>h
 | some e,⟨t,h1,h2⟩=>⟨t,h1,k _ _ h2⟩
def CostL (H:Hp) (vs:List V) (cs:List (Option (Int × Int))):Prop:=vs.length=cs.length∧∀ i v,vs[i]?=some v->CV H v (Far.get cs i)
section
variable {H H' J J':Hp} {vs cvs avs ws:List V} {cs:List (Option (Int × Int))} {lw lc la t:Addr} {n k:Nat} {x y:Int}
theorem CostL.keep (h:CostL H vs cs) (k:TupKeep H H'):CostL H' vs cs:=⟨h.1,fun i v e=>(h.2 i v e).keep k⟩
theorem CostL.set {v:V} {c:Int × Int} (h:CostL H vs cs) (hk:k < vs.length) (hv:CV H v (some c)):CostL H (vs.set k v) (cs.set k (some c)):=by
 refine⟨by rw[List.length_set,List.length_set];exact h.1,fun i u e=>?_⟩
 rw[Far.za6 (by rw[← h.1];exact hk)]
 rw[List.getElem?_set] at e
 by_cases z:k=i
 ·subst z;rw[if_pos rfl,if_pos hk] at e;cases e;rw[if_pos rfl];exact hv
 ·rw[if_neg z] at e;rw[if_neg (Ne.symm z)];exact h.2 i u e
theorem CostL.first (n:Nat):CostL H (List.replicate n .non) (List.replicate n none):=by
 refine⟨by rw[List.length_replicate,List.length_replicate],fun i v e=>?_⟩
 rw[Far.zdl]
 rw[List.getElem?_replicate] at e
 split at e
 ·cases e;rfl
 ·cases e
theorem zhj {p:Addr} {xs:List V} {o:HO} (h:J p=some (.lst xs)):TupKeep J (upd J p o):=fun a ys e=>by
 rw[zap (fun z=>by rw[z,h] at e;cases e)];exact e
theorem zmj (s:Same J J'):TupKeep J J':=fun a xs e=>s _ _ e
/-- the lists of a search: weights, costs, places ahead -/
structure RH (H J:Hp) (lw lc la:Addr) (ws:List V) (n:Nat) (cs:List (Option (Int × Int))):Prop where
 same:Same H J
 fc:H lc=none
 fa:H la=none
 nwc:lw≠lc
 nwa:lw≠la
 nca:lc≠la
 wl:J lw=some (.lst ws)
 co:∃ cvs,J lc=some (.lst cvs)∧CostL J cvs cs
 ah:∃ avs,J la=some (.lst avs)∧avs.length=n
end
theorem zms {α:Type} (x:α):∀ k:Nat,(List.replicate k [x]).flatten=List.replicate k x
 | 0=>rfl
 | k + 1=>by rw[List.replicate_succ,List.flatten_cons,zms x k];rfl
def ov:Option Int->V
 | none=>.non
 | some x=>.int x
theorem zq9 {D:List (Option Int)} {i:Nat} (h:i < D.length):(D.map ov)[i]?=some (ov (Far.get D i)):=by
 rw[List.getElem?_map,List.getElem?_eq_getElem h]
 unfold Far.get
 rw[List.getD_eq_getElem?_getD,List.getElem?_eq_getElem h];rfl
theorem za2 {α:Type} {xs:List α} {i:Int} {x:α} (h0:0≤i) (h:xs[i.toNat]?=some x):atI xs i=some x:=by
 have hl:=(List.getElem?_eq_some_iff.mp h).1
 unfold atI ixN
 rw[if_pos h0,if_pos (by omega)]
 exact h
theorem zcw {n:Nat} {i:Int} (h0:0≤i) (h:i < n):ixN n i=some i.toNat:=by
 unfold ixN;rw[if_pos h0,if_pos h]
/-- [x] * n -/
def rRep1:R2:=fun x y H Q=>∃ l k z,x=.ref l∧y=.int k∧H l=some (.lst [z])∧0≤k∧k≤1000∧∀ p H',Same H H'->H p=none->H' p=some (.lst (List.replicate k.toNat z))->Q (.ref p) H'
theorem zgh {X:Cx}:OpR X (binaryOp .Mult) rRep1:=by
 intro pins s σ H x y v u Q I rx ry h
 obtain⟨l,k,z,rfl,rfl,hH,h1,h2,q⟩:=h
 refine zsc (X:=X) pins s σ H _ _ v u Q I rx ry ⟨l,k,_,rfl,rfl,hH,by omega,by omega,?_,fun p hp=>q p _ (zal hp) hp (by rw[zag,zms])⟩
 exact Nat.le_trans (by show 1 * k.toNat≤1000;omega) (by decide:1000≤sizeLine)
theorem zdh {K:PySem.W.Frag} {H:Hp}:∀ {ts:List Tie} {ws:List V} {k:Nat},IsAll K H (ts.map tieD) ws->k < ts.length->∃ a,ws[k]?=some (.ref a)∧H a=some (.tup [.int (tieAt ts k).1,.int (tieAt ts k).2.1,.int (tieAt ts k).2.2])
 | t::r,ws,0,h,_=>by
  obtain⟨v,vs,rfl,h1,_⟩:=h
  obtain⟨a,xs,rfl,ha,hx⟩:=h1
  have e:xs=(tieI t).map V.int:=IsAll.of_ints (ns:=tieI t) hx
  subst e
  exact⟨a,rfl,ha⟩
 | t::r,ws,k + 1,h,hk=>by
  obtain⟨v,vs,rfl,_,h2⟩:=h
  obtain⟨a,e,ha⟩:=zdh (ts:=r) (ws:=vs) (k:=k) h2 (by simpa using hk)
  exact⟨a,e,ha⟩
theorem zf3 {K:PySem.W.Frag} {H:Hp} {ks:List Nat} {v:V} (h:Is K H (keepD ks) v):∃ p,v=.ref p∧H p=some (.tup ((keepI ks).map V.int)):=by
 obtain⟨p,vs,rfl,hp,hx⟩:=h
 have e:=IsAll.of_ints hx
 subst e
 exact⟨p,rfl,hp⟩
theorem zjn {ks:List Nat} {i:Nat} {x:V} (h:((keepI ks).map V.int)[i]?=some x):∃ k,ks[i]?=some k∧x=.int (k:Int):=by
 unfold keepI at h
 rw[List.map_map,List.getElem?_map] at h
 cases e:ks[i]? with
 | none=>rw[e] at h;cases h
 | some k=>rw[e] at h;cases h;exact⟨k,rfl,rfl⟩
theorem zn9 {H:Hp} {vs:List V} {cs:List (Option (Int × Int))} {i:Int} (h:CostL H vs cs) (h0:0≤i) (hi:i.toNat < cs.length):∃ v,atI vs i=some v∧CV H v (Far.get cs i.toNat):=by
 have hl:i.toNat < vs.length:=by rw[h.1];exact hi
 have e:vs[i.toNat]?=some vs[i.toNat]:=List.getElem?_eq_getElem hl
 exact⟨_,za2 h0 e,h.2 _ _ e⟩
def pows (m:Nat):List V:=(List.range m).map fun i=>V.int (2 ^ i)
theorem zq5 {m i:Nat} (h:i < m):(pows m)[i]?=some (.int (2 ^ i)):=by unfold pows;rw[List.getElem?_map,List.getElem?_range h];rfl
theorem zmx (m:Nat):pows (m + 1)=pows m++[.int (2 ^ m)]:=by unfold pows;rw[List.range_succ,List.map_append];rfl
theorem zr6 {i:Nat} (h:i < 60):(0:Int)≤2 ^ i∧(2:Int) ^ i≤2 ^ 60:=by
 have e:((2 ^ i:Nat):Int)=(2:Int) ^ i:=by norm_cast
 have:2 ^ i≤2 ^ 60:=Nat.pow_le_pow_right (by decide) (by omega)
 constructor
 ·rw[← e];exact Int.natCast_nonneg _
 ·rw[← e];exact_mod_cast this
def spWeights (K:PySem.W.Frag):Sp:=fun vs H Q _=>∃ n ts v,vs=[v]∧Is K H (webD n ts) v∧ts.length≤60∧∀ l H',Same H H'->H l=none->H' l=some (.lst (pows ts.length))->Q (.ref l) H'
def spCost (K:PySem.W.Frag):Sp:=fun vs H Q _=>∃ c x y l w,vs=[.ref c,.int l,.int w]∧H c=some (.tup [.int x,.int y])∧∀ t H',Same H H'->H' t=some (.tup [.int (x + l),.int (y + w)])->Q (.ref t) H'
/-- a web, a keep of it, a place -/
def WK (K:PySem.W.Frag) (H:Hp) (n:Int) (ts:List Tie) (ks:List Nat) (wv kv:V):Prop:=Is K H (webD n ts) wv∧WebOk n ts∧Is K H (keepD ks) kv∧KeepOk ts.length ks
theorem WK.same {K:PySem.W.Frag} {H H':Hp} {n:Int} {ts:List Tie} {ks:List Nat} {wv kv:V} (h:WK K H n ts ks wv kv) (s:Same H H'):WK K H' n ts ks wv kv:=⟨Is.same s _ h.1,h.2.1,Is.same s _ h.2.2.1,h.2.2.2⟩
def spReached (K:PySem.W.Frag):Sp:=fun vs H Q _=>∃ n ts ks wv kv r,vs=[wv,kv,.int r]∧WK K H n ts ks wv kv∧0≤r∧r < n ∧
 ∀ p lc la cvs avs cs H',Same H H'->H' p=some (.tup [.ref lc,.ref la])->H' lc=some (.lst cvs)->H' la=some (.lst avs)->CostL H' cvs cs->Far.Good (arcs ts ks) n.toNat r.toNat cs->Far.Stab (arcs ts ks) cs->Q (.ref p) H'
def spFars (K:PySem.W.Frag):Sp:=fun vs H Q _=>∃ n ts ks wv kv r,vs=[wv,kv,.int r]∧WK K H n ts ks wv kv∧0≤r∧r < n ∧
 ∀ l D H',Same H H'->H l=none->H' l=some (.lst (D.map ov))->D.length=n.toNat->(∀ v,v < n.toNat->Far.Dst (arcs ts ks) r.toNat v (Far.get D v))->Q (.ref l) H'
end L3
namespace HT
open PySem PyProof.Rows
open Sem (wp)
section
variable {prog:Program} {w:World} {A:Around} {E:Value->Shared->Prop} {s:Shared}
end
end HT
namespace L3
open PySem PySem.Spec PyProof.Rows L2
def absI (i:Int):Int:=if i < 0 then -i else i
def IntT (H:Hp) (p:Addr) (hs:List Int):Prop:=H p=some (.tup (hs.map V.int))∧hs.length≤1000
def AllI (xs:List V):Prop:=∃ ns:List Int,xs=ns.map V.int
theorem zed:∀ hs:List Int,PyData.canLayAll0 (hs.map .int)=true
 | []=>rfl
 | t::r=>by
  show (PyData.canLay0 (.int t) && PyData.canLayAll0 (r.map .int))=true
  rw[zed r]
  rfl
theorem zid:∀ hs:List Int,PyData.depthAll (hs.map .int)≤1
 | []=>Nat.zero_le _
 | t::r=>by
  show max (PyData.depth (.int t)) (PyData.depthAll (r.map .int))≤1
  have h1:=zid r
  have h2:PyData.depth (.int t)≤1:=Nat.le_trans (Nat.le_of_eq (by rfl:PyData.depth (.int t)=0)) (by decide)
  omega
section
variable {g:TG} {te:TE} {own:List Str} {js:List Nat} {σ:L2.St} {H1:Hp} {Q:VK}
end
end L3
namespace L3
open PySem PySem.Spec PyProof.Rows L2
section
variable {J:It} {g:TG} {tt:TT} {te:TE} {own:List Str} {js:List Nat} {σ:L2.St} {H1:Hp} {Q:VK}
/-- a test, nothing that stands is changed: item i gives sel i, or nothing -/
theorem zky (n:Nat) (Sg:L2.St->Prop) (sel:Nat->Option V) (hn:n≤1000) (h0:Sg (start3 own js σ))
  (go:∀ i H',i < n->Same H1 H'->J.go i H') (stop:∀ H',Same H1 H'->J.stop n H')
  (step:∀ i x σ' H' H2,i < n->Same H1 H'->J.yld i H' x H2->Sg σ'->∀ (C:L2.St->V->Hp->Prop) (L:L2.St->Hp->Prop),(∀ σ3 v H5,Sg σ3->Same H' H5->sel i=some v->C σ3 v H5)->(∀ σ3 H5,Sg σ3->Same H' H5->sel i=none->L σ3 H5) ->
   g x σ' H2 fun σ3 H3=>tt σ3 H3 fun b H4=>if b=true then te σ3 H4 fun v H5=>C σ3 v H5 else L σ3 H4)
  (fin:∀ D H',H1 D=none->Same H1 H'->H' D=some (.lst ((List.range n).filterMap sel))->Q (.ref D) H'):CompGo own js g tt te σ Q J H1:=by
 intro D hD
 refine⟨fun i m ys σ' H'=>m=n - i∧i≤n∧Sg σ'∧Same H1 H'∧ys=(List.range i).filterMap sel,⟨n,rfl,Nat.zero_le _,h0,zal hD,rfl⟩,?_⟩
 rintro i m ys σ' H' ⟨rfl,hi,sg,sm,rfl⟩ hd
 have len:((List.range i).filterMap sel).length≤i:=by have:=List.length_filterMap_le sel (List.range i);rw[List.length_range] at this;exact this
 by_cases hlt:i < n
 ·refine .inr ⟨go i H' hlt sm,fun x H2 hy=>?_⟩
  refine step i x σ' H' H2 hlt sm hy sg
   (fun σ3 v H5=>H5 D=some (.lst ((List.range i).filterMap sel))∧((List.range i).filterMap sel).length < sizeLine∧∃ m',m' < n - i∧(m'=n - (i + 1)∧i + 1≤n∧Sg σ3∧Same H1 (upd H5 D (.lst ((List.range i).filterMap sel++[v])))∧(List.range i).filterMap sel++[v]=(List.range (i + 1)).filterMap sel))
   (fun σ3 H5=>H5 D=some (.lst ((List.range i).filterMap sel))∧∃ m',m' < n - i∧(m'=n - (i + 1)∧i + 1≤n∧Sg σ3∧Same H1 H5∧(List.range i).filterMap sel=(List.range (i + 1)).filterMap sel)) (fun σ3 v H5 sg3 s5 e=>?_) (fun σ3 H5 sg3 s5 e=>?_)
  ·refine⟨s5 _ _ hd,Nat.lt_of_le_of_lt (by omega:((List.range i).filterMap sel).length≤1000) (by decide),n - (i + 1),by omega,rfl,hlt,sg3,fun b o z=>?_,?_⟩
   ·rw[zap (zaj z hD)];exact s5 _ _ (sm _ _ z)
   ·rw[List.range_succ,List.filterMap_append];simp [e]
  ·refine⟨s5 _ _ hd,n - (i + 1),by omega,rfl,hlt,sg3,sm.trans s5,?_⟩
   rw[List.range_succ,List.filterMap_append];simp [e]
 ·have e:i=n:=by omega
  subst e
  exact .inl ⟨stop H' sm,fin D H' hD sm hd⟩
end
end L3
namespace Far
variable {A:List (Nat × Nat × Int)} {s:Nat}
def Con (A:List (Nat × Nat × Int)) (s v:Nat):Prop:=∃ x,Walk A s v x
noncomputable def rB (A:List (Nat × Nat × Int)) (s v:Nat):Bool:=@decide (Con A s v) (Classical.propDecidable _)
theorem Con.symm (S:Sym A) {v:Nat} (h:Con A s v):Con A v s:=let ⟨x,w⟩:=h;⟨x,w.back S⟩
end Far
namespace L3
open PySem PySem.Spec PyProof.Rows L2
def natV (ns:List Nat):List V:=ns.map fun v:Nat=>V.int (v:Int)
theorem za8 (ns:List Nat):natV ns=(keepI ns).map V.int:=by unfold natV keepI;rw[List.map_map];rfl
theorem zgc (p:Nat->Bool):∀ is:List Nat,is.filterMap (fun i=>if p i=true then some (V.int (i:Int)) else none)=natV (is.filter p)
 | []=>rfl
 | i::r=>by
  rw[List.filterMap_cons,List.filter_cons]
  cases e:p i with
  | true=>rw[if_pos rfl,if_pos rfl,zgc p r];rfl
  | false=>rw[if_neg Bool.false_ne_true,if_neg Bool.false_ne_true,zgc p r]
theorem IsAll.snoc {K:PySem.W.Frag} {H:Hp} {d:PyData} {v:V} (hv:Is K H d v):∀ {ds:List PyData} {vs:List V},IsAll K H ds vs->IsAll K H (ds++[d]) (vs++[v])
 | [],_,h=>by
  have e:_=[]:=h
  subst e
  exact⟨v,[],rfl,hv,rfl⟩
 | _::_,_,⟨u,r,e,h1,h2⟩=>by
  subst e
  exact⟨u,r++[v],rfl,h1,IsAll.snoc hv h2⟩
theorem zgr {a:Int} (h:0≤a) (ns:List Nat):inV (.int a) (natV ns)=decide (a.toNat ∈ ns):=by
 unfold inV natV
 rw[List.any_map,Bool.eq_iff_iff,List.any_eq_true,decide_eq_true_iff]
 constructor
 ·rintro ⟨v,hv,e⟩
  have e':((v:Int) == a)=true:=e
  have:(v:Int)=a:=by simpa using e'
  have e2:a.toNat=v:=by omega
  rw[e2];exact hv
 ·intro m
  exact⟨_,m,show (((a.toNat:Nat):Int) == a)=true by rw[Int.toNat_of_nonneg h];simp⟩
theorem zc9 (ns:List Nat):(natV ns).all flatV=true:=by
 unfold natV;rw[List.all_map];exact List.all_eq_true.mpr fun _ _=>rfl
end L3
namespace Srt
open PySem PySem.Spec PyProof.Rows PySem.W
section
variable {prog:Program} {w:World} {A:Around} {E:Value->Shared->Prop} {s:Shared}
/-- sorted(x), x what collect makes vs of -/
theorem zlh {x:Value} {vs:List Value} {Q:Value->Shared->Prop} {r:Nat->Int} {κ:SortKind} (h64:vs.length < 64)
  (hcol:∀ (A':Around) (E':Value->Shared->Prop) (Q':List Value->Shared->Prop),(∀ h',(∀ b o,s.heap.get? b=some o->h'.get? b=some o)->Q' vs { s with heap:=h' })->wpAny (model prog w) A' (collect x) Q' E' s)
  (hk:2≤vs.length->∀ (A':Around) (s':Shared) (Q:SortKind->Shared->Prop),(∀ b o,s.heap.get? b=some o->s'.heap.get? b=some o)->Q κ s'->wpAny (model prog w) A' (keyKind' vs.toArray) Q (fun _ _=>False) s')
  (hc:∀ (A':Around) (s':Shared) (i j:Nat) (C:Bool->Shared->Prop),(∀ b o,s.heap.get? b=some o->s'.heap.get? b=some o)->i < vs.length->j < vs.length->C (decide (r i < r j)) s'->kas_ask prog w A' κ vs i j C s')
  (h:∀ (p:Array Nat) (h':Heap) (c:Nat) (g:Heap),Gd vs.length p->Up r p vs.length->(∀ b o,s.heap.get? b=some o->g.get? b=some o)->(∀ b o,g.get? b=some o->h'.get? b=some o)->h'.get? g.objs.size=some (seqObj "list" (outOf vs p).toArray c)->Q (.ref g.objs.size) { s with heap:=h' }) :
  wpAny (model prog w) A (call (.builtin "sorted") [x]) Q E s:=by
 have line:(64:Nat)≤sizeLine:=by rw[sizeLine_eq];decide
 refine Calls.call_function_entry kind_sorted plain_sorted entry_sorted (args_sorted1 _) ?_
 unfold Builtin.«sorted»
 refine wpAny_bind (m:=checkCount "sorted" 1 1 _) (wpAny_pure (wpAny_bind (hcol _ _ _ fun g k1=>wpAny_bind (wpAny_newList ?_ (by omega)))))
 have hoL:(g.push { cls:=.type "list",data:=.seq vs.toArray }).get? g.objs.size=some (seqObj "list" vs.toArray 0):=Heap.get?_push_size _ rfl
 have k2:∀ b o,s.heap.get? b=some o->(g.push { cls:=.type "list",data:=.seq vs.toArray }).get? b=some o:=fun b o q=>Heap.get?_push_of_some _ (k1 b o q)
 have ne:∀ b o,s.heap.get? b=some o->b≠g.objs.size:=fun b o q=>Nat.ne_of_lt (Heap.lt_size (k1 b o q))
 have ne2:∀ b o,g.get? b=some o->b≠g.objs.size:=fun b o q=>Nat.ne_of_lt (Heap.lt_size q)
 show wpAny _ _ _ _ _ { s with heap:=g.push { cls:=.type "list",data:=.seq vs.toArray } }
 refine wpAny_bind (wpAny_holding (wpAny_call_entry slot_list_sort ⟨_,hoL,rfl⟩ entry_list_sort ?_ (args_list_sort _)))
 refine lsort (s:={ s with heap:=g.push { cls:=.type "list",data:=.seq vs.toArray } }) (r:=r) (κ:=κ) hoL h64 (fun h2 s' Q' st q=>hk h2 _ s' Q' (fun b o e=>st b o (ne b o e) (k2 b o e)) q)
  (fun s' i j C st hi hj q=>hc _ s' i j C (fun b o e=>st b o (ne b o e) (k2 b o e)) hi hj q) fun p h' c g1 u1 st e=>⟨_,rfl,?_⟩
 exact wpAny_pure ⟨_,rfl,h p h' c g g1 u1 k1 (fun b o q=>st b o (ne2 b o q) (Heap.get?_push_of_some _ q)) e⟩
end
end Srt
namespace HT
open PySem PyProof.Rows
section
variable {prog:Program} {w:World} {A:Around} {E:Value->Shared->Prop} {s:Shared}
/-- all of a range, as a list -/
theorem zjx {Q:List Value->Shared->Prop} {r:Addr} {a b c:Int} {t u v:Tok} {n:Nat} (hh:A.handled=none) (hr:IsRange s.heap r a b c t u v) (hsmall:Builtin.Range.small a b c=true)
  (hn:Builtin.Range.rangeSize a b c=n) (hlen:n≤2 ^ 24)
  (hQ:∀ h' tk acc',(∀ b o,s.heap.get? b=some o->h'.get? b=some o)->ItemsOf (fun i v=>∃ t,v=.int (a + i * c) t) acc' n->Q acc'.toList { s with heap:=h',toks:=tk }) :
  wpAny (model prog w) A (collect (.ref r)) Q E s:=by
 unfold collect
 refine wpAny_bind (wpAny_runValue (codeAny_builtin PySem.F.entry_proto_collect ?_))
 rw[Around.under_plainId PySem.F.plain_proto_collect _]
 show wpAny _ A.in1 (newList [] >>= fun l=>again (.builtin "list.__iadd__" ⟨[l,.ref r],[]⟩)) _ _ s
 refine wpAny_bind (wpAny_newObj_type ?_)
 refine wpAny_pure ⟨plainId_quiet PySem.F.plain_list_iadd _,codeAny_builtin PySem.F.entry_list_iadd ?_⟩
 rw[Around.under_plainId PySem.F.plain_list_iadd _]
 show wpAny _ A.in1 (Builtin.List.listExtendWith (.ref s.heap.objs.size) (.ref r) (.ref s.heap.objs.size)) _ _ _
 have hS:(s.heap.push { cls:=.type "list",data:=.seq ([]:List Value).toArray }).get? s.heap.objs.size=some { cls:=.type "list",data:=.seq #[] }:=Heap.get?_push_size _ rfl
 have fin' : ∀ (h' : Heap) (tk : Nat) (acc' : Array Value) (c' : Nat), (∀ b o, s.heap.get? b = some o → h'.get? b = some o) → h'.get? s.heap.objs.size = some { cls := .type "list", dict := none, data := .seq acc' c', slots := #[] } → ItemsOf (fun i v => ∃ t, v = .int (a + i * c) t) acc' n →
     wpAny (model prog w) A (load s.heap.objs.size >>= fun o=>match o.data with | .seq xs _=>pure xs.toList | _=>unsupported "internal:collect") Q E { s with heap:=h',toks:=tk }:=fun h' tk acc' c' hk hS' hacc=>wpAny_bind (wpAny_load hS' (wpAny_pure (hQ h' tk acc' hk hacc)))
 refine wpAny_mono (wpAny_extend_range (A:=A) (R:=fun r s'=>r=.ok (.ret (.ref s.heap.objs.size))∧∃ (h':Heap) (tk:Nat) (acc':Array Value) (c':Nat),s'={ s with heap:=h',toks:=tk }∧(∀ b o,s.heap.get? b=some o->h'.get? b=some o)∧h'.get? s.heap.objs.size=some { cls:=.type "list",dict:=none,data:=.seq acc' c',slots:=#[] }∧ItemsOf (fun i v=>∃ t,v=.int (a + i * c) t) acc' n)
  (s:={ s with heap:=s.heap.push { cls:=.type "list",data:=.seq ([]:List Value).toArray } }) hh (Heap.get?_push_of_some _ hr) hsmall hn hlen s.heap.objs.size (.ref s.heap.objs.size) 0 hS fun h' tk acc' c' hk hS' hacc=>⟨rfl,h',tk,acc',c',rfl,fun b o e=>hk b o (Nat.ne_of_lt (Heap.lt_size e)) (Heap.get?_push_of_some _ e),hS',hacc⟩) (fun fin s' h=>?_) (fun e s' h=>?_)
 ·cases fin with
  | done f =>
   obtain⟨e,h',tk,acc',c',rfl,h1,h2,h3⟩:=h
   cases e
   exact fin' h' tk acc' c' h1 h2 h3
  | again c'=>exact⟨h.1,codeAny_mono h.2 fun r s'' hr=>by obtain⟨rfl,h',tk,acc',c',rfl,h1,h2,h3⟩:=hr;exact fin' h' tk acc' c' h1 h2 h3⟩
 ·exact absurd h.1 (by simp)
end
theorem zcv (r:Addr) (a b c:Int) (t u v:Tok) (n:Nat) (hsmall:Builtin.Range.small a b c=true) (hn:Builtin.Range.rangeSize a b c=n) (hlen:n≤1000) :
  Meets (Builtin.«tuple.__new__» ⟨[.type "tuple",.ref r],[]⟩)
   (fun A R s=>A.handled=none∧IsRange s.heap r a b c t u v∧∀ (h':Heap) (tk:Nat) (acc':Array Value),(∀ b o',s.heap.get? b=some o'->h'.get? b=some o')->ItemsOf (fun i v=>∃ t,v=.int (a + i * c) t) acc' n->R (.ok (.ret (.ref h'.objs.size))) { s with heap:=h'.push { cls:=.type "tuple",data:=.seq acc' },toks:=tk }) :=
 .of_wp fun prog w A R s h=>by
  obtain⟨hp,g,d,tk,os⟩:=s;obtain⟨hh,hr,h⟩:=h
  have hsub:=sub_tuple_self
  have hinit:=init_tuple_lookup
  have hmh:=madeHere_tuple
  have hT:Shared.TypeIs ⟨hp,g,d,tk,os⟩ (.ref r) "range":=⟨_,hr,rfl⟩
  wp_walk using wpAny_typeOf hT,zjx (A:=A.in1) hh hr hsmall hn (Nat.le_trans hlen (by decide))
  intro h' tk' acc' hk hacc
  show wpAny _ _ (Builtin.Tuple.tupleExact acc'.toList.toArray >>= fun v=>ret v) _ _ _
  unfold Builtin.Tuple.tupleExact
  have sz:acc'.size=n:=hacc.1
  refine wpAny_bind (wpAny_newObj_type ?_ (by show acc'.toList.toArray.size≤sizeLine;rw[show acc'.toList.toArray=acc' by simp,sz,sizeLine_eq];omega))
  refine wpAny_pure ⟨_,rfl,?_⟩
  have e:acc'.toList.toArray=acc':=by simp
  rw[e]
  exact h h' tk' acc' hk hacc
section
variable {prog:Program} {w:World} {A:Around} {E:Value->Shared->Prop} {s:Shared}
/-- tuple(range(..)) -/
theorem zd6 {Q:Value->Shared->Prop} {r:Addr} {a b c:Int} {t u v:Tok} {n:Nat} (hh:A.handled=none) (hr:IsRange s.heap r a b c t u v) (hsmall:Builtin.Range.small a b c=true)
  (hn:Builtin.Range.rangeSize a b c=n) (hlen:n≤1000)
  (hQ:∀ (h':Heap) (tk:Nat) (acc':Array Value),(∀ b o,s.heap.get? b=some o->h'.get? b=some o)->ItemsOf (fun i v=>∃ t,v=.int (a + i * c) t) acc' n->Q (.ref h'.objs.size) { s with heap:=h'.push { cls:=.type "tuple",data:=.seq acc' },toks:=tk }) :
  wpAny (model prog w) A (call (.type "tuple") [.ref r]) Q E s :=
 callType_new PySem.F.called_tuple (by decide) (PySem.F.typeCall_tuple_1 _) (PySem.F.newCall_tuple_1 _) (fun obj=>PySem.F.args_object_init_2 obj _) PySem.F.entry_tuple_new
  (zcv r a b c t u v n hsmall hn hlen) ⟨hh,hr,fun h' tk acc' hk hacc=>⟨⟨_,Heap.get?_push_size _ rfl,rfl⟩,hQ h' tk acc' hk hacc⟩⟩
end
end HT
namespace L3
open PySem PySem.Spec PyProof.Rows L2
section
variable {X:Cx}
/-- tuple(range(n)) -/
theorem zfn (hh:X.calm=true):CallR X (.type "tuple") (fun xs H Q=>∃ (p:Addr) (j:Int),xs=[.ref p]∧H p=some (.rng 0 j)∧0≤j∧j≤1000∧∀ l H',Same H H'->H l=none->H' l=some (.tup (natV (List.range j.toNat)))->Q (.ref l) H'):=by
 intro pins s σ H xs us Q I r h
 obtain⟨p,j,rfl,hp,hj0,hj,q⟩:=h
 obtain⟨u,rfl,rx⟩:=vals1 r
 cases rx
 obtain⟨t,u,v,e⟩:=(show ObjOk X.prog X.w H s.heap p (.rng 0 j) from I.hok p _ hp)
 refine HT.zd6 (n:=j.toNat) (I.ok.hd hh) (show IsRange s.heap p 0 j 1 t u v from e) (small_one (by omega) (by omega) (by omega) (by omega)) (by rw[rangeSize_one];split <;> omega) (by omega) fun h' tk acc hk hacc=>?_
 have I1:Inv X pins σ H { s with heap:=h',toks:=tk }:=I.kept (t':=tk) hk
 have fr:H h'.objs.size=none:=I1.hok.fresh (Nat.le_refl _)
 refine⟨.ref h'.objs.size,upd H h'.objs.size (.tup (natV (List.range j.toNat))),I1.laid (t':=tk) (o:=.tup (natV (List.range j.toNat))) (fun b o e=>Heap.get?_push_of_some _ e) (Nat.le_refl _) ⟨?_,acc.toList,?_,(by rw[show acc.toList.toArray=acc by simp];exact⟨_,Heap.get?_push_size _ rfl,rfl,⟨_,rfl⟩,rfl⟩)⟩,rfl,q _ _ (zal fr) fr zag⟩
 ·unfold natV;rw[List.length_map,List.length_range,sizeLine_eq];omega
 ·have go:∀ (n:Nat) (l:List Value),l.length=n->(∀ (k:Nat) (v:Value),l[k]?=some v->∃ t,v=Value.int (0 + (k:Int) * 1) t)->Vals ((List.range n).map fun i:Nat=>V.int (i:Int)) l:=by
   intro n l hl hv
   have gen:∀ (l:List Value) (o:Nat),(∀ (k:Nat) (v:Value),l[k]?=some v->∃ t,v=Value.int ((o + k:Nat):Int) t)->Vals ((List.range' o l.length).map fun i:Nat=>V.int (i:Int)) l:=by
    intro l
    induction l with
    | nil=>intro o _;exact .nil
    | cons x r ih =>
     intro o h
     rw[List.length_cons,List.range'_succ,List.map_cons]
     obtain⟨t,ht⟩:=h 0 x rfl
     refine .cons ⟨t,by simpa using ht⟩ (ih (o + 1) fun k v hk=>?_)
     obtain⟨t,ht⟩:=h (k + 1) v (by simpa using hk)
     exact⟨t,by rw[ht];congr 1;omega⟩
   have:=gen l 0 fun k v hk=>by
    obtain⟨t,ht⟩:=hv k v hk
    exact⟨t,by rw[ht];congr 1;omega⟩
   rw[hl,← List.range_eq_range'] at this
   exact this
  exact go j.toNat acc.toList (by rw[Array.length_toList];exact hacc.1) fun k v hv=>hacc.2 k v (by simpa using hv)
/-- sorted(t), t a tuple of whole numbers -/
theorem zdc:CallR X (.builtin "sorted") (fun xs H Q=>∃ p ns,xs=[.ref p]∧H p=some (.tup (ns.map V.int))∧ns.length < 64∧∀ ms:List Int,ms.Perm ns->ms.Pairwise (·≤·)->∀ l H',Same H H'->H l=none->H' l=some (.lst (ms.map V.int))->Q (.ref l) H'):=by
 intro pins s σ H xs us Q I r h
 obtain⟨p,ns,rfl,hq,h64,q⟩:=h
 obtain⟨u,rfl,rx⟩:=vals1 r
 cases rx
 obtain⟨its,rv,pl,hz⟩:=I.tuple (SqT.of hq)
 have hl:=rv.length
 rw[List.length_map] at hl
 have hI:IntsAre its ns:=zbm rv
 have line:(64:Nat)≤sizeLine:=by rw[sizeLine_eq];decide
 obtain⟨o,ho,hc,n,hd⟩:=id pl
 refine Srt.zlh (vs:=its) (r:=fun i=>ns.getD i 0) (κ:=oneType') (by omega) (fun A' E' Q' hQ=>?_) (fun h2 A' s' Q' _ q'=>Srt.zgq hI h2 q') (fun A' s' i j C _ hi hj q'=>Srt.zjq hI hi hj q') fun pp h' c gg g u kg kp e=>?_
 ·refine wpAny_collect_seq p (.inr rfl) ho hc hd (fun h' hk=>?_) (by rw[List.size_toArray];omega)
  exact hQ h' hk
 have g':Srt.Gd ns.length pp:=by rw[hl];exact g
 have u':Srt.Up (fun i=>ns.getD i 0) pp ns.length:=by rw[hl];exact u
 have pm:(pp.toList.map fun i=>ns.getD i 0).Perm ns:=by
  have:=ze4 g' fun i=>ns.getD i 0
  rw[zbf] at this
  exact this
 have pw:(pp.toList.map fun i=>ns.getD i 0).Pairwise (·≤·):=by
  rw[List.pairwise_map]
  exact zeh g' u' fun i j _ _ z=>z
 have I1:Inv X pins σ H { s with heap:=gg,toks:=s.toks }:=I.kept (t':=s.toks) kg
 have fr:H gg.objs.size=none:=I1.hok.fresh (Nat.le_refl _)
 have ev:((pp.toList.map fun i=>ns.getD i 0).map V.int)=pp.toList.map fun i=>(ns.map V.int).getD i .non:=by
  rw[List.map_map]
  refine List.map_congr_left fun i hi=>?_
  have:=zc8 g' i hi
  simp [List.getD,this]
 refine⟨.ref gg.objs.size,_,I1.laid (a:=gg.objs.size) (o:=.lst ((pp.toList.map fun i=>ns.getD i 0).map V.int)) (t':=s.toks) kp (Nat.le_refl _) ⟨?_,Srt.outOf its pp,c,?_,e⟩,rfl,q _ pm pw _ _ (zal fr) fr zag⟩
 ·have:=pm.length_eq
  rw[List.length_map,this];omega
 ·rw[ev]
  exact zcm rv pp.toList fun i hi=>by rw[List.length_map];exact zc8 g' i hi
end
section
variable {g:TG} {tt:TT} {te:TE} {own:List Str} {js:List Nat} {σ:L2.St} {H1:Hp} {Q:VK}
theorem ze6 {K:PySem.W.Frag} {a:Addr} {xs:List V} (hx:H1 a=some (.tup xs)) (Sg:L2.St->Prop) (sel:Nat->Option V) (hn:xs.length≤1000) (h0:Sg (start3 own js σ))
  (step:∀ i x σ' H',xs[i]?=some x->Same H1 H'->Sg σ'->∀ (C:L2.St->V->Hp->Prop) (L:L2.St->Hp->Prop),(∀ σ3 v H5,Sg σ3->Same H' H5->sel i=some v->C σ3 v H5)->(∀ σ3 H5,Sg σ3->Same H' H5->sel i=none->L σ3 H5) ->
   g x σ' H' fun σ3 H3=>tt σ3 H3 fun b H4=>if b=true then te σ3 H4 fun v H5=>C σ3 v H5 else L σ3 H4)
  (fin:∀ D H',H1 D=none->Same H1 H'->H' D=some (.lst ((List.range xs.length).filterMap sel))->Q (.ref D) H'):CompGo own js g tt te σ Q (Itt K a) H1:=by
 refine zky xs.length Sg sel hn h0 (fun i H' hi s=>⟨xs,xs[i],SqT.of (s _ _ hx),by simp [hi]⟩) (fun H' s=>⟨xs,SqT.of (s _ _ hx),Nat.le_refl _⟩) (fun i x σ' H' H2 hi s hy sg C L hC hL=>?_) fin
 obtain⟨rfl,hy⟩:=hy
 exact step i x σ' _ (hy xs (SqT.of (s _ _ hx))) s sg C L hC hL
end
def spWhole (K:PySem.W.Frag):Sp:=fun vs H Q _=>∃ n ts v,vs=[v]∧Is K H (webD n ts) v∧ts.length≤60∧∀ l H',Same H H'->H l=none->H' l=some (.tup (natV (List.range ts.length)))->Q (.ref l) H'
theorem zcj {ns:List Nat} {i:Nat} {x:V} (h:(natV ns)[i]?=some x):∃ k,ns[i]?=some k∧x=.int (k:Int):=by
 rw[za8] at h;exact zjn h
end L3
namespace Far
variable {A:List (Nat × Nat × Int)} {s:Nat}
/-- the places ahead -/
structure Ahd (A:List (Nat × Nat × Int)) (s:Nat) (cs:List (Option (Int × Int))) (as:List (Option Nat)):Prop where
 len:as.length=cs.length
 root:get as s=none
 has:∀ v c,get cs v=some c->v≠s->get as v≠none
 arc:∀ v u,get as v=some u->∃ l cu cv,(u,v,l) ∈ A∧get cs u=some cu∧get cs v=some cv∧cu.1 + l≤cv.1
/-- a way, as a list from its start -/
inductive Tr (A:List (Nat × Nat × Int)) (a:Nat):List Nat->Nat->Int->Prop
 | one:Tr A a [a] a 0
 | snoc {ws:List Nat} {u v:Nat} {x l:Int}:Tr A a ws u x->(u,v,l) ∈ A->Tr A a (ws++[v]) v (x + l)
/-- how many places are as far or further -/
def beyond (n:Nat) (cs:List (Option (Int × Int))) (d:Int):Nat:=(List.range n).countP fun v=>match get cs v with | none=>false | some c=>decide (d≤c.1)
theorem zog {n u:Nat} {cs:List (Option (Int × Int))} {cu:Int × Int} {d:Int} (hu:u < n) (e:get cs u=some cu) (h:cu.1 < d):beyond n cs d < beyond n cs cu.1:=by
 refine zcl (fun v _ hv=>?_) ⟨u,List.mem_range.mpr hu,?_,?_⟩
 ·cases e2:get cs v with
  | none=>rw[e2] at hv;cases hv
  | some c=>rw[e2] at hv;have:=of_decide_eq_true hv;exact decide_eq_true (by omega)
 ·rw[e];exact decide_eq_true (Int.le_refl _)
 ·rw[e];exact decide_eq_false (by omega)
theorem ziq (n:Nat) (cs:List (Option (Int × Int))) (d:Int):beyond n cs d≤n:=by
 have:=List.countP_le_length (p:=fun v=>match get cs v with | none=>false | some c=>decide (d≤c.1)) (l:=List.range n)
 rw[List.length_range] at this;exact this
theorem zlz {n u:Nat} {cs:List (Option (Int × Int))} {cu:Int × Int} (hu:u < n) (e:get cs u=some cu):1≤beyond n cs cu.1 :=
 List.countP_pos_iff.mpr ⟨u,List.mem_range.mpr hu,by rw[e];exact decide_eq_true (Int.le_refl _)⟩
end Far
namespace L3
open PySem PySem.Spec PyProof.Rows L2
def oa:Option Nat->V
 | none=>.non
 | some u=>.int (u:Int)
structure RA (H J:Hp) (lw lc la:Addr) (ws:List V) (cs:List (Option (Int × Int))) (as:List (Option Nat)):Prop where
 same:Same H J
 fc:H lc=none
 fa:H la=none
 nwc:lw≠lc
 nwa:lw≠la
 nca:lc≠la
 wl:J lw=some (.lst ws)
 co:∃ cvs,J lc=some (.lst cvs)∧CostL J cvs cs
 ah:J la=some (.lst (as.map oa))
section
variable {H H' J J':Hp} {vs cvs ws:List V} {cs:List (Option (Int × Int))} {as:List (Option Nat)} {lw lc la t:Addr} {k:Nat} {x y:Int}
theorem RA.step (h:RA H J lw lc la ws cs as) (s:Same J J'):RA H J' lw lc la ws cs as :=
 ⟨h.same.trans s,h.fc,h.fa,h.nwc,h.nwa,h.nca,s _ _ h.wl,let ⟨c,e,z⟩:=h.co;⟨c,s _ _ e,z.keep (zmj s)⟩,s _ _ h.ah⟩
theorem RA.put (h:RA H J lw lc la ws cs as) (hc:J lc=some (.lst cvs)) (hk:k < cvs.length) (ht:J t=some (.tup [.int x,.int y])):RA H (upd J lc (.lst (cvs.set k (.ref t)))) lw lc la ws (cs.set k (some (x,y))) as:=by
 obtain⟨c,e,z⟩:=h.co
 rw[hc] at e;cases e
 refine⟨fun b o eb=>?_,h.fc,h.fa,h.nwc,h.nwa,h.nca,?_,⟨_,zag,CostL.set (z.keep (zhj hc)) hk ⟨t,rfl,zhj hc _ _ ht⟩⟩,?_⟩
 ·rw[zap (zaj eb h.fc)];exact h.same _ _ eb
 ·rw[zap h.nwc];exact h.wl
 ·rw[zap h.nca.symm];exact h.ah
theorem RA.mark {u:Nat} (h:RA H J lw lc la ws cs as):RA H (upd J la (.lst ((as.map oa).set k (.int (u:Int))))) lw lc la ws cs (as.set k (some u)):=by
 obtain⟨c,e,z⟩:=h.co
 refine⟨fun b o eb=>?_,h.fc,h.fa,h.nwc,h.nwa,h.nca,?_,⟨c,?_,z.keep (zhj h.ah)⟩,?_⟩
 ·rw[zap (zaj eb h.fa)];exact h.same _ _ eb
 ·rw[zap h.nwa];exact h.wl
 ·rw[zap h.nca];exact e
 ·rw[zag,List.map_set];rfl
end
theorem zs1 {D:List (Option Nat)} {i:Nat} (h:i < D.length):(D.map oa)[i]?=some (oa (Far.get D i)):=by
 rw[List.getElem?_map,List.getElem?_eq_getElem h]
 unfold Far.get
 rw[List.getD_eq_getElem?_getD,List.getElem?_eq_getElem h];rfl
def isTB (ts:List Tie) (u v:Nat) (k:Nat):Bool:=decide ((tieAt ts k).1=min (u:Int) v) && decide ((tieAt ts k).2.1=max (u:Int) v)
def tbN (ts:List Tie) (u v:Nat):Option Nat:=(List.range ts.length).find? (isTB ts u v)
theorem zp7 {n:Int} {ts:List Tie} {ks:List Nat} (ok:WebOk n ts) (ko:KeepOk ts.length ks) {u v:Nat} {l:Int} (h:(u,v,l) ∈ arcs ts ks):∃ k,tbN ts u v=some k∧k < ts.length∧(tieAt ts k).2.2=l:=by
 obtain⟨k,hk,m⟩:=arcs_mem.mp h
 have hkl:=ko.2 k hk
 have tk:=ok.tie _ (zaz hkl).2
 have isk:isTB ts u v k=true∧(tieAt ts k).2.2=l:=by
  unfold isTB
  rcases arcs2_mem.mp m with e | e
  ·have e1:u=(tieAt ts k).1.toNat:=congrArg (·.1) e
   have e2:v=(tieAt ts k).2.1.toNat:=congrArg (·.2.1) e
   have e3:l=(tieAt ts k).2.2:=congrArg (·.2.2) e
   have eu:(u:Int)=(tieAt ts k).1:=by rw[e1];exact Int.toNat_of_nonneg tk.1
   have ev:(v:Int)=(tieAt ts k).2.1:=by rw[e2];exact Int.toNat_of_nonneg (Int.le_of_lt (Int.lt_of_le_of_lt tk.1 tk.2.1))
   rw[eu,ev,Int.min_eq_left (Int.le_of_lt tk.2.1),Int.max_eq_right (Int.le_of_lt tk.2.1)]
   exact⟨by rw[decide_eq_true rfl,decide_eq_true rfl];rfl,e3.symm⟩
  ·have e1:u=(tieAt ts k).2.1.toNat:=congrArg (·.1) e
   have e2:v=(tieAt ts k).1.toNat:=congrArg (·.2.1) e
   have e3:l=(tieAt ts k).2.2:=congrArg (·.2.2) e
   have eu:(u:Int)=(tieAt ts k).2.1:=by rw[e1];exact Int.toNat_of_nonneg (Int.le_of_lt (Int.lt_of_le_of_lt tk.1 tk.2.1))
   have ev:(v:Int)=(tieAt ts k).1:=by rw[e2];exact Int.toNat_of_nonneg tk.1
   rw[eu,ev,Int.min_eq_right (Int.le_of_lt tk.2.1),Int.max_eq_left (Int.le_of_lt tk.2.1)]
   exact⟨by rw[decide_eq_true rfl,decide_eq_true rfl];rfl,e3.symm⟩
 cases e:tbN ts u v with
 | none =>
  have:=List.find?_eq_none.mp e k (List.mem_range.mpr hkl)
  exact absurd isk.1 this
 | some k' =>
  have p:=List.find?_some e
  have hk':k' < ts.length:=List.mem_range.mp (List.mem_of_find?_eq_some e)
  refine⟨k',rfl,hk',?_⟩
  have same:k'=k:=by
   have q1:=p
   have q2:=isk.1
   unfold isTB at q1 q2
   rw[Bool.and_eq_true] at q1 q2
   have a1:=of_decide_eq_true q1.1
   have a2:=of_decide_eq_true q1.2
   have b1:=of_decide_eq_true q2.1
   have b2:=of_decide_eq_true q2.2
   have ri:=List.pairwise_iff_getElem.mp ok.rise
   have g:∀ j (hj:j < ts.length),ts[j]=tieAt ts j:=fun j hj=>by
    have:=(zaz hj).1
    rw[List.getElem?_eq_getElem hj] at this
    exact Option.some.inj this
   rcases Nat.lt_trichotomy k' k with z | z | z
   ·have:=ri k' k hk' hkl z
    rw[g k' hk',g k hkl] at this
    exact (this.elim (fun z=>Int.ne_of_lt z (a1.trans b1.symm)) fun z=>Int.ne_of_lt z.2 (a2.trans b2.symm)).elim
   ·exact z
   ·have:=ri k k' hkl hk' z
    rw[g k' hk',g k hkl] at this
    exact (this.elim (fun z=>Int.ne_of_lt z (b1.trans a1.symm)) fun z=>Int.ne_of_lt z.2 (b2.trans a2.symm)).elim
  rw[same];exact isk.2
def tlen (ts:List Tie) (u v:Nat):Int:=(tieAt ts ((tbN ts u v).getD 0)).2.2
def wl (ts:List Tie):List Nat->Int
 | u::v::r=>tlen ts u v + wl ts (v::r)
 | _=>0
def linked (ts:List Tie):List Nat->Prop
 | u::v::r=>(∃ k,tbN ts u v=some k∧k < ts.length)∧linked ts (v::r)
 | _=>True
theorem zmh {A:List (Nat × Nat × Int)} {a v:Nat} {ws:List Nat} {x:Int} (h:Far.Tr A a ws v x):∃ r,ws=r++[v]:=by
 cases h with
 | one=>exact⟨[],rfl⟩
 | snoc _ _=>exact⟨_,rfl⟩
theorem zma (ts:List Tie) (u v:Nat):∀ r:List Nat,wl ts (r++[u]++[v])=wl ts (r++[u]) + tlen ts u v
 | []=>by show tlen ts u v + 0=0 + tlen ts u v;omega
 | [a]=>by show tlen ts a u + (tlen ts u v + 0)=tlen ts a u + 0 + tlen ts u v;omega
 | a::b::r=>by
  have:=zma ts u v (b::r)
  show tlen ts a b + wl ts ((b::r)++[u]++[v])=tlen ts a b + wl ts ((b::r)++[u]) + tlen ts u v
  rw[this];omega
theorem zez (ts:List Tie) (u v:Nat) (h:∃ k,tbN ts u v=some k∧k < ts.length):∀ r:List Nat,linked ts (r++[u])->linked ts (r++[u]++[v])
 | [],_=>⟨h,trivial⟩
 | [a],hl=>⟨hl.1,h,trivial⟩
 | a::b::r,hl=>⟨hl.1,zez ts u v h (b::r) hl.2⟩
theorem zsz {n:Int} {ts:List Tie} {ks:List Nat} (ok:WebOk n ts) (ko:KeepOk ts.length ks) {a v:Nat} {ws:List Nat} {x:Int} (h:Far.Tr (arcs ts ks) a ws v x):wl ts ws=x∧linked ts ws:=by
 induction h with
 | one=>exact⟨rfl,trivial⟩
 | @snoc ws u v x l t m ih =>
  obtain⟨r,rfl⟩:=zmh t
  obtain⟨k,e1,e2,e3⟩:=zp7 ok ko m
  refine⟨?_,zez ts u v ⟨k,e1,e2⟩ r ih.2⟩
  rw[zma,ih.1]
  unfold tlen
  rw[e1]
  show x + (tieAt ts k).2.2=x + l
  rw[e3]
theorem zck {ts:List Tie}:∀ {ws:List Nat} {i u v:Nat},linked ts ws->ws[i]?=some u->ws[i + 1]?=some v->∃ k,tbN ts u v=some k∧k < ts.length
 | a::b::r,0,u,v,h,e1,e2=>by cases e1;cases e2;exact h.1
 | a::b::r,i + 1,u,v,h,e1,e2=>zck (ws:=b::r) (i:=i) h.2 (by simpa using e1) (by simpa using e2)
 | [a],0,u,v,_,_,e2=>by cases e2
 | [a],i + 1,u,v,_,e1,_=>by cases e1
 | [],i,u,v,_,e1,_=>by cases e1
/-- the numbers along a way -/
def alongN (ts:List Tie) (ws:List Nat):List Nat:=(List.range (ws.length - 1)).map fun i=>(tbN ts (ws.getD i 0) (ws.getD (i + 1) 0)).getD 0
def spTB (K:PySem.W.Frag):Sp:=fun vs H Q _=>∃ (n:Int) (ts:List Tie) (wv:V) (u v:Nat),vs=[wv,.int (u:Int),.int (v:Int)]∧Is K H (webD n ts) wv∧ts.length≤60∧∀ H',Same H H'->Q (oa (tbN ts u v)) H'
theorem zp4 {ts:List Tie} {ws:List Nat} (h:linked ts ws):∀ k ∈ alongN ts ws,k < ts.length:=fun k hk=>by
 unfold alongN at hk
 obtain⟨i,hi,rfl⟩:=List.mem_map.mp hk
 have hi':=List.mem_range.mp hi
 have e1:ws[i]?=some (ws.getD i 0):=by rw[List.getD_eq_getElem?_getD,List.getElem?_eq_getElem (by omega)];rfl
 have e2:ws[i + 1]?=some (ws.getD (i + 1) 0):=by rw[List.getD_eq_getElem?_getD,List.getElem?_eq_getElem (by omega)];rfl
 obtain⟨k,e,hk⟩:=zck h e1 e2
 rw[e];exact hk
theorem zo7 (a b x y:Int):PyData.eqv (.tuple (([a,b]:List Int).map .int)) (.tuple (([x,y]:List Int).map .int))=(decide (a=x) && decide (b=y)):=by
 show (_ && (_ && true))=_
 rw[Bool.and_true]
 rfl
def but (ks:List Nat) (k:Nat):List Nat:=ks.filter fun j=>decide (j≠k)
theorem zd9 (p:Nat->Bool) (ks:List Nat):(List.range ks.length).filterMap (fun i=>if p (ks.getD i 0)=true then some (V.int ((ks.getD i 0:Nat):Int)) else none)=natV (ks.filter p):=by
 have e:=congrArg (List.filterMap fun j:Nat=>if p j=true then some (V.int (j:Int)) else none) (zbf ks 0)
 rw[List.filterMap_map] at e
 exact e.trans (zgc p ks)
end L3
namespace Far
def sumP:List Nat->Nat
 | []=>0
 | k::r=>2 ^ k + sumP r
theorem zc0 {S S':List Nat} (h:S.Perm S'):sumP S=sumP S':=by
 induction h with
 | nil=>rfl
 | cons x _ ih=>show _ + _=_ + _;rw[ih]
 | swap x y l=>show 2 ^ y + (2 ^ x + sumP l)=2 ^ x + (2 ^ y + sumP l);omega
 | trans _ _ h1 h2=>exact h1.trans h2
theorem zi7 (S:List Nat):∀ T:List Nat,sumP (S++T)=sumP S + sumP T:=by
 intro T
 induction S with
 | nil=>show sumP T=0 + sumP T;omega
 | cons k r ih=>show 2 ^ k + sumP (r++T)=2 ^ k + sumP r + sumP T;rw[ih];omega
theorem zf9:∀ (m:Nat) {S:List Nat},S.Nodup->(∀ k ∈ S,k < m)->sumP S < 2 ^ m
 | 0,S,_,h=>by
  cases S with
  | nil=>exact Nat.zero_lt_one
  | cons k r=>exact absurd (h k List.mem_cons_self) (Nat.not_lt_zero _)
 | m + 1,S,nd,h=>by
  have e:2 ^ (m + 1)=2 ^ m + 2 ^ m:=by rw[Nat.pow_succ];omega
  by_cases c:m ∈ S
  ·have p:=List.perm_cons_erase c
   have nd':(m::S.erase m).Nodup:=p.nodup_iff.mp nd
   have:=zf9 m (S:=S.erase m) (List.nodup_cons.mp nd').2 fun k hk=>by
    have h1:=h k (List.mem_of_mem_erase hk)
    have h2:k≠m:=fun z=>(List.nodup_cons.mp nd').1 (z ▸ hk)
    omega
   rw[zc0 p,e]
   show 2 ^ m + sumP (S.erase m) < _
   omega
  ·have:=zf9 m nd fun k hk=>by
    have h1:=h k hk
    have h2:k≠m:=fun z=>c (z ▸ hk)
    omega
   omega
theorem zga:∀ (m:Nat) {S S':List Nat},S.Nodup->S'.Nodup->(∀ k ∈ S,k < m)->(∀ k ∈ S',k < m)->sumP S=sumP S'->∀ k,k ∈ S->k ∈ S'
 | 0,S,S',_,_,h,_,_,k,hk=>absurd (h k hk) (Nat.not_lt_zero _)
 | m + 1,S,S',nd,nd',h,h',e,k,hk=>by
  have lower:∀ {T:List Nat},T.Nodup->(∀ k ∈ T,k < m + 1)->m ∉ T->sumP T < 2 ^ m:=fun {T} n1 n2 n3=>zf9 m n1 fun j hj=>by
   have h1:=n2 j hj
   have h2:j≠m:=fun z=>n3 (z ▸ hj)
   omega
  by_cases c:m ∈ S
  ·have p:=List.perm_cons_erase c
   have ndp:(m::S.erase m).Nodup:=p.nodup_iff.mp nd
   have e1:sumP S=2 ^ m + sumP (S.erase m):=zc0 p
   by_cases c':m ∈ S'
   ·have p':=List.perm_cons_erase c'
    have ndp':(m::S'.erase m).Nodup:=p'.nodup_iff.mp nd'
    have e2:sumP S'=2 ^ m + sumP (S'.erase m):=zc0 p'
    by_cases z:k=m
    ·rw[z];exact c'
    ·have lt:∀ {T:List Nat},(m::T.erase m).Nodup->(∀ k ∈ T,k < m + 1)->∀ j ∈ T.erase m,j < m:=fun {T} n1 n2 j hj=>by
      have h1:=n2 j (List.mem_of_mem_erase hj)
      have h2:j≠m:=fun y=>(List.nodup_cons.mp n1).1 (y ▸ hj)
      omega
     have:=zga m (List.nodup_cons.mp ndp).2 (List.nodup_cons.mp ndp').2 (lt ndp h) (lt ndp' h') (by omega) k ((List.mem_erase_of_ne z).mpr hk)
     exact List.mem_of_mem_erase this
   ·have:=lower nd' h' c'
    omega
  ·by_cases c':m ∈ S'
   ·have e2:sumP S'=2 ^ m + sumP (S'.erase m):=zc0 (List.perm_cons_erase c')
    have:=lower nd h c
    omega
   ·have lt:∀ {T:List Nat},(∀ k ∈ T,k < m + 1)->m ∉ T->∀ j ∈ T,j < m:=fun {T} n1 n2 j hj=>by
     have h1:=n1 j hj
     have h2:j≠m:=fun y=>n2 (y ▸ hj)
     omega
    exact zga m nd nd' (lt h c) (lt h' c') e k hk
abbrev Arc:=Nat × Nat × Int × Nat
inductive Rt (B:List Arc) (a:Nat):List Nat->List Nat->Nat->Int->Int->Prop
 | one:Rt B a [a] [] a 0 0
 | snoc {ws S:List Nat} {u v:Nat} {x y l:Int} {k:Nat}:Rt B a ws S u x y->(u,v,l,k) ∈ B->v ∉ ws->Rt B a (ws++[v]) (S++[k]) v (x + l) (y + 2 ^ k)
structure Keys (B:List Arc):Prop where
 sym:∀ u v l k,(u,v,l,k) ∈ B->(v,u,l,k) ∈ B
 key:∀ u v l u' v' l' k,(u,v,l,k) ∈ B->(u',v',l',k) ∈ B->l'=l∧((u'=u∧v'=v)∨(u'=v∧v'=u))
 ne:∀ u v l k,(u,v,l,k) ∈ B->u≠v
 pos:∀ u v l k,(u,v,l,k) ∈ B->1≤l
 few:∀ u v l k,(u,v,l,k) ∈ B->k < 60
variable {B:List Arc} {a b:Nat} {ws S:List Nat} {x y:Int}
theorem Rt.last (h:Rt B a ws S b x y):b ∈ ws:=by
 cases h with
 | one=>exact List.mem_singleton.mpr rfl
 | snoc _ _ _=>exact List.mem_append_right _ (List.mem_singleton.mpr rfl)
theorem Rt.ends (K:Keys B) (h:Rt B a ws S b x y):∀ k ∈ S,∃ u v l,(u,v,l,k) ∈ B∧u ∈ ws∧v ∈ ws:=by
 induction h with
 | one=>intro k hk;cases hk
 | @snoc ws S u v x y l k r m nv ih =>
  intro j hj
  rcases List.mem_append.mp hj with hj | hj
  ·obtain⟨p,q,l',h1,h2,h3⟩:=ih j hj
   exact⟨p,q,l',h1,List.mem_append_left _ h2,List.mem_append_left _ h3⟩
  ·rw[List.mem_singleton.mp hj]
   exact⟨u,v,l,m,List.mem_append_left _ r.last,List.mem_append_right _ (List.mem_singleton.mpr rfl)⟩
theorem Rt.fresh (K:Keys B) (h:Rt B a ws S b x y) {u v:Nat} {l:Int} {k:Nat} (m:(u,v,l,k) ∈ B) (nv:v ∉ ws):k ∉ S:=fun hk=>by
 obtain⟨p,q,l',m',hp,hq⟩:=h.ends K k hk
 rcases (K.key _ _ _ _ _ _ _ m m').2 with ⟨e1,e2⟩ | ⟨e1,e2⟩
 ·exact nv (e2 ▸ hq)
 ·exact nv (e1 ▸ hp)
theorem Rt.nodup (K:Keys B) (h:Rt B a ws S b x y):S.Nodup:=by
 induction h with
 | one=>exact List.nodup_nil
 | @snoc ws S u v x y l k r m nv ih =>
  refine List.nodup_append.mpr ⟨ih,by simp,fun p hp q hq z=>?_⟩
  rw[List.mem_singleton.mp hq] at z
  exact r.fresh K m nv (z ▸ hp)
theorem Rt.small (K:Keys B) (h:Rt B a ws S b x y):∀ k ∈ S,k < 60:=fun k hk=>let ⟨u,v,l,m,_⟩:=h.ends K k hk;K.few u v l k m
theorem Rt.sum (h:Rt B a ws S b x y):y=(sumP S:Nat):=by
 induction h with
 | one=>rfl
 | @snoc ws S u v x y l k r m nv ih =>
  rw[zi7,ih]
  show ((sumP S:Nat):Int) + 2 ^ k=((sumP S + (2 ^ k + 0):Nat):Int)
  have:((2 ^ k:Nat):Int)=(2:Int) ^ k:=by norm_cast
  omega
theorem Rt.lt (K:Keys B) (h:Rt B a ws S b x y):0≤y∧y < 2 ^ 60:=by
 have e:=h.sum
 have:=zf9 60 (h.nodup K) (h.small K)
 have e2:((2 ^ 60:Nat):Int)=(2:Int) ^ 60:=by norm_cast
 omega
/-- the same sum of powers: the same route -/
theorem Rt.unique (K:Keys B) (h:Rt B a ws S b x y):∀ {ws' S':List Nat} {x':Int},Rt B a ws' S' b x' y->ws'=ws∧x'=x:=by
 induction h with
 | one =>
  intro ws' S' x' r
  generalize ey:(0:Int)=yy at r
  cases r with
  | one=>exact⟨rfl,rfl⟩
  | @snoc ws0 S0 u _ x0 y0 l k r m nv =>
   have p:=r.lt K
   have:(0:Int) < 2 ^ k:=Int.pow_pos (by decide)
   omega
 | @snoc ws0 S0 u v x0 y0 l k r m nv ih =>
  intro ws' S' x' r'
  have full:Rt B a (ws0++[v]) (S0++[k]) v (x0 + l) (y0 + 2 ^ k):=.snoc r m nv
  have se:sumP S'=sumP (S0++[k]):=by
   have e1:=r'.sum
   have e2:=full.sum
   omega
  have sub:=zga 60 (r'.nodup K) (full.nodup K) (r'.small K) (full.small K) se
  generalize ey:y0 + 2 ^ k=yy at r'
  cases r' with
  | one =>
   have p:=r.lt K
   have:(0:Int) < 2 ^ k:=Int.pow_pos (by decide)
   omega
  | @snoc ws1 S1 u1 _ x1 y1 l1 k1 r1 m1 nv1 =>
   have in1:=sub k1 (List.mem_append_right _ (List.mem_singleton.mpr rfl))
   have k1k:k1=k:=by
    rcases List.mem_append.mp in1 with z | z
    ·exact absurd z (r.fresh K m1 nv)
    ·exact List.mem_singleton.mp z
   subst k1k
   obtain⟨el,eu⟩:=K.key _ _ _ _ _ _ _ m m1
   have uu:u1=u:=by
    rcases eu with ⟨e,_⟩ | ⟨e,e'⟩
    ·exact e
    ·exact absurd e' (K.ne _ _ _ _ m).symm
   subst uu
   have yy1:y1=y0:=by omega
   subst yy1
   obtain⟨e1,e2⟩:=ih r1
   exact⟨by rw[e1],by rw[e2,el]⟩
theorem Rt.cons (K:Keys B) {u:Nat} {l:Int} {k:Nat} (m:(u,a,l,k) ∈ B) (h:Rt B a ws S b x y):u ∉ ws->Rt B u (u::ws) (k::S) b (x + l) (y + 2 ^ k):=by
 induction h with
 | one =>
  intro nu
  have:Rt B u ([u]++[a]) ([]++[k]) a (0 + l) (0 + 2 ^ k):=.snoc .one m (fun z=>nu (by rw[List.mem_singleton] at z ⊢;exact z.symm))
  exact this
 | @snoc ws S w v x y l' k' r m' nv ih =>
  intro nu
  have r2:=ih fun z=>nu (List.mem_append_left _ z)
  have:Rt B u ((u::ws)++[v]) ((k::S)++[k']) v (x + l + l') (y + 2 ^ k + 2 ^ k'):=.snoc r2 m' fun z=>by
   rcases List.mem_cons.mp z with z | z
   ·exact nu (List.mem_append_right _ (List.mem_singleton.mpr z.symm))
   ·exact nv z
  rw[Int.add_right_comm x l l',Int.add_right_comm y] at this
  exact this
theorem Rt.back (K:Keys B) (h:Rt B a ws S b x y):Rt B b ws.reverse S.reverse a x y:=by
 induction h with
 | one=>exact .one
 | @snoc ws S u v x y l k r m nv ih =>
  rw[List.reverse_append,List.reverse_append]
  exact ih.cons K (K.sym _ _ _ _ m) (fun z=>nv (List.mem_reverse.mp z))
end Far
namespace Far
structure Best (B:List Arc) (n s:Nat) (cs:List (Option (Int × Int))) (as:List (Option Nat)):Prop where
 len:cs.length=n
 alen:as.length=n
 start:get cs s=some (0,0)
 root:get as s=none
 has:∀ v c,get cs v=some c->v≠s->get as v≠none
 nn:∀ v c,get cs v=some c->0≤c.1
 stab:∀ u v l k c,(u,v,l,k) ∈ B->get cs u=some c->∃ c',get cs v=some c'∧¬ lt2 (c.1 + l,c.2 + 2 ^ k) c'
 arc:∀ v u,get as v=some u->∃ l k cu,(u,v,l,k) ∈ B∧get cs u=some cu∧get cs v=some (cu.1 + l,cu.2 + 2 ^ k)
/-- the way by the tree, from its root -/
inductive TPw (as:List (Option Nat)) (s:Nat):List Nat->Nat->Prop
 | root:TPw as s [s] s
 | step {ws:List Nat} {u v:Nat}:get as v=some u->TPw as s ws u->TPw as s (ws++[v]) v
section
variable {B:List Arc} {n s:Nat} {cs:List (Option (Int × Int))} {as:List (Option Nat)}
theorem Best.route (K:Keys B) (h:Best B n s cs as):∀ (m:Nat) (v:Nat) (c:Int × Int),get cs v=some c->c.1.toNat≤m->∃ ws S,Rt B s ws S v c.1 c.2∧TPw as s ws v∧∀ w ∈ ws,∃ cw,get cs w=some cw∧cw.1≤c.1:=by
 intro m
 induction m using Nat.strongRecOn with
 | ind m ih =>
  intro v c e hm
  by_cases vs:v=s
  ·subst vs
   rw[h.start] at e;cases e
   exact⟨[v],[],.one,.root,fun w hw=>by rw[List.mem_singleton.mp hw];exact⟨_,h.start,Int.le_refl _⟩⟩
  ·cases ea:get as v with
   | none=>exact absurd ea (h.has v c e vs)
   | some u =>
    obtain⟨l,k,cu,ma,eu,ev⟩:=h.arc v u ea
    rw[e] at ev;cases ev
    have l1:=K.pos _ _ _ _ ma
    have c0:=h.nn _ _ eu
    simp only at hm
    obtain⟨ws,S,r,tp,all⟩:=ih cu.1.toNat (by omega) u cu eu (Nat.le_refl _)
    have nv:v ∉ ws:=fun z=>by
     obtain⟨cw,e1,h1⟩:=all v z
     rw[e] at e1;cases e1
     simp only at h1;omega
    refine⟨ws++[v],S++[k],.snoc r ma nv,.step ea tp,fun w hw=>?_⟩
    rcases List.mem_append.mp hw with hw | hw
    ·obtain⟨cw,e1,h1⟩:=all w hw
     exact⟨cw,e1,by show cw.1≤cu.1 + l;omega⟩
    ·rw[List.mem_singleton.mp hw]
     exact⟨_,e,Int.le_refl _⟩
theorem Best.small (K:Keys B) (h:Best B n s cs as) {v:Nat} {c:Int × Int} (e:get cs v=some c):0≤c.2∧c.2 < 2 ^ 60:=by
 obtain⟨ws,S,r,_⟩:=h.route K _ v c e (Nat.le_refl _)
 exact r.lt K
/-- no route is less -/
theorem Best.least (h:Best B n s cs as) {ws S:List Nat} {v:Nat} {x y:Int} (r:Rt B s ws S v x y):∃ c,get cs v=some c∧¬ lt2 (x,y) c:=by
 induction r with
 | one=>exact⟨_,h.start,fun z=>by unfold lt2 at z;simp only at z;omega⟩
 | @snoc ws S u v x y l k r m nv ih =>
  obtain⟨c,e,hc⟩:=ih
  obtain⟨c',e',hc'⟩:=h.stab _ _ _ _ _ m e
  refine⟨c',e',fun z=>?_⟩
  unfold lt2 at *
  simp only at *
  omega
end
/-- lengths and powers in one number -/
def comb (c:Int × Int):Int:=c.1 * 2 ^ 61 + c.2
def arcsC (B:List Arc):List (Nat × Nat × Int):=B.map fun b=>(b.1,b.2.1,b.2.2.1 * 2 ^ 61 + 2 ^ b.2.2.2)
theorem arcsC_mem {B:List Arc} {u v:Nat} {L:Int}:(u,v,L) ∈ arcsC B↔∃ l k,(u,v,l,k) ∈ B∧L=l * 2 ^ 61 + 2 ^ k:=by
 unfold arcsC
 rw[List.mem_map]
 constructor
 ·rintro ⟨⟨a,b,l,k⟩,h,e⟩
  cases e
  exact⟨l,k,h,rfl⟩
 ·rintro ⟨l,k,h,rfl⟩
  exact⟨(u,v,l,k),h,rfl⟩
section
variable {B:List Arc} {n s:Nat} {cs:List (Option (Int × Int))} {as:List (Option Nat)}
theorem zqt (k:Nat):(1:Int)≤2 ^ k:=Int.pow_pos (by decide)
theorem zi4 (K:Keys B):Sym (arcsC B):=fun u v L h=>by
 obtain⟨l,k,m,rfl⟩:=arcsC_mem.mp h
 exact arcsC_mem.mpr ⟨l,k,K.sym _ _ _ _ m,rfl⟩
theorem Best.dst (K:Keys B) (h:Best B n s cs as) (v:Nat):Dst (arcsC B) s v ((get cs v).map comb):=by
 refine⟨fun y e=>?_,fun L w=>?_⟩
 ·cases ec:get cs v with
  | none=>rw[ec] at e;cases e
  | some c =>
   rw[ec] at e;cases e
   obtain⟨ws,S,r,_⟩:=h.route K _ v c ec (Nat.le_refl _)
   have go:∀ {ws S:List Nat} {v:Nat} {x y:Int},Rt B s ws S v x y->Walk (arcsC B) s v (comb (x,y)):=by
    intro ws S v x y r
    induction r with
    | one=>exact .nil
    | @snoc ws S u v x y l k r m nv ih =>
     have:=Walk.snoc ih (arcsC_mem.mpr ⟨l,k,m,rfl⟩)
     have e:comb (x + l,y + 2 ^ k)=comb (x,y) + (l * 2 ^ 61 + 2 ^ k):=by unfold comb;simp only;omega
     rw[e];exact this
   exact go r
 ·have:∃ c,get cs v=some c∧comb c≤L:=by
   induction w with
   | nil=>exact⟨_,h.start,by decide⟩
   | @snoc u v l x w m ih =>
    obtain⟨c,e,hc⟩:=ih
    obtain⟨l',k,m',rfl⟩:=arcsC_mem.mp m
    obtain⟨c',e',hc'⟩:=h.stab _ _ _ _ _ m' e
    refine⟨c',e',?_⟩
    have s1:=h.small K e
    have s2:=h.small K e'
    have:=zqt k
    unfold comb at *
    unfold lt2 at hc'
    simp only at hc'
    omega
  obtain⟨c,e,hc⟩:=this
  exact⟨comb c,by rw[e];rfl,hc⟩
theorem zpv {c d:Int × Int} (hc:0≤c.2∧c.2 < 2 ^ 61) (hd:0≤d.2∧d.2 < 2 ^ 61) (e:comb c=comb d):c=d:=by
 unfold comb at e
 exact Prod.ext (by omega) (by omega)
end
end Far
namespace Far
variable {B:List Arc} {A:List (Nat × Nat × Int)} {n s:Nat}
structure Run (B:List Arc) (s:Nat) (cs:List (Option (Int × Int))) (as:List (Option Nat)):Prop where
 len:as.length=cs.length
 start:get cs s=some (0,0)
 root:get as s=none
 has:∀ v c,get cs v=some c->v≠s->get as v≠none
 arc:∀ v u,get as v=some u->∃ l k cu cv,(u,v,l,k) ∈ B∧get cs u=some cu∧get cs v=some cv∧¬ lt2 cv (cu.1 + l,cu.2 + 2 ^ k)
theorem Run.step {u v:Nat} {l:Int} {k:Nat} {cs:List (Option (Int × Int))} {as:List (Option Nat)} {c:Int × Int} (P:Pos A) (g:Good A n s cs) (a:Run B s cs as) (m:(u,v,l) ∈ A) (mB:(u,v,l,k) ∈ B) (hv:v < n) (hu:get cs u=some c)
  (h:get cs v=none∨∃ c',get cs v=some c'∧lt2 (c.1 + l,c.2 + 2 ^ k) c'):Run B s (cs.set v (some (c.1 + l,c.2 + 2 ^ k))) (as.set v (some u)):=by
 have hc:v < cs.length:=by rw[g.len];exact hv
 have ha:v < as.length:=by rw[a.len];exact hc
 have l1:=P _ _ _ m
 have c0:=(g.walk _ _ hu).nonneg P
 have vs:v≠s:=fun z=>by
  rw[z] at h
  rcases h with h | ⟨c',h,hl⟩
  ·rw[a.start] at h;cases h
  ·rw[a.start] at h;cases h
   unfold lt2 at hl;simp only at hl;omega
 have uv:u≠v:=fun z=>by
  rcases h with h | ⟨c',h,hl⟩
  ·rw[← z,hu] at h;cases h
  ·rw[← z,hu] at h;cases h
   unfold lt2 at hl;simp only at hl;omega
 refine⟨by rw[List.length_set,List.length_set];exact a.len,by rw[za6 hc,if_neg (Ne.symm vs)];exact a.start,?_,fun x d e hx=>?_,fun x y e=>?_⟩
 ·rw[za6 ha,if_neg (Ne.symm vs)];exact a.root
 ·rw[za6 ha]
  split
  ·exact fun z=>by cases z
  ·rename_i xv
   rw[za6 hc,if_neg xv] at e
   exact a.has x d e hx
 ·rw[za6 ha] at e
  split at e
  ·rename_i z;subst z;cases e
   refine⟨l,k,c,_,mB,by rw[za6 hc,if_neg uv];exact hu,by rw[za6 hc,if_pos rfl],fun z=>?_⟩
   unfold lt2 at z;omega
  ·rename_i xv
   obtain⟨l',k',cu,cv,m',e1,e2,hle⟩:=a.arc x y e
   by_cases yv:y=v
   ·subst yv
    refine⟨l',k',_,cv,m',by rw[za6 hc,if_pos rfl],by rw[za6 hc,if_neg xv];exact e2,fun z=>?_⟩
    rcases h with h | ⟨c',h,hl⟩
    ·rw[h] at e1;cases e1
    ·rw[h] at e1;cases e1
     unfold lt2 at hl hle z
     simp only at hl hle z
     omega
   ·exact⟨l',k',cu,cv,m',by rw[za6 hc,if_neg yv];exact e1,by rw[za6 hc,if_neg xv];exact e2,hle⟩
theorem Run.first (hs:s < n):Run B s ((List.replicate n none).set s (some (0,0))) (List.replicate n none):=by
 have hl:s < (List.replicate n (none:Option (Int × Int))).length:=by rw[List.length_replicate];exact hs
 refine⟨by rw[List.length_set,List.length_replicate,List.length_replicate],by rw[za6 hl,if_pos rfl],zdl _ _,fun v c e hv=>?_,fun v u e=>?_⟩
 ·rw[za6 hl,if_neg hv,zdl] at e;cases e
 ·rw[zdl] at e;cases e
def Stab2 (B:List Arc) (cs:List (Option (Int × Int))):Prop:=∀ u v l k c,(u,v,l,k) ∈ B->get cs u=some c->∃ c',get cs v=some c'∧¬ lt2 (c.1 + l,c.2 + 2 ^ k) c'
def PS2 (c0:List (Option (Int × Int))) (R:Arc->Prop) (cs:List (Option (Int × Int))) (ag:Bool):Prop :=
 (ag=false∧cs=c0∧∀ u v l k c,R (u,v,l,k)->get c0 u=some c->∃ c',get c0 v=some c'∧¬ lt2 (c.1 + l,c.2 + 2 ^ k) c')∨(ag=true∧mu cs < mu c0)
def plusA (R:Arc->Prop) (a:Arc):Arc->Prop:=fun b=>R b∨b=a
section
variable {c0 cs:List (Option (Int × Int))} {R R':Arc->Prop} {ag:Bool} {u v k:Nat} {l:Int}
theorem PS2.less (h:PS2 c0 R cs ag) (z:∀ a,R' a->R a):PS2 c0 R' cs ag:=h.elim (fun ⟨a,b,c⟩=>.inl ⟨a,b,fun u v l k c' y=>c u v l k c' (z _ y)⟩) .inr
theorem PS2.no (h:PS2 c0 R cs ag) (hu:get cs u=none):PS2 c0 (plusA R (u,v,l,k)) cs ag:=by
 rcases h with ⟨a,b,c⟩ | h
 ·refine .inl ⟨a,b,fun u' v' l' k' c' z e=>?_⟩
  rcases z with z | z
  ·exact c _ _ _ _ _ z e
  ·cases z;rw[← b,hu] at e;cases e
 ·exact .inr h
theorem PS2.old (h:PS2 c0 R cs ag) {c d:Int × Int} (hu:get cs u=some c) (hv:get cs v=some d) (hn:¬ lt2 (c.1 + l,c.2 + 2 ^ k) d):PS2 c0 (plusA R (u,v,l,k)) cs ag:=by
 rcases h with ⟨a,b,z⟩ | h
 ·refine .inl ⟨a,b,fun u' v' l' k' c' y e=>?_⟩
  rcases y with y | y
  ·exact z _ _ _ _ _ y e
  ·cases y
   subst b
   rw[hu] at e;cases e
   exact⟨d,hv,hn⟩
 ·exact .inr h
theorem PS2.put (h:PS2 c0 R cs ag) {cs':List (Option (Int × Int))} (hm:mu cs' < mu cs):PS2 c0 (plusA R (u,v,l,k)) cs' true:=by
 rcases h with ⟨a,b,c⟩ | h
 ·exact .inr ⟨rfl,by rw[← b];exact hm⟩
 ·exact .inr ⟨rfl,Nat.lt_trans hm h.2⟩
end
theorem Run.best {cs:List (Option (Int × Int))} {as:List (Option Nat)} (P:Pos A) (g:Good A n s cs) (r:Run B s cs as) (st:Stab2 B cs):Best B n s cs as:=by
 refine⟨g.len,by rw[r.len];exact g.len,r.start,r.root,r.has,fun v c e=>(g.walk v c e).nonneg P,st,fun v u e=>?_⟩
 obtain⟨l,k,cu,cv,m,e1,e2,n1⟩:=r.arc v u e
 obtain⟨c',e3,n2⟩:=st _ _ _ _ _ m e1
 rw[e2] at e3;cases e3
 refine⟨l,k,cu,m,e1,?_⟩
 rw[e2]
 congr 1
 unfold lt2 at n1 n2
 simp only at n1 n2
 exact Prod.ext (by show cv.1=cu.1 + l;omega) (by show cv.2=cu.2 + 2 ^ k;omega)
end Far
namespace Far
def arcsF (B:List Arc):List (Nat × Nat × Int):=B.map fun b=>(b.1,b.2.1,b.2.2.1)
theorem arcsF_mem {B:List Arc} {u v:Nat} {l:Int}:(u,v,l) ∈ arcsF B↔∃ k,(u,v,l,k) ∈ B:=by
 unfold arcsF
 rw[List.mem_map]
 constructor
 ·rintro ⟨⟨a,b,l',k⟩,h,e⟩
  cases e
  exact⟨k,h⟩
 ·rintro ⟨k,h⟩
  exact⟨(u,v,l,k),h,rfl⟩
section
variable {B:List Arc} {n s:Nat} {cs:List (Option (Int × Int))} {as:List (Option Nat)} {a b:Nat} {ws S:List Nat} {x y:Int}
theorem zmi {v:Nat} {ws ws':List Nat} (hr:get as s=none) (t:TPw as s ws v):TPw as s ws' v->ws'=ws:=by
 induction t generalizing ws' with
 | root =>
  intro t'
  cases t' with
  | root=>rfl
  | step e _=>rw[hr] at e;cases e
 | step e t ih =>
  intro t'
  cases t' with
  | root=>rw[hr] at e;cases e
  | step e' t'=>rw[e] at e';cases e';rw[ih t']
theorem Best.rt (K:Keys B) (h:Best B n s cs as) {v:Nat} {c:Int × Int} (t:TPw as s ws v) (e:get cs v=some c):∃ S,Rt B s ws S v c.1 c.2:=by
 obtain⟨w1,S1,r1,p1,_⟩:=h.route K _ v c e (Nat.le_refl _)
 rw[zmi h.root p1 t]
 exact⟨S1,r1⟩
theorem Rt.walk (r:Rt B a ws S b x y):Walk (arcsF B) a b x:=by
 induction r with
 | one=>exact .nil
 | snoc r m nv ih=>exact .snoc ih (arcsF_mem.mpr ⟨_,m⟩)
theorem Rt.tr (r:Rt B a ws S b x y):Tr (arcsF B) a ws b x:=by
 induction r with
 | one=>exact .one
 | snoc r m nv ih=>exact .snoc ih (arcsF_mem.mpr ⟨_,m⟩)
theorem Best.dst1 (K:Keys B) (h:Best B n s cs as) (v:Nat):Dst (arcsF B) s v ((get cs v).map (·.1)):=by
 refine⟨fun y e=>?_,fun L w=>?_⟩
 ·cases ec:get cs v with
  | none=>rw[ec] at e;cases e
  | some c =>
   rw[ec] at e;cases e
   obtain⟨ws,S,r,_⟩:=h.route K _ v c ec (Nat.le_refl _)
   exact r.walk
 ·have:∃ c,get cs v=some c∧c.1≤L:=by
   induction w with
   | nil=>exact⟨_,h.start,Int.le_refl _⟩
   | @snoc u v l x w m ih =>
    obtain⟨c,e,hc⟩:=ih
    obtain⟨k,m'⟩:=arcsF_mem.mp m
    obtain⟨c',e',hc'⟩:=h.stab _ _ _ _ _ m' e
    refine⟨c',e',?_⟩
    unfold lt2 at hc'
    simp only at hc'
    omega
  obtain⟨c,e,hc⟩:=this
  exact⟨c.1,by rw[e];rfl,hc⟩
theorem Rt.unlike (r:Rt B a ws S b x y):ws.Nodup:=by
 induction r with
 | one=>simp
 | snoc r m nv ih =>
  refine List.nodup_append.mpr ⟨ih,by simp,fun p hp q hq z=>?_⟩
  rw[List.mem_singleton.mp hq] at z
  exact nv (z ▸ hp)
/-- the least of the routes from a to b -/
structure Uni (B:List Arc) (a b:Nat) (ws S:List Nat) (x y:Int):Prop where
 rt:Rt B a ws S b x y
 least:∀ ws' S' x' y',Rt B a ws' S' b x' y'->¬ lt2 (x',y') (x,y)
/-- the way from a to b by the tree of b -/
theorem Best.uni (K:Keys B) (h:Best B n s cs as) {v:Nat} {c:Int × Int} (t:TPw as s ws.reverse v) (e:get cs v=some c):∃ S,Uni B v s ws S c.1 c.2:=by
 obtain⟨S,r⟩:=h.rt K t e
 have rb:=r.back K
 rw[List.reverse_reverse] at rb
 refine⟨_,rb,fun ws' S' x' y' r' z=>?_⟩
 obtain⟨c',e',n'⟩:=h.least (r'.back K)
 rw[e] at e';cases e'
 exact n' z
end
end Far
namespace L3
open PySem PySem.Spec PyProof.Rows L2
def arcs2B (t:Tie) (k:Nat):List Far.Arc:=[(t.1.toNat,t.2.1.toNat,t.2.2,k),(t.2.1.toNat,t.1.toNat,t.2.2,k)]
def arcsB (ts:List Tie) (ks:List Nat):List Far.Arc:=ks.flatMap fun k=>arcs2B (tieAt ts k) k
theorem arcsB_mem {ts:List Tie} {ks:List Nat} {a:Far.Arc}:a ∈ arcsB ts ks↔∃ k,k ∈ ks∧a ∈ arcs2B (tieAt ts k) k:=by
 unfold arcsB;rw[List.mem_flatMap]
theorem arcs2B_mem {t:Tie} {k:Nat} {a:Far.Arc}:a ∈ arcs2B t k↔a=(t.1.toNat,t.2.1.toNat,t.2.2,k)∨a=(t.2.1.toNat,t.1.toNat,t.2.2,k):=by
 unfold arcs2B;simp
theorem zl5 {ts:List Tie} {ks:List Nat} {i k:Nat} (h:ks[i]?=some k) {a:Far.Arc} (m:a ∈ arcsB ts (ks.take (i + 1))):a ∈ arcsB ts (ks.take i)∨a ∈ arcs2B (tieAt ts k) k:=by
 obtain⟨j,hj,m⟩:=arcsB_mem.mp m
 rw[zmm h] at hj
 rcases List.mem_append.mp hj with hj | hj
 ·exact .inl (arcsB_mem.mpr ⟨j,hj,m⟩)
 ·rw[List.mem_singleton.mp hj] at m;exact .inr m
theorem zcs {n:Int} {ts:List Tie} {ks:List Nat} (ok:WebOk n ts) (ko:KeepOk ts.length ks):Far.Keys (arcsB ts ks):=by
 have at_:∀ {u v l k},(u,v,l,k) ∈ arcsB ts ks->k < ts.length∧((u=(tieAt ts k).1.toNat∧v=(tieAt ts k).2.1.toNat)∨(u=(tieAt ts k).2.1.toNat∧v=(tieAt ts k).1.toNat))∧l=(tieAt ts k).2.2∧k ∈ ks:=fun {u v l k} h=>by
  obtain⟨j,hj,m⟩:=arcsB_mem.mp h
  rcases arcs2B_mem.mp m with e | e <;> cases e
  ·exact⟨ko.2 _ hj,.inl ⟨rfl,rfl⟩,rfl,hj⟩
  ·exact⟨ko.2 _ hj,.inr ⟨rfl,rfl⟩,rfl,hj⟩
 refine⟨fun u v l k h=>?_,fun u v l u' v' l' k h h'=>?_,fun u v l k h=>?_,fun u v l k h=>?_,fun u v l k h=>?_⟩
 ·obtain⟨_,e,rfl,hk⟩:=at_ h
  refine arcsB_mem.mpr ⟨k,hk,arcs2B_mem.mpr ?_⟩
  rcases e with ⟨rfl,rfl⟩ | ⟨rfl,rfl⟩
  ·exact .inr rfl
  ·exact .inl rfl
 ·obtain⟨_,e,rfl,_⟩:=at_ h
  obtain⟨_,e',rfl,_⟩:=at_ h'
  refine⟨rfl,?_⟩
  rcases e with ⟨rfl,rfl⟩ | ⟨rfl,rfl⟩ <;> rcases e' with ⟨rfl,rfl⟩ | ⟨rfl,rfl⟩
  ·exact .inl ⟨rfl,rfl⟩
  ·exact .inr ⟨rfl,rfl⟩
  ·exact .inr ⟨rfl,rfl⟩
  ·exact .inl ⟨rfl,rfl⟩
 ·obtain⟨hk,e,_,_⟩:=at_ h
  have:=ok.tie _ (zaz hk).2
  rcases e with ⟨rfl,rfl⟩ | ⟨rfl,rfl⟩ <;> omega
 ·obtain⟨hk,_,e,_⟩:=at_ h
  have:=ok.tie _ (zaz hk).2
  omega
 ·obtain⟨hk,_⟩:=at_ h
  have:=ok.few
  omega
theorem zp3 {n:Int} {ts:List Tie} {ks:List Nat} (ok:WebOk n ts) (ko:KeepOk ts.length ks) {u v k:Nat} {l:Int} (h:(u,v,l,k) ∈ arcsB ts ks):u < n.toNat∧v < n.toNat:=by
 obtain⟨j,hj,m⟩:=arcsB_mem.mp h
 have:=ok.tie _ (zaz (ko.2 j hj)).2
 rcases arcs2B_mem.mp m with e | e <;> cases e <;> omega
def spReachedB (K:PySem.W.Frag):Sp:=fun vs H Q _=>∃ n ts ks wv kv r,vs=[wv,kv,.int r]∧WK K H n ts ks wv kv∧0≤r∧r < n ∧
 ∀ (p lc la:Addr) (cvs:List V) (as:List (Option Nat)) (cs:List (Option (Int × Int))) (H':Hp),Same H H'->H' p=some (.tup [.ref lc,.ref la])->H' lc=some (.lst cvs)->H' la=some (.lst (as.map oa))->CostL H' cvs cs->Far.Best (arcsB ts ks) n.toNat r.toNat cs as->Q (.ref p) H'
def spTreeB (K:PySem.W.Frag):Sp:=fun vs H Q _=>∃ n ts ks wv kv r,vs=[wv,kv,.int r]∧WK K H n ts ks wv kv∧0≤r∧r < n ∧
 ∀ (p:Addr) (as:List (Option Nat)) (cs:List (Option (Int × Int))) (H':Hp),Same H H'->H' p=some (.tup (as.map oa))->Far.Best (arcsB ts ks) n.toNat r.toNat cs as->Q (.ref p) H'
/-- the way from a to b by the tree of b -/
def WayB (H:Hp) (B:List Far.Arc) (n a b:Nat) (v:V):Prop:=∃ cs as,Far.Best B n b cs as∧((v=.non∧Far.get cs a=none)∨∃ t ws c,v=.ref t∧H t=some (.tup (natV ws))∧ws.length≤24∧Far.get cs a=some c∧Far.TPw as b ws.reverse a)
def spWayB (K:PySem.W.Frag):Sp:=fun vs H Q _=>∃ n ts ks wv kv a b,vs=[wv,kv,.int a,.int b]∧WK K H n ts ks wv kv∧0≤a∧a < n∧0≤b∧b < n∧∀ v H',Same H H'->WayB H' (arcsB ts ks) n.toNat a.toNat b.toNat v->Q v H'
def oaD:Option Nat->PyData
 | none=>.none
 | some u=>.int (u:Int)
end L3
namespace HT
open PySem PyProof.Rows
section
variable {prog:Program} {w:World} {A:Around} {E:Value->Shared->Prop} {s:Shared}
/-- what set(..) of ns holds, how many -/
abbrev setS (ns:List Int) (m:Nat):Int->Bool:=fun x=>(firstMet (fun i=>ns.getD i 0) m).any fun y=>y == x
abbrev setN (ns:List Int) (m:Nat):Nat:=(firstMet (fun i=>ns.getD i 0) m).length
end
end HT
namespace L3
open PySem PySem.Spec PyProof.Rows L2
section
variable {X:Cx}
end
end L3
namespace L3
open PySem PySem.Spec PyProof.Rows L2
end L3
namespace L3
open PySem PySem.Spec PyProof.Rows L2
theorem zn1 {K:PySem.W.Frag} {a:Addr} {xs:List V} {t:Bool} {g:TG} {tb:TS} {D:Ends} {σ:L2.St} {H:Hp} (Pv:Nat->L2.St->Hp->Prop) (h0:Pv 0 σ H) (hl:∀ i σ H,i≤xs.length->Pv i σ H->SqX t K H a xs)
  (hs:∀ i x σ H,xs[i]?=some x->Pv i σ H->g x σ H fun σ2 H2=>tb { D with nx:=Pv (i + 1),ct:=Pv (i + 1),bk:=D.nx } σ2 H2) (hd:∀ σ H,Pv xs.length σ H->D.nx σ H) :
  ∃ W:Nat->Nat->L2.St->Hp->Prop,(∃ m,W 0 m σ H)∧∀ i m σ H,W i m σ H ->
   ((if t=true then Itt K a else Itl K a).stop i H∧D.nx σ H)∨((if t=true then Itt K a else Itl K a).go i H∧∃ N:L2.St->Hp->Prop,(∀ σ' H',N σ' H'->∃ m',m' < m∧W (i + 1) m' σ' H')∧∀ x H',(if t=true then Itt K a else Itl K a).yld i H x H'->g x σ H' fun σ2 H2=>tb { D with nx:=N,ct:=N,bk:=D.nx } σ2 H2):=by
 cases t with
 | true=>exact zcy Pv h0 hl hs hd
 | false=>exact zpk Pv h0 hl hs hd
end L3
namespace L3
open PySem PySem.Spec PyProof.Rows L2
theorem zce (ts:List Tie) (ks:List Nat):Far.arcsF (arcsB ts ks)=arcs ts ks:=by
 unfold arcs Far.arcsF arcsB
 rw[List.map_flatMap]
 rfl
theorem zi3 {n:Int} {ts:List Tie} {ks:List Nat} (ok:WebOk n ts) (ko:KeepOk ts.length ks):Far.Sym (arcs ts ks):=fun u v l h=>by
 rw[← zce] at h ⊢
 obtain⟨k,m⟩:=Far.arcsF_mem.mp h
 exact Far.arcsF_mem.mpr ⟨k,(zcs ok ko).sym _ _ _ _ m⟩
/-- what is reached, with the least costs and their tree, and the distances -/
def spReachedC (K:PySem.W.Frag):Sp:=fun vs H Q _=>∃ n ts ks wv kv r,vs=[wv,kv,.int r]∧WK K H n ts ks wv kv∧0≤r∧r < n ∧
 ∀ (p lc la:Addr) (cvs:List V) (as:List (Option Nat)) (cs:List (Option (Int × Int))) (H':Hp),Same H H'->H' p=some (.tup [.ref lc,.ref la])->H' lc=some (.lst cvs)->H' la=some (.lst (as.map oa))->CostL H' cvs cs->Far.Best (arcsB ts ks) n.toNat r.toNat cs as->Far.Good (arcs ts ks) n.toNat r.toNat cs->Far.Stab (arcs ts ks) cs->Q (.ref p) H'
theorem zmu {K:PySem.W.Frag} (vs:List V) (H:Hp) (Q:VK) (E:XK) (h:spReachedB K vs H Q E):spReachedC K vs H Q E:=by
 obtain⟨n,ts,ks,wv,kv,r,e,wk,r0,r1,q⟩:=h
 exact⟨n,ts,ks,wv,kv,r,e,wk,r0,r1,fun p lc la cvs as cs H' S h1 h2 h3 cl B _ _=>q p lc la cvs as cs H' S h1 h2 h3 cl B⟩
theorem zmt {K:PySem.W.Frag} (vs:List V) (H:Hp) (Q:VK) (E:XK) (h:spReached K vs H Q E):spReachedC K vs H Q E:=by
 obtain⟨n,ts,ks,wv,kv,r,e,wk,r0,r1,q⟩:=h
 exact⟨n,ts,ks,wv,kv,r,e,wk,r0,r1,fun p lc la cvs as cs H' S h1 h2 h3 cl _ g st=>q p lc la cvs _ cs H' S h1 h2 h3 cl g st⟩
theorem zqy {ts:List Tie} {ks:List Nat} {cs:List (Option (Int × Int))} (h:Far.Stab2 (arcsB ts ks) cs):Far.Stab (arcs ts ks) cs:=fun u v l c m e=>by
 rw[← zce] at m
 obtain⟨k,m⟩:=Far.arcsF_mem.mp m
 obtain⟨c',e',n'⟩:=h _ _ _ _ _ m e
 refine⟨c',e',?_⟩
 unfold Far.lt2 at n'
 simp only at n'
 omega
theorem zqv {n:Int} {ts:List Tie} {ks:List Nat} (ok:WebOk n ts) (ko:KeepOk ts.length ks) {u v k:Nat} {l:Int} (h:(u,v,l,k) ∈ arcsB ts ks):ks.filter (isTB ts u v)=[k]:=by
 have hk:k ∈ ks∧isTB ts u v k=true:=by
  obtain⟨j,hj,m⟩:=arcsB_mem.mp h
  have tk:=ok.tie _ (zaz (ko.2 j hj)).2
  unfold isTB
  rcases arcs2B_mem.mp m with e | e <;> cases e
  ·exact⟨hj,by rw[decide_eq_true (by omega),decide_eq_true (by omega)];rfl⟩
  ·exact⟨hj,by rw[decide_eq_true (by omega),decide_eq_true (by omega)];rfl⟩
 have one:∀ j ∈ ks,isTB ts u v j=true->j=k:=fun j hj p=>by
  have q:=hk.2
  have hjl:=ko.2 j hj
  have hkl:=ko.2 k hk.1
  unfold isTB at p q
  rw[Bool.and_eq_true] at p q
  have a1:=of_decide_eq_true p.1
  have a2:=of_decide_eq_true p.2
  have b1:=of_decide_eq_true q.1
  have b2:=of_decide_eq_true q.2
  exact zj9 ok hjl hkl (a1.trans b1.symm) (a2.trans b2.symm)
 have nd:ks.Nodup:=ko.1.imp fun h=>Nat.ne_of_lt h
 have nf:(ks.filter (isTB ts u v)).Nodup:=nd.sublist List.filter_sublist
 have mk:k ∈ ks.filter (isTB ts u v):=List.mem_filter.mpr hk
 have all:∀ j ∈ ks.filter (isTB ts u v),j=k:=fun j hj=>one j (List.mem_filter.mp hj).1 (List.mem_filter.mp hj).2
 match e:ks.filter (isTB ts u v) with
 | []=>rw[e] at mk;cases mk
 | [j]=>rw[all j (by rw[e];exact List.mem_cons_self)]
 | i::j::r =>
  rw[e] at nf all
  have h1:=all i List.mem_cons_self
  have h2:=all j (List.mem_cons_of_mem _ List.mem_cons_self)
  exact absurd (h1.trans h2.symm) (fun z=>(List.nodup_cons.mp nf).1 (by rw[z];exact List.mem_cons_self))
section
variable {own:List Str} {js:List Nat} {g:TG} {te:TE} {σ:L2.St} {Q:VK} {H1:Hp}
end
end L3
namespace L3
open PySem PySem.Spec PyProof.Rows L2
end L3
namespace L3
open PySem PySem.Spec PyProof.Rows L2
end L3
namespace HT
open PySem PyProof.Rows
section
variable {prog:Program} {w:World} {A:Around} {R:Result->Shared->Prop} {I:Addr} {fp wr:List Addr} {G:Array GenState->Array GenState->Prop} {St:Nat->Shared->Prop} {its:List Value} {ns:List Int}
/-- the two values of the best one by now -/
abbrev two8 (b:Int) (t:Tok) (c:Nat):Obj:={ cls:=.type "list",dict:=none,data:=.seq #[.int b t,.int b t] c,slots:=#[] }
def BotOf (ns:List Int) (j:Nat) (b:Int):Prop:=b ∈ ns∧∀ i,i≤j->i < ns.length->b≤ns.getD i 0
theorem zno (W:WalksS prog w A.in1 I fp wr G its.length (fun i v=>its[i]?=some v) St) (hI:IntsAre its ns) (S:Addr) (hSf:S ∉ fp) (kw:List (Str × Value)):∀ (k j:Nat) (s:Shared) (b:Int) (t:Tok) (c:Nat),
  its.length - (j + 1)=k->j + 1≤its.length->St (j + 1) s->BotOf ns j b->s.heap.get? S=some (two8 b t c) ->
  (∀ (b:Int) (t:Tok) (s':Shared),b ∈ ns->(∀ x ∈ ns,b≤x)->Moved (S::wr) G s s'->R (.ok (.ret (.int b t))) s')->codeAny (model prog w) A (.builtin "min.loop" ⟨[.ref I,.none,.ref S],kw⟩) R s:=by
 have nw:S ∉ wr:=fun h=>hSf (W.sub _ h)
 have up:∀ b ∈ wr,b ∈ S::wr:=fun b hb=>.tail _ hb
 have nm:(toString "min"++toString ".loop":String)="min.loop":=by decide
 have off:∀ {b:Addr},b ∉ S::wr->S≠b:=fun hb h=>hb (h ▸ List.mem_cons_self)
 have hl:=hI.length
 intro k
 induction k with
 | zero =>
  intro j s b t c hk hj hst top hS hR
  have hin:j + 1=its.length:=by omega
  refine codeAny_builtin PySem.F.entry_min_loop ?_;rw[Around.under_plainId PySem.F.plain_min_loop _]
  show wpAny _ A.in1 (seqItems? (.ref S) >>= _) _ _ _;refine wpAny_bind (wpAny_seqItems hS rfl ?_)
  show wpAny _ A.in1 (tryCatch (pyNext (.ref I)) _ >>= _) _ _ _;refine wpAny_bind (wpAny_tryCatch (W.done s _ _ (hin ▸ hst) fun s1 hm=>?_))
  have hS1:=hm.heap S _ nw hS
  show wpAny _ A.in1 (updateSeq S (fun _=>#[]) >>= _) _ _ s1;refine wpAny_bind (wpAny_updateSeq hS1 rfl (wpAny_bind (wpAny_letGo (wpAny_pure ?_))))
  refine hR b t _ top.1 (fun x hx=>?_) ((hm.mono up).then_heap (tk:=s1.toks) (Nat.le_refl _) fun b o hb e=>(Heap.get?_update_other _ _ (off hb)).trans e)
  obtain⟨i,hi,e⟩:=List.getElem_of_mem hx
  have:=top.2 i (by omega) hi
  rw[List.getD_eq_getElem?_getD,List.getElem?_eq_getElem hi] at this
  rw[← e];exact this
 | succ k ih =>
  intro j s b t c hk hj hst top hS hR
  have hlt:j + 1 < its.length:=by omega
  refine codeAny_builtin PySem.F.entry_min_loop ?_;rw[Around.under_plainId PySem.F.plain_min_loop _]
  show wpAny _ A.in1 (seqItems? (.ref S) >>= _) _ _ _;refine wpAny_bind (wpAny_seqItems hS rfl ?_)
  show wpAny _ A.in1 (tryCatch (pyNext (.ref I)) _ >>= _) _ _ _;refine wpAny_bind (wpAny_tryCatch (W.item (j + 1) s _ _ hlt hst fun v s1 hP hst1 hm=>?_))
  have hS1:=hm.heap S _ nw hS
  obtain⟨u,rfl⟩:=IntsAre.int_at hI (j + 1) v hP
  show wpAny _ A.in1 (tryCatch (holding [_,_] (richCompare .Lt _ _ >>= _)) _ >>= _) _ _ s1
  refine wpAny_bind (wpAny_tryCatch (wpAny_holding (wpAny_bind (lt_int (A:=A.in1) (wpAny_bind (wpAny_holding (wpAny_truthy_bool (wpAny_bind (wpAny_letGo (wpAny_pure ?_))))))))))
  have next:∀ m,m≤ns.getD (j + 1) 0->m≤b->m ∈ ns->BotOf ns (j + 1) m:=fun m h1 h2 h3=>⟨h3,fun i hi hi2=>by
   rcases Nat.lt_or_ge i (j + 1) with z | z
   ·exact Int.le_trans h2 (top.2 i (by omega) hi2)
   ·have:i=j + 1:=by omega
    subst this;exact h1⟩
  by_cases hb:ns.getD (j + 1) 0 < b
  ·rw[decide_eq_true hb];simp only [if_true]
   refine wpAny_bind (wpAny_updateSeq hS1 rfl (wpAny_bind (wpAny_letGo ?_)));rw[nm]
   have mem:ns.getD (j + 1) 0 ∈ ns:=by
    have:j + 1 < ns.length:=by omega
    rw[List.getD_eq_getElem?_getD,List.getElem?_eq_getElem this];exact List.getElem_mem this
   refine wpAny_pure ⟨plainId_quiet PySem.F.plain_min_loop _,ih (j + 1) _ _ u _ (by omega) hlt (W.frame _ s1 _ s1.toks hst1 (Nat.le_refl _) fun b hbf o e=>(Heap.get?_update_other _ _ (fun h:S=b=>hSf (h ▸ hbf))).trans e) (next _ (Int.le_refl _) (by omega) mem) (Heap.get?_update_self _ hS1 rfl) fun b' t' s2 h1 h2 hm2=>?_⟩
   exact hR b' t' s2 h1 h2 (Moved.trans W.gtrans ((hm.mono up).then_heap (tk:=s1.toks) (Nat.le_refl _) fun b o hb e=>(Heap.get?_update_other _ _ (off hb)).trans e) hm2)
  ·rw[decide_eq_false hb];simp only [Bool.false_eq_true,if_false]
   refine wpAny_bind (wpAny_letGo ?_);rw[nm]
   refine wpAny_pure ⟨plainId_quiet PySem.F.plain_min_loop _,ih (j + 1) _ b t c (by omega) hlt hst1 (next b (by omega) (Int.le_refl _) top.1) hS1 fun b' t' s2 h1 h2 hm2=>?_⟩
   exact hR b' t' s2 h1 h2 (Moved.trans W.gtrans (hm.mono up) hm2)
end
section
variable {prog:Program} {w:World} {A:Around} {E:Value->Shared->Prop} {s:Shared}
/-- a call of a built-in function with keywords, by its tree -/
theorem zow {id:String} {b:Builtin} {args:Args} {Q:Value->Shared->Prop} (hk:builtinKind id=none) (hp:plainId id=true) (hb:entryFor table id=some b) (ha:argsOk id args)
  (hc:wpAny (model prog w) A.in1 (b args) (fun fin s'=>match fin with
   | .done f=>(match (Except.ok f:Result) with | .ok (.ret v)=>Q v s' | .ok _=>False | .error e=>E e s')
   | .again c'=>c'.quiet=true∧codeAny (model prog w) A c' (fun r s'=>match r with | .ok (.ret v)=>Q v s' | .ok _=>False | .error e=>E e s') s') E s):wpAny (model prog w) A (call (.builtin id) args.pos args.kw) Q E s:=by
 refine wpAny_call (codeAny_call_builtin hp hb ?_);simp only [checkBuiltinCall,hk]
 cases hsig:Manifest.signature? id with
 | none=>exact wpAny_pure hc
 | some sig =>
  have z:Bind.checkArgs id sig args=pure ():=by simpa only [argsOk,hsig] using ha
  simp only [z];exact wpAny_pure hc
theorem znn (a v:Value):argsOk "min" ⟨[a],[(Str.ofString "default",v)]⟩:=by unfold argsOk;kernel_rfl
/-- max(l, default=d), l a list of whole numbers -/
theorem zoc {l:Addr} {its:List Value} {ns:List Int} {d:Value} {Q:Value->Shared->Prop} (hh:A.in1.handled=none) (hl:s.heap.IsList l its.toArray) (hI:IntsAre its ns)
  (h0:ns=[]->∀ (h':Heap) (tk:Nat),(∀ b o,s.heap.get? b=some o->h'.get? b=some o)->Q d { s with heap:=h',toks:=tk })
  (h1:∀ (b:Int) (t:Tok) (h':Heap) (tk:Nat),b ∈ ns->(∀ x ∈ ns,b≤x)->(∀ b o,s.heap.get? b=some o->h'.get? b=some o)->Q (.int b t) { s with heap:=h',toks:=tk }) :
  wpAny (model prog w) A (call (.builtin "min") [.ref l] [(Str.ofString "default",d)]) Q E s:=by
 have nm:(toString "min"++toString ".loop":String)="min.loop":=by decide
 refine zow (args:=⟨[.ref l],[(Str.ofString "default",d)]⟩) PySem.F.kind_min PySem.F.plain_min PySem.F.entry_min (znn _ _) ?_
 show wpAny _ A.in1 (Builtin.Builtins.bindParams "min" ["key","default"] 0 ⟨[],[(Str.ofString "default",d)]⟩ >>= _) _ _ s
 refine wpAny_bind (wpAny_of_eq (show Builtin.Builtins.bindParams "min" ["key","default"] 0 ⟨[],[(Str.ofString "default",d)]⟩=pure [none,some d] from rfl) (wpAny_bind (wpAny_pure ?_)))
 refine wpAny_bind (wpAny_pyIter_list hl ?_)
 have lt:l < s.heap.objs.size:=by obtain⟨o,e,_⟩:=hl;exact Heap.lt_size e
 have ne:l≠s.heap.objs.size:=Nat.ne_of_lt lt
 have W:=(Walks.list (prog:=prog) (w:=w) (A:=A.in1) hh s.heap.objs.size l ne its.toArray).toS
 have nS:s.heap.objs.size + 1 ∉ [s.heap.objs.size,l]:=by
  simp only [List.mem_cons,List.not_mem_nil,or_false,not_or];exact⟨Nat.ne_of_gt (Nat.lt_succ_self _),Nat.ne_of_gt (Nat.lt_succ_of_lt lt)⟩
 have esz:its.toArray.size=its.length:=List.size_toArray
 rw[esz] at W
 have eP:(fun (i:Nat) (v:Value)=>its.toArray[i]?=some v)=fun i v=>its[i]?=some v:=by funext i v;simp
 rw[eP] at W
 refine wpAny_bind (wpAny_newList ?_ (Nat.zero_le _));rw[nm]
 have sz:∀ o:Obj,(s.heap.push o).objs.size=s.heap.objs.size + 1:=fun o=>Heap.size_push ..
 refine wpAny_pure ⟨plainId_quiet PySem.F.plain_min_loop _,?_⟩
 rw[sz]
 generalize hg:((s.heap.push { cls:=Value.type "list_iterator",data:=Data.fields #[.ref l,.int 0 0] }).push { cls:=Value.type "list",data:=Data.seq #[] })=g
 have kg:∀ b o,s.heap.get? b=some o->g.get? b=some o:=fun b o e=>by rw[← hg];exact Heap.get?_push_of_some _ (Heap.get?_push_of_some _ e)
 have hS:g.get? (s.heap.objs.size + 1)=some { cls:=.type "list",dict:=none,data:=.seq #[] 0,slots:=#[] }:=by rw[← hg,← sz];exact Heap.get?_push_size _ rfl
 have st0:g.IsListIter s.heap.objs.size l 0∧g.IsList l its.toArray:=by
  rw[← hg];exact⟨⟨_,Heap.get?_push_of_some _ (Heap.get?_push_size _ rfl),rfl,rfl⟩,(hl.push _).push _⟩
 have keep:∀ {s':Shared},Moved ((s.heap.objs.size + 1)::[s.heap.objs.size]) (fun a b=>b=a) { s with heap:=g } s'->∀ b o,s.heap.get? b=some o->s'.heap.get? b=some o:=fun hm b o e=>by
  have lb:=Heap.lt_size e
  refine hm.heap b o (fun z=>?_) (kg b o e)
  simp only [List.mem_cons,List.not_mem_nil,or_false] at z
  rcases z with z | z
  ·exact absurd lb (by rw[z];exact Nat.not_lt.mpr (Nat.le_succ _))
  ·exact absurd lb (by rw[z];exact Nat.lt_irrefl _)
 have hIl:=hI.length
 show codeAny (model prog w) A (.builtin "min.loop" ⟨[.ref s.heap.objs.size,.none,.ref (s.heap.objs.size + 1)],[(Str.ofString "default",d)]⟩) _ { s with heap:=g }
 refine codeAny_builtin PySem.F.entry_min_loop ?_;rw[Around.under_plainId PySem.F.plain_min_loop _]
 show wpAny _ A.in1 (seqItems? (.ref (s.heap.objs.size + 1)) >>= _) _ _ _;refine wpAny_bind (wpAny_seqItems hS rfl ?_)
 show wpAny _ A.in1 (tryCatch (pyNext (.ref s.heap.objs.size)) _ >>= _) _ _ _
 by_cases e:its.length=0
 ·refine wpAny_bind (wpAny_tryCatch (W.done { s with heap:=g } _ _ (by rw[e];exact st0) fun s1 hm=>?_))
  have en:ns=[]:=List.length_eq_zero_iff.mp (by omega)
  rw[Moved.eq_with hm]
  refine wpAny_bind (wpAny_rule (wpAny_pure ?_))
  exact h0 en _ _ (keep (hm.mono fun b hb=>.tail _ hb))
 ·refine wpAny_bind (wpAny_tryCatch (W.item 0 { s with heap:=g } _ _ (by omega) st0 fun v s1 hP hst1 hm=>?_))
  have nw:s.heap.objs.size + 1 ∉ [s.heap.objs.size]:=fun z=>absurd (List.mem_singleton.mp z) (Nat.ne_of_gt (Nat.lt_succ_self _))
  have hS1:=hm.heap _ _ nw hS
  obtain⟨u,rfl⟩:=IntsAre.int_at hI 0 v hP
  show wpAny _ A.in1 (updateSeq (s.heap.objs.size + 1) _ >>= _) _ _ s1
  refine wpAny_bind (wpAny_updateSeq hS1 rfl ?_);rw[nm]
  have off:∀ {b:Addr},b ∉ (s.heap.objs.size + 1)::[s.heap.objs.size]->s.heap.objs.size + 1≠b:=fun hb h=>hb (h ▸ List.mem_cons_self)
  have mem:ns.getD 0 0 ∈ ns:=by
   have:0 < ns.length:=by omega
   rw[List.getD_eq_getElem?_getD,List.getElem?_eq_getElem this];exact List.getElem_mem this
  refine wpAny_pure ⟨plainId_quiet PySem.F.plain_min_loop _,zno W hI _ nS _ _ 0 _ (ns.getD 0 0) u _ rfl (by omega) (W.frame _ s1 _ s1.toks hst1 (Nat.le_refl _) fun b hbf o e=>(Heap.get?_update_other _ _ (fun h:s.heap.objs.size + 1=b=>nS (by rw[h];exact hbf))).trans e) ⟨mem,fun i hi _=>?_⟩ (Heap.get?_update_self _ hS1 rfl) fun b t s2 q1 q2 hm2=>?_⟩
  ·have:i=0:=by omega
   subst this;exact Int.le_refl _
  ·have hm3:=Moved.trans W.gtrans ((hm.mono fun b hb=>.tail _ hb).then_heap (tk:=s1.toks) (Nat.le_refl _) fun b o hb e=>(Heap.get?_update_other _ _ (off hb)).trans e) hm2
   rw[Moved.eq_with hm3]
   exact h1 b t _ _ q1 q2 (keep hm3)
end
end HT
namespace L3
open PySem PySem.Spec PyProof.Rows L2
/-- max(e, default=d) of a list of whole numbers -/
def tMinD (t tk:TA):TE:=fun σ H Q=>t σ H fun vs H1=>tk σ H1 fun ws H2=>∃ (p:Addr) (ns:List Int) (y:V),vs=[.ref p]∧ws=[y]∧H2 p=some (.lst (ns.map V.int))∧(ns=[]->Q y H2)∧∀ b,b ∈ ns->(∀ x ∈ ns,b≤x)->Q (.int b) H2
theorem zq7 {X:Cx} {p pos kpos:Pos} {e d:Expr} {t tk:TA} (hc:X.calm=true) (hg:Gl X "min") (hm:X.mg "min"=none) (he:PA X [e] t) (hd:PK X [⟨some (Str.ofString "default"),d,kpos⟩] tk) (hs:starEach [e] X.env=[(false,eval e X.env)]:=by rfl)
  (hall:(backToKw pos (keywordEach [⟨some (Str.ofString "default"),d,kpos⟩] X.env)).filterMap (·.1)=[Str.ofString "default"]:=by rfl):PE X (.Call (.Name "min" p) [e] [⟨some (Str.ofString "default"),d,kpos⟩] pos) (tMinD t tk):=by
 intro pins s σ H Q I h
 refine wpAny_Call_Name_kw (zdw I hg hm (u:=.builtin "min") (by decide +kernel) ?_)
 refine callWith_kw (e:=e) (rest:=[]) (thn (he pos pins s σ H _ I h) fun us s1 ⟨vs,H1,I1,r1,q1⟩=>?_) ?a ?b ?c ?d
 case a=>rw[hs];rfl
 case b=>rw[hs];rfl
 case c=>rfl
 case d=>rfl
 refine thn (hd pos pins s1 σ H1 _ I1 q1) fun ws s2 ⟨zs,H2,I2,r2,q2⟩=>?_
 obtain⟨p,ns,y,rfl,rfl,hp,q0,q1⟩:=q2
 obtain⟨u,rfl,ru⟩:=r1.one
 obtain⟨v,rfl,rv⟩:=r2.one
 cases ru
 rw[hall]
 obtain⟨its,rI,pl,hz⟩:=I2.list (SqL.of hp)
 refine HT.zoc (show X.A.in1.handled=none from I2.ok.hd hc) pl.isList (zbm rI) (fun e h' tk hk=>?_) (fun b t h' tk h1 h2 hk=>?_)
 ·exact⟨y,H2,I2.kept (t':=tk) hk,rv,q0 e⟩
 ·exact⟨.int b,H2,I2.kept (t':=tk) hk,⟨t,rfl⟩,q1 b h1 h2⟩
end L3
namespace L3
open PySem PySem.Spec PyProof.Rows L2
theorem IsAll.at_ {K:PySem.W.Frag} {H:Hp}:∀ {ds:List PyData} {vs:List V} {i:Nat} {d:PyData},IsAll K H ds vs->ds[i]?=some d->∃ v,vs[i]?=some v∧Is K H d v
 | [],vs,i,d,_,h=>by cases h
 | d0::ds,vs,0,d,⟨v,r,e,h1,_⟩,h=>by
  cases h
  exact⟨v,by rw[e];rfl,h1⟩
 | d0::ds,vs,i + 1,d,⟨v,r,e,_,h2⟩,h=>by
  obtain⟨u,e1,e2⟩:=IsAll.at_ (i:=i) h2 h
  exact⟨u,by rw[e];exact e1,e2⟩
theorem IsAll.from_ {K:PySem.W.Frag} {H:Hp}:∀ {ds:List PyData} {vs:List V} {i:Nat} {v:V},IsAll K H ds vs->vs[i]?=some v->∃ d,ds[i]?=some d∧Is K H d v
 | [],vs,i,v,h,e=>by
  have:vs=[]:=h
  rw[this] at e;cases e
 | d0::ds,vs,0,v,⟨u,r,e0,h1,_⟩,e=>by
  rw[e0] at e;cases e
  exact⟨d0,rfl,h1⟩
 | d0::ds,vs,i + 1,v,⟨u,r,e0,_,h2⟩,e=>by
  rw[e0] at e
  exact IsAll.from_ (i:=i) h2 e
section
variable {own:List Str} {js:List Nat} {g:TG} {tt:TT} {te:TE} {σ:L2.St} {Q:VK} {H1:Hp}
end
end L3
namespace L3
open PySem PySem.Spec PyProof.Rows L2
def lvl (ls:List (List Nat)) (i:Nat):List Nat:=ls.getD i []
structure LevOk (n:Nat) (ls:List (List Nat)):Prop where
 one:1≤ls.length
 six:ls.length≤6
 first:lvl ls 0=List.range n
 rise:∀ i,(lvl ls i).Pairwise (· < ·)
 inn:∀ i,∀ p ∈ lvl ls i,p < n
 down:∀ i,∀ p ∈ lvl ls (i + 1),p ∈ lvl ls i
def IsTop (ls:List (List Nat)) (w b:Nat):Prop:=b < ls.length∧w ∈ lvl ls b∧∀ i,i < ls.length->w ∈ lvl ls i->i≤b
def Bun (ls:List (List Nat)) (D:List (Option Int)) (w:Nat):Prop:=∃ x,Far.get D w=some x∧∀ b p y,IsTop ls w b->p ∈ lvl ls (b + 1)->Far.get D p=some y->x < y
noncomputable def bunB (ls:List (List Nat)) (D:List (Option Int)) (w:Nat):Bool:=@decide (Bun ls D w) (Classical.propDecidable _)
/-- how far all places are, in the web -/
def FarsOf (ts:List Tie) (n s:Nat) (D:List (Option Int)):Prop:=D.length=n∧∀ u,u < n->Far.Dst (arcs ts (List.range ts.length)) s u (Far.get D u)
def FarsT (H:Hp) (p lf:Addr) (n:Nat) (ts:List Tie):Prop:=∃ ys,H lf=some (.lst ys)∧lf≠p∧ys.length=n∧∀ i v,ys[i]?=some v->∃ l D,v=.ref l∧l≠p∧H l=some (.lst (D.map ov))∧FarsOf ts n i D
end L3
namespace HT
open PySem PyProof.Rows
section
variable {prog:Program} {w:World} {A:Around} {R:Result->Shared->Prop} {I:Addr} {fp wr:List Addr} {G:Array GenState->Array GenState->Prop} {St:Nat->Shared->Prop} {its:List Value} {ks:List (List Int)}
end
section
variable {prog:Program} {w:World} {A:Around} {E:Value->Shared->Prop} {s:Shared}
end
end HT
namespace L3
open PySem PySem.Spec PyProof.Rows L2
end L3
namespace L3
open PySem PySem.Spec PyProof.Rows L2
noncomputable def topN (ls:List (List Nat)) (w:Nat):Nat:=@dite _ (∃ b,IsTop ls w b) (Classical.propDecidable _) (fun h=>Classical.choose h) (fun _=>0)
/-- the nearest place of a level, of several one of the greatest top, of these the least -/
structure IsPiv (ls:List (List Nat)) (m:Nat) (D:List (Option Int)) (o:Option Nat):Prop where
 no:o=none->∀ q ∈ lvl ls m,Far.get D q=none
 yes:∀ p,o=some p->p ∈ lvl ls m∧∃ x,Far.get D p=some x∧∀ q ∈ lvl ls m,∀ y,Far.get D q=some y->x≤y∧(y=x->topN ls q≤topN ls p∧(topN ls q=topN ls p->p≤q))
def tupI (k:List Int):PyData:=.tuple (k.map .int)
section
variable {own:List Str} {js:List Nat} {g:TG} {tt:TT} {te:TE} {σ:L2.St} {Q:VK} {H1:Hp}
end
end L3
namespace L3
open PySem PySem.Spec PyProof.Rows L2
noncomputable def pivN (ls:List (List Nat)) (m:Nat) (D:List (Option Int)):Nat:=@dite _ (∃ p,IsPiv ls m D (some p)) (Classical.propDecidable _) (fun h=>Classical.choose h) (fun _=>0)
noncomputable def clN (ls:List (List Nat)):Nat->Nat->Nat->Nat->List (Option Int)->List (Option Int)->Int->List (List Int)
 | 0,w,a,b,_,_,x=>[[(w:Int),(a:Int),(b:Int),x]]
 | f + 1,w,a,b,Da,Db,x=>[(w:Int),(a:Int),(b:Int),x]::(if bunB ls Db w=true then [] else clN ls f (pivN ls (topN ls w + 1) Db) b a Db Da ((Far.get Db (pivN ls (topN ls w + 1) Db)).getD 0))
structure Cs (ts:List Tie) (n:Nat) (ls:List (List Nat)) (d:Int) (j w a b:Nat) (Da Db:List (Option Int)) (x:Int):Prop where
 fa:FarsOf ts n a Da
 fb:FarsOf ts n b Db
 wn:w < n
 an:a < n
 bn:b < n
 xa:Far.get Da w=some x
 lim:x≤j * d
 ab:Far.get Da b=some d
 ba:Far.get Db a=some d
 yb:∃ y,Far.get Db w=some y
 tp:j≤topN ls w
 bu:bunB ls Da w=true
section
variable {n:Int} {ts:List Tie} {ls:List (List Nat)} {d x:Int} {j w a b:Nat} {Da Db:List (Option Int)}
theorem allOk (ts:List Tie):KeepOk ts.length (List.range ts.length):=⟨List.pairwise_lt_range,fun k hk=>List.mem_range.mp hk⟩
end
/-- the rows of a climb -/
structure RowsOk (ls:List (List Nat)) (n:Nat) (d:Int) (Du Dv:List (Option Int)) (rows:List (List Int)):Prop where
 few:rows.length≤ls.length
 lim:∀ (i:Nat) (r:List Int),rows[i]?=some r->∃ p a b x:Int,r=[p,a,b,x]∧x≤i * d
 last:∃ (pre:List (List Int)) (w:Nat) (a b x:Int),rows=pre++[[(w:Int),a,b,x]]∧w < n∧bunB ls Du w=true∧bunB ls Dv w=true
def ClimbV (K:PySem.W.Frag) (H:Hp) (ls:List (List Nat)) (n u v:Nat) (Du Dv:List (Option Int)) (r:V):Prop:=(r=.non∧Far.get Du v=none)∨∃ t ys d,r=.ref t∧Far.get Du v=some d∧H t=some (.tup ys)∧IsAll K H ((clN ls ls.length u u v Du Dv 0).map tupI) ys∧RowsOk ls n d Du Dv (clN ls ls.length u u v Du Dv 0)
/-- how far all places are from all, as a list of lists -/
def FarsM (H:Hp) (lf:Addr) (n:Nat) (ts:List Tie):Prop:=∃ ys,H lf=some (.lst ys)∧ys.length=n∧∀ i v,ys[i]?=some v->∃ l D,v=.ref l∧H l=some (.lst (D.map ov))∧FarsOf ts n i D
/-- where a climb stands: the rows so far, and what is still to come -/
structure Clb (ts:List Tie) (n:Int) (ls:List (List Nat)) (d:Int) (u v:Nat) (Du Dv:List (Option Int)) (pre:List (List Int)) (w a b:Nat) (Da Db:List (Option Int)) (x:Int):Prop where
 cs:Cs ts n.toNat ls d pre.length w a b Da Db x
 sides:(Da=Du∧Db=Dv)∨(Da=Dv∧Db=Du)
 lim:∀ (i:Nat) (r:List Int),(pre++[[(w:Int),(a:Int),(b:Int),x]])[i]?=some r->∃ p a b x:Int,r=[p,a,b,x]∧x≤i * d
 rest:pre++clN ls (ls.length - pre.length) w a b Da Db x=clN ls ls.length u u v Du Dv 0
section
variable {n:Int} {ts:List Tie} {ls:List (List Nat)} {d x:Int} {u v w a b:Nat} {Du Dv Da Db:List (Option Int)} {pre:List (List Int)}
end
end L3
namespace L3
open PySem PySem.Spec PyProof.Rows L2
section
variable {K:PySem.W.Frag} {J J':Hp} {ls:List (List Nat)} {n u v:Nat} {Du Dv:List (Option Int)} {r r1 r2:V}
end
end L3
namespace PySem.SeqAt
open PySem.Spec PySem.MeetsSeq PySem.MeetsSeq2 PySem.MeetsSeq3 PySem.SeqRoads2
open AutoSeq1 (wpAny_loadPart')
end PySem.SeqAt
namespace L3
open PySem PySem.Spec PyProof.Rows L2
section
variable {X:Cx} {o e:Expr} {es:List Expr} {to:TE} {t:TA} {name:Str} {apos cpos:Pos} {id:String} {r:V->List V->Hp->VK->Prop}
end
theorem zfx {α:Type} (f:Nat->Option α):∀ (m:Nat) (L:List α),L.length=m->(∀ k,k < m->f k=L[k]?)->(List.range m).filterMap f=L
 | 0,L,hl,_=>by rw[List.eq_nil_of_length_eq_zero hl];rfl
 | m + 1,L,hl,h=>by
  have hm:m < L.length:=by omega
  have e:L=L.take m++[L[m]]:=by rw[List.take_append_getElem hm,List.take_of_length_le (by omega)]
  rw[List.range_succ,List.filterMap_append,zfx f m (L.take m) (by rw[List.length_take];omega) (fun k hk=>by rw[h k (by omega),List.getElem?_take,if_pos hk])]
  rw[show [m].filterMap f=[L[m]] by rw[List.filterMap_cons,h m (by omega),List.getElem?_eq_getElem hm];rfl]
  exact e.symm
theorem zek (its:List Value) (j:Nat):((List.range (its.length - j)).filterMap fun (m:Nat)=>its.toArray[(((its.length:Nat):Int) - 1 + (m:Int) * (-1)).toNat]?)=(its.drop j).reverse:=by
 refine zfx _ _ _ (by rw[List.length_reverse,List.length_drop]) fun k hk=>?_
 rw[List.getElem?_reverse (by rw[List.length_drop];exact hk),List.getElem?_drop,List.length_drop]
 rw[List.getElem?_toArray]
 congr 1
 omega
/-- which parts of a slice that goes back are meant: t[::-1] leaves none out, t[:0:-1] the first -/
def bk (hi:Option Int) (n j:Nat):Prop:=(hi=none∧j=0)∨(hi=some 0∧j=1∧1≤n)
theorem zj3 {hi:Option Int} {n j:Nat} (h:bk hi n j):Builtin.Slice.sliceAdjust none hi (-1) (n:Int)=((n:Int) - 1,(j:Int) - 1):=by
 unfold Builtin.Slice.sliceAdjust
 simp only [show ((-1:Int) < 0) by omega,if_true]
 rcases h with ⟨rfl,rfl⟩ | ⟨rfl,rfl,h1⟩
 ·rfl
 ·refine Prod.ext rfl ?_
  show (if (0:Int) < 0 then max (0 + (n:Int)) (-1) else min 0 ((n:Int) - 1))=((1:Nat):Int) - 1
  rw[if_neg (by omega)]
  omega
theorem zjb {n j:Nat} (h:j≤n):Builtin.Slice.slicePlaces ((n:Int) - 1) ((j:Int) - 1) (-1)=n - j:=by
 unfold Builtin.Slice.slicePlaces
 rw[if_neg (by omega)]
 split
 ·rw[show -(-1:Int)=1 by rfl,Int.ediv_one];omega
 ·omega
theorem zs8 {hi:Option Int} {n j:Nat} (h:bk hi n j):j≤n:=by
 rcases h with ⟨_,rfl⟩ | ⟨_,rfl,h1⟩
 ·exact Nat.zero_le _
 ·exact h1
section
variable {prog:Program} {w:World} {A:Around} {E:Value->Shared->Prop} {s:Shared}
theorem zdi {sl:Addr} {vl vu vs:Value} {hi:Option Int} {n j:Nat} {Q:Int × Int × Nat->Shared->Prop} (hs:s.heap.IsSliceOf sl vl vu vs) (pl:IsPart vl none) (pu:IsPart vu hi) (ps:IsPart vs (some (-1))) (hb:bk hi n j)
  (h:Q ((n:Int) - 1,-1,n - j) s):wpAny (model prog w) A (Builtin.Slice.sliceApplied (.ref sl) (pure (n:Int))) Q E s:=by
 obtain⟨os,hos,hcs,hds⟩:=id hs
 unfold Builtin.Slice.sliceApplied Builtin.Slice.sliceFields
 refine wpAny_bind (wpAny_bind (wpAny_field hos hds (x:=vl) rfl (wpAny_bind (wpAny_field hos hds (x:=vu) rfl (wpAny_bind (wpAny_field hos hds (x:=vs) rfl (wpAny_pure ?_)))))))
 refine wpAny_bind (HT.zb6 ps ?_)
 show wpAny _ _ (if ((-1:Int) == 0)=true then _ else _) _ _ s
 rw[if_neg (by decide)]
 refine wpAny_bind (HT.zb6 pl (wpAny_bind (HT.zb6 pu (wpAny_bind (wpAny_pure ?_)))))
 show wpAny _ _ (match Builtin.Slice.sliceAdjust none hi (-1) (n:Int) with | (lo,hi)=>pure (lo,(-1:Int),Builtin.Slice.slicePlaces lo hi (-1))) _ _ s
 rw[zj3 hb]
 show wpAny _ _ (pure ((n:Int) - 1,(-1:Int),Builtin.Slice.slicePlaces ((n:Int) - 1) ((j:Int) - 1) (-1))) _ _ s
 rw[zjb (zs8 hb)]
 exact wpAny_pure h
theorem zb5 {t sl:Addr} {its:List Value} {vl vu vs:Value} {hi:Option Int} {j:Nat} {Q:Value->Shared->Prop} (ht:IsTup s.heap t its.toArray) (hs:s.heap.IsSliceOf sl vl vu vs) (pl:IsPart vl none) (pu:IsPart vu hi) (ps:IsPart vs (some (-1))) (hb:bk hi its.length j)
  (h:Q (.ref s.heap.objs.size) { s with heap:=s.heap.push { cls:=.type "tuple",data:=.seq (its.drop j).reverse.toArray } })
  (hsz:its.length≤sizeLine):wpAny (model prog w) A (getItem (.ref t) (.ref sl)) Q E s:=by
 have htake:sizeOk (.seq (its.drop j).reverse.toArray):=by
  show (its.drop j).reverse.toArray.size≤sizeLine
  rw[List.size_toArray,List.length_reverse,List.length_drop]
  omega
 obtain⟨os,hos,hcs,hds⟩:=id hs
 have hTs:s.TypeIs (.ref sl) "slice":=⟨os,hos,hcs⟩
 unfold getItem
 try with_reducible refine wpAny_holding ?_
 first | refine wpAny_bind (wpAny_pure ?_) | skip
 refine wpAny_bind (wpAny_sequenceKey ht.typeIs (by decide) ?_)
 refine wpAny_bind (wpAny_callSpecial?_slot (name:=Str.ofString "__getitem__") ht.typeIs PyProof.Rows.slot_tuple_getitem
  (wpAny_call_entry PyProof.Rows.slot_tuple_getitem ht.typeIs entry_tuple_getitem ?_ (args_tuple_getitem _ _)))
 show wpAny _ _ (Builtin.Tuple.tupleItemsOf (.ref t) >>= _) _ _ s
 refine wpAny_bind (tupleItemsOf_ ht ?_)
 refine wpAny_bind (wpAny_typeOf hTs ?_)
 rw[if_pos (by decide)]
 refine wpAny_bind (zdi (n:=its.toArray.size) (j:=j) hs pl pu ps (by rw[List.size_toArray];exact hb) ?_)
 rw[List.size_toArray]
 show wpAny _ _ (if ((((its.length:Nat):Int) - 1 == 0) && ((-1:Int) == 1) && ((its.length - j) == its.length))=true then _ else _) _ _ s
 rw[if_neg (by rw[show ((-1:Int) == 1)=false by decide,Bool.and_false,Bool.false_and];decide),zek]
 first
  | exact wpAny_bind (m:=Builtin.Tuple.tupleExact _) (wpAny_newObj_type (wpAny_pure ⟨_,rfl,wpAny_pure h⟩) htake)
  | exact wpAny_bind (m:=Builtin.Tuple.tupleExact _) (wpAny_newObj_type (wpAny_bind (wpAny_pure (wpAny_pure ⟨_,rfl,wpAny_pure h⟩))) htake)
  | exact wpAny_bind (wpAny_bind (m:=Builtin.Tuple.tupleExact _) (wpAny_newObj_type (wpAny_pure (wpAny_pure ⟨_,rfl,wpAny_pure h⟩)) htake))
  | exact wpAny_bind (wpAny_bind (m:=Builtin.Tuple.tupleExact _) (wpAny_newObj_type (wpAny_pure ⟨_,rfl,wpAny_pure h⟩) htake))
end
/-- what a slice that goes back is -/
def SlB (X:Cx) (r:V->Option Int->Hp->VK->Prop):Prop :=
 ∀ (pins:List (Addr × Obj)) (s:Shared) (σ:L2.St) (H:Hp) (x:V) (v vl vu vs:Value) (hi:Option Int) (sl:Addr) (Q:VK),Inv X pins σ H s->RelV x v->s.heap.IsSliceOf sl vl vu vs->IsPart vl none->IsPart vu hi->IsPart vs (some (-1))->r x hi H Q ->
  ∃ T id,typeLookup (.type T) "__getitem__"=pure (some (.builtin id))∧s.TypeIs v T∧wpAny (model X.prog X.w) X.A (getItem v (.ref sl)) (EP X pins σ Q) X.xe s
def tSlB (r:V->Option Int->Hp->VK->Prop) (te:TE) (th:TO) (ts:TE):TE:=fun σ H Q=>te σ H fun x H1=>th σ H1 fun u H3=>ts σ H3 fun z H4=>z=.int (-1)∧r x u H4 Q
section
variable {X:Cx} {e st:Expr} {te ts:TE} {lo hi:Option Expr} {th:TO} {pos p2:Pos}
theorem zhr {r:V->Option Int->Hp->VK->Prop} (hr:SlB X r) (he:PE X e te) (hu:PO X hi th) (hs:PE X st ts):PE X (.Subscript e (.Slice none hi (some st) p2) pos) (tSlB r te th ts):=by
 intro pins s σ H Q I h
 refine Subscript_ (thn (he pins s σ H _ I h) fun v s1 ⟨x,H1,I1,r1,q1⟩=>?_)
 refine wpAny_Slice ?_
 rw[evalPart_none]
 refine wpAny_pure (thn (hu pins s1 σ H1 _ I1 q1) fun vu s3 ⟨u,H3,I3,pu,q3⟩=>?_)
 rw[evalPart_some]
 refine thn (hs pins s3 σ H3 _ I3 q3) fun vz s4 ⟨z,H4,I4',rz,ez,q4⟩=>?_
 subst ez
 obtain⟨t,rfl⟩:=rz
 have I4:Inv X pins σ H4 { s4 with heap:=s4.heap.push { cls:=.type "slice",data:=.fields #[.none,vu,.int (-1) t] } }:=I4'.kept (t':=s4.toks) fun b ob q=>Heap.get?_push_of_some _ q
 obtain⟨T,id,hT,ht,hg⟩:=hr pins { s4 with heap:=s4.heap.push { cls:=.type "slice",data:=.fields #[.none,vu,.int (-1) t] } } σ H4 x v .none vu (.int (-1) t) u s4.heap.objs.size Q I4 r1 (Heap.IsSliceOf.new ..) .none pu (.int _ _) q4
 show wpAny (model X.prog X.w) X.A (subscriptTail e (.Slice none hi (some st) p2) v (.ref s4.heap.objs.size)) (EP X pins σ Q) X.xe { s4 with heap:=s4.heap.push { cls:=.type "slice",data:=.fields #[.none,vu,.int (-1) t] } }
 exact tail_any (ops:=[v,.ref s4.heap.objs.size]) ht hT hg (by with_unfolding_all rfl)
/-- t[::-1], t[:0:-1] -/
def rBkT (K:PySem.W.Frag):V->Option Int->Hp->VK->Prop:=fun x hi H Q=>∃ a xs j,x=.ref a∧H a=some (.tup xs)∧bk hi xs.length j∧∀ p H',Same H H'->H p=none->H' p=some (.tup (xs.drop j).reverse)->Q (.ref p) H'
theorem zp9:SlB X (rBkT X.K):=by
 intro pins s σ H x v vl vu vs hi sl Q I rx hs pl pu ps h
 obtain⟨a,xs,j,rfl,hx,hb,q⟩:=h
 cases rx
 obtain⟨its,r,ht,hz⟩:=I.tuple (SqT.of hx)
 have hlen:its.length=xs.length:=r.length.symm
 refine⟨"tuple",_,PyProof.Rows.slot_tuple_getitem.lookup,ht.typeIs,?_⟩
 refine zb5 ht hs pl pu ps (j:=j) (by rw[hlen];exact hb) ?_ (by rw[hlen];exact hz)
 refine⟨.ref s.heap.objs.size,_,I.laid (t':=s.toks) (o:=.tup (xs.drop j).reverse) (fun b ob q=>Heap.get?_push_of_some _ q) (Nat.le_refl _) ?_,rfl,q _ _ (zal (I.hok.fresh (Nat.le_refl _))) (I.hok.fresh (Nat.le_refl _)) zag⟩
 exact⟨by rw[List.length_reverse,List.length_drop];omega,_,(r.drop j).reverse,TupN.new _ _⟩
end
end L3
namespace Far
section
variable {B:List Arc} {n s a b:Nat} {ws S:List Nat} {x y:Int} {cs:List (Option (Int × Int))} {as:List (Option Nat)}
theorem Rt.walkC (r:Rt B a ws S b x y):Walk (arcsC B) a b (comb (x,y)):=by
 induction r with
 | one=>exact .nil
 | @snoc ws S u v x y l k r m nv ih =>
  have:=Walk.snoc ih (arcsC_mem.mpr ⟨l,k,m,rfl⟩)
  have e:comb (x + l,y + 2 ^ k)=comb (x,y) + (l * 2 ^ 61 + 2 ^ k):=by unfold comb;simp only;omega
  rw[e];exact this
/-- the least of all walks, and a route -/
def MinW (B:List Arc) (a b:Nat) (ws:List Nat):Prop:=∃ S x y,Rt B a ws S b x y∧∀ L,Walk (arcsC B) a b L->comb (x,y)≤L
theorem MinW.unique (K:Keys B) {ws':List Nat} (h:MinW B a b ws) (h':MinW B a b ws'):ws'=ws:=by
 obtain⟨S,x,y,r,l⟩:=h
 obtain⟨S',x',y',r',l'⟩:=h'
 have e1:=l _ r'.walkC
 have e2:=l' _ r.walkC
 have b1:=r.lt K
 have b2:=r'.lt K
 have e:=zpv (c:=(x,y)) (d:=(x',y')) ⟨b1.1,Int.lt_trans b1.2 (by decide)⟩ ⟨b2.1,Int.lt_trans b2.2 (by decide)⟩ (by omega)
 injection e with ex ey
 subst ey
 exact (r.unique K r').1
theorem MinW.back (K:Keys B) (h:MinW B a b ws):MinW B b a ws.reverse:=by
 obtain⟨S,x,y,r,l⟩:=h
 exact⟨S.reverse,x,y,r.back K,fun L w=>l L (w.back (zi4 K))⟩
theorem Best.minw (K:Keys B) (h:Best B n s cs as) {v:Nat} {c:Int × Int} (t:TPw as s ws.reverse v) (e:get cs v=some c):MinW B v s ws:=by
 obtain⟨S,r⟩:=h.rt K t e
 have rb:=r.back K
 rw[List.reverse_reverse] at rb
 refine⟨_,_,_,rb,fun L w=>?_⟩
 obtain⟨z,ez,le⟩:=(h.dst K v).2 L (w.back (zi4 K))
 rw[e] at ez
 cases ez
 exact le
theorem MinW.nodup (h:MinW B a b ws):ws.Nodup:=by
 obtain⟨S,x,y,r,l⟩:=h
 exact r.unlike
end
/-- what two ways share is a part of both -/
def Shr (W1 W2:List Nat):Prop:=(∀ x ∈ W1,x ∉ W2)∨∃ p m q p2 q2,W1=p++m++q∧m≠[]∧(∀ x ∈ p,x ∉ W2)∧(∀ x ∈ q,x ∉ W2)∧(W2=p2++m++q2∨W2=p2++m.reverse++q2)
end Far
namespace L3
open PySem PySem.Spec PyProof.Rows L2
/-- the way from a to b, the least of all walks -/
def WayM (H:Hp) (ts:List Tie) (ks:List Nat) (a b:Nat) (v:V):Prop:=(v=.non∧Far.Dst (arcs ts ks) a b none)∨∃ t ws x,v=.ref t∧H t=some (.tup (natV ws))∧ws.length≤24∧Far.MinW (arcsB ts ks) a b ws∧Far.Tr (arcs ts ks) a ws b x∧Far.Dst (arcs ts ks) a b (some x)
theorem zrx {H:Hp} {n:Int} {m:Nat} {ts:List Tie} {ks:List Nat} {a b:Nat} {v:V} (ok:WebOk n ts) (ko:KeepOk ts.length ks) (h:WayB H (arcsB ts ks) m a b v):WayM H ts ks a b v:=by
 obtain⟨cs,as,B,h⟩:=h
 have KB:=zcs ok ko
 have d:=B.dst1 KB a
 rw[zce] at d
 rcases h with ⟨rfl,e⟩ | ⟨t,ws,c,rfl,ht,l24,e,tp⟩
 ·rw[e] at d
  exact .inl ⟨rfl,d.back (zi3 ok ko)⟩
 ·rw[e] at d
  obtain⟨S,u⟩:=B.uni KB tp e
  have tr:=u.rt.tr
  rw[zce] at tr
  exact .inr ⟨t,ws,c.1,rfl,ht,l24,B.minw KB tp e,tr,d.back (zi3 ok ko)⟩
def spWayM (K:PySem.W.Frag):Sp:=fun vs H Q _=>∃ n ts ks wv kv a b,vs=[wv,kv,.int a,.int b]∧WK K H n ts ks wv kv∧0≤a∧a < n∧0≤b∧b < n∧∀ v H',Same H H'->WayM H' ts ks a.toNat b.toNat v->Q v H'
theorem zsy {K:PySem.W.Frag} (vs:List V) (H:Hp) (Q:VK) (E:XK) (h:spWayM K vs H Q E):spWayB K vs H Q E:=by
 obtain⟨n,ts,ks,wv,kv,a,b,e,wk,a0,a1,b0,b1,q⟩:=h
 exact⟨n,ts,ks,wv,kv,a,b,e,wk,a0,a1,b0,b1,fun v H' S h=>q v H' S (zrx wk.2.1 wk.2.2.2 h)⟩
theorem zqx {n:Int} {ts:List Tie} {ks:List Nat} (ok:WebOk n ts) (ko:KeepOk ts.length ks) {u v k:Nat} {l:Int} (h:(u,v,l,k) ∈ arcsB ts ks):tbN ts u v=some k:=by
 have h2:(u,v,l,k) ∈ arcsB ts (List.range ts.length):=by
  obtain⟨k',hk',m⟩:=arcsB_mem.mp h
  exact arcsB_mem.mpr ⟨k',List.mem_range.mpr (ko.2 k' hk'),m⟩
 have e:=zqv ok (allOk ts) h2
 unfold tbN
 rw[← List.head?_filter,e];rfl
def spShare (K:PySem.W.Frag):Sp:=fun vs H Q _=>∃ (t1 t2:Addr) (W1 W2:List Nat),vs=[.ref t1,.ref t2]∧H t1=some (.tup (natV W1))∧H t2=some (.tup (natV W2))∧W1.length≤24∧W2.length≤24∧W1.Nodup∧Far.Shr W1 W2∧∀ H',Same H H'->Q (.bl true) H'
end L3
namespace L3
open PySem PySem.Spec PyProof.Rows L2
/-- the ways that were told so far -/
def WaysL (J:Hp) (ts:List Tie) (ks:List Nat) (ys:List V):Prop:=∀ v ∈ ys,∃ t W a b,v=.ref t∧J t=some (.tup (natV W))∧W.length≤24∧Far.MinW (arcsB ts ks) a b W
end L3
namespace Far
inductive W2 (B:List Arc) (s:Nat):Nat->Int->Int->Prop
 | nil:W2 B s s 0 0
 | snoc {u v:Nat} {x y l:Int} {k:Nat}:W2 B s u x y->(u,v,l,k) ∈ B->W2 B s v (x + l) (y + 2 ^ k)
end Far
namespace L3
open PySem PySem.Spec PyProof.Rows L2
/-- a web and a keep of it that is a list -/
def WKL (K:PySem.W.Frag) (H:Hp) (n:Int) (ts:List Tie) (ks:List Nat) (wv:V) (kp:Addr):Prop:=Is K H (webD n ts) wv∧WebOk n ts∧H kp=some (.lst ((keepI ks).map V.int))∧KeepOk ts.length ks
end L3
namespace Far
def chn (R:Nat->Nat->Prop):List Nat->Prop
 | []=>True
 | [_]=>True
 | a::b::r=>R a b∧chn R (b::r)
section
variable {R:Nat->Nat->Prop}
theorem zcc:∀ {l m:List Nat} {x y:Nat},chn R (l++[x])->R x y->chn R (y::m)->chn R (l++[x]++y::m)
 | [],m,x,y,_,r,h=>⟨r,h⟩
 | [a],m,x,y,h1,r,h=>⟨h1.1,zcc (l:=[]) (x:=x) (y:=y) h1.2 r h⟩
 | a::b::l,m,x,y,h1,r,h=>⟨h1.1,zcc (l:=b::l) (x:=x) (y:=y) h1.2 r h⟩
theorem zb9:∀ {l m:List Nat} {x:Nat},chn R (l++x::m)->chn R (l++[x])∧chn R (x::m)
 | [],m,x,h=>⟨trivial,h⟩
 | [a],m,x,h=>⟨⟨h.1,trivial⟩,h.2⟩
 | a::b::l,m,x,h=>⟨⟨h.1,(zb9 (l:=b::l) (x:=x) h.2).1⟩,(zb9 (l:=b::l) (x:=x) h.2).2⟩
theorem ze7 (sy:∀ u v,R u v->R v u):∀ {l:List Nat},chn R l->chn R l.reverse
 | [],_=>trivial
 | [_],_=>trivial
 | a::b::r,h=>by
  have ih:=ze7 sy h.2
  rw[List.reverse_cons] at ih
  rw[List.reverse_cons,List.reverse_cons]
  exact zcc (l:=r.reverse) (m:=[]) ih (sy _ _ h.1) trivial
theorem zif:∀ {l:List Nat} {i u v:Nat},chn R l->l[i]?=some u->l[i + 1]?=some v->R u v
 | [],i,u,v,_,e,_=>by cases e
 | [a],i,u,v,_,_,e=>by cases e
 | a::b::r,0,u,v,h,e1,e2=>by cases e1;cases e2;exact h.1
 | a::b::r,i + 1,u,v,h,e1,e2=>zif (l:=b::r) h.2 e1 e2
/-- a way made a ring: turned so that h stands first, one way about or the other -/
def RingOf (ws:List Nat) (h:Nat) (tl:List Nat):Prop:=∃ p q,ws=p++h::q∧(tl=q++p∨tl=(q++p).reverse)
end
end Far
namespace L3
open PySem PySem.Spec PyProof.Rows L2
/-- two places with a tie of the keep between them -/
def adjK (ts:List Tie) (ks:List Nat) (u v:Nat):Prop:=∃ k,k ∈ ks∧tbN ts u v=some k
def spAlongW (K:PySem.W.Frag):Sp:=fun vs H Q _=>∃ (n:Int) (ts:List Tie) (wv:V) (t:Addr) (ws:List Nat),vs=[wv,.ref t]∧Is K H (webD n ts) wv∧ts.length≤60∧H t=some (.tup (natV ws))∧ws.length≤25∧linked ts ws∧∀ l H',Same H H'->H' l=some (.lst (natV (alongN ts ws)))->Q (.ref l) H'
/-- a ring in its least turn -/
def Turn (h:Nat) (tl:List Nat):Prop:=(∀ x ∈ tl,h≤x)∧∀ u v p q,tl=u::p->tl=q++[v]->u≤v
end L3
namespace L3
open PySem PySem.Spec PyProof.Rows L2
end L3
namespace Stb
open PySem
def Asc (xs:Array Nat):Prop:=∀ i j,i < j->j < xs.size->xs.getD i 0 < xs.getD j 0
theorem zjs (xs:Array Nat) (j:Nat) (asc:Asc xs):∀ (fuel lo hi:Nat),lo≤hi->hi≤xs.size->hi - lo≤fuel->(∀ i,i < lo->xs.getD i 0 < j)->(∀ i,hi≤i->i < xs.size->j≤xs.getD i 0) ->
  (∀ i,i < SetTable.below.go xs j fuel lo hi->xs.getD i 0 < j)∧(∀ i,SetTable.below.go xs j fuel lo hi≤i->i < xs.size->j≤xs.getD i 0)∧SetTable.below.go xs j fuel lo hi≤xs.size
 | 0,lo,hi,h1,h2,h3,a,b=>by
  have e:lo=hi:=by omega
  subst e
  exact⟨a,b,h2⟩
 | fuel + 1,lo,hi,h1,h2,h3,a,b=>by
  unfold SetTable.below.go
  by_cases c:lo < hi
  ·rw[if_pos c]
   have hm:(lo + hi) / 2 < xs.size:=by omega
   have eg:xs.getD ((lo + hi) / 2) j=xs.getD ((lo + hi) / 2) 0:=by rw[Array.getD_eq_getD_getElem?,Array.getD_eq_getD_getElem?,Array.getElem?_eq_getElem hm];rfl
   by_cases d:xs.getD ((lo + hi) / 2) j < j
   ·simp only [if_pos d]
    refine zjs xs j asc fuel _ hi (by omega) h2 (by omega) (fun i hi'=>?_) b
    rcases Nat.lt_or_eq_of_le (Nat.le_of_lt_succ hi') with z | z
    ·have:=asc i _ z hm;omega
    ·rw[z];omega
   ·simp only [if_neg d]
    refine zjs xs j asc fuel lo _ (by omega) (by omega) (by omega) a (fun i hi' hs=>?_)
    rcases Nat.lt_or_eq_of_le hi' with z | z
    ·have:=asc _ i z hs;omega
    ·rw[← z];omega
  ·rw[if_neg c]
   have e:lo=hi:=by omega
   subst e
   exact⟨a,b,h2⟩
theorem zdp (xs:Array Nat) (j:Nat) (asc:Asc xs):(∀ i,i < SetTable.below xs j->xs.getD i 0 < j)∧(∀ i,SetTable.below xs j≤i->i < xs.size->j≤xs.getD i 0)∧SetTable.below xs j≤xs.size:=by
 unfold SetTable.below
 exact zjs xs j asc _ 0 xs.size (Nat.zero_le _) (Nat.le_refl _) (by omega) (fun i h=>by omega) (fun i h1 h2=>by omega)
/-- the place behind the i-th -/
theorem zl1 (xs:Array Nat) (asc:Asc xs) {i p:Nat} (h:xs[i]?=some p):SetTable.below xs (p + 1)=i + 1:=by
 obtain⟨hi,e⟩:=Array.getElem?_eq_some_iff.mp h
 have eg:xs.getD i 0=p:=by rw[Array.getD_eq_getD_getElem?,h];rfl
 obtain⟨h1,h2,h3⟩:=zdp xs (p + 1) asc
 rcases Nat.lt_trichotomy (SetTable.below xs (p + 1)) (i + 1) with z | z | z
 ·have:=h2 i (by omega) hi;omega
 ·exact z
 ·have a:=h1 (i + 1) z
  have b:=asc i (i + 1) (by omega) (by omega)
  omega
theorem zl0 (xs:Array Nat) (asc:Asc xs):SetTable.below xs 0=0:=by
 obtain⟨h1,_,_⟩:=zdp xs 0 asc
 rcases Nat.eq_zero_or_pos (SetTable.below xs 0) with z | z
 ·exact z
 ·have:=h1 0 z;omega
theorem Asc.list {xs:Array Nat}:Asc xs↔xs.toList.Pairwise (· < ·):=by
 rw[List.pairwise_iff_getElem]
 have g:∀ i (h:i < xs.toList.length),xs.getD i 0=xs.toList[i]:=fun i h=>by
  have h':i < xs.size:=by simpa using h
  rw[Array.getD_eq_getD_getElem?,Array.getElem?_eq_getElem h'];simp
 constructor
 ·intro a i j hi hj ij
  have:=a i j ij (by simpa using hj)
  rw[g i hi,g j hj] at this
  exact this
 ·intro a i j ij hj
  have hj':j < xs.toList.length:=by simpa using hj
  have:=a i j (by omega) hj' ij
  rw[g i (by omega),g j hj']
  exact this
theorem zl4 {xs:Array Nat} {j:Nat} (asc:Asc xs) (new:xs[SetTable.below xs j]?≠some j):Asc (SetTable.insertAt xs (SetTable.below xs j) j):=by
 obtain⟨h1,h2,h3⟩:=zdp xs j asc
 rw[Asc.list,SetTable.toList_insertAt]
 have al:=Asc.list.mp asc
 have g:∀ i (h:i < xs.size),xs.getD i 0=xs[i]:=fun i h=>by rw[Array.getD_eq_getD_getElem?,Array.getElem?_eq_getElem h];rfl
 have lo:∀ x ∈ xs.toList.take (SetTable.below xs j),x < j:=fun x hx=>by
  obtain⟨i,hi,e⟩:=List.getElem_of_mem hx
  rw[List.length_take] at hi
  have hs:i < xs.size:=by simp at hi;omega
  have:=h1 i (by omega)
  rw[g i hs] at this
  rw[List.getElem_take] at e
  have e':xs[i]=x:=by simpa using e
  omega
 have hi:∀ x ∈ xs.toList.drop (SetTable.below xs j),j < x:=fun x hx=>by
  obtain⟨i,hi,e⟩:=List.getElem_of_mem hx
  rw[List.length_drop] at hi
  have hs:SetTable.below xs j + i < xs.size:=by simp at hi;omega
  have:=h2 (SetTable.below xs j + i) (by omega) hs
  rw[g _ hs] at this
  rw[List.getElem_drop] at e
  have e':xs[SetTable.below xs j + i]=x:=by simpa using e
  rcases Nat.lt_or_eq_of_le this with z | z
  ·omega
  ·exfalso
   rcases Nat.eq_zero_or_pos i with i0 | i0
   ·subst i0
    apply new
    rw[Array.getElem?_eq_getElem (by omega)]
    simp at z
    rw[← z]
   ·have b0:SetTable.below xs j < xs.size:=by omega
    have q1:=h2 (SetTable.below xs j) (Nat.le_refl _) b0
    have q2:=asc (SetTable.below xs j) (SetTable.below xs j + i) (by omega) hs
    rw[g _ hs] at q2
    omega
 refine List.pairwise_append.mpr ⟨al.sublist (List.take_sublist _ _),List.pairwise_cons.mpr ⟨fun x hx=>hi x hx,al.sublist (List.drop_sublist _ _)⟩,fun a ha b hb=>?_⟩
 rcases List.mem_cons.mp hb with z | z
 ·rw[z];exact lo a ha
 ·have:=lo a ha;have:=hi b z;omega
theorem zol (n:Nat):Asc (Array.range n):=by
 rw[Asc.list]
 simpa using List.pairwise_lt_range
/-- what holds of each table that was made by adding -/
def TI (b:Bool) (t:SetTable):Prop:=Asc t.place∧t.led=b
theorem zoz (b:Bool):TI b (.fresh 0 0 b):=⟨fun i j _ h=>by simp [SetTable.fresh] at h,rfl⟩
theorem zcn {b:Bool} {t:SetTable} (h:TI b t) (n:Nat):TI b (t.standIn n):=⟨zol n,h.2⟩
theorem zs0 {b:Bool} {t:SetTable} (h:TI b t) (n:Nat):TI b (t.orStandIn n):=by
 unfold SetTable.orStandIn
 split
 ·exact h
 ·exact zcn h n
theorem zoy {b:Bool} {t:SetTable} (h:TI b t):TI b { t with plain:=false }:=h
theorem zkd {t:SetTable} {j:Nat} (h:t.slot j=.empty∨t.slot j=.dummy):t.place[SetTable.below t.place j]?≠some j:=fun e=>by
 unfold SetTable.slot at h
 have c:(t.place[SetTable.below t.place j]? == some j)=true:=by rw[e];simp
 simp only [c,if_true] at h
 rcases h with h | h <;> cases h
theorem zdj (t:SetTable) (hashAt:Nat->Int) (h:Int):∀ (f:Nat) (p:SetTable.Probe),(∀ d,p.dummy=some d->t.slot d=.dummy)->∀ j dm,SetTable.probe.go t hashAt h f p=some (.empty j dm)->t.slot j=.empty∧∀ d,dm=some d->t.slot d=.dummy
 | 0,p,_,j,dm,e=>by cases e
 | f + 1,p,hp,j,dm,e=>by
  have adv:∀ q:SetTable.Probe,(t.advance q).dummy=q.dummy:=fun q=>by
   unfold SetTable.advance
   split <;> rfl
  unfold SetTable.probe.go at e
  split at e
  ·rename_i hs
   injection e with e
   injection e with e1 e2
   subst e1;subst e2
   exact⟨hs,hp⟩
  ·rename_i hs
   refine zdj t hashAt h f _ (fun d hd=>?_) j dm e
   rw[adv] at hd
   have:p.j=d:=by simpa using hd
   rw[← this];exact hs
  ·split at e
   ·cases e
   ·refine zdj t hashAt h f _ (fun d hd=>?_) j dm e
    rw[adv] at hd
    exact hp d hd
theorem zpj {t:SetTable} {h:Int} {s:Nat} {w:Bool} (e:t.freeSlot h=some (s,w)):t.place[SetTable.below t.place s]?≠some s:=by
 unfold SetTable.freeSlot at e
 split at e
 ·rename_i j dm hm
  unfold SetTable.probe at hm
  obtain⟨h1,h2⟩:=zdj t _ h _ _ (fun d hd=>by cases hd) j dm hm
  injection e with e
  injection e with e1 _
  cases dm with
  | none=>exact zkd (.inl (by rw[← e1];exact h1))
  | some d=>exact zkd (.inr (by rw[← e1];exact h2 d rfl))
 ·cases e
theorem zmk {b:Bool} {t:SetTable} (h:TI b t) (es:Array (Int × Value)) (k:Int) (x:Value):TI b (layNew t es k x).2.1:=by
 unfold layNew
 split
 ·rename_i s w e
  exact zs0 (t:=(t.put s).1) ⟨zl4 h.1 (zpj e),h.2⟩ _
 ·exact zcn h _
theorem zn2 {f:Nat->Option Nat} (hf:∀ j y,f j=some y->y=j):∀ l:List Nat,(l.filterMap f).Sublist l
 | []=>.slnil
 | j::l=>by
  rw[List.filterMap_cons]
  cases e:f j with
  | none=>exact (zn2 hf l).cons j
  | some y=>rw[hf j y e];exact (zn2 hf l).cons₂ j
theorem zox {b:Bool} {t:SetTable} (h:TI b t) (es:Array (Int × Value)) (wanted:Nat):TI b (relayAll t es wanted).2.1:=by
 unfold relayAll
 split
 ·rename_i t' order e
  dsimp only
  split
  ·unfold SetTable.relaid SetTable.laid at e
   simp only [Option.bind_eq_bind,Option.bind_eq_some_iff] at e
   obtain⟨owner,_,e⟩:=e
   injection e with e
   injection e with e1 _
   rw[← e1]
   refine⟨?_,h.2⟩
   rw[Asc.list]
   simp only [List.map_filterMap]
   refine List.pairwise_lt_range.sublist (zn2 (fun j y hy=>?_) _)
   cases c:owner.getD j none with
   | none=>rw[c] at hy;cases hy
   | some z=>rw[c] at hy;exact (Option.some.inj hy).symm
  ·exact zcn h _
 ·exact zcn h _
end Stb
namespace Stb
open PySem PyProof.Rows
/-- whether sets of this world are led -/
def ledOf (w:World):Bool:=!w.params.followText "set-order"
/-- the table of the set at a -/
def TIat (w:World) (h:Heap) (a:Addr):Prop:=∃ o es ep t,h.get? a=some o∧o.data=.set es ep t∧TI (ledOf w) t
abbrev SetT (P:Program) (w:World) (h:Heap) (a:Addr) (S:Int->Bool) (n:Nat):Prop:=h.SetOf (intKind P w) a S n∧TIat w h a
section
variable {prog:Program} {w:World} {A:Around} {E:Value->Shared->Prop} {s:Shared}
theorem SetT.keep {h h':Heap} {a:Addr} {S:Int->Bool} {n:Nat} (x:SetT prog w h a S n) (k:∀ o,h.get? a=some o->h'.get? a=some o):SetT prog w h' a S n:=by
 obtain⟨⟨o,es,ep,t,ho,r⟩,o',es',ep',t',ho',r'⟩:=x
 exact⟨⟨o,es,ep,t,k _ ho,r⟩,o',es',ep',t',k _ ho',r'⟩
/-- what is behind the finding of a place -/
theorem zkm {g:Bool->Sem Unit} (gp:∀ (b:Bool) (z:Shared) (U:Unit->Shared->Prop),U () z->wpAny (model prog w) A (g b) U E z) {S':Int->Bool}
  {a:Addr} {o:Obj} {es es1:Array (Int × Value)} {ep:Nat} {t t2:SetTable} (ho:s.heap.get? a=some o) (ox:o.ExactSet) (od:o.data=.set es ep t)
  (el:ElemsOf (intKind prog w) es1.toList) (me:∀ k,S' k=true↔∃ e ∈ es1.toList,(intKind prog w).is k e.2=true) (small:es1.size < scanBound) (fit:t2.fits es1.size=true) (ti:TI (ledOf w) t2) {dum:Bool} {R:Option Bool->Shared->Prop}
  (fin:∀ h',Heap.SameBut a s.heap h'->SetT prog w h' a S' es1.size->R (some true) { s with heap:=h' }) :
  wpAny (model prog w) A (do
      storeSet a es1 t2
      if (!dum && t2.tooFull) = true then do
          g (relayAll t2 es1 (SetTable.grown es1.size)).2.2
          storeSet a (relayAll t2 es1 (SetTable.grown es1.size)).1 (relayAll t2 es1 (SetTable.grown es1.size)).2.1
          pure (some true)
        else pure (some true)) R E s:=by
 refine wpAny_bind (wpAny_storeSet_of ho od ?_ (fits_of_scanBound small))
 obtain⟨g1,s1⟩:=SetOf_store (knd:=intKind prog w) ho ox od el me small fit
 have sb:=Heap.SameBut.update s.heap a (Obj.putSet es1 t2)
 split
 ·have pm:=relayAll_perm t2 es1 (SetTable.grown es1.size)
  have fr:=relayAll_fits t2 es1 (SetTable.grown es1.size)
  have tr:=zox ti es1 (SetTable.grown es1.size)
  generalize relayAll t2 es1 (SetTable.grown es1.size)=Rl at pm fr tr ⊢
  obtain⟨es2,t3,gv⟩:=Rl
  dsimp only at pm fr tr ⊢
  have sz:es2.size=es1.size:=by rw[← Array.length_toList,pm.length_eq,Array.length_toList]
  have sm2:es2.size < scanBound:=sz ▸ small
  refine wpAny_bind (gp _ _ _ (wpAny_bind (wpAny_storeSet_of g1 rfl ?_ (fits_of_scanBound sm2))))
  obtain⟨g2,s2⟩:=SetOf_store (knd:=intKind prog w) g1 ox rfl (el.perm pm) (fun k=>(me k).trans ⟨fun ⟨e,he,q⟩=>⟨e,pm.mem_iff.mpr he,q⟩,fun ⟨e,he,q⟩=>⟨e,pm.mem_iff.mp he,q⟩⟩) sm2 fr
  rw[sz] at s2
  exact wpAny_pure (fin _ (sb.trans (Heap.SameBut.update _ a _)) ⟨s2,_,_,_,_,g2,rfl,tr⟩)
 ·exact wpAny_pure (fin _ sb ⟨s1,_,_,_,_,g1,rfl,ti⟩)
/-- one more -/
theorem zs9 {a:Addr} {S:Int->Bool} {n:Nat} {k:Int} {x:Value} {Q:Bool->Shared->Prop} (kx:(intKind prog w).is k x=true) (sx:x.scannable=true) (st:SetT prog w s.heap a S n) (room:n + 1 < scanBound)
  (fin:∀ h',Heap.SameBut a s.heap h'->SetT prog w h' a (fun y=>S y || decide (y=k)) (if S k then n else n + 1)->Q (!S k) { s with heap:=h' }) :
  wpAny (model prog w) A (setAddHashed a x ((intKind prog w).hash k)) Q E s:=by
 obtain⟨⟨o,es,ep,t,ho,ox,od,el,me,small,fit,en⟩,o',es',ep',t',ho',od',ti⟩:=st
 rw[ho] at ho';cases ho'
 rw[od] at od';cases od'
 have small1:es.size + 1 < scanBound:=en ▸ room
 unfold setAddHashed setAddHashedIn
 refine wpAny_holding (wpAny_bind (wpAny_setState_of ho od fit ?_))
 dsimp only
 rw[byScan_of sx small el,if_pos rfl]
 unfold setAddByScan
 refine wpAny_bind (wpAny_bind (wpAny_rule (wpAny_bind (wpAny_setScan_of kx ho od fit el ?_))))
 cases fd:List.findIdx? (fun e=>(intKind prog w).is k e.2) es.toList with
 | some j =>
  dsimp only
  obtain⟨jl,jp,_⟩:=List.findIdx?_eq_some_iff_getElem.mp fd
  have sk:S k=true:=(me k).mpr ⟨es.toList[j],List.getElem_mem jl,jp⟩
  refine wpAny_pure (wpAny_pure ?_)
  have es0:s={ s with heap:=s.heap }:=by cases s;rfl
  have q:=fin s.heap (Heap.SameBut.refl a s.heap) ⟨⟨o,es,ep,t,ho,ox,od,el,fun y=>by
   rw[Bool.or_eq_true,decide_eq_true_eq,← me y]
   exact⟨fun z=>z.elim id (fun e=>e ▸ sk),.inl⟩,small,fit,by rw[sk];exact en⟩,o,es,ep,t,ho,od,ti⟩
  rw[sk] at q;rw[es0];exact q
 | none =>
  dsimp only
  have sk:S k=false:=by
   cases c:S k with
   | false=>rfl
   | true=>obtain⟨e,he,hp⟩:=(me k).mp c;have:=List.findIdx?_eq_none_iff.mp fd e he;rw[hp] at this;cases this
  have pm:=layNew_perm t es ((intKind prog w).hash k) x
  have ft:=layNew_fits t es ((intKind prog w).hash k) x
  have tl:=zmk ti es ((intKind prog w).hash k) x
  generalize layNew t es ((intKind prog w).hash k) x=L at pm ft tl ⊢
  obtain⟨es1,t1,dum,gv⟩:=L
  dsimp only at pm ft tl ⊢
  rw[Array.toList_push] at pm
  have el1:ElemsOf (intKind prog w) es1.toList:=(el.push kx sx).perm pm
  have me1:∀ y,(S y || decide (y=k))=true↔∃ e ∈ es1.toList,(intKind prog w).is y e.2=true:=mem_push_iff kx me pm
  have ez:es1.size=es.size + 1:=by rw[← Array.length_toList,pm.length_eq,List.length_append,Array.length_toList];rfl
  have small2:es1.size < scanBound:=ez ▸ small1
  have gw:∀ (b:Bool) (z:Shared) (U:Unit->Shared->Prop),U () z->wpAny (model prog w) A (match b with | true=>rule "set.scan.the-table-gave-way" | false=>pure ()) U E z :=
   fun b z U hq=>by cases b <;> first | exact wpAny_pure hq | exact wpAny_rule hq
  refine wpAny_bind (gw _ _ _ ?_)
  have last:∀ h',Heap.SameBut a s.heap h'->SetT prog w h' a (fun y=>S y || decide (y=k)) es1.size->Q true { s with heap:=h' }:=fun h' sb z=>by
   have q:=fin h' sb;rw[sk] at q;rw[ez,en] at z;exact q z
  split
  ·refine wpAny_bind ?_
   rw[hashByValue_scannable 8 sx]
   refine wpAny_pure (zkm (fun b z U hq=>?_) ho ox od el1 me1 small2 ?_ ?_ fun h' sb z=>?_)
   ·cases b <;> first | exact wpAny_pure hq | exact wpAny_rule hq
   ·split
    ·exact ft
    ·exact SetTable.fits_plain_off ft
   ·split
    ·exact tl
    ·exact zoy tl
   ·dsimp only;exact wpAny_pure (last h' sb z)
  ·refine wpAny_bind (wpAny_pure ?_)
   simp only [↓reduceIte]
   refine zkm (fun b z U hq=>?_) ho ox od el1 me1 small2 ft tl fun h' sb z=>?_
   ·cases b <;> first | exact wpAny_pure hq | exact wpAny_rule hq
   ·dsimp only;exact wpAny_pure (last h' sb z)
/-- all that an iterator gives -/
theorem zsq {R:Result->Shared->Prop} {I:Addr} {fp wr:List Addr} {G:Array GenState->Array GenState->Prop} {n:Nat} {P:Nat->Value->Prop} {St:Nat->Shared->Prop} (W:WalksS prog w A.in1 I fp wr G n P St) (a:Addr) (af:a ∉ fp)
  (val:Nat->Int) (hv:∀ i v,P i v->∃ t,v=.int (val i) t) (hb:n + 1 < scanBound) :
  ∀ (k i:Nat) (s:Shared),n - i=k->i≤n->St i s->SetT prog w s.heap a (fun y=>(firstMet val i).any (· == y)) (firstMet val i).length ->
   (∀ s',Moved (a::wr) G s s'->SetT prog w s'.heap a (fun y=>(firstMet val n).any (· == y)) (firstMet val n).length->R (.ok (.ret .none)) s') ->
   codeAny (model prog w) A (.builtin "set.update.loop" ⟨[.ref a,.ref I],[]⟩) R s:=by
 have aw:a ∉ wr:=fun h=>af (W.sub _ h)
 have up:∀ b ∈ wr,b ∈ a::wr:=fun b hb=>List.mem_cons_of_mem _ hb
 intro k
 induction k with
 | zero =>
  intro i s hk hi st x fin
  obtain rfl:i=n:=by omega
  refine codeAny_builtin PyProof.Rows.F.entry_set_update_loop ?_
  rw[Around.under_plainId PyProof.Rows.F.plain_set_update_loop _]
  show wpAny _ A.in1 (pyNext (.ref I) >>= _) _ _ s
  refine wpAny_bind (W.done s _ _ st fun s' hm=>?_)
  show wpAny _ A.in1 (ret Value.none) _ _ s'
  exact wpAny_pure (fin s' (hm.mono up) (x.keep fun o e=>hm.heap a o aw e))
 | succ k ih =>
  intro i s hk hi st x fin
  have lt:i < n:=by omega
  refine codeAny_builtin PyProof.Rows.F.entry_set_update_loop ?_
  rw[Around.under_plainId PyProof.Rows.F.plain_set_update_loop _]
  show wpAny _ A.in1 (pyNext (.ref I) >>= _) _ _ s
  refine wpAny_bind (W.item i s _ _ lt st fun v s' hP st' hm=>?_)
  obtain⟨t,rfl⟩:=hv i v hP
  have x':=x.keep (prog:=prog) fun o e=>hm.heap a o aw e
  show wpAny _ A.in1 (holding [Value.int (val i) t] (setAdd a (.int (val i) t)) >>= _) _ _ s'
  refine wpAny_bind (wpAny_holding ?_)
  unfold setAdd
  refine wpAny_holding (wpAny_bind ((intKind prog w).pyHash (k:=val i) (intKind_is _ _ _ _) ?_))
  refine zs9 (s:={ s' with toks:=s'.toks + 1 }) (intKind_is _ _ _ _) rfl x' (by have:=firstMet_length_le val i;omega) fun h' sb x2=>?_
  have x3:SetT prog w h' a (fun y=>(firstMet val (i + 1)).any (· == y)) (firstMet val (i + 1)).length :=
   ⟨SetOf_congr x2.1 (fun y=>by rw[firstMet_succ,step_any]) (by rw[firstMet_succ,step_length]),x2.2⟩
  refine wpAny_pure ⟨plainId_quiet PyProof.Rows.F.plain_set_update_loop _,ih (i + 1) _ (by omega) lt (W.frame _ s' _ _ st' (Nat.le_succ _) fun b hb o e=>?_) x3 fun s'' hm2 x4=>?_⟩
  ·rw[sb.2 b (fun h:b=a=>af (by rw[← h];exact hb))];exact e
  ·refine fin s'' (Moved.trans W.gtrans ((hm.mono up).then_heap (Nat.le_succ _) fun b o hb e=>?_) hm2) x4
   rw[sb.2 b (fun h:b=a=>hb (by rw[h];exact List.mem_cons_self))];exact e
end
end Stb
namespace Stb
open PySem PyProof.Rows
section
variable {prog:Program} {w:World} {A:Around} {E:Value->Shared->Prop} {s:Shared}
/-- an empty set -/
abbrev emp (w:World):Obj:={ cls:=.type "set",dict:=none,data:=.set #[] 0 (.fresh 0 0 (ledOf w)) }
theorem zs2 (x:Value) {U:Value->Shared->Prop} (fin:U (.ref s.heap.objs.size) { s with heap:=s.heap.push (emp w) }) :
  codeAny (model prog w) A (.call (.builtin "set.__new__") ⟨[.type "set",x],[]⟩) (wants U E) s:=by
 refine codeAny_of_tree ?_
 show wpAny _ A.in1 (checkBuiltinCall "set.__new__" ⟨[.type "set",x],[]⟩ >>= fun _=>again (.builtin "set.__new__" ⟨[.type "set",x],[]⟩)) _ _ s
 refine wpAny_bind (wpAny_of_eq (PySem.F.newCall_set_1 x) (wpAny_pure ⟨plainId_quiet PySem.F.plain_set_new _,codeAny_builtin PySem.F.entry_set_new ?_⟩))
 rw[Around.under_plainId PySem.F.plain_set_new _]
 unfold Builtin.«set.__new__» Builtin.Frozenset.newClass
 have sub1:=PySem.sub_set_self
 obtain⟨hp,g,d,tk,os⟩:=s
 dsimp only
 wp_walk
 refine wpAny_askSetting (wpAny_pure ?_)
 simp only [newObj]
 exact wpAny_bind (wpAny_alloc (wpAny_pure (wpAny_pure fin)))
theorem zs6 (h:Heap):SetT prog w (h.push (emp w)) h.objs.size (fun y=>(firstMet (fun i=>([]:List Int).getD i 0) 0).any (· == y)) 0 :=
 ⟨SetOf_congr ((setObjOf_fresh (knd:=intKind prog w) (ledOf w)).setOf (Heap.get?_push_size _ rfl) (by unfold scanBound;omega)) (fun _=>rfl) rfl,_,_,_,_,Heap.get?_push_size _ rfl,rfl,zoz _⟩
end
end Stb
namespace Stb
open PySem PyProof.Rows
theorem sl_next:Slot "set_iterator" "__next__" "set_iterator.__next__":=.of (owner:="set_iterator") (n:="__next__") (by rw[typeLookup_type,builtinLookup_eq_fast];kernel_rfl) (by decide +kernel) (by decide +kernel) (by decide +kernel) (by first | exact .inl (by decide +kernel) | exact .inr (by decide +kernel)) (by rw[isSubtype_type];kernel_rfl)
theorem zgv:entryFor table "set_iterator.__next__"=some Builtin.«set_iterator.__next__»:=entryFor_of_tree (by kernel_rfl)
theorem zm3:Manifest.owners.lookup (String.ofList ['r','o','t','a','r','e','t','i','_','t','e','s'].reverse)=some Manifest.sig_set_iterator:=by kernel_rfl
theorem zhd (a:Value):argsOk "set_iterator.__next__" ⟨[a],[]⟩:=by
 unfold argsOk;rw[signature?_of (id:="set_iterator.__next__") (n:=['_','_','t','x','e','n','_','_']) (o:=['r','o','t','a','r','e','t','i','_','t','e','s']) (by kernel_rfl) zm3];kernel_rfl
theorem zrp:entryFor table "set.__iter__"=some Builtin.«frozenset.__iter__»:=entryFor_alias (id':="frozenset.__iter__") (by kernel_rfl) rfl (by decide +kernel) (by kernel_rfl)
theorem zqc {α:Type} {l:List α} {i:Nat} (h:i < l.length):(l[i]::l.eraseIdx i).Perm l:=by
 rw[List.eraseIdx_eq_take_drop_succ]
 refine List.perm_middle.symm.trans ?_
 rw[← List.drop_eq_getElem_cons h,List.take_append_drop]
theorem zm1 {α:Type} (next:Nat->Nat):∀ (f k:Nat) (left:List α) (out:Array α),left.length=f->(pickOrder.go next f k left out).toList.Perm (out.toList++left)
 | 0,k,left,out,h=>by
  have:left=[]:=List.length_eq_zero_iff.mp h
  subst this
  unfold pickOrder.go
  simp
 | f + 1,k,left,out,h=>by
  have lt:next k % left.length < left.length:=Nat.mod_lt _ (by omega)
  unfold pickOrder.go
  rw[List.getElem?_eq_getElem lt]
  dsimp only
  refine (zm1 next f (k + 1) _ _ (by rw[List.length_eraseIdx_of_lt lt];omega)).trans ?_
  rw[Array.toList_push,List.append_assoc]
  refine List.Perm.append_left _ ?_
  exact zqc lt
theorem zm0 {α:Type} (next:Nat->Nat) (xs:Array α):(pickOrder next xs).toList.Perm xs.toList:=by
 unfold pickOrder
 simpa using zm1 next xs.size 0 xs.toList #[] (by simp)
section
variable {prog:Program} {w:World} {A:Around} {E:Value->Shared->Prop} {s:Shared}
theorem zl9 {M:Model} {src:Source} {n:Nat} {Q:Nat->Shared->Prop} (hn:n≠0) (h:∀ i,i < n->Q i { s with drawn:=s.drawn.bump src }):wpAny M A (choose src n) Q E s:=fun Γ p hΓ=>by
 unfold choose
 rw[Sem.wp_choose]
 exact⟨hn,by exact h _ (Nat.mod_lt _ (Nat.pos_of_ne_zero hn))⟩
theorem zhf {α:Type} {M:Model} (n:Nat):∀ (xs:List α) (s:Shared) (Q:List α->Shared->Prop),xs.length=n->(∀ ys d',ys.Perm xs->Q ys { s with drawn:=d' })->wpAny M A (drawOrder n xs) Q E s:=by
 induction n with
 | zero =>
  intro xs s Q h hQ
  have:xs=[]:=List.length_eq_zero_iff.mp h
  subst this
  unfold drawOrder
  exact wpAny_pure (hQ [] s.drawn .nil)
 | succ n ih =>
  intro xs s Q h hQ
  cases xs with
  | nil=>cases h
  | cons x xs =>
   unfold drawOrder
   refine wpAny_bind (zl9 (by simp) fun i hi=>?_)
   rw[List.getElem?_eq_getElem hi]
   refine wpAny_bind (ih _ _ _ (by rw[List.length_eraseIdx_of_lt hi];simp at h ⊢;omega) fun ys d' pm=>wpAny_pure (hQ _ d' ?_))
   exact (List.Perm.cons _ pm).trans (zqc hi)
end
end Stb
namespace Stb
open PySem PyProof.Rows
/-- how an iterator of a set goes -/
inductive Knd where
 | text
 | drawn (p:Addr) (pl:List Nat)
 | places
def First (w:World) (a:Addr) (es:Array (Int × Value)) (ep:Nat) (t:SetTable) (ord:List (Int × Value)) (i:Nat) (h:Heap) (first:Value):Knd->Prop
 | .text=>ledOf w=false∧ord=(pickOrder (w.params.setOrder a ep) es).toList∧∃ z:Nat,first=.int z 0
 | .drawn p pl=>first=.ref p∧h.IsTuple p (pl.map fun i=>rawInt (i:Nat)).toArray∧ord.length=pl.length∧∀ j k:Nat,pl[j]?=some k->∃ e,es[k]?=some e∧ord[j]?=some e
 | .places=>ledOf w=true∧(t.plain=true∨es.size≤1)∧ord=es.toList∧∃ z:Nat,first=.int z 0∧SetTable.below t.place z=i
def IsSet (h:Heap) (a:Addr) (es:Array (Int × Value)) (ep:Nat) (t:SetTable):Prop:=∃ o,h.get? a=some o∧o.cls=.type "set"∧o.data=.set es ep t
def IsIt (h:Heap) (I a:Addr) (n ep i:Nat) (first:Value):Prop:=∃ o,h.get? I=some o∧o.cls=.type "set_iterator"∧o.data=.fields #[first,.int i 0,.ref a,.int n 0,.int ep 0]
section
variable {prog:Program} {w:World} {A:Around} {E:Value->Shared->Prop} {s:Shared} {a I:Addr} {es:Array (Int × Value)} {ep:Nat} {t:SetTable}
theorem zh7 {Q:Option (Value × Nat)->Shared->Prop} {z i:Nat} (hs:IsSet s.heap a es ep t) (fit:t.fits es.size=true) (hl:ledOf w=false)
  (h:Q (((pickOrder (w.params.setOrder a ep) es)[i]?).map fun e=>(e.2,z)) s):wpAny (model prog w) A (setNext a z i ep) Q E s:=by
 obtain⟨o,ho,_,od⟩:=hs
 have ft:w.params.followText "set-order"=true:=by simpa [ledOf] using hl
 unfold setNext setsByText
 refine wpAny_bind (wpAny_setState_of ho od fit ?_)
 refine wpAny_bind (wpAny_bind (wpAny_askSetting (wpAny_pure ?_)))
 show wpAny _ _ (if w.params.followText "set-order"=true then _ else _) _ _ _
 rw[if_pos ft]
 dsimp only
 rw[if_neg (by simp)]
 refine wpAny_bind ?_
 unfold setWalk setsByText
 refine wpAny_bind (wpAny_setState_of ho od fit ?_)
 refine wpAny_bind (wpAny_bind (wpAny_askSetting (wpAny_pure ?_)))
 show wpAny _ _ (if w.params.followText "set-order"=true then _ else _) _ _ _
 rw[if_pos ft]
 exact wpAny_bind (wpAny_askSetting (wpAny_pure (wpAny_pure h)))
theorem zev {Q:Option (Value × Nat)->Shared->Prop} {z i:Nat} (hs:IsSet s.heap a es ep t) (fit:t.fits es.size=true) (ti:TI (ledOf w) t) (hl:ledOf w=true) (hp:t.plain=true∨es.size≤1)
  (h:Q (match es[SetTable.below t.place z]?,t.place[SetTable.below t.place z]? with | some (_,x),some j=>some (x,j + 1) | _,_=>none) s):wpAny (model prog w) A (setNext a z i ep) Q E s:=by
 obtain⟨o,ho,_,od⟩:=hs
 have ft:w.params.followText "set-order"=false:=by simpa [ledOf] using hl
 unfold setNext setsByText
 refine wpAny_bind (wpAny_setState_of ho od fit ?_)
 refine wpAny_bind (wpAny_bind (wpAny_askSetting (wpAny_pure ?_)))
 show wpAny _ _ (if w.params.followText "set-order"=true then _ else _) _ _ _
 rw[if_neg (by rw[ft];exact Bool.false_ne_true)]
 dsimp only
 show wpAny _ _ (if (!t.plain && decide (es.size > 1))=true then _ else _) _ _ _
 rw[if_neg (by rcases hp with z | z <;> simp [z])]
 show wpAny _ _ ((if (!t.led && !es.isEmpty)=true then unsupported "set:maker-not-led" else pure ()) >>= _) _ _ _
 rw[if_neg (by rw[ti.2,hl];simp)]
 exact wpAny_bind (wpAny_pure (wpAny_pure h))
/-- two fields anew -/
theorem IsIt.set0 {h:Heap} {n ep i:Nat} {first:Value} (x:IsIt h I a n ep i first) (v:Value):IsIt (h.update I (Obj.mapFields (·.setIfInBounds 0 v))) I a n ep i v:=by
 obtain⟨o,ho,hc,hd⟩:=x
 exact⟨_,Heap.get?_update_self _ ho (Obj.isFreed_of_fields (Obj.data_mapFields hd _)),(Obj.cls_mapFields ..).trans hc,by rw[Obj.data_mapFields hd];simp⟩
theorem IsIt.set1 {h:Heap} {n ep i:Nat} {first:Value} (x:IsIt h I a n ep i first):IsIt (h.update I (Obj.mapFields (·.setIfInBounds 1 (rawInt ((i:Int) + 1))))) I a n ep (i + 1) first:=by
 obtain⟨o,ho,hc,hd⟩:=x
 exact⟨_,Heap.get?_update_self _ ho (Obj.isFreed_of_fields (Obj.data_mapFields hd _)),(Obj.cls_mapFields ..).trans hc,by rw[Obj.data_mapFields hd];simp [rawInt]⟩
theorem zkc {Q:PySem.Fin->Shared->Prop} (hh:A.handled=none) (hE:∀ (e:Value) (h':Heap),(∀ b o,s.heap.get? b=some o->h'.get? b=some o)->Shared.TypeIs { s with heap:=h' } e "StopIteration"->E e { s with heap:=h' }) :
  wpAny (model prog w) A (newExc (.type "StopIteration") [] >>= fun e=>raiseNew e) Q E s:=by
 refine wpAny_bind ?_
 simp only [newExc,newTuple]
 refine wpAny_bind (wpAny_newObj_type ?_ (by size_fits))
 refine wpAny_bind (m:=firstArgMember _ _) (wpAny_of_eq (a:=Value.none) (by first | rfl | (simp only [firstArgMember];rfl)) (wpAny_newObj_type ?_ (by size_fits)))
 simp only [raiseNew]
 refine wpAny_bind (wpAny_handled ?_)
 rw[hh]
 refine wpAny_bind (wpAny_pure (wpAny_throw ?_))
 refine hE _ _ (fun b o e=>Heap.get?_push_of_some _ (Heap.get?_push_of_some _ e)) ?_
 exact⟨_,Heap.get?_push_size _ rfl,rfl⟩
section
variable {Q:Option Value->Shared->Prop} {i:Nat}
theorem zko {x:Value} {z nx:Nat} (hs:IsSet s.heap a es ep t) (fit:t.fits es.size=true) (hit:IsIt s.heap I a es.size ep i (.int z 0))
  (hn:∀ (A':Around) (Q':Option (Value × Nat)->Shared->Prop) (E':Value->Shared->Prop),Q' (some (x,nx)) s->wpAny (model prog w) A' (setNext a z i ep) Q' E' s)
  (hQ:∀ h',IsIt h' I a es.size ep (i + 1) (.int nx 0)->Heap.SameBut I s.heap h'->Q (some x) { s with heap:=h' }):wpAny (model prog w) A (pyNext (.ref I)) Q E s:=by
 obtain⟨oi,hi,ci,di⟩:=id hit
 obtain⟨o,ho,_,od⟩:=hs
 unfold pyNext
 refine wpAny_bind (wpAny_attempt (wpAny_callSpecial?_slot (name:=Str.ofString "__next__") ⟨oi,hi,ci⟩ sl_next (wpAny_call_entry sl_next ⟨oi,hi,ci⟩ zgv ?_ (zhd _))))
 show wpAny _ _ (fieldsOf (.ref I) >>= _) _ _ s
 refine wpAny_bind (wpAny_fieldsOf hi di ?_)
 show wpAny _ _ (setEntries a >>= _) _ _ s
 refine wpAny_bind (wpAny_setEntries_of ho od fit ?_)
 dsimp only
 rw[if_neg (by simp)]
 show wpAny _ _ (setNext a z i ep >>= _) _ _ s
 refine wpAny_bind (hn _ _ _ ?_)
 dsimp only
 refine wpAny_bind (wpAny_setField hi di (by simp) ?_)
 obtain⟨o1,hi1,ci1,di1⟩:=id (hit.set0 (rawInt nx))
 refine wpAny_bind (wpAny_setField hi1 di1 (by simp) (wpAny_pure ⟨x,rfl,wpAny_pure (hQ _ ?_ ((Heap.SameBut.update ..).trans (Heap.SameBut.update ..)))⟩))
 exact (hit.set0 (rawInt nx)).set1
theorem znx {z:Nat} (hh:A.handled=none) (hs:IsSet s.heap a es ep t) (fit:t.fits es.size=true) (hit:IsIt s.heap I a es.size ep i (.int z 0))
  (hn:∀ (A':Around) (Q':Option (Value × Nat)->Shared->Prop) (E':Value->Shared->Prop),Q' none s->wpAny (model prog w) A' (setNext a z i ep) Q' E' s)
  (hQ:∀ h',(∀ b o,b≠I->s.heap.get? b=some o->h'.get? b=some o)->Q none { s with heap:=h' }):wpAny (model prog w) A (pyNext (.ref I)) Q E s:=by
 obtain⟨oi,hi,ci,di⟩:=id hit
 obtain⟨o,ho,_,od⟩:=hs
 unfold pyNext
 refine wpAny_bind (wpAny_attempt (wpAny_callSpecial?_slot (name:=Str.ofString "__next__") ⟨oi,hi,ci⟩ sl_next (wpAny_call_entry sl_next ⟨oi,hi,ci⟩ zgv ?_ (zhd _))))
 show wpAny _ _ (fieldsOf (.ref I) >>= _) _ _ s
 refine wpAny_bind (wpAny_fieldsOf hi di ?_)
 show wpAny _ _ (setEntries a >>= _) _ _ s
 refine wpAny_bind (wpAny_setEntries_of ho od fit ?_)
 dsimp only
 rw[if_neg (by simp)]
 show wpAny _ _ (setNext a z i ep >>= _) _ _ s
 refine wpAny_bind (hn _ _ _ ?_)
 dsimp only
 refine wpAny_bind (wpAny_setField hi di (by simp) (zkc hh fun e h' hk ty=>?_))
 refine wpAny_bind (wpAny_isInstance (T:="StopIteration") (b:=true) ty isSubtype_stop (wpAny_pure (hQ _ fun b o hb e=>hk b o ?_)))
 exact (Heap.get?_update_other _ _ (Ne.symm hb)).trans e
theorem zo3 {x:Value} {p:Addr} {pl:List Nat} {k:Nat} {hx:Int} (hs:IsSet s.heap a es ep t) (fit:t.fits es.size=true) (hit:IsIt s.heap I a es.size ep i (.ref p)) (hp:s.heap.IsTuple p (pl.map fun i=>rawInt (i:Nat)).toArray)
  (hk:pl[i]?=some k) (he:es[k]?=some (hx,x)) (hQ:∀ h',IsIt h' I a es.size ep (i + 1) (.ref p)->Heap.SameBut I s.heap h'->Q (some x) { s with heap:=h' }):wpAny (model prog w) A (pyNext (.ref I)) Q E s:=by
 obtain⟨oi,hi,ci,di⟩:=id hit
 obtain⟨o,ho,_,od⟩:=hs
 obtain⟨ol,hol,_,nl,hdl⟩:=hp
 unfold pyNext
 refine wpAny_bind (wpAny_attempt (wpAny_callSpecial?_slot (name:=Str.ofString "__next__") ⟨oi,hi,ci⟩ sl_next (wpAny_call_entry sl_next ⟨oi,hi,ci⟩ zgv ?_ (zhd _))))
 show wpAny _ _ (fieldsOf (.ref I) >>= _) _ _ s
 refine wpAny_bind (wpAny_fieldsOf hi di ?_)
 show wpAny _ _ (setEntries a >>= _) _ _ s
 refine wpAny_bind (wpAny_setEntries_of ho od fit ?_)
 dsimp only
 rw[if_neg (by simp)]
 show wpAny _ _ (seqItems? (.ref p) >>= _) _ _ s
 refine wpAny_bind (wpAny_seqItems hol hdl ?_)
 have ek:(pl.map fun i=>rawInt (i:Nat)).toArray[i]?=some (.int k 0):=by rw[List.getElem?_toArray,List.getElem?_map,hk];rfl
 simp only [Int.toNat_natCast,ek]
 show wpAny _ _ (setNextDrawn a k ep >>= _) _ _ s
 refine wpAny_bind ?_
 unfold setNextDrawn
 refine wpAny_bind (wpAny_setState_of ho od fit ?_)
 dsimp only
 rw[if_neg (by simp),he]
 refine wpAny_pure (wpAny_bind (wpAny_setField hi di (by simp) (wpAny_pure ⟨x,rfl,wpAny_pure (hQ _ hit.set1 (Heap.SameBut.update ..))⟩)))
theorem zq3 {p:Addr} {pl:List Nat} (hh:A.handled=none) (hs:IsSet s.heap a es ep t) (fit:t.fits es.size=true) (hit:IsIt s.heap I a es.size ep i (.ref p)) (hp:s.heap.IsTuple p (pl.map fun i=>rawInt (i:Nat)).toArray)
  (hk:pl[i]?=none) (hQ:∀ h',(∀ b o,b≠I->s.heap.get? b=some o->h'.get? b=some o)->Q none { s with heap:=h' }):wpAny (model prog w) A (pyNext (.ref I)) Q E s:=by
 obtain⟨oi,hi,ci,di⟩:=id hit
 obtain⟨o,ho,_,od⟩:=hs
 obtain⟨ol,hol,_,nl,hdl⟩:=hp
 unfold pyNext
 refine wpAny_bind (wpAny_attempt (wpAny_callSpecial?_slot (name:=Str.ofString "__next__") ⟨oi,hi,ci⟩ sl_next (wpAny_call_entry sl_next ⟨oi,hi,ci⟩ zgv ?_ (zhd _))))
 show wpAny _ _ (fieldsOf (.ref I) >>= _) _ _ s
 refine wpAny_bind (wpAny_fieldsOf hi di ?_)
 show wpAny _ _ (setEntries a >>= _) _ _ s
 refine wpAny_bind (wpAny_setEntries_of ho od fit ?_)
 dsimp only
 rw[if_neg (by simp)]
 show wpAny _ _ (seqItems? (.ref p) >>= _) _ _ s
 refine wpAny_bind (wpAny_seqItems hol hdl ?_)
 have ek:(pl.map fun i=>rawInt (i:Nat)).toArray[i]?=none:=by rw[List.getElem?_toArray,List.getElem?_map,hk];rfl
 simp only [Int.toNat_natCast,ek]
 refine wpAny_bind (wpAny_setField hi di (by simp) ?_)
 obtain⟨o1,hi1,ci1,di1⟩:=id (hit.set0 (rawInt 0))
 refine wpAny_bind (wpAny_setField hi1 di1 (by simp) (zkc hh fun e h' hk ty=>?_))
 refine wpAny_bind (wpAny_isInstance (T:="StopIteration") (b:=true) ty isSubtype_stop (wpAny_pure (hQ _ fun b o hb e=>hk b o ?_)))
 exact (Heap.get?_update_other _ _ (Ne.symm hb)).trans ((Heap.get?_update_other _ _ (Ne.symm hb)).trans e)
end
end
end Stb
namespace Stb
open PySem PyProof.Rows
theorem zmn:Slot "set_iterator" "__iter__" "set_iterator.__iter__":=.of (owner:="set_iterator") (n:="__iter__") (by rw[typeLookup_type,builtinLookup_eq_fast];kernel_rfl) (by decide +kernel) (by decide +kernel) (by decide +kernel) (by first | exact .inl (by decide +kernel) | exact .inr (by decide +kernel)) (by rw[isSubtype_type];kernel_rfl)
theorem zpn:entryFor table "set_iterator.__iter__"=some Builtin.«dict_keyiterator.__iter__»:=entryFor_alias (id':="dict_keyiterator.__iter__") (by kernel_rfl) (by first | rfl | decide +kernel | (unfold String.splitOn;simp +decide [String.splitOnAux])) (by decide +kernel) (by kernel_rfl)
theorem zrv (a:Value):argsOk "set_iterator.__iter__" ⟨[a],[]⟩:=by
 unfold argsOk;rw[signature?_of (id:="set_iterator.__iter__") (n:=['_','_','r','e','t','i','_','_']) (o:=['r','o','t','a','r','e','t','i','_','t','e','s']) (by kernel_rfl) zm3];kernel_rfl
section
variable {prog:Program} {w:World} {A:Around} {E:Value->Shared->Prop} {s:Shared} {a I:Addr} {es:Array (Int × Value)} {ep:Nat} {t:SetTable}
theorem znu {Q:Value->Shared->Prop} {n i:Nat} {f:Value} (hit:IsIt s.heap I a n ep i f) (h:Q (.ref I) s):wpAny (model prog w) A (pyIter (.ref I)) Q E s:=by
 obtain⟨oi,hi,ci,di⟩:=id hit
 refine wpAny_pyIter_slot ⟨oi,hi,ci⟩ zmn (wpAny_call_entry zmn ⟨oi,hi,ci⟩ zpn ?_ (zrv _))
 show wpAny _ _ (ret (.ref I)) _ _ s
 exact wpAny_pure ⟨_,rfl,"set_iterator",_,⟨oi,hi,ci⟩,sl_next.lookup,h⟩
def fpK (I a:Addr):Knd->List Addr
 | .drawn p _=>[I,a,p]
 | _=>[I,a]
def StK (w:World) (a I:Addr) (es:Array (Int × Value)) (ep:Nat) (t:SetTable) (ord:List (Int × Value)) (kd:Knd) (i:Nat) (h:Heap):Prop :=
 IsSet h a es ep t∧∃ first,IsIt h I a es.size ep i first∧First w a es ep t ord i h first kd
theorem zs4 (I a:Addr):∀ kd,I ∈ fpK I a kd∧a ∈ fpK I a kd
 | .text=>by simp [fpK]
 | .drawn _ _=>by simp [fpK]
 | .places=>by simp [fpK]
theorem zot {ord:List (Int × Value)} {kd:Knd} (hh:A.handled=none) (aI:a≠I) (fit:t.fits es.size=true) (ti:TI (ledOf w) t) (hpI:∀ p pl,kd=.drawn p pl->p≠I) (pm:ord.Perm es.toList) :
  Walks prog w A I (fpK I a kd) [I] ord.length (fun i v=>∃ e,ord[i]?=some e∧v=e.2) (StK w a I es ep t ord kd) where
 sub:=fun b hb=>by simp at hb;rw[hb];exact (zs4 I a kd).1
 frame:=fun i h h' st hk=>by
  obtain⟨⟨o,ho,r⟩,f,⟨oi,hi,ri⟩,fk⟩:=st
  refine⟨⟨o,hk a (zs4 I a kd).2 o ho,r⟩,f,⟨oi,hk I (zs4 I a kd).1 oi hi,ri⟩,?_⟩
  cases kd with
  | text=>exact fk
  | places=>exact fk
  | drawn p pl =>
   obtain⟨e,⟨op,hp,rp⟩,rest⟩:=fk
   exact⟨e,⟨op,hk p (by simp [fpK]) op hp,rp⟩,rest⟩
 self:=fun i s Q E st hQ=>by
  obtain⟨_,f,hit,_⟩:=st
  exact znu hit hQ
 item:=fun i s Q E hi st hQ=>by
  obtain⟨hs,f,hit,fk⟩:=st
  have hsK:∀ h',Heap.SameBut I s.heap h'->IsSet h' a es ep t:=fun h' sb=>by
   obtain⟨o,ho,r⟩:=hs
   exact⟨o,sb.extBut a o aI ho,r⟩
  have kp:∀ h',Heap.SameBut I s.heap h'->∀ b o,b ∉ [I]->s.heap.get? b=some o->h'.get? b=some o:=fun h' sb b o hb e=>sb.extBut b o (fun z=>hb (by simp [z])) e
  have oi:ord[i]?=some ord[i]:=List.getElem?_eq_getElem hi
  cases kd with
  | text =>
   obtain⟨hl,eo,z,rfl⟩:=fk
   have ei:(pickOrder (w.params.setOrder a ep) es)[i]?=some ord[i]:=by rw[← Array.getElem?_toList,← eo];exact oi
   refine zko (x:=ord[i].2) (nx:=z) hs fit hit (fun A' Q' E' q=>zh7 hs fit hl ?_) fun h' hit' sb=>hQ _ h' s.toks ⟨_,oi,rfl⟩ ⟨hsK h' sb,_,hit',hl,eo,z,rfl⟩ (kp h' sb)
   rw[ei];exact q
  | places =>
   obtain⟨hl,hp,eo,z,rfl,eb⟩:=fk
   have ei:es[i]?=some ord[i]:=by rw[← Array.getElem?_toList,← eo];exact oi
   have szp:t.place.size=es.size:=by
    simp only [SetTable.fits,Bool.and_eq_true,beq_iff_eq] at fit
    exact fit.1
   have il:i < t.place.size:=by rw[szp];exact (Array.getElem?_eq_some_iff.mp ei).1
   have ep':t.place[i]?=some t.place[i]:=Array.getElem?_eq_getElem il
   refine zko (x:=ord[i].2) (nx:=t.place[i] + 1) hs fit hit (fun A' Q' E' q=>zev hs fit ti hl hp ?_) fun h' hit' sb=>hQ _ h' s.toks ⟨_,oi,rfl⟩ ⟨hsK h' sb,_,hit',hl,hp,eo,_,rfl,zl1 _ ti.1 ep'⟩ (kp h' sb)
   rw[eb,ei,ep'];exact q
  | drawn p pl =>
   obtain⟨rfl,hp,el,hj⟩:=fk
   have il:i < pl.length:=el ▸ hi
   obtain⟨e,ek,eo⟩:=hj i _ (List.getElem?_eq_getElem il)
   obtain⟨hx,x⟩:=e
   refine zo3 (x:=x) hs fit hit hp (List.getElem?_eq_getElem il) ek fun h' hit' sb=>hQ _ h' s.toks ⟨_,eo,rfl⟩ ⟨hsK h' sb,_,hit',rfl,?_,el,hj⟩ (kp h' sb)
   obtain⟨op,hop,rp⟩:=hp
   exact⟨op,sb.extBut p op (hpI p pl rfl) hop,rp⟩
 done:=fun s Q E st hQ=>by
  obtain⟨hs,f,hit,fk⟩:=st
  have lo:ord.length=es.size:=by rw[pm.length_eq,Array.length_toList]
  have kp:∀ h':Heap,(∀ b o,b≠I->s.heap.get? b=some o->h'.get? b=some o)->∀ b o,b ∉ [I]->s.heap.get? b=some o->h'.get? b=some o:=fun h' k b o hb e=>k b o (fun z=>hb (by simp [z])) e
  cases kd with
  | text =>
   obtain⟨hl,eo,z,rfl⟩:=fk
   refine znx hh hs fit hit (fun A' Q' E' q=>zh7 hs fit hl ?_) fun h' k=>hQ h' s.toks (kp h' k)
   have:(pickOrder (w.params.setOrder a ep) es)[ord.length]?=none:=by rw[← Array.getElem?_toList,← eo,List.getElem?_eq_none (Nat.le_refl _)]
   rw[this];exact q
  | places =>
   obtain⟨hl,hp,eo,z,rfl,eb⟩:=fk
   refine znx hh hs fit hit (fun A' Q' E' q=>zev hs fit ti hl hp ?_) fun h' k=>hQ h' s.toks (kp h' k)
   have:es[ord.length]?=none:=by rw[lo];simp
   rw[eb,this];exact q
  | drawn p pl =>
   obtain⟨rfl,hp,el,hj⟩:=fk
   exact zq3 hh hs fit hit hp (by rw[el,List.getElem?_eq_none (Nat.le_refl _)]) fun h' k=>hQ h' s.toks (kp h' k)
end
end Stb
namespace Stb
open PySem PyProof.Rows
section
variable {prog:Program} {w:World} {A:Around} {E:Value->Shared->Prop} {s:Shared} {a:Addr} {es:Array (Int × Value)} {ep:Nat} {t:SetTable}
theorem zpe {Q:Bool->Shared->Prop} (hs:IsSet s.heap a es ep t) (fit:t.fits es.size=true) (h:Q (ledOf w && (!t.plain && decide (es.size > 1))) s):wpAny (model prog w) A (setDrawn a) Q E s:=by
 obtain⟨o,ho,_,od⟩:=hs
 unfold setDrawn setsByText
 refine wpAny_bind (wpAny_setState_of ho od fit ?_)
 exact wpAny_bind (wpAny_bind (wpAny_askSetting (wpAny_pure (wpAny_pure h))))
/-- iter of a set -/
theorem zpd {Q:Value->Shared->Prop} (hs:IsSet s.heap a es ep t) (fit:t.fits es.size=true) (ti:TI (ledOf w) t) (small:es.size≤4096)
  (h:∀ (I:Addr) (h':Heap) (d':Drawn) (ord:List (Int × Value)) (kd:Knd),(∀ b o,s.heap.get? b=some o->h'.get? b=some o)->s.heap.objs.size≤I->(∀ p pl,kd=.drawn p pl->p≠I∧s.heap.objs.size≤p)->ord.Perm es.toList->StK w a I es ep t ord kd 0 h' ->
   Q (.ref I) { s with heap:=h',drawn:=d' }):wpAny (model prog w) A (pyIter (.ref a)) Q E s:=by
 obtain⟨o,ho,oc,od⟩:=id hs
 refine wpAny_pyIter_slot ⟨o,ho,oc⟩ PySem.F.slot_set_iter (wpAny_call_entry PySem.F.slot_set_iter ⟨o,ho,oc⟩ zrp ?_ (PySem.F.args_set_iter_1 _))
 unfold Builtin.«frozenset.__iter__» Builtin.Frozenset.sizeOf
 show wpAny _ _ ((setEntries a >>= fun x=>pure x.size) >>= _) _ _ s
 refine wpAny_bind (wpAny_bind (wpAny_setEntries_of ho od fit (wpAny_pure (wpAny_bind (zpe hs fit ?_)))))
 have lastT : ∀ (h1 : Heap) (first : Value) (d' : Drawn) (ord : List (Int × Value)) (kd : Knd), (∀ b o, s.heap.get? b = some o → h1.get? b = some o) → s.heap.objs.size ≤ h1.objs.size → (∀ p pl, kd = .drawn p pl → p < h1.objs.size ∧ s.heap.objs.size ≤ p) → ord.Perm es.toList → (∀ h', (∀ b o, h1.get? b = some o → h'.get? b = some o) → First w a es ep t ord 0 h' first kd) →
     wpAny (model prog w) A.in1 (setEpoch a >>= fun e=>newFields "set_iterator" [first,rawInt 0,.ref a,rawInt es.size,rawInt e] >>= fun v=>ret v) (fun fin s'=>∃ v,fin=.done (.ret v)∧∃ T' r,s'.TypeIs v T'∧typeLookup (.type T') (Str.ofString "__next__")=pure (some r)∧Q v s') E { s with heap:=h1,drawn:=d' }:=fun h1 first d' ord kd hk sz hp pm hf=>by
  refine wpAny_bind (wpAny_setEpoch_of (hk a o ho) od fit (wpAny_bind (wpAny_newObj_type (wpAny_pure ⟨_,rfl,"set_iterator",_,⟨_,Heap.get?_push_size _ rfl,rfl⟩,sl_next.lookup,?_⟩))))
  exact h _ _ d' ord kd (fun b o e=>Heap.get?_push_of_some _ (hk b o e)) sz (fun p pl e=>⟨Nat.ne_of_lt (hp p pl e).1,(hp p pl e).2⟩) pm ⟨⟨o,Heap.get?_push_of_some _ (hk a o ho),oc,od⟩,first,⟨_,Heap.get?_push_size _ rfl,rfl,rfl⟩,hf _ fun b o e=>Heap.get?_push_of_some _ e⟩
 dsimp only
 have es0:s={ s with heap:=s.heap,drawn:=s.drawn }:=by cases s;rfl
 by_cases c:(ledOf w && (!t.plain && decide (es.size > 1)))=true
 ·rw[if_pos c]
  refine wpAny_bind (zhf _ _ _ _ (by simp) fun ys d' pm=>?_)
  have yl:ys.length=es.size:=by rw[pm.length_eq,List.length_range]
  have line:es.size≤sizeLine:=by rw[sizeLine_eq];omega
  refine wpAny_bind (wpAny_newObj_type ?_ (by show (ys.map fun i=>rawInt (i:Nat)).toArray.size≤sizeLine;simpa [yl] using line))
  have ordE:∀ k ∈ ys,∃ e,es[k]?=some e:=fun k hk=>by
   have:k < es.size:=by simpa using pm.mem_iff.mp hk
   exact⟨_,Array.getElem?_eq_getElem this⟩
  have fm:∀ l:List Nat,(∀ k ∈ l,∃ e,es[k]?=some e)->(l.filterMap (es[·]?)).length=l.length∧∀ j k:Nat,l[j]?=some k->∃ e,es[k]?=some e∧(l.filterMap (es[·]?))[j]?=some e:=fun l=>by
   induction l with
   | nil=>exact fun _=>⟨rfl,fun j k e=>by simp at e⟩
   | cons x l ih =>
    intro hx
    obtain⟨e,he⟩:=hx x (by simp)
    obtain⟨h1,h2⟩:=ih fun k hk=>hx k (List.mem_cons_of_mem _ hk)
    rw[List.filterMap_cons_some (b:=e) he]
    refine⟨by simp [h1],fun j k ej=>?_⟩
    cases j with
    | zero=>simp at ej;subst ej;exact⟨e,he,rfl⟩
    | succ j=>simp only [List.getElem?_cons_succ] at ej ⊢;exact h2 j k ej
  obtain⟨f1,f2⟩:=fm ys ordE
  refine lastT _ (.ref s.heap.objs.size) d' (ys.filterMap (es[·]?)) (.drawn s.heap.objs.size ys) (fun b o e=>Heap.get?_push_of_some _ e) (by rw[Heap.size_push];exact Nat.le_succ _) (fun p pl e=>by cases e;rw[Heap.size_push];exact⟨Nat.lt_succ_self _,Nat.le_refl _⟩) ?_ fun h' k=>⟨rfl,⟨_,k _ _ (Heap.get?_push_size _ rfl),rfl,_,rfl⟩,f1,f2⟩
  exact (pm.filterMap _).trans (by rw[filterMap_getElem?_range])
 ·rw[if_neg c]
  refine wpAny_bind (wpAny_pure ?_)
  cases cl:ledOf w with
  | false =>
   rw[es0]
   exact lastT s.heap (rawInt 0) s.drawn _ .text (fun _ _ e=>e) (Nat.le_refl _) (fun p pl e=>nomatch e) (zm0 _ es) fun h' k=>⟨cl,rfl,0,rfl⟩
  | true =>
   rw[es0]
   refine lastT s.heap (rawInt 0) s.drawn es.toList .places (fun _ _ e=>e) (Nat.le_refl _) (fun p pl e=>nomatch e) (.refl _) fun h' k=>⟨cl,?_,rfl,0,rfl,zl0 _ ti.1⟩
   rw[cl] at c
   cases pl:t.plain with
   | true=>exact .inl rfl
   | false=>rw[pl] at c;exact .inr (by simpa using c)
theorem zpg {Q:Bool->Shared->Prop} (hT:s.TypeIs (.ref a) "set") (h:Q false s):wpAny (model prog w) A (Builtin.List.listLengthHint (.ref a)) Q E s:=by
 unfold Builtin.List.listLengthHint
 refine wpAny_bind (wpAny_specialOf hT PySem.F.slot_set_len.lookup ?_)
 generalize hid:("set.__len__":String)=id0
 wp_delta
 rw[show splitId id0=some ("set","__len__") from by subst hid;decide +kernel]
 subst hid
 refine wpAny_bind (wpAny_isInstance (T:="set") (b:=true) hT (by rw[isSubtype_type];kernel_rfl) (wpAny_ite_split (fun z=>absurd z (by decide)) fun _=>?_))
 refine wpAny_ite_split (fun _=>wpAny_bind (wpAny_typeOf hT (wpAny_pure h))) (fun z=>absurd (by decide +kernel) z)
theorem zjp:∀ l:List (Int × Value),ElemsOf (intKind prog w) l->∃ ks,IntsAre (l.map (·.2)) ks∧ks.length=l.length∧∀ k,k ∈ ks↔∃ e ∈ l,(intKind prog w).is k e.2=true
 | [],_=>⟨[],.nil,rfl,fun k=>by simp⟩
 | e::l,h=>by
  obtain⟨ks,h1,h2,h3⟩:=zjp l h.tail
  obtain⟨⟨k,hk,_⟩,_⟩:=h.head
  obtain⟨hx,x⟩:=e
  obtain⟨u,rfl⟩:=Value.isInt_shape hk
  refine⟨k::ks,.cons k u h1,by simp [h2],fun y=>?_⟩
  rw[List.mem_cons,h3 y]
  constructor
  ·rintro (rfl | ⟨e,he,q⟩)
   ·exact⟨_,List.mem_cons_self,hk⟩
   ·exact⟨e,List.mem_cons_of_mem _ he,q⟩
  ·rintro ⟨e,he,q⟩
   rcases List.mem_cons.mp he with rfl | he
   ·exact .inl ((intKind prog w).inj _ _ _ q hk)
   ·exact .inr ⟨e,he,q⟩
theorem zrj {ord:List (Int × Value)} {acc:Array Value} (h:ItemsOf (fun i v=>∃ e,ord[i]?=some e∧v=e.2) acc ord.length):acc.toList=ord.map (·.2):=by
 refine List.ext_getElem (by simp [h.1]) fun i h1 h2=>?_
 have hi:i < acc.size:=by simpa using h1
 obtain⟨e,e1,e2⟩:=h.2 i _ (Array.getElem?_eq_getElem hi)
 have hi2:i < ord.length:=by simpa using h2
 rw[List.getElem?_eq_getElem hi2] at e1
 cases e1
 simpa using e2
/-- all of a set, as a list -/
theorem zjw {Q:List Value->Shared->Prop} {S:Int->Bool} {n:Nat} (hh:A.handled=none) (st:SetT prog w s.heap a S n)
  (hQ:∀ (h':Heap) (tk:Nat) (d':Drawn) (vs:List Value) (ks:List Int),(∀ b o,s.heap.get? b=some o->h'.get? b=some o)->IntsAre vs ks->ks.length=n->(∀ k,S k=true↔k ∈ ks)->Q vs { s with heap:=h',toks:=tk,drawn:=d' }) :
  wpAny (model prog w) A (collect (.ref a)) Q E s:=by
 obtain⟨⟨o,es,ep,t,ho,ox,od,el,me,small,fit,en⟩,o',es',ep',t',ho',od',ti⟩:=st
 rw[ho] at ho';cases ho'
 rw[od] at od';cases od'
 unfold collect
 refine wpAny_bind (wpAny_runValue (codeAny_builtin PySem.F.entry_proto_collect ?_))
 rw[Around.under_plainId PySem.F.plain_proto_collect _]
 show wpAny _ A.in1 (newList [] >>= fun l=>again (.builtin "list.__iadd__" ⟨[l,.ref a],[]⟩)) _ _ s
 refine wpAny_bind (wpAny_newObj_type ?_)
 refine wpAny_pure ⟨plainId_quiet PySem.F.plain_list_iadd _,codeAny_builtin PySem.F.entry_list_iadd ?_⟩
 rw[Around.under_plainId PySem.F.plain_list_iadd _]
 show wpAny _ A.in1 (Builtin.List.listExtendWith (.ref s.heap.objs.size) (.ref a) (.ref s.heap.objs.size)) _ _ _
 have alt:a < s.heap.objs.size:=Heap.lt_size ho
 have hS:(s.heap.push { cls:=.type "list",data:=.seq ([]:List Value).toArray }).get? s.heap.objs.size=some { cls:=.type "list",data:=.seq #[] }:=Heap.get?_push_size _ rfl
 have szL:(s.heap.push { cls:=.type "list",data:=.seq ([]:List Value).toArray }).objs.size=s.heap.objs.size + 1:=Heap.size_push ..
 unfold Builtin.List.listExtendWith
 have tS:Shared.TypeIs { s with heap:=s.heap.push { cls:=.type "list",data:=.seq ([]:List Value).toArray } } (.ref a) "set":=⟨o,Heap.get?_push_of_some _ ho,ox.1⟩
 refine wpAny_bind (wpAny_typeOf (T:="set") tS ?_)
 have h1:Builtin.List.listSameRef (.ref s.heap.objs.size) (.ref a)=false:=by simp only [Builtin.List.listSameRef,beq_eq_false_iff_ne];exact Nat.ne_of_gt alt
 have h2:(Value.type "set" == Value.type "list")=false:=by decide
 have h3:(Value.type "set" == Value.type "tuple")=false:=by decide
 simp only [h1,h2,h3,Bool.or_false,Bool.false_eq_true,if_false]
 refine wpAny_bind (zpd (t:=t) ⟨o,Heap.get?_push_of_some _ ho,ox.1,od⟩ fit ti (Nat.le_of_lt small) fun I h1 d1 ord kd hk lI hp pm stk=>?_)
 refine wpAny_bind (wpAny_holding (zpg ⟨o,hk a o (Heap.get?_push_of_some _ ho),ox.1⟩ ?_))
 refine wpAny_ite_split (fun _=>?_) (fun z=>absurd (by decide) z)
 refine wpAny_bind (wpAny_rule ?_)
 refine wpAny_bind ?_
 show wpAny _ _ (updateSeq s.heap.objs.size (·.push .none) >>= fun _=>updateSeq s.heap.objs.size (·.pop)) _ _ _
 have g1:=hk _ _ hS
 refine wpAny_bind (wpAny_updateSeq g1 rfl ?_)
 have g2:=Heap.get?_update_self (Obj.mapSeq (·.push Value.none)) g1 rfl
 refine wpAny_updateSeq (hz:=by seq_fits) g2 rfl ?_
 have g3:=Heap.get?_update_self (Obj.mapSeq (·.pop)) g2 rfl
 have neI:s.heap.objs.size≠I:=Nat.ne_of_lt (Nat.lt_of_lt_of_le (by rw[szL];exact Nat.lt_succ_self _) lI)
 have nfp:s.heap.objs.size ∉ fpK I a kd:=by
  cases kd with
  | text=>simp only [fpK,List.mem_cons,List.not_mem_nil,or_false,not_or];exact⟨neI,Nat.ne_of_gt alt⟩
  | places=>simp only [fpK,List.mem_cons,List.not_mem_nil,or_false,not_or];exact⟨neI,Nat.ne_of_gt alt⟩
  | drawn p pl =>
   simp only [fpK,List.mem_cons,List.not_mem_nil,or_false,not_or]
   exact⟨neI,Nat.ne_of_gt alt,Nat.ne_of_lt (Nat.lt_of_lt_of_le (by rw[szL];exact Nat.lt_succ_self _) (hp p pl rfl).2)⟩
 have aI:a≠I:=Nat.ne_of_lt (Nat.lt_of_lt_of_le (by rw[szL];exact Nat.lt_succ_of_lt alt) lI)
 have W:=zot (prog:=prog) (w:=w) (A:=A.in1) (ep:=ep) (ord:=ord) (kd:=kd) hh aI fit ti (fun p pl e=>(hp p pl e).1) pm
 have kU:∀ b o,b≠s.heap.objs.size->h1.get? b=some o->((h1.update s.heap.objs.size (Obj.mapSeq (·.push Value.none))).update s.heap.objs.size (Obj.mapSeq (·.pop))).get? b=some o:=fun b o hb e =>
  (Heap.get?_update_other _ _ (Ne.symm hb)).trans ((Heap.get?_update_other _ _ (Ne.symm hb)).trans e)
 have st1:=W.frame 0 _ _ stk fun b hb o e=>kU b o (fun z=>nfp (z ▸ hb)) e
 have lo:ord.length=n:=by rw[pm.length_eq,Array.length_toList,en]
 refine wpAny_pure ⟨plainId_quiet PySem.F.plain_extend_loop _,codeAny_extend_loopS W.toS (by rw[lo,← en];exact fits_of_scanBound small) s.heap.objs.size nfp _ ord.length 0 _ #[] _ rfl (Nat.zero_le _) st1 g3 (ItemsOf.nil _) fun s' acc' c' hm hS' hacc=>?_⟩
 rw[Moved.eq_with hm]
 refine wpAny_bind (wpAny_load hS' (wpAny_pure ?_))
 obtain⟨ks,i1,i2,i3⟩:=zjp (prog:=prog) (w:=w) ord (el.perm pm)
 rw[zrj hacc]
 refine hQ _ _ _ _ ks (fun b o e=>hm.heap b o ?_ (kU b o (Nat.ne_of_lt (Heap.lt_size e)) (hk b o (Heap.get?_push_of_some _ e)))) i1 (i2.trans lo) fun k=>(me k).trans ?_
 ·simp only [List.mem_cons,List.not_mem_nil,or_false,not_or]
  have:=Heap.lt_size e
  exact⟨Nat.ne_of_lt this,Nat.ne_of_lt (Nat.lt_of_lt_of_le (by rw[szL];exact Nat.lt_succ_of_lt this) lI)⟩
 ·rw[i3 k]
  exact⟨fun ⟨e,he,q⟩=>⟨e,pm.mem_iff.mpr he,q⟩,fun ⟨e,he,q⟩=>⟨e,pm.mem_iff.mp he,q⟩⟩
end
end Stb
namespace Srt
open PySem PySem.Spec PyProof.Rows PySem.W
section
variable {prog:Program} {w:World} {A:Around} {E:Value->Shared->Prop} {s:Shared}
/-- sorted(x), x what collect makes some list of -/
theorem zja {x:Value} {Q:Value->Shared->Prop} {Good:List Value->Shared->Prop}
  (hcol:∀ (A':Around) (E':Value->Shared->Prop) (Q':List Value->Shared->Prop),A'.handled=A.handled->(∀ vs s',Good vs s'->Q' vs s')->wpAny (model prog w) A' (collect x) Q' E' s)
  (hg:∀ vs s1,Good vs s1->∃ (r:Nat->Int) (κ:SortKind),vs.length < 64∧(2≤vs.length->∀ (A':Around) (s':Shared) (Q:SortKind->Shared->Prop),Q κ s'->wpAny (model prog w) A' (keyKind' vs.toArray) Q (fun _ _=>False) s') ∧
   (∀ (A':Around) (s':Shared) (i j:Nat) (C:Bool->Shared->Prop),i < vs.length->j < vs.length->C (decide (r i < r j)) s'->kas_ask prog w A' κ vs i j C s') ∧
   ∀ (p:Array Nat) (h':Heap) (c:Nat),Gd vs.length p->Up r p vs.length->(∀ b o,s1.heap.get? b=some o->h'.get? b=some o)->h'.get? s1.heap.objs.size=some (seqObj "list" (outOf vs p).toArray c)->Q (.ref s1.heap.objs.size) { s1 with heap:=h' }) :
  wpAny (model prog w) A (call (.builtin "sorted") [x]) Q E s:=by
 have line:(64:Nat)≤sizeLine:=by rw[sizeLine_eq];decide
 refine Calls.call_function_entry kind_sorted plain_sorted entry_sorted (args_sorted1 _) ?_
 unfold Builtin.«sorted»
 refine wpAny_bind (m:=checkCount "sorted" 1 1 _) (wpAny_pure (wpAny_bind (hcol _ _ _ rfl fun vs s1 g=>?_)))
 obtain⟨r,κ,h64,hk,hc,h⟩:=hg vs s1 g
 refine wpAny_bind (wpAny_newList ?_ (by omega))
 have hoL:(s1.heap.push { cls:=.type "list",data:=.seq vs.toArray }).get? s1.heap.objs.size=some (seqObj "list" vs.toArray 0):=Heap.get?_push_size _ rfl
 have ne2:∀ b o,s1.heap.get? b=some o->b≠s1.heap.objs.size:=fun b o q=>Nat.ne_of_lt (Heap.lt_size q)
 show wpAny _ _ _ _ _ { s1 with heap:=s1.heap.push { cls:=.type "list",data:=.seq vs.toArray } }
 refine wpAny_bind (wpAny_holding (wpAny_call_entry slot_list_sort ⟨_,hoL,rfl⟩ entry_list_sort ?_ (args_list_sort _)))
 refine lsort (s:={ s1 with heap:=s1.heap.push { cls:=.type "list",data:=.seq vs.toArray } }) (r:=r) (κ:=κ) hoL h64 (fun h2 s' Q' st q=>hk h2 _ s' Q' q) (fun s' i j C st hi hj q=>hc _ s' i j C hi hj q) fun p h' c g1 u1 st e=>⟨_,rfl,?_⟩
 exact wpAny_pure ⟨_,rfl,h p h' c g1 u1 (fun b o q=>st b o (ne2 b o q) (Heap.get?_push_of_some _ q)) e⟩
end
end Srt
namespace L3
open PySem PySem.Spec PyProof.Rows L2
/-- a set that can be walked -/
def SetO (P:Program) (w:World) (a:Addr) (S:Int->Bool) (n:Nat):HO:=.ext fun h=>Stb.SetT P w h a S n
section
variable {X:Cx}
theorem zih (hh:X.calm=true):CallR X (.builtin "sorted") (fun xs H Q=>∃ (p:Addr) (S:Int->Bool) (n:Nat),xs=[.ref p]∧H p=some (SetO X.prog X.w p S n)∧n < 64∧∀ ms:List Int,ms.length=n->(∀ k,S k=true↔k ∈ ms)->ms.Pairwise (·≤·)->∀ l H',Same H H'->H l=none->H' l=some (.lst (ms.map V.int))->Q (.ref l) H'):=by
 intro pins s σ H xs us Q I r h
 obtain⟨p,S,n,rfl,hp,h64,q⟩:=h
 obtain⟨u,rfl,rx⟩:=vals1 r
 cases rx
 have hS:Stb.SetT X.prog X.w s.heap p S n:=(show ObjOk X.prog X.w H s.heap p (SetO X.prog X.w p S n) from I.hok p _ hp).1
 refine Srt.zja (Good:=fun vs s1=>∃ (h1:Heap) (tk:Nat) (d':Drawn) (ns:List Int),s1={ s with heap:=h1,toks:=tk,drawn:=d' }∧(∀ b o,s.heap.get? b=some o->h1.get? b=some o)∧IntsAre vs ns∧ns.length=n∧∀ k,S k=true↔k ∈ ns)
  (fun A' E' Q' eh hQ=>Stb.zjw (eh.trans (I.ok.hd hh)) hS fun h1 tk d' vs ns hk hI hl hm=>hQ vs _ ⟨h1,tk,d',ns,rfl,hk,hI,hl,hm⟩) fun its s1 g=>?_
 obtain⟨gg,tk,d',ns,rfl,kg,hI,hn,hm⟩:=g
 have hl:its.length=ns.length:=by
  clear hn hm
  induction hI with
  | nil=>rfl
  | cons n t _ ih=>simp [ih]
 refine⟨fun i=>ns.getD i 0,oneType',by omega,fun h2 A' s' Q' q'=>Srt.zgq hI h2 q',fun A' s' i j C hi hj q'=>Srt.zjq hI hi hj q',fun pp h' c g u kp e=>?_⟩
 have g':Srt.Gd ns.length pp:=by rw[← hl];exact g
 have u':Srt.Up (fun i=>ns.getD i 0) pp ns.length:=by rw[← hl];exact u
 have pm:(pp.toList.map fun i=>ns.getD i 0).Perm ns:=by
  have:=ze4 g' fun i=>ns.getD i 0
  rw[zbf] at this
  exact this
 have pw:(pp.toList.map fun i=>ns.getD i 0).Pairwise (·≤·):=by
  rw[List.pairwise_map]
  exact zeh g' u' fun i j _ _ z=>z
 have I1:Inv X pins σ H { s with heap:=gg,toks:=tk,drawn:=d' }:=by
  have:=I.kept (t':=tk) kg
  exact⟨this.ok,this.os,this.bare,this.base,this.loc,this.cell,this.free,this.freeC,this.pin,this.hok,this.len⟩
 have fr:H gg.objs.size=none:=I1.hok.fresh (Nat.le_refl _)
 have ev:((pp.toList.map fun i=>ns.getD i 0).map V.int)=pp.toList.map fun i=>(ns.map V.int).getD i .non:=by
  rw[List.map_map]
  refine List.map_congr_left fun i hi=>?_
  have:=zc8 g' i hi
  simp [List.getD,this]
 have rv:Vals (ns.map V.int) its:=by
  clear hn hm g' u' pm pw ev hl g u e kp
  induction hI with
  | nil=>exact .nil
  | cons n t _ ih=>exact .cons ⟨t,rfl⟩ ih
 refine⟨.ref gg.objs.size,_,I1.laid (a:=gg.objs.size) (o:=.lst ((pp.toList.map fun i=>ns.getD i 0).map V.int)) (t':=tk) kp (Nat.le_refl _) ⟨?_,Srt.outOf its pp,c,?_,e⟩,rfl,q _ (pm.length_eq.trans hn) (fun k=>(hm k).trans pm.mem_iff.symm) pw _ _ (zal fr) fr zag⟩
 ·have:=pm.length_eq
  have line:(64:Nat)≤sizeLine:=by rw[sizeLine_eq];decide
  rw[List.length_map,this];omega
 ·rw[ev]
  exact zcm rv pp.toList fun i hi=>by rw[List.length_map];exact zc8 g' i hi
end
end L3
namespace L3
open PySem PySem.Spec PyProof.Rows L2
theorem zbs (val:Nat->Int):∀ i,(firstMet val i).Nodup∧∀ k,k ∈ firstMet val i↔k ∈ (List.range i).map val
 | 0=>⟨by rw[firstMet_zero];exact List.nodup_nil,fun k=>by rw[firstMet_zero];simp⟩
 | i + 1=>by
  obtain⟨h1,h2⟩:=zbs val i
  rw[firstMet_succ,List.range_succ,List.map_append]
  unfold step_dedup
  by_cases c:(firstMet val i).any (fun y=>y == val i)=true
  ·rw[if_pos c]
   obtain⟨y,hy,e⟩:=List.any_eq_true.mp c
   have e':y=val i:=by simpa using e
   refine⟨h1,fun k=>?_⟩
   rw[h2 k,List.mem_append]
   refine⟨.inl,fun z=>z.elim id fun z=>?_⟩
   have:k=val i:=by simpa using z
   rw[this,← e',← h2 y];exact hy
  ·rw[if_neg c]
   refine⟨List.nodup_append.mpr ⟨h1,by simp,fun a ha b hb e=>c (List.any_eq_true.mpr ⟨a,ha,?_⟩)⟩,fun k=>by rw[List.mem_append,List.mem_append,h2 k];simp⟩
   have:b=val i:=by simpa using hb
   simp [e,this]
theorem zem:∀ {l m:List Int},l.Nodup->(∀ x ∈ l,x ∈ m)->m.length≤l.length->m.Perm l
 | [],m,_,_,h=>by
  have:m=[]:=List.length_eq_zero_iff.mp (by simpa using h)
  rw[this]
 | x::l,m,nd,sub,h=>by
  have hx:=sub x List.mem_cons_self
  obtain⟨nx,nl⟩:=List.nodup_cons.mp nd
  have pe:=List.perm_cons_erase hx
  refine pe.trans (List.Perm.cons x (zem nl (fun y hy=>?_) ?_))
  ·exact (List.mem_erase_of_ne fun e=>nx (by rw[← e];exact hy)).mpr (sub y (List.mem_cons_of_mem _ hy))
  ·rw[List.length_erase_of_mem hx];simp at h;omega
theorem zke (ns:List Int) (k:Int):HT.setS ns ns.length k=true↔k ∈ ns:=by
 have:=(zbs (fun i=>ns.getD i 0) ns.length).2 k
 rw[zbf] at this
 rw[← this]
 unfold HT.setS
 rw[List.any_eq_true]
 exact⟨fun ⟨y,hy,e⟩=>by rw[← show y=k by simpa using e];exact hy,fun h=>⟨k,h,by simp⟩⟩
theorem zlf {l m:List Int} (p:l.Perm m) (hl:l.Pairwise (·≤·)) (hm:m.Pairwise (·≤·)):l=m :=
 p.eq_of_pairwise (fun a b _ _ h1 h2=>Int.le_antisymm h1 h2) hl hm
/-- what a set gives, sorted, has no number twice -/
theorem zo1 {ns ms:List Int} (hl:ms.length=HT.setN ns ns.length) (hm:∀ k,HT.setS ns ns.length k=true↔k ∈ ms):ms.Nodup∧∀ k,k ∈ ms↔k ∈ ns:=by
 obtain⟨n1,n2⟩:=zbs (fun i=>ns.getD i 0) ns.length
 rw[zbf] at n2
 have pm:=zem (m:=ms) n1 (fun x hx=>(hm x).mp ((zke ns x).mpr ((n2 x).mp hx))) (Nat.le_of_eq hl)
 exact⟨pm.nodup_iff.mpr n1,fun k=>(hm k).symm.trans (zke ns k)⟩
end L3
namespace L3
open PySem PySem.Spec PyProof.Rows L2
end L3
namespace L3
open PySem PySem.Spec PyProof.Rows L2
end L3
namespace L3
open PySem PySem.Spec PyProof.Rows L2
section
variable {g:TG} {tt:TT} {te:TE} {own:List Str} {js:List Nat} {σ:L2.St} {H1:Hp} {Q:VK}
end
/-- a row of whole numbers, of so many at the most -/
def RowV (lo hi:Nat) (J:Hp) (v:V):Prop:=∃ (p:Addr) (ns:List Int),v=.ref p∧J p=some (.tup (ns.map V.int))∧lo≤ns.length∧ns.length≤hi
end L3
namespace L3
open PySem PySem.Spec PyProof.Rows L2
end L3
namespace L3
open PySem PySem.Spec PyProof.Rows L2
mutual
theorem Is.tk {K:PySem.W.Frag} {H H':Hp} (e:TupKeep H H'):∀ (d:PyData) {v:V},tupD d=true->Is K H d v->Is K H' d v
 | .none,_,_,h=>h
 | .bool _,_,_,h=>h
 | .int _,_,_,h=>h
 | .str _,_,_,h=>h
 | .tuple ds,_,t,h=>let ⟨q,vs,q1,q2,q3⟩:=h;⟨q,vs,q1,e _ _ q2,IsAll.tk e ds t q3⟩
 | .list ds,_,t,h=>by cases t
 | .dict _,_,t,h=>by cases t
theorem IsAll.tk {K:PySem.W.Frag} {H H':Hp} (e:TupKeep H H'):∀ (ds:List PyData) {vs:List V},tupAll ds=true->IsAll K H ds vs->IsAll K H' ds vs
 | [],_,_,h=>h
 | d::ds,_,t,h=>by
  have t':(tupD d && tupAll ds)=true:=t
  rw[Bool.and_eq_true] at t'
  obtain⟨v,r,q1,q2,q3⟩:=h
  exact⟨v,r,q1,Is.tk e d t'.1 q2,IsAll.tk e ds t'.2 q3⟩
end
end L3
namespace L3
open PySem PySem.Spec PyProof.Rows L2
/-- l == [], l a list of whole numbers, kept or handed in -/
theorem zra {X:Cx}:OpR X (compareOp .Eq) (fun x y H Q=>∃ (a b:Addr) (ns:List Int),x=.ref a∧y=.ref b∧SqL X.K H a (ns.map V.int)∧H b=some (.lst [])∧X.A.units + 1 < cLine∧Q (.bl (decide (ns=[]))) H):=by
 intro pins s σ H x y v u Q I rx ry h
 obtain⟨a,b,ns,rfl,rfl,ha,hb,hu,q⟩:=h
 cases rx
 obtain⟨its,rv,⟨o,n,e1,e2,_,e3⟩,_⟩:=I.list ha
 obtain⟨as,ra⟩:=zca I (ns.map .int) (IsAll.ints ns) rv
 obtain⟨bs,rb⟩:=zc1 I (.list []) ⟨b,[],rfl,hb,rfl⟩ ry
 have l1:PyData.canLay0 (.list (ns.map .int))=true:=by
  show PyData.canLayAll0 (ns.map .int)=true
  exact zed ns
 have e:PyData.eqv (.list (ns.map .int)) (.list [])=decide (ns=[]):=by
  cases ns with
  | nil=>rfl
  | cons x r=>rfl
 rw[← e] at q
 exact SeqAt.compareEq_reads (.list e1 e2 e3 (by simpa using ra)) rb l1 rfl (Nat.lt_of_le_of_lt (Nat.add_le_add (Nat.le_refl _) (Nat.le_trans (Nat.min_le_right _ _) (by decide))) hu) (za0 I q rfl)
end L3
namespace Peel
/-- ties by their ends -/
abbrev T2:=Nat × Nat
/-- kept ties of p to places that aren't gone -/
def hit (gone:List Nat) (p:Nat) (t:T2):Bool:=(t.1 == p && !gone.contains t.2) || (t.2 == p && !gone.contains t.1)
def deg (ts:List T2) (gone:List Nat) (p:Nat):Nat:=ts.countP (hit gone p)
def may (ts:List T2) (d:Int) (gone:List Nat) (p:Nat):Bool:=!gone.contains p && decide ((deg ts gone p:Int)≤d)
def next (n:Nat) (ts:List T2) (d:Int) (gone:List Nat):Option Nat:=(List.range n).find? (may ts d gone)
def run (n:Nat) (ts:List T2) (d:Int):Nat->List Nat->List Nat
 | 0,g=>g
 | f + 1,g=>match next n ts d g with
  | none=>g
  | some p=>run n ts d f (g++[p])
section
variable {n:Nat} {ts:List T2} {d:Int} {g:List Nat} {p:Nat}
/-- good: places of the web, none twice -/
def Good (n:Nat) (g:List Nat):Prop:=g.Nodup∧∀ p ∈ g,p < n
theorem ze0:∀ (n:Nat) (g:List Nat),g.Nodup->(∀ p ∈ g,p < n)->g.length≤n
 | 0,[],_,_=>Nat.le_refl _
 | 0,p::_,_,h=>absurd (h p List.mem_cons_self) (Nat.not_lt_zero _)
 | n + 1,g,nd,h=>by
  have h1:=ze0 n (g.filter fun p=>p != n) (nd.filter _) fun p hp=>by
   have:=List.mem_filter.mp hp
   have a:=h p this.1
   have b:p≠n:=by simpa using this.2
   omega
  have e:g.length=(g.filter fun p=>p != n).length + g.countP (fun p=>p == n):=by
   rw[← List.countP_eq_length_filter]
   have:=List.length_eq_countP_add_countP (fun p=>p == n) (l:=g)
   have e2:g.countP (fun p=>decide ¬(p == n)=true)=g.countP fun p=>p != n:=List.countP_congr fun x _=>by simp
   rw[e2] at this
   omega
  have c:g.countP (fun p=>p == n)≤1:=by
   have:=List.nodup_iff_count.mp nd n
   exact this
  omega
/-- all that go, from none on -/
def gone (n:Nat) (ts:List T2) (d:Int):List Nat:=run n ts d n []
end
end Peel
namespace L3
open PySem PySem.Spec PyProof.Rows L2
def nb1 (ts:List Tie) (p:Int) (k:Nat):Option Nat:=if (tieAt ts k).1=p then some (tieAt ts k).2.1.toNat else none
def nb2 (ts:List Tie) (p:Int) (k:Nat):Option Nat:=if (tieAt ts k).2.1=p then some (tieAt ts k).1.toNat else none
def nbN (ts:List Tie) (ks:List Nat) (p:Int):List Nat:=ks.filterMap (nb1 ts p)++ks.filterMap (nb2 ts p)
def spNeigh (K:PySem.W.Frag):Sp:=fun vs H Q _=>∃ n ts ks wv kv p,vs=[wv,kv,.int p]∧WK K H n ts ks wv kv∧∀ l H',Same H H'->H l=none->H' l=some (.lst (natV (nbN ts ks p)))->Q (.ref l) H'
def t2s (ts:List Tie) (ks:List Nat):List Peel.T2:=ks.map fun k=>((tieAt ts k).1.toNat,(tieAt ts k).2.1.toNat)
section
variable {g:TG} {tt:TT} {te:TE} {own:List Str} {js:List Nat} {σ:L2.St} {H1:Hp} {Q:VK}
theorem zda {K:PySem.W.Frag} {a:Addr} {xs:List V} (hx:H1 a=some (.lst xs)) (Sg:L2.St->Prop) (sel:Nat->Option V) (hn:xs.length≤1000) (h0:Sg (start3 own js σ))
  (step:∀ i x σ' H',xs[i]?=some x->Same H1 H'->Sg σ'->∀ (C:L2.St->V->Hp->Prop) (L:L2.St->Hp->Prop),(∀ σ3 v H5,Sg σ3->Same H' H5->sel i=some v->C σ3 v H5)->(∀ σ3 H5,Sg σ3->Same H' H5->sel i=none->L σ3 H5) ->
   g x σ' H' fun σ3 H3=>tt σ3 H3 fun b H4=>if b=true then te σ3 H4 fun v H5=>C σ3 v H5 else L σ3 H4)
  (fin:∀ D H',H1 D=none->Same H1 H'->H' D=some (.lst ((List.range xs.length).filterMap sel))->Q (.ref D) H'):CompGo own js g tt te σ Q (Itl K a) H1:=by
 refine zky xs.length Sg sel hn h0 (fun i H' hi s=>⟨xs,xs[i],SqL.of (s _ _ hx),by simp [hi]⟩) (fun H' s=>⟨xs,SqL.of (s _ _ hx),Nat.le_refl _⟩) (fun i x σ' H' H2 hi s hy sg C L hC hL=>?_) fin
 obtain⟨rfl,hy⟩:=hy
 exact step i x σ' _ (hy xs (SqL.of (s _ _ hx))) s sg C L hC hL
end
theorem zho {α β:Type} (f:α->Option β) (d:α):∀ ks:List α,(List.range ks.length).filterMap (fun i=>f (ks.getD i d))=ks.filterMap f:=fun ks=>by
 have e:=congrArg (List.filterMap f) (zbf ks d)
 rw[List.filterMap_map] at e
 exact e
end L3
namespace Lr
open Far (chn zcc zb9 ze7 zif RingOf)
section
variable {R:Nat->Nat->Prop}
/-- a ring: h, then tl, and back to h -/
structure Rg (R:Nat->Nat->Prop) (h:Nat) (tl:List Nat):Prop where
 len:2≤tl.length
 nd:(h::tl).Nodup
 ch:chn R (h::tl++[h])
/-- a ring told as it should be: from its least place on, the smaller neighbour first -/
def Cano (h:Nat) (tl:List Nat):Prop:=(∀ v ∈ tl,h < v)∧∃ x m y,tl=x::(m++[y])∧x < y
def stepW (rows:Nat->List Nat) (w:List Nat):List (List Nat):=((rows (w.getLast?.getD 0)).filter fun o=>decide (w.headD 0 < o) && !decide (o ∈ w)).map fun o=>w++[o]
def ways (rows:Nat->List Nat) (n:Nat):Nat->List (List Nat)
 | 0=>(List.range n).map fun v=>[v]
 | s + 1=>(ways rows n s).flatMap (stepW rows)
structure PW (R:Nat->Nat->Prop) (n:Nat) (w:List Nat):Prop where
 ne:w≠[]
 nd:w.Nodup
 ch:chn R w
 lt:∀ v ∈ w,v < n
 up:∀ h t,w=h::t->∀ v ∈ t,h < v
section
variable {rows:Nat->List Nat} {n:Nat}
end
end
end Lr
namespace Lr
open Far (chn zcc zb9 ze7 zif RingOf)
/-- at most, as rows of numbers -/
def lle:List Nat->List Nat->Prop
 | [],_=>True
 | _::_,[]=>False
 | a::l,b::m=>a < b∨(a=b∧lle l m)
section
variable {R:Nat->Nat->Prop}
/-- a shortest chain from v to z -/
structure Sh (R:Nat->Nat->Prop) (z v:Nat) (l:List Nat):Prop where
 ch:chn R (v::l)
 last:(v::l).getLast?=some z
 min:∀ l',chn R (v::l')->(v::l').getLast?=some z->l.length≤l'.length
/-- how far, in steps -/
def Ds (R:Nat->Nat->Prop) (z:Nat) (D:Nat->Option Nat):Prop:=∀ v,(∀ m,D v=some m->∃ l,chn R (v::l)∧(v::l).getLast?=some z∧l.length=m)∧∀ l,chn R (v::l)->(v::l).getLast?=some z->∃ m,D v=some m∧m≤l.length
/-- without the tie between a and b -/
def Rm (R:Nat->Nat->Prop) (a b u v:Nat):Prop:=R u v∧¬ (u=a∧v=b)∧¬ (u=b∧v=a)
end
end Lr
namespace Lr
open Far (chn zcc zb9 ze7 zif RingOf)
structure Ties (R:Nat->Nat->Prop) (ks:List Nat) (ends:Nat->Nat × Nat):Prop where
 sy:∀ u v,R u v->R v u
 of:∀ k ∈ ks,(ends k).1 < (ends k).2∧R (ends k).1 (ends k).2
 to:∀ u v,R u v->u < v->∃ k ∈ ks,ends k=(u,v)
 up:∀ k ∈ ks,∀ j ∈ ks,k≤j->(ends k).1 < (ends j).1∨((ends k).1=(ends j).1∧(ends k).2≤(ends j).2)
section
variable {R:Nat->Nat->Prop} {ks:List Nat} {ends:Nat->Nat × Nat}
end
section
variable {R:Nat->Nat->Prop} {rows:Nat->List Nat} {n:Nat}
end
end Lr
namespace L3
open PySem PySem.Spec PyProof.Rows L2
section
variable {own:List Str} {js:List Nat} {g:TG} {te:TE} {σ:L2.St} {Q:VK} {H1:Hp}
end
/-- the list at l holds the lists at as, each its own, with these rows -/
structure Bes (H:Hp) (l:Addr) (as:List Addr) (rows:Nat->List V):Prop where
 top:H l=some (.lst (as.map V.ref))
 nd:as.Nodup
 own:l ∉ as
 row:∀ i a,as[i]?=some a->H a=some (.lst (rows i))
theorem Bes.same {H H':Hp} {l:Addr} {as:List Addr} {rows:Nat->List V} (b:Bes H l as rows) (S:Same H H'):Bes H' l as rows:=⟨S _ _ b.top,b.nd,b.own,fun i a e=>S _ _ (b.row i a e)⟩
theorem Bes.ix {H:Hp} {l:Addr} {as:List Addr} {rows:Nat->List V} (b:Bes H l as rows) {i:Nat} (h:i < as.length):∃ a,as[i]?=some a∧(as.map V.ref)[i]?=some (.ref a)∧H a=some (.lst (rows i)):=by
 refine⟨as[i],List.getElem?_eq_getElem h,by rw[List.getElem?_map,List.getElem?_eq_getElem h];rfl,b.row i _ (List.getElem?_eq_getElem h)⟩
theorem Bes.put {H H':Hp} {l:Addr} {as:List Addr} {rows:Nat->List V} (b:Bes H l as rows) {i:Nat} {a:Addr} {xs:List V} (ha:as[i]?=some a) (B:But a H H') (e:H' a=some (.lst xs)):Bes H' l as fun j=>if j=i then xs else rows j:=by
 have nl:l≠a:=fun z=>b.own (z ▸ List.mem_of_getElem? ha)
 refine⟨B _ _ nl b.top,b.nd,b.own,fun j c hc=>?_⟩
 by_cases z:j=i
 ·subst z
  rw[hc] at ha;cases ha
  rw[if_pos rfl];exact e
 ·rw[if_neg z]
  refine B _ _ (fun x=>z ?_) (b.row j c hc)
  subst x
  obtain⟨h1,e1⟩:=List.getElem?_eq_some_iff.mp hc
  obtain⟨h2,e2⟩:=List.getElem?_eq_some_iff.mp ha
  have pw:=List.pairwise_iff_getElem.mp b.nd
  rcases Nat.lt_trichotomy j i with z | z | z
  ·exact absurd (e1.trans e2.symm) (pw j i h1 h2 z)
  ·exact z
  ·exact absurd (e2.trans e1.symm) (pw i j h2 h1 z)
/-- two ties with the same ends are one -/
theorem zf8 {n:Int} {ts:List Tie} (ok:WebOk n ts) {k k' a b:Nat} {l l':Int} (hk:k < ts.length) (hk':k' < ts.length) (h:(a,b,l) ∈ arcs2 (tieAt ts k)) (h':(a,b,l') ∈ arcs2 (tieAt ts k')):k=k':=by
 have t1:=ok.tie _ (zaz hk).2
 have t2:=ok.tie _ (zaz hk').2
 have E:=fun z=>zro t1.1 t1.2.1 t2.1 t2.2.1 z
 have e:(tieAt ts k).1=(tieAt ts k').1∧(tieAt ts k).2.1=(tieAt ts k').2.1:=by
  rcases arcs2_mem.mp h with e | e <;> rcases arcs2_mem.mp h' with e' | e' <;> injection e with e1 e2 <;> injection e2 with e2 _ <;> injection e' with e3 e4 <;> injection e4 with e4 _
  ·exact E (.inl ⟨e1.symm.trans e3,e2.symm.trans e4⟩)
  ·exact E (.inr ⟨e1.symm.trans e3,e2.symm.trans e4⟩)
  ·exact E (.inr ⟨e2.symm.trans e4,e1.symm.trans e3⟩)
  ·exact E (.inl ⟨e2.symm.trans e4,e1.symm.trans e3⟩)
 exact zj9 ok hk hk' e.1 e.2
/-- m unlike places beside j -/
def Uniq (ts:List Tie) (ks:List Nat) (j m:Nat):Prop:=∃ cs:List Nat,cs.Nodup∧cs.length=m∧∀ c ∈ cs,∃ k ∈ ks,∃ l,(j,c,l) ∈ arcs2 (tieAt ts k)
section
variable {X:Cx}
def rExtendB:V->List V->Hp->VK->Prop:=fun x vs H Q=>∃ l b xs zs,x=.ref l∧vs=[.ref b]∧H l=some (.lst xs)∧H b=some (.lst zs)∧xs.length + zs.length≤10 ^ 7∧∀ H',But l H H'->H' l=some (.lst (xs++zs))->Q .non H'
theorem zf2:MtM X "list.extend" rExtendB:=by
 intro pins s σ H x vs v us Q I rx rv h
 obtain⟨l,b,xs,zs,rfl,rfl,hH,hB,hz,q⟩:=h
 exact zh8 (X:=X) pins s σ H _ _ v us Q I rx rv ⟨l,b,xs,zs,rfl,rfl,hH,hB,Nat.le_trans hz (by decide),q _ But.upd zag⟩
end
end L3
namespace L3
open PySem PySem.Spec PyProof.Rows L2
section
variable {own:List Str} {js:List Nat} {g:TG} {te:TE} {σ:L2.St} {Q:VK} {H1:Hp}
theorem zdx {lo:Int} {n:Nat} (f:Nat->List V) (Sg:L2.St->Prop) (hn:n≤1000) (h0:Sg (start3 own js σ))
  (step:∀ i σ' H',i < n->Same H1 H'->Sg σ'->∀ C:L2.St->V->Hp->Prop,(∀ σ3 l H5,Sg σ3->Same H' H5->H' l=none->H5 l=some (.lst (f i))->C σ3 (.ref l) H5)->g (.int (lo + i)) σ' H' fun σ3 H3=>te σ3 H3 fun v H5=>C σ3 v H5)
  (fin:∀ D (as:List Addr) H',H1 D=none->Same H1 H'->H' D=some (.lst (as.map V.ref))->as.length=n->as.Nodup->D ∉ as->(∀ i a,as[i]?=some a->H1 a=none∧H' a=some (.lst (f i)))->Q (.ref D) H'):CompGo own js g tTrue te σ Q (Itr lo n) H1:=by
 intro D hD
 refine⟨fun i m ys σ' H'=>m=n - i∧i≤n∧Sg σ'∧Same H1 H'∧∃ as:List Addr,ys=as.map V.ref∧as.length=i∧as.Nodup∧D ∉ as∧∀ i a,as[i]?=some a->H1 a=none∧H' a=some (.lst (f i)),⟨n,rfl,Nat.zero_le _,h0,zal hD,[],rfl,rfl,List.nodup_nil,(by simp),fun i a h=>by cases h⟩,?_⟩
 rintro i m ys σ' H' ⟨rfl,hi,sg,sm,as,rfl,hl,nd,nD,hr⟩ hd
 have lys:(as.map V.ref).length=as.length:=List.length_map _
 by_cases hlt:i < n
 ·refine .inr ⟨hlt,fun x H2 hy=>?_⟩
  obtain⟨rfl,rfl⟩:=hy
  refine step i σ' _ hlt sm sg (fun σ3 v H5=>H5 D=some (.lst (as.map V.ref))∧(as.map V.ref).length < sizeLine∧∃ m',m' < n - i∧(m'=n - (i + 1)∧i + 1≤n∧Sg σ3∧Same H1 (upd H5 D (.lst (as.map V.ref++[v])))∧∃ bs:List Addr,as.map V.ref++[v]=bs.map V.ref∧bs.length=i + 1∧bs.Nodup∧D ∉ bs∧∀ i a,bs[i]?=some a->H1 a=none∧upd H5 D (.lst (as.map V.ref++[v])) a=some (.lst (f i)))) fun σ3 l H5 sg3 s5 fl hL=>?_
  have hd5:=s5 _ _ hd
  have nlD:l≠D:=fun z=>by rw[z,hd] at fl;cases fl
  have nla:l ∉ as:=fun z=>by obtain⟨k,hk⟩:=List.getElem?_of_mem z;rw[(hr k l hk).2] at fl;cases fl
  refine⟨hd5,Nat.lt_of_le_of_lt (by omega:(as.map V.ref).length≤1000) (by decide),n - (i + 1),by omega,rfl,hlt,sg3,fun b o e=>?_,as++[l],by rw[List.map_append];rfl,by rw[List.length_append,hl];rfl,?_,?_,fun k a ha=>?_⟩
  ·rw[zap (zaj e hD)];exact s5 _ _ (sm _ _ e)
  ·exact List.nodup_append.mpr ⟨nd,(by simp),fun a ha b hb e=>by
    have:b=l:=by simpa using hb
    subst this;subst e;exact nla ha⟩
  ·intro z
   rcases List.mem_append.mp z with z | z
   ·exact nD z
   ·exact nlD (List.mem_singleton.mp z).symm
  ·by_cases hk:k < as.length
   ·rw[List.getElem?_append_left hk] at ha
    have ne:a≠D:=fun x=>nD (x ▸ List.mem_of_getElem? ha)
    exact⟨(hr k a ha).1,by rw[zap ne];exact s5 _ _ (hr k a ha).2⟩
   ·rw[List.getElem?_append_right (by omega)] at ha
    have ek:k=i:=by
     have:=(List.getElem?_eq_some_iff.mp ha).1
     rw[List.length_singleton] at this
     omega
    subst ek
    rw[hl,Nat.sub_self] at ha
    have:l=a:=by simpa using ha
    subst this
    exact⟨sm.free fl,by rw[zap nlD];exact hL⟩
 ·have e:i=n:=by omega
  subst e
  exact .inl ⟨Nat.le_refl _,fin D as H' hD sm hd hl nd nD hr⟩
end
theorem Bes.newF {H:Hp} {l:Addr} {as:List Addr} {f:Nat->List V} (h:H l=some (.lst (as.map V.ref))) (nd:as.Nodup) (no:l ∉ as) (r:∀ i a,as[i]?=some a->H a=some (.lst (f i))):Bes H l as f:=⟨h,nd,no,r⟩
end L3
namespace L3
open PySem PySem.Spec PyProof.Rows L2
def Adj (ts:List Tie) (ks:List Nat) (u v:Nat):Prop:=∃ k ∈ ks,(u,v,(tieAt ts k).2.2) ∈ arcs2 (tieAt ts k)
def en (ts:List Tie) (k:Nat):Nat × Nat:=((tieAt ts k).1.toNat,(tieAt ts k).2.1.toNat)
def ones (ts:List Tie):List Tie:=ts.map fun t=>(t.1,t.2.1,1)
section
variable {n:Int} {ts:List Tie} {ks:List Nat} {u v k:Nat}
theorem a2_iff {t:Tie}:(u,v,t.2.2) ∈ arcs2 t↔(u=t.1.toNat∧v=t.2.1.toNat)∨(u=t.2.1.toNat∧v=t.1.toNat):=by
 rw[arcs2_mem]
 refine or_congr ⟨fun e=>?_,fun e=>by rw[e.1,e.2]⟩ ⟨fun e=>?_,fun e=>by rw[e.1,e.2]⟩ <;> (injection e with e1 e2;injection e2 with e2 _;exact⟨e1,e2⟩)
theorem zoo (ok:WebOk n ts) (ko:KeepOk ts.length ks) (u v:Nat) (h:Adj ts ks u v):v < n.toNat:=by
 obtain⟨k,hk,m⟩:=h
 exact (zom ok ko _ _ _ (arcs_mem.mpr ⟨k,hk,m⟩)).2
theorem za4:(ones ts).length=ts.length:=List.length_map _
theorem znf (h:k < ts.length):tieAt (ones ts) k=((tieAt ts k).1,(tieAt ts k).2.1,1):=by
 have h1:=(zaz h).1
 have h2:=(zaz (ts:=ones ts) (k:=k) (by rw[za4];exact h)).1
 unfold ones at h2 ⊢
 rw[List.getElem?_map,h1] at h2
 exact (Option.some.inj h2).symm
theorem zes (ok:WebOk n ts):WebOk n (ones ts):=by
 refine⟨ok.n1,ok.n24,?_,by rw[za4];exact ok.few,fun t ht=>?_⟩
 ·unfold ones
  exact List.Pairwise.map _ (fun _ _ h=>h) ok.rise
 ·obtain⟨t0,h0,rfl⟩:=List.mem_map.mp ht
  have:=ok.tie _ h0
  exact⟨this.1,this.2.1,this.2.2.1,by show (1:Int)≤1;decide,by show (1:Int)≤10 ^ 18;decide⟩
theorem zfa (ko:KeepOk ts.length ks) {l:Int}:(u,v,l) ∈ arcs (ones ts) ks↔l=1∧Adj ts ks u v:=by
 rw[arcs_mem]
 constructor
 ·rintro ⟨k,hk,m⟩
  rw[znf (ko.2 k hk)] at m
  have el:l=1:=by rcases arcs2_mem.mp m with e | e <;> (injection e with _ e;injection e)
  subst el
  have:=(a2_iff (t:=((tieAt ts k).1,(tieAt ts k).2.1,1))).mp m
  exact⟨rfl,k,hk,a2_iff.mpr this⟩
 ·rintro ⟨rfl,k,hk,m⟩
  refine⟨k,hk,?_⟩
  rw[znf (ko.2 k hk)]
  have:=(a2_iff (t:=tieAt ts k)).mp m
  exact (a2_iff (t:=((tieAt ts k).1,(tieAt ts k).2.1,1))).mpr this
/-- neighbours -/
theorem znk (ok:WebOk n ts) (ko:KeepOk ts.length ks) (p q:Nat):q ∈ nbN ts ks (p:Int)↔Adj ts ks p q:=by
 unfold nbN
 rw[List.mem_append,List.mem_filterMap,List.mem_filterMap]
 have e1:∀ k ∈ ks,(nb1 ts (p:Int) k=some q↔p=(tieAt ts k).1.toNat∧q=(tieAt ts k).2.1.toNat):=fun k hk=>by
  have tk:=ok.tie _ (zaz (ko.2 k hk)).2
  unfold nb1
  by_cases c:(tieAt ts k).1=(p:Int)
  ·rw[if_pos c]
   exact⟨fun z=>⟨by omega,(Option.some.inj z).symm⟩,fun z=>by rw[z.2]⟩
  ·rw[if_neg c]
   exact⟨fun z=>(by cases z),fun z=>absurd (by omega) c⟩
 have e2:∀ k ∈ ks,(nb2 ts (p:Int) k=some q↔p=(tieAt ts k).2.1.toNat∧q=(tieAt ts k).1.toNat):=fun k hk=>by
  have tk:=ok.tie _ (zaz (ko.2 k hk)).2
  unfold nb2
  by_cases c:(tieAt ts k).2.1=(p:Int)
  ·rw[if_pos c]
   exact⟨fun z=>⟨by omega,(Option.some.inj z).symm⟩,fun z=>by rw[z.2]⟩
  ·rw[if_neg c]
   exact⟨fun z=>(by cases z),fun z=>absurd (by omega) c⟩
 constructor
 ·rintro (⟨k,hk,h⟩ | ⟨k,hk,h⟩)
  ·exact⟨k,hk,a2_iff.mpr (.inl ((e1 k hk).mp h))⟩
  ·exact⟨k,hk,a2_iff.mpr (.inr ((e2 k hk).mp h))⟩
 ·rintro ⟨k,hk,h⟩
  rcases a2_iff.mp h with z | z
  ·exact .inl ⟨k,hk,(e1 k hk).mpr z⟩
  ·exact .inr ⟨k,hk,(e2 k hk).mpr z⟩
end
theorem zc7 {K:PySem.W.Frag} {H:Hp} {p:Addr} {ks:List Nat} (h:H p=some (.tup (natV ks))):Is K H (keepD ks) (.ref p):=⟨p,_,rfl,h,by rw[za8];exact IsAll.ints _⟩
def IsLR (ts:List Tie) (ks:List Nat) (h:Nat) (tl:List Nat):Prop:=Lr.Rg (Adj ts ks) h tl∧Lr.Cano h tl∧(∀ h' tl',Lr.Rg (Adj ts ks) h' tl'->tl.length≤tl'.length)∧∀ h' tl',Lr.Rg (Adj ts ks) h' tl'->Lr.Cano h' tl'->tl'.length=tl.length->Lr.lle (h::tl) (h'::tl')
end L3
namespace L3
open PySem PySem.Spec PyProof.Rows L2
section
variable {J:It} {g:TG} {tt:TT} {te:TE} {own:List Str} {js:List Nat} {σ:L2.St} {H1:Hp} {Q:VK}
end
end L3
namespace Stb
open PySem PyProof.Rows
section
variable {prog:Program} {w:World} {A:Around} {E:Value->Shared->Prop} {s:Shared}
/-- set(t), t a list of whole numbers -/
theorem zsg {t:Addr} {xs:Array Value} {ns:List Int} {Q:Value->Shared->Prop} (hh:A.handled=none) (ht:s.heap.IsList t xs) (hi:IntsAre xs.toList ns) (hb:xs.size + 1 < scanBound)
  (fin:∀ (h':Heap) (tk:Nat),SetT prog w h' s.heap.objs.size (HT.setS ns xs.size) (HT.setN ns xs.size)->(∀ b o,b < s.heap.objs.size->s.heap.get? b=some o->h'.get? b=some o)->Q (.ref s.heap.objs.size) { s with heap:=h',toks:=tk }) :
  wpAny (model prog w) A (call (.type "set") [.ref t]) Q E s:=by
 obtain⟨c,tl,hmro⟩:=PySem.F.called_set.mro
 have hmade:=PySem.F.called_set.made;have hsub:=PySem.F.called_set.sub
 refine wpAny_call (codeAny_of_tree ?_);show wpAny _ _ (callAny (.type "set") _) _ _ _
 refine wpAny_pure ⟨Code.quiet_builtin _ (by decide +kernel),codeAny_builtin PySem.F.entry_type_call ?_⟩
 rw[Around.under_plain (PySem.weight_type_call_type "set" [.ref t] []) rfl]
 have h1:=PySem.F.called_set.notType;have h2:=PySem.F.called_set.canCreate;have hct:=PySem.F.typeCall_set_1 (.ref t)
 repeat (any_goals (first | assumption | wp_step))
 refine codeAny_mono (zs2 (.ref t) (E:=E) (U:=fun obj s₁=>obj=.ref s.heap.objs.size∧s₁={ s with heap:=s.heap.push (emp w) }) ⟨rfl,rfl⟩) fun r s₁ hr=>?_
 match r,hr with
 | .error e,hr=>exact hr
 | .ok .next,hr=>exact hr.elim
 | .ok .brk,hr=>exact hr.elim
 | .ok .cont,hr=>exact hr.elim
 | .ok (.ret obj),hr =>
  obtain⟨rfl,rfl⟩:=hr
  have gS:(s.heap.push (emp w)).get? s.heap.objs.size=some (emp w):=Heap.get?_push_size _ rfl
  have hT:Shared.TypeIs { s with heap:=s.heap.push (emp w) } (.ref s.heap.objs.size) "set":=⟨_,gS,rfl⟩
  have hli:=PySem.F.called_set.init.lookup;have hbi:=PySem.F.called_set.init.bind (.ref s.heap.objs.size)
  repeat (any_goals (first | assumption | wp_step))
  refine codeAny_mono (codeAny_call_builtin (R:=wants (fun r s₂=>r=.none∧∃ h' tk,s₂={ s with heap:=h',toks:=tk }∧SetT prog w h' s.heap.objs.size (HT.setS ns xs.size) (HT.setN ns xs.size)∧(∀ b o,b < s.heap.objs.size->s.heap.get? b=some o->h'.get? b=some o)) E) PySem.F.called_set.init.plain PySem.F.entry_set_init (PySem.check_set_init_1 hT ?_)) fun r₂ s₂ hr₂=>?_
  ·obtain⟨ot,ho,hc,m,hd⟩:=id ht
   obtain⟨ocls,odict,odata,oslots⟩:=ot
   simp only at hc hd;subst hc hd
   have ho':(s.heap.push (emp w)).get? t=some { cls:=.type "list",dict:=odict,data:=.seq xs m,slots:=oslots }:=Heap.get?_push_of_some _ ho
   have f1:=PySem.F.sub_list_set;have f2:=PySem.F.sub_list_frozenset
   have f3:(Value.type "list" == Value.type "dict")=false:=by decide
   have it1:(s.heap.push (emp w)).IsList t xs:=⟨_,ho',rfl,m,rfl⟩
   unfold Builtin.«set.__init__» noKeywords Builtin.Frozenset.updateFrom
   generalize hPI:pyIter=PI
   wp_walk;subst hPI
   refine wpAny_pyIter_list it1 (wpAny_bind (wpAny_runValue ?_))
   have lt:t < s.heap.objs.size:=Heap.lt_size ho
   have hh3:A.in1.in1.in1.handled=none:=by simp [hh]
   have sz1:(s.heap.push (emp w)).objs.size=s.heap.objs.size + 1:=Heap.size_push ..
   have tI:t≠(s.heap.push (emp w)).objs.size:=by rw[sz1];exact Nat.ne_of_lt (Nat.lt_succ_of_lt lt)
   have Sfp:s.heap.objs.size ∉ [(s.heap.push (emp w)).objs.size,t]:=by
    rw[sz1];simp only [List.mem_cons,List.not_mem_nil,or_false,not_or];exact⟨Nat.ne_of_lt (Nat.lt_succ_self _),(Nat.ne_of_lt lt).symm⟩
   have vals:∀ (i:Nat) (v:Value),xs[i]?=some v->∃ u,v=.int ((fun i=>ns.getD i 0) i) u:=fun i v hv=>IntsAre.int_at hi i v (by rw[Array.getElem?_toList];exact hv)
   refine zsq ((Walks.list hh3 _ t tI xs).toS) s.heap.objs.size Sfp (fun i=>ns.getD i 0) vals hb (xs.size - 0) 0 _ (by omega) (Nat.zero_le _) ?st ?s0 ?fin
   case st=>exact⟨⟨_,Heap.get?_push_size _ rfl,rfl,rfl⟩,it1.push _⟩
   case s0=>exact (zs6 s.heap).keep fun o e=>Heap.get?_push_of_some _ e
   case fin =>
    rintro ⟨h',g',d',tk',os'⟩ hm hS'
    obtain rfl:g'=s.gens:=hm.gens
    obtain rfl:d'=s.drawn:=hm.drawn
    obtain rfl:os'=s.os:=hm.os
    refine wpAny_pure (wpAny_pure ⟨rfl,h',tk',rfl,hS',fun b o hlt e=>hm.heap b o ?_ (Heap.get?_push_of_some _ (Heap.get?_push_of_some _ e))⟩)
    rw[sz1];simp only [List.mem_cons,List.not_mem_nil,or_false,not_or]
    exact⟨Nat.ne_of_lt hlt,Nat.ne_of_lt (Nat.lt_succ_of_lt hlt)⟩
  ·match r₂,hr₂ with
   | .error e,hr₂=>exact hr₂
   | .ok .next,hr₂=>exact hr₂.elim
   | .ok .brk,hr₂=>exact hr₂.elim
   | .ok .cont,hr₂=>exact hr₂.elim
   | .ok (.ret v),hr₂ =>
    obtain⟨rfl,h',tk,rfl,hS',hk⟩:=hr₂
    repeat (any_goals (first | assumption | wp_step))
    exact fin h' tk hS' hk
end
end Stb
namespace L3
open PySem PySem.Spec PyProof.Rows L2
section
variable {X:Cx}
/-- set(l), l a list of whole numbers -/
theorem zlx (hh:X.calm=true):CallR X (.type "set") (fun xs H Q=>∃ (p:Addr) (ns:List Int),xs=[.ref p]∧H p=some (.lst (ns.map V.int))∧ns.length≤1000∧∀ q H',Same H H'->H q=none->H' q=some (SetO X.prog X.w q (HT.setS ns ns.length) (HT.setN ns ns.length))->Q (.ref q) H'):=by
 intro pins s σ H xs us Q I r h
 obtain⟨p,ns,rfl,hp,hl,q⟩:=h
 obtain⟨u,rfl,rx⟩:=vals1 r
 cases rx
 obtain⟨its,rv,pt,hz⟩:=I.list (SqL.of hp)
 have hlen:=rv.length
 rw[List.length_map] at hlen
 have fr:H s.heap.objs.size=none:=I.hok.fresh (Nat.le_refl _)
 have esz:its.toArray.size=ns.length:=by rw[List.size_toArray,← hlen]
 refine Stb.zsg (ns:=ns) (I.ok.hd hh) (show s.heap.IsList p its.toArray from pt.isList) (by simpa using zbm rv) (by rw[esz];unfold scanBound;omega) fun h' tk hS hk=>?_
 rw[esz] at hS
 refine⟨.ref s.heap.objs.size,_,I.laid (a:=s.heap.objs.size) (o:=SetO X.prog X.w s.heap.objs.size (HT.setS ns ns.length) (HT.setN ns ns.length)) (t':=tk) (fun b o e=>hk b o (Heap.lt_size e) e) (Nat.le_refl _) ⟨hS,?_,fun h1 h2 x k=>x.keep k⟩,rfl,q _ _ (zal fr) fr zag⟩
 obtain⟨⟨o,_,_,_,ho,_⟩,_⟩:=hS
 exact⟨o,ho⟩
end
end L3
namespace Far
variable {A:List (Nat × Nat × Int)} {s:Nat}
def Unit1 (A:List (Nat × Nat × Int)):Prop:=∀ u v l,(u,v,l) ∈ A->l=1
/-- k steps away, and no fewer -/
def AtK (A:List (Nat × Nat × Int)) (s k v:Nat):Prop:=Walk A s v (k:Int)∧∀ x,Walk A s v x->(k:Int)≤x
theorem Unit1.pos (U:Unit1 A):Pos A:=fun u v l h=>by rw[U u v l h];exact Int.le_refl 1
theorem Walk.last (U:Unit1 A) {v:Nat} {x:Int} (h:Walk A s v x):(v=s∧x=0)∨∃ u,Walk A s u (x - 1)∧(u,v,1) ∈ A:=by
 cases h with
 | nil=>exact .inl ⟨rfl,rfl⟩
 | @snoc u v l x h m =>
  have e:=U _ _ _ m
  subst e
  exact .inr ⟨u,by rw[Int.add_sub_cancel];exact h,m⟩
/-- i rings gone through -/
structure Bfs (A:List (Nat × Nat × Int)) (s i:Nat) (D:Nat->Option Nat) (ring:List Nat):Prop where
 found:∀ v d,D v=some d↔AtK A s d v∧d < i
 ring:∀ v,v ∈ ring↔AtK A s i v
end Far
namespace L3
open PySem PySem.Spec PyProof.Rows L2
theorem zo2 {ns:List Int} {m:Nat} (h:∀ x ∈ ns,0≤x∧x < m):HT.setN ns ns.length≤m:=by
 obtain⟨h1,h2⟩:=zbs (fun i=>ns.getD i 0) ns.length
 rw[L3.zbf ns 0] at h2
 have e:(firstMet (fun i=>ns.getD i 0) ns.length).length=((firstMet (fun i=>ns.getD i 0) ns.length).map Int.toNat).length:=(List.length_map _).symm
 show (firstMet (fun i=>ns.getD i 0) ns.length).length≤m
 rw[e]
 refine Peel.ze0 m _ ?_ fun p hp=>?_
 ·rw[List.Nodup,List.pairwise_map]
  refine List.Pairwise.imp_of_mem ?_ h1
  intro a b ha hb ne z
  have:=h a ((h2 a).mp ha)
  have:=h b ((h2 b).mp hb)
  exact ne (by omega)
 ·obtain⟨x,hx,rfl⟩:=List.mem_map.mp hp
  have:=h x ((h2 x).mp hx)
  omega
theorem zkn:∀ {ms:List Int},(∀ x ∈ ms,0≤x)->ms.map V.int=natV (ms.map Int.toNat)
 | [],_=>rfl
 | x::ms,h=>by
  have e:((x.toNat:Nat):Int)=x:=Int.toNat_of_nonneg (h x List.mem_cons_self)
  have ih:=zkn (ms:=ms) fun y hy=>h y (List.mem_cons_of_mem _ hy)
  show V.int x::ms.map V.int=V.int ((x.toNat:Nat):Int)::natV (ms.map Int.toNat)
  rw[e,ih]
theorem zhh {ts:List Tie} {ks:List Nat} (ko:KeepOk ts.length ks):Far.Unit1 (arcs (ones ts) ks):=fun u v l h=>((zfa ko).mp h).1
theorem zmb {n:Int} {ts:List Tie} {ks:List Nat} {s v:Nat} {x:Int} (ok:WebOk n ts) (ko:KeepOk ts.length ks) (hs:s < n.toNat) (h:Far.Walk (arcs (ones ts) ks) s v x):v < n.toNat:=by
 rcases h.last (zhh ko) with ⟨e,_⟩ | ⟨u,_,m⟩
 ·rw[e];exact hs
 ·exact zoo ok ko u v ((zfa ko).mp m).2
theorem zey (a b:List Nat):natV (a++b)=natV a++natV b:=by unfold natV;rw[List.map_append]
theorem zai (a:List Nat):(natV a).length=a.length:=by unfold natV;rw[List.length_map]
theorem za6 (E:List (Option Nat)) {i v:Nat} (x:Nat) (h:i < E.length):Far.get (E.set i (some x)) v=if v=i then some x else Far.get E v:=by
 unfold Far.get
 rw[List.getD_eq_getElem?_getD,List.getD_eq_getElem?_getD]
 by_cases z:v=i
 ·subst z
  rw[if_pos rfl,List.getElem?_set_self h];rfl
 ·rw[if_neg z,List.getElem?_set_ne (Ne.symm z)]
section
variable {n g:Int} {ts:List Tie} {ks:List Nat} {k:Nat}
end
def tupH (hs:List Int):PyData:=.tuple (hs.map .int)
end L3
namespace Srt
open PySem PySem.W PyProof.Rows
section
variable {prog:Program} {w:World} {A:Around} {E:Value->Shared->Prop} {s:Shared} {κ:SortKind} {it:Array Keyed}
theorem zh9:∀ (f n r:Nat),r≤1->minRun' f n r≤n + r
 | 0,n,r,_=>Nat.le_of_eq rfl
 | f + 1,n,r,h=>by
  rw[minRun'_succ]
  split
  ·exact Nat.le_refl _
  ·have:=zh9 f (n / 2) (max r (n % 2)) (by omega)
   omega
/-- one run, which is all -/
theorem runsA {n:Nat} {Q:Unit->SortSt->Shared->Prop} {G:Array Nat->Shared->Prop} (h2:2≤n)
  (hG:∀ p' st' s',p'.size=n->arrOf st'=p'.map (kas_item it)->failedOf st'=none->G p' s'->Q () st' s')
  (h:(kas_count n (List.toArray (List.range n))).kasWp (kas_cmp prog w A κ it) (fun x s'=>x.1=n∧G x.2 s') s) :
  kasC (model prog w) A E sortRuns' Q (kas_st κ it (List.toArray (List.range n))) s:=by
 obtain⟨r,rfl⟩:∃ r,n=r + 2:=⟨n - 2,by omega⟩
 have zr:(List.toArray (List.range (r + 2))).size=r + 2:=by simp
 have za:(arrOf (kas_st κ it (List.toArray (List.range (r + 2))))).size=r + 2:=by show (Array.map _ _).size=_;rw[Array.size_map,zr]
 rw[sortRuns'_eq];refine kasC_bind (kasC_get ?_);dsimp only;simp only [za]
 have hmr:minRun' (r + 2) (r + 2) 0≤r + 2:=zh9 _ _ _ (by decide)
 generalize minRun' (r + 2) (r + 2) 0=mr at hmr
 refine kasC_bind (kasC_range (show kasC _ _ _ (forIn (0::1::List.range' 2 r) _ _) _ _ _ from kasC_cons ?_));dsimp only;rw[if_neg (by omega)]
 simp only [Nat.sub_zero,Nat.zero_add]
 refine kasC_bind (kas_count_ (by omega) (by rw[zr];exact Nat.le_refl _) (fun m p' s' m1 m2 hp hg=>?_) h)
 obtain⟨em,hg⟩:=hg
 have em:m=r + 2:=em
 subst em
 have zp:p'.size=r + 2:=hp.trans zr
 dsimp only;rw[if_neg (show ¬ r + 2 < mr by omega)]
 refine kasC_bind (kasC_get ?_);rw[show (pendingOf (kas_st κ it p')).back?=none from rfl];dsimp only
 refine kasC_bind (kasC_modify (kasC_pure (show kasC _ _ _ (forIn (1::List.range' 2 r) _ _) _ _ _ from kasC_cons ?_)));dsimp only
 rw[if_pos (Nat.le_refl _)];refine kasC_pure ?_;dsimp only
 refine kasC_bind (kasC_range (show kasC _ _ _ (forIn (0::1::List.range' 2 r) _ _) _ _ _ from kasC_cons (kasC_bind (kasC_get ?_))))
 rw[if_pos (show (pendingOf (setPending (kas_st κ it p') ((pendingOf (kas_st κ it p')).push (0,r + 2,0)))).size≤1 by exact Nat.le_refl 1)]
 refine kasC_pure ?_;dsimp only
 exact kasC_pure (hG p' _ _ zp rfl rfl hg)
/-- asked by ranks that rise, the first run is all -/
theorem countA {N:Nat} {r:Nat->Int} {cmp:Nat->Nat->(Bool->Shared->Prop)->Shared->Prop} (h:Ask N r cmp s) (hN:0 < N) (up:Up r (List.toArray (List.range N)) N) {Q:Nat × Array Nat->Shared->Prop} (z:Q (N,List.toArray (List.range N)) s):(kas_count N (List.toArray (List.range N))).kasWp cmp Q s:=by
 unfold kas_count
 rw[KasT.kasWp_bind]
 refine zk6 h hN (Array.Perm.refl _) _ 1 (Nat.le_refl _) (fun i j hij hj=>?_) (fun m a b u d=>?_)
 ·have:i=j:=by omega
  subst this;exact Int.le_refl _
 have hm:m=N:=by
  refine Classical.byContradiction fun c=>?_
  have d1:=d (by omega)
  have d2:=up (m - 1) m (by omega) (by omega)
  omega
 subst hm
 show KasT.kasWp cmp (if (m == m)=true then .ret (m,List.toArray (List.range m)) else _) Q s
 rw[if_pos (by simp)]
 exact z
theorem runA {ks vs:List Value} {Q:SortSt->Shared->Prop} {G:Array Nat->Shared->Prop} (hl:ks.length=vs.length) (h2:2≤vs.length)
  (hG:∀ p st' s',p.size=vs.length->arrOf st'=p.map (kas_item (ks.toArray.zip vs.toArray))->failedOf st'=none->G p s'->Q st' s')
  (h:(kas_count vs.length (List.toArray (List.range vs.length))).kasWp (kas_ask prog w A κ ks) (fun x s'=>x.1=vs.length∧G x.2 s') s) :
  wpAny (model prog w) A ((sortRuns').run (SortSt.mk' κ (ks.toArray.zip vs.toArray) #[] 7 none)) (fun r s'=>Q r.2 s') E s:=by
 rw[kat_ask_eq hl] at h
 have go:=runsA (E:=E) (Q:=fun _ st' s'=>Q st' s') h2 hG h
 have e:=kas_range (ks.toArray.zip vs.toArray)
 rw[show (ks.toArray.zip vs.toArray).size=vs.length by simp [hl]] at e
 have e2:SortSt.mk' κ (ks.toArray.zip vs.toArray) #[] 7 none=kas_st κ (ks.toArray.zip vs.toArray) (List.toArray (List.range vs.length)):=by
  show _=SortSt.mk' κ (Array.map _ _) #[] 7 none
  rw[e]
 rw[e2];exact go
/-- list.sort of a list whose items are told apart by ranks; nothing is written by a comparison -/
theorem lsortA {a:Addr} {vs:List Value} {n:Nat} {P:PySem.Fin->Shared->Prop} {r:Nat->Int} {κ:SortKind} (ho:s.heap.get? a=some (seqObj "list" vs.toArray n)) (hz:vs.length≤1000) (up:∀ i j,i≤j->j < vs.length->r i≤r j)
  (hk:2≤vs.length->∀ (s':Shared) (Q:SortKind->Shared->Prop),Stay a s.heap s'.heap->Q κ s'->wpAny (model prog w) A (keyKind' vs.toArray) Q (fun _ _=>False) s')
  (hc:∀ (s':Shared) (i j:Nat) (C:Bool->Shared->Prop),Stay a s.heap s'.heap->i < vs.length->j < vs.length->C (decide (r i < r j)) s'->kas_ask prog w A κ vs i j C s')
  (h:∀ (p:Array Nat) (h':Heap) (c:Nat),Gd vs.length p->Up r p vs.length->Stay a s.heap h'->h'.get? a=some (seqObj "list" (outOf vs p).toArray c)->P (.done (.ret .none)) { s with heap:=h' }) :
  wpAny (model prog w) A (Builtin.«list.sort» ⟨[.ref a],[]⟩) P E s:=by
 rw[list_sort_plain]
 have ha:a < s.heap.objs.size:=Heap.lt_size ho
 have line:(1000:Nat)≤sizeLine:=by rw[sizeLine_eq];decide
 refine wpAny_bind (listItems_at ho rfl (wpAny_bind (listUpdate_at ho rfl ?_ (by rw[List.size_toArray];omega) (Nat.zero_le _))))
 have e1:=get?_update_seq ho fun _=>(#[]:Array Value)
 generalize (if ((fun _=>(#[]:Array Value)) vs.toArray).size == vs.toArray.size then n else n + 1)=n1 at e1
 have k1:Stay a s.heap (s.heap.update a (Obj.mapSeq fun _=>(#[]:Array Value))):=fun b o hb q=>(Heap.get?_update_other s.heap _ (Ne.symm hb)).trans q
 refine wpAny_bind (seqEpoch_at e1 rfl (wpAny_bind (wpAny_newTuple ?_ (by show vs.length≤_;omega))))
 refine wpAny_bind (wpAny_newList ?_ (Nat.zero_le _))
 refine wpAny_holding ?_
 show wpAny (model prog w) A _ P E { s with heap:=(((s.heap.update a (Obj.mapSeq fun _=>(#[]:Array Value))).push (seqObj "tuple" vs.toArray 0)).push (seqObj "list" #[] 0):Heap) }
 generalize hg:((s.heap.update a (Obj.mapSeq fun _=>(#[]:Array Value))).push (seqObj "tuple" vs.toArray 0)).push (seqObj "list" #[] 0)=g
 have e2:g.get? a=some (seqObj "list" #[] n1):=by rw[← hg];exact Heap.get?_push_of_some _ (Heap.get?_push_of_some _ e1)
 have k2:Stay a s.heap g:=fun b o hb q=>by rw[← hg];exact Heap.get?_push_of_some _ (Heap.get?_push_of_some _ (k1 b o hb q))
 have fin:∀ (p:Array Nat),Gd vs.length p->Up r p vs.length->P (.done (.ret .none)) { s with heap:=g.update a (Obj.mapSeq fun _=>(outOf vs p).toArray) }:=fun p g1 u1 =>
  h p _ _ g1 u1 (fun b o hb q=>(Heap.get?_update_other g _ (Ne.symm hb)).trans (k2 b o hb q)) (get?_update_seq e2 fun _=>(outOf vs p).toArray)
 have up0:Up r (List.toArray (List.range vs.length)) vs.length:=fun i j hij hj=>by
  have e:∀ k,k < vs.length->(List.toArray (List.range vs.length)).getD k 0=k:=fun k hk=>by simp [Array.getD,hk]
  unfold ky
  rw[e i (by omega),e j hj]
  exact up i j hij hj
 by_cases h2:vs.length < 2
 ·have h2':vs.toArray.size < 2:=by rw[List.size_toArray];exact h2
  simp only [if_pos h2']
  refine wpAny_bind (wpAny_pure ?_)
  rw[StateT.run_pure]
  refine wpAny_bind (wpAny_pure ?_)
  have eo:((arrOf (SortSt.mk' general' (vs.toArray.zip vs.toArray) #[] 7 none)).map (·.2))=vs.toArray:=by
   apply Array.toList_inj.mp
   show ((vs.toArray.zip vs.toArray).map (·.2)).toList=_
   rw[Array.toList_map]
   simp only [Array.toList_zip,List.toList_toArray]
   exact List.map_snd_zip (Nat.le_refl _)
  dsimp only
  refine wpAny_bind (seqEpoch_at e2 rfl ?_)
  rw[eo]
  refine wpAny_bind (listUpdate_at e2 rfl ?_ (Nat.zero_le _) (by rw[List.size_toArray];omega))
  simp only [bne_self_eq_false,Bool.false_eq_true,if_false]
  have f:=fin (List.toArray (List.range vs.length)) (Array.Perm.refl _) (fun i j hij hj=>by
   have:i=j:=by omega
   subst this;exact Int.le_refl _)
  rw[zht] at f
  exact wpAny_pure f
 ·have h2':¬ vs.toArray.size < 2:=by rw[List.size_toArray];exact h2
  simp only [if_neg h2']
  refine wpAny_bind (wpAny_mono (hk (by omega) { s with heap:=g } (fun κ' s'=>κ'=κ∧s'={ s with heap:=g }) k2 ⟨rfl,rfl⟩) (fun κ' s' hq=>?_) fun _ _ x=>x.elim)
  obtain⟨rfl,rfl⟩:=hq
  refine wpAny_bind (wpAny_mono (runA (ks:=vs) (Q:=fun st' s'=>∃ p:Array Nat,arrOf st'=p.map (kas_item (vs.toArray.zip vs.toArray))∧failedOf st'=none∧s'={ s with heap:=g }∧Gd vs.length p∧Up r p vs.length)
   (G:=fun p s'=>s'={ s with heap:=g }∧Gd vs.length p∧Up r p vs.length) rfl (by omega) (fun p st' s' _ b2 b3 b4=>⟨p,b2,b3,b4.1,b4.2.1,b4.2.2⟩)
   (countA (r:=r) (fun i j C hi hj q=>hc _ i j C k2 hi hj q) (by omega) up0 ⟨rfl,rfl,Array.Perm.refl _,up0⟩)) ?_ fun _ _ e=>e)
  rintro ⟨⟨⟩,st'⟩ s' ⟨p,har,hf,rfl,g1,u1⟩
  have hout:=kat_snds (ks:=vs) (vs:=vs) rfl har
  have ol:(outOf vs p).length=vs.length:=zqi g1
  dsimp only
  rw[hout]
  refine wpAny_bind (seqEpoch_at e2 rfl ?_)
  refine wpAny_bind (listUpdate_at e2 rfl ?_ (Nat.zero_le _) (by show (outOf vs p).toArray.size≤_;rw[List.size_toArray];omega))
  rw[hf]
  simp only [bne_self_eq_false,Bool.false_eq_true,if_false]
  exact wpAny_pure (fin p g1 u1)
/-- sorted(l) -/
theorem zlg {l:Addr} {vs:List Value} {Q:Value->Shared->Prop} {r:Nat->Int} {κ:SortKind} (hl:s.heap.IsList l vs.toArray) (hz:vs.length≤1000) (up:∀ i j,i≤j->j < vs.length->r i≤r j)
  (hk:2≤vs.length->∀ (A':Around) (s':Shared) (Q:SortKind->Shared->Prop),(∀ b o,s.heap.get? b=some o->s'.heap.get? b=some o)->Q κ s'->wpAny (model prog w) A' (keyKind' vs.toArray) Q (fun _ _=>False) s')
  (hc:∀ (A':Around) (s':Shared) (i j:Nat) (C:Bool->Shared->Prop),(∀ b o,s.heap.get? b=some o->s'.heap.get? b=some o)->i < vs.length->j < vs.length->C (decide (r i < r j)) s'->kas_ask prog w A' κ vs i j C s')
  (h:∀ (p:Array Nat) (h':Heap) (c:Nat),Gd vs.length p->Up r p vs.length->(∀ b o,s.heap.get? b=some o->h'.get? b=some o)->h'.get? (s.heap.objs.size + 1)=some (seqObj "list" (outOf vs p).toArray c)->Q (.ref (s.heap.objs.size + 1)) { s with heap:=h' }) :
  wpAny (model prog w) A (call (.builtin "sorted") [.ref l]) Q E s:=by
 have line:(1000:Nat)≤sizeLine:=by rw[sizeLine_eq];decide
 refine Calls.call_function_entry kind_sorted plain_sorted entry_sorted (args_sorted1 _) ?_
 unfold Builtin.«sorted»
 refine wpAny_bind (m:=checkCount "sorted" 1 1 _) (wpAny_pure (wpAny_bind (collect_list hl (wpAny_bind (wpAny_newList ?_ (by omega))) (by omega))))
 generalize hg:(s.heap.push (seqObj "list" #[] 0)).update s.heap.objs.size (Obj.mapSeq (·++vs.toArray))=g
 have sz:g.objs.size=s.heap.objs.size + 1:=by rw[← hg,Heap.size_update,size_push']
 have k1:∀ b o,s.heap.get? b=some o->g.get? b=some o:=fun b o q=>by
  rw[← hg]
  exact (Heap.get?_update_other _ _ (Ne.symm (Nat.ne_of_lt (Heap.lt_size q)))).trans (Heap.get?_push_of_some _ q)
 have hoL:(g.push { cls:=.type "list",data:=.seq vs.toArray }).get? (s.heap.objs.size + 1)=some (seqObj "list" vs.toArray 0):=by rw[← sz];exact Heap.get?_push_size _ rfl
 have k2:∀ b o,s.heap.get? b=some o->(g.push { cls:=.type "list",data:=.seq vs.toArray }).get? b=some o:=fun b o q=>Heap.get?_push_of_some _ (k1 b o q)
 have ne:∀ b o,s.heap.get? b=some o->b≠s.heap.objs.size + 1:=fun b o q=>Nat.ne_of_lt (Nat.lt_succ_of_lt (Heap.lt_size q))
 show wpAny _ _ _ _ _ { s with heap:=g.push { cls:=.type "list",data:=.seq vs.toArray } }
 rw[sz]
 refine wpAny_bind (wpAny_holding (wpAny_call_entry slot_list_sort ⟨_,hoL,rfl⟩ entry_list_sort ?_ (args_list_sort _)))
 refine lsortA (s:={ s with heap:=g.push { cls:=.type "list",data:=.seq vs.toArray } }) (r:=r) (κ:=κ) hoL hz up (fun h2 s' Q' st q=>hk h2 _ s' Q' (fun b o e=>st b o (ne b o e) (k2 b o e)) q)
  (fun s' i j C st hi hj q=>hc _ s' i j C (fun b o e=>st b o (ne b o e) (k2 b o e)) hi hj q) fun p h' c g1 u1 st e=>⟨_,rfl,?_⟩
 exact wpAny_pure ⟨_,rfl,h p h' c g1 u1 (fun b o e=>st b o (ne b o e) (k2 b o e)) e⟩
end
end Srt
namespace L3
open PySem PySem.Spec PyProof.Rows L2
/-- sorted(l), l a list of tuples of whole numbers that rise already -/
theorem zg2 {X:Cx}:CallR X (.builtin "sorted") (fun xs H Q=>∃ p ys ks,xs=[.ref p]∧SqL X.K H p ys∧ys.length≤1000∧(∀ i j,i≤j->j < ys.length->Srt.lexI (ks.getD j []) (ks.getD i [])=false)∧Paired (fun (y:V) (k:List Int)=>∃ a,y=.ref a∧SqT X.K H a (k.map V.int)) ys ks∧(∀ k ∈ ks,k≠[]) ∧
  ∀ qs:List (V × List Int),qs.Perm (ys.zip ks)->qs.Pairwise (fun a b=>Srt.lexI b.2 a.2=false)->∀ l,H l=none->Q (.ref l) (upd H l (.lst (qs.map (·.1))))):=by
 intro pins s σ H xs us Q I r h
 obtain⟨p,ys,ks,rfl,hq,h64,asc,hp,hne,q⟩:=h
 obtain⟨u,rfl,rx⟩:=vals1 r
 cases rx
 obtain⟨its,rv,pl,hz⟩:=I.list hq
 have hl:=rv.length
 have hlk:ys.length=ks.length:=Paired.length hp
 have line:(1000:Nat)≤sizeLine:=by rw[sizeLine_eq];decide
 have hT:∀ {ys:List V} {ks:List (List Int)} {its:List Value},Paired (fun (y:V) (k:List Int)=>∃ a,y=.ref a∧SqT X.K H a (k.map V.int)) ys ks->Vals ys its->Paired (Srt.TupI s.heap) its ks:=by
  intro ys ks its hp
  induction hp generalizing its with
  | nil=>intro rv;cases rv;exact .nil
  | cons r t ih =>
   intro rv
   cases rv with
   | cons r1 r2 =>
    refine .cons ?_ (ih r2)
    obtain⟨a,rfl,qa⟩:=r
    cases r1
    obtain⟨its',rv',⟨o,e1,e2,n,e3⟩,_⟩:=I.tuple qa
    exact⟨a,o,its'.toArray,n,rfl,e1,e2,e3,by simpa using zbm rv'⟩
 have tp:=hT hp rv
 have mono:∀ {h':Heap},(∀ b o,s.heap.get? b=some o->h'.get? b=some o)->Paired (Srt.TupI h') its ks:=fun k=>Paired.mapP tp fun v k' z=>z.to k
 refine Srt.zlg (r:=Srt.rank its.length fun i j=>Srt.lexI (ks.getD i []) (ks.getD j [])) (κ:=tuples' true) pl.isList (by omega) (fun i j hij hj=>?asc) (fun h2 A' s' Q' k q'=>Srt.zj6 (mono k) hne h2 q')
  (fun A' s' i j C k hi hj q'=>Srt.zmg (mono k) hi hj (by rw[Srt.zei (lt:=fun i j=>Srt.lexI (ks.getD i []) (ks.getD j [])) (fun i=>Srt.zb4 _) (fun _ _ _ _ _ _=>Srt.zbr _ _ _) (fun _ _ _ _ _ _=>Srt.zcq _ _ _) hi hj] at q';exact q')) fun pp h' c g u kp e=>?fin
 case asc =>
  have w:=Srt.zei (n:=its.length) (lt:=fun i j=>Srt.lexI (ks.getD i []) (ks.getD j [])) (fun i=>Srt.zb4 _) (fun _ _ _ _ _ _=>Srt.zbr _ _ _) (fun _ _ _ _ _ _=>Srt.zcq _ _ _) (i:=j) (j:=i) hj (by omega)
  rw[asc i j hij (by omega)] at w
  have:=of_decide_eq_false w
  omega
 have fr:H (s.heap.objs.size + 1)=none:=I.hok.fresh (Nat.le_succ _)
 have pm:(pp.toList.map fun i=>(ys.getD i .non,ks.getD i [])).Perm (ys.zip ks):=by
  have h1:=ze4 g fun i=>(ys.getD i V.non,ks.getD i [])
  have e1:(List.range its.length).map (fun i=>(ys.getD i V.non,ks.getD i []))=ys.zip ks:=by
   refine List.ext_getElem (by simp;omega) fun i h1 h2=>?_
   have hi:i < its.length:=by simpa using h1
   have a1:i < ys.length:=by omega
   have a2:i < ks.length:=by omega
   simp [List.getD,a1,a2]
  rw[e1] at h1
  exact h1
 have pw:(pp.toList.map fun i=>(ys.getD i V.non,ks.getD i [])).Pairwise (fun a b=>Srt.lexI b.2 a.2=false):=by
  rw[List.pairwise_map]
  refine zeh g u fun i j hi hj z=>?_
  have w:=Srt.zei (n:=its.length) (lt:=fun i j=>Srt.lexI (ks.getD i []) (ks.getD j [])) (fun i=>Srt.zb4 _) (fun _ _ _ _ _ _=>Srt.zbr _ _ _) (fun _ _ _ _ _ _=>Srt.zcq _ _ _) hj hi
  rw[decide_eq_false (by omega)] at w
  exact w.symm
 have ev:(pp.toList.map fun i=>(ys.getD i V.non,ks.getD i [])).map (·.1)=pp.toList.map fun i=>ys.getD i V.non:=by
  rw[List.map_map];rfl
 refine⟨.ref (s.heap.objs.size + 1),_,I.laid (a:=s.heap.objs.size + 1) (o:=.lst ((pp.toList.map fun i=>(ys.getD i V.non,ks.getD i [])).map (·.1))) (t':=s.toks) kp (Nat.le_succ _) ⟨?_,Srt.outOf its pp,c,?_,e⟩,rfl,q _ pm pw _ fr⟩
 ·have:=pm.length_eq
  rw[List.length_map,this,List.length_zip];omega
 ·rw[ev]
  exact zcm rv pp.toList fun i hi=>by have:=zc8 g i hi;omega
theorem zg1 {X:Cx}:CallR X (.builtin "sorted") (fun xs H Q=>∃ p ys ks,xs=[.ref p]∧H p=some (.lst ys)∧ys.length≤1000∧(∀ i j,i≤j->j < ys.length->Srt.lexI (ks.getD j []) (ks.getD i [])=false)∧Paired (fun (y:V) (k:List Int)=>∃ a,y=.ref a∧H a=some (.tup (k.map V.int))) ys ks∧(∀ k ∈ ks,k≠[]) ∧
  ∀ qs:List (V × List Int),qs.Perm (ys.zip ks)->qs.Pairwise (fun a b=>Srt.lexI b.2 a.2=false)->∀ l H',Same H H'->H l=none->H' l=some (.lst (qs.map (·.1)))->Q (.ref l) H'):=by
 intro pins s σ H xs us Q I r h
 obtain⟨p,ys,ks,rfl,hp,hz,asc,pr,ne,q⟩:=h
 exact zg2 (X:=X) pins s σ H _ us Q I r ⟨p,ys,ks,rfl,SqL.of hp,hz,asc,Paired.mapP pr fun y k ⟨a,e1,e2⟩=>⟨a,e1,SqT.of e2⟩,ne,fun qs pq wq l hl=>q qs pq wq l _ (zal hl) hl zag⟩
end L3
namespace HT
open PySem PyProof.Rows
open Sem (wp)
section
variable {prog:Program} {w:World} {A:Around} {E:Value->Shared->Prop} {s:Shared}
end
end HT
namespace L3
open PySem PySem.Spec PyProof.Rows L2
end L3
namespace L3
open PySem PySem.Spec PyProof.Rows L2
def PapV (H:Hp) (lo hi m:Nat) (v:V):Prop:=∃ p xs,v=.ref p∧H p=some (.tup xs)∧xs.length≤m∧∀ u ∈ xs,RowV lo hi H u
theorem zkw (xs:List V) (lo hi:Option Int):(cutV xs lo hi).length≤xs.length∧∀ u ∈ cutV xs lo hi,u ∈ xs:=by
 unfold cutV
 refine⟨by rw[List.length_take,List.length_drop];omega,fun u hu=>List.mem_of_mem_drop (List.mem_of_mem_take hu)⟩
theorem brT2 {α β:Sort _} {A T:α->β->Prop} {B:Prop} (main:(∀ x y,A x y->T x y)->B) (tail:∀ x y,A x y->T x y):B:=main tail
end L3
namespace Far
end Far
namespace L3
open PySem PySem.Spec PyProof.Rows L2
section
variable {n:Int} {ts:List Tie}
theorem zbg (ts:List Tie):KeepOk ts.length (List.range ts.length):=⟨List.pairwise_lt_range,fun k hk=>List.mem_range.mp hk⟩
/-- two rising rows with the same numbers are one -/
theorem zkf:∀ {a b:List Nat},a.Pairwise (· < ·)->b.Pairwise (· < ·)->(∀ k,k ∈ a↔k ∈ b)->a=b
 | [],[],_,_,_=>rfl
 | [],y::b,_,_,h=>by have:=(h y).mpr List.mem_cons_self;cases this
 | x::a,[],_,_,h=>by have:=(h x).mp List.mem_cons_self;cases this
 | x::a,y::b,pa,pb,h=>by
  obtain⟨p1,p2⟩:=List.pairwise_cons.mp pa
  obtain⟨q1,q2⟩:=List.pairwise_cons.mp pb
  have e:x=y:=by
   rcases List.mem_cons.mp ((h x).mp List.mem_cons_self) with z | z
   ·exact z
   ·rcases List.mem_cons.mp ((h y).mpr List.mem_cons_self) with y' | y'
    ·exact y'.symm
    ·have:=q1 x z;have:=p1 y y';omega
  subst e
  rw[zkf p2 q2 fun k=>?_]
  constructor
  ·intro hk
   rcases List.mem_cons.mp ((h k).mp (List.mem_cons_of_mem _ hk)) with z | z
   ·have:=p1 k hk;omega
   ·exact z
  ·intro hk
   rcases List.mem_cons.mp ((h k).mpr (List.mem_cons_of_mem _ hk)) with z | z
   ·have:=q1 k hk;omega
   ·exact z
/-- what sorted(set(ties)) is -/
theorem zi9 {ms:List Int} {xs ks:List Nat} (hl:ms.length=HT.setN (keepI xs) (keepI xs).length) (hm:∀ k,HT.setS (keepI xs) (keepI xs).length k=true↔k ∈ ms) (pw:ms.Pairwise (·≤·)) (rk:ks.Pairwise (· < ·)) (h:∀ k,k ∈ ks↔k ∈ xs):ms.map V.int=natV ks:=by
 obtain⟨nd,mem⟩:=zo1 hl hm
 have nn:∀ x ∈ ms,0≤x:=fun x hx=>by
  obtain⟨c,_,rfl⟩:=List.mem_map.mp ((mem x).mp hx)
  exact Int.natCast_nonneg c
 rw[zkn nn]
 congr 1
 have lt:ms.Pairwise (· < ·):=(pw.and nd).imp fun ⟨a,b⟩=>by omega
 refine zkf ?_ rk fun k=>?_
 ·rw[List.pairwise_map]
  refine List.Pairwise.imp_of_mem ?_ lt
  intro a b ha hb ab
  have:=nn a ha
  omega
 ·rw[h k,List.mem_map]
  constructor
  ·rintro ⟨x,hx,rfl⟩
   obtain⟨c,hc,rfl⟩:=List.mem_map.mp ((mem x).mp hx)
   rw[Int.toNat_natCast];exact hc
  ·intro hk
   exact⟨(k:Int),(mem _).mpr (List.mem_map.mpr ⟨k,hk,rfl⟩),Int.toNat_natCast k⟩
theorem zc4:∀ {a b:List Nat},a.Nodup->(∀ x ∈ a,x ∈ b)->a.length≤b.length
 | [],_,_,_=>Nat.zero_le _
 | x::a,b,nd,h=>by
  obtain⟨n1,n2⟩:=List.nodup_cons.mp nd
  have hx:=h x List.mem_cons_self
  have ih:=zc4 (a:=a) (b:=b.erase x) n2 fun y hy=>(List.mem_erase_of_ne (fun e=>n1 (by rw[← e];exact hy))).mpr (h y (List.mem_cons_of_mem _ hy))
  have le:=List.length_erase_of_mem hx
  have pos:=List.length_pos_of_mem hx
  rw[List.length_cons]
  omega
end
/-- for i, x in enumerate(..) -/
theorem zkq {K:PySem.W.Frag} {t:Bool} {l:Addr} {xs:List V} {g:TG} {tb:TS} {D:Ends} {σ:L2.St} {H:Hp} (Pv:Nat->L2.St->Hp->Prop) (h0:Pv 0 σ H) (hl:∀ i σ H,Pv i σ H->SqX t K H l xs)
  (hs:∀ i x T σ H,xs[i]?=some x->H T=none->Pv i σ H->g (.ref T) σ (upd H T (.tup [.int (i:Nat),x])) fun σ2 H2=>tb { D with nx:=Pv (i + 1),ct:=Pv (i + 1),bk:=D.nx } σ2 H2) (hd:∀ σ H,Pv xs.length σ H->D.nx σ H) :
  ∃ W:Nat->Nat->L2.St->Hp->Prop,(∃ m,W 0 m σ H)∧∀ i m σ H,W i m σ H ->
   ((Itn t K l).stop i H∧D.nx σ H)∨((Itn t K l).go i H∧∃ N:L2.St->Hp->Prop,(∀ σ' H',N σ' H'->∃ m',m' < m∧W (i + 1) m' σ' H')∧∀ x H',(Itn t K l).yld i H x H'->g x σ H' fun σ2 H2=>tb { D with nx:=N,ct:=N,bk:=D.nx } σ2 H2):=by
 refine⟨fun i m σ H=>m=xs.length - i∧i≤xs.length∧Pv i σ H,⟨xs.length,by simp,Nat.zero_le _,h0⟩,?_⟩
 rintro i m σ H ⟨rfl,hi,p⟩
 have q1:=hl i σ H p
 by_cases hlt:i < xs.length
 ·have e1:xs[i]?=some xs[i]:=List.getElem?_eq_getElem hlt
  refine .inr ⟨⟨xs,_,q1,e1⟩,Pv (i + 1),fun σ' H' p'=>⟨xs.length - (i + 1),by omega,rfl,hlt,p'⟩,fun x H' y=>?_⟩
  obtain⟨T,y',hT,rfl,rfl,a1⟩:=y
  exact hs i y' T σ H (a1 _ q1) hT p
 ·have e:i=xs.length:=by omega
  subst e
  exact .inl ⟨⟨xs,q1,Nat.le_refl _⟩,hd σ H p⟩
end L3
namespace L3
open PySem PySem.Spec PyProof.Rows L2
section
variable {near kept:Nat->Nat->Option Int} {u v:Nat} {r:List (Nat × Nat)} {m:Int × Int × Int} {x y:Int}
end
/-- the numbers of steps, told by all ties and by a keep -/
noncomputable def dstF (ts:List Tie) (ks:List Nat) (u v:Nat):Option Int:=Classical.epsilon fun o=>Far.Dst (arcs (ones ts) ks) u v o
theorem zju {ts:List Tie} {ks:List Nat} (ko:KeepOk ts.length ks) {u v:Nat} {o:Option Int} (d:Far.Dst (arcs (ones ts) ks) u v o):o=dstF ts ks u v :=
 d.unique (Classical.epsilon_spec (p:=fun o=>Far.Dst (arcs (ones ts) ks) u v o) ⟨o,d⟩)
theorem znd (ts:List Tie):ones (ones ts)=ones ts:=by unfold ones;rw[List.map_map];rfl
theorem zlm (ts:List Tie):((ones ts).all fun t=>decide (t.2.2=1))=true:=by
 unfold ones
 rw[List.all_map,List.all_eq_true]
 intro t _
 show decide ((1:Int)=1)=true
 rfl
/-- a web and a keep of it, a tuple or a list -/
def WKE (K:PySem.W.Frag) (H:Hp) (n:Int) (ts:List Tie) (ks:List Nat) (wv:V) (kp:Addr) (tp:Bool):Prop:=Is K H (webD n ts) wv∧WebOk n ts∧H kp=some (if tp=true then .tup (natV ks) else .lst (natV ks))∧KeepOk ts.length ks
section
variable {g:TG} {tt:TT} {te:TE} {own:List Str} {js:List Nat} {σ:L2.St} {H1:Hp} {Q:VK}
end
end L3
namespace L3
open PySem PySem.Spec PyProof.Rows L2
section
variable {n:Int} {ts:List Tie} {ks:List Nat}
theorem zgx (ko:KeepOk ts.length ks) (u v:Nat):Far.Dst (arcs (ones ts) ks) u v (dstF ts ks u v) :=
 Classical.epsilon_spec (p:=fun o=>Far.Dst (arcs (ones ts) ks) u v o) (Far.zlu (zhh ko).pos u v)
noncomputable def dstL (n:Int) (ts:List Tie) (ks:List Nat) (u:Nat):List (Option Int):=(List.range n.toNat).map (dstF ts ks u)
theorem zgw (n:Int) (ts:List Tie) (ks:List Nat) (u:Nat):(dstL n ts ks u).length=n.toNat:=by unfold dstL;rw[List.length_map,List.length_range]
theorem zn5 {u v:Nat} (hv:v < n.toNat):(dstL n ts ks u)[v]?=some (dstF ts ks u v):=by unfold dstL;rw[List.getElem?_map,List.getElem?_range hv];rfl
theorem zku {u v:Nat} (hv:v < n.toNat):Far.get (dstL n ts ks u) v=dstF ts ks u v:=by unfold Far.get;rw[List.getD_eq_getElem?_getD,zn5 hv];rfl
theorem zjt (ko:KeepOk ts.length ks) {u:Nat} {DD:List (Option Int)} (lD:DD.length=n.toNat) (hD:∀ v,v < n.toNat->Far.Dst (arcs (ones ts) ks) u v (Far.get DD v)):DD=dstL n ts ks u:=by
 refine List.ext_getElem? fun v=>?_
 by_cases hv:v < n.toNat
 ·have e:=zju ko (hD v hv)
  unfold Far.get at e
  rw[List.getD_eq_getElem?_getD,List.getElem?_eq_getElem (by omega)] at e
  rw[List.getElem?_eq_getElem (by omega),zn5 hv,← e];rfl
 ·rw[List.getElem?_eq_none (by omega),List.getElem?_eq_none (by rw[zgw];omega)]
def pairD (hs:List Int) (as:List (Option Nat)):PyData:=.tuple [tupH hs,.tuple (as.map oaD)]
end
section
variable {own:List Str} {js:List Nat} {g:TG} {te:TE} {σ:L2.St} {Q:VK} {H1:Hp}
end
end L3
namespace Far
section
variable {A B:List (Nat × Nat × Int)} {s u v:Nat} {x y:Int}
end
end Far
namespace Far
section
variable {G:Nat->Option Int} {len:Nat->Int}
end
end Far
namespace Far
section
variable {A:List (Nat × Nat × Int)} {s:Nat}
end
end Far
namespace L2
open PySem PySem.Spec PyProof.Rows
section
variable {X:Cx} {k v:Expr} {pos:Pos} {tk tv:TE}
end
end L2
namespace L3
open PySem PySem.Spec PyProof.Rows L2
section
variable {n:Int} {ts:List Tie}
def hN (hs:List Int) (v:Nat):Int:=hs.getD v 0
end
theorem iteTe {b:Bool} {A B:Prop} (e:b=true) (h:A):if b=true then A else B:=by rw[if_pos e];exact h
theorem iteFe {b:Bool} {A B:Prop} (e:b=false) (h:B):if b=true then A else B:=by rw[e];exact h
end L3
namespace Srt
open PySem PyProof.Rows
section
variable {prog:Program} {w:World} {A:Around} {E:Value->Shared->Prop} {s:Shared} {a:Addr}
end
end Srt
namespace L3
open PySem PySem.Spec PyProof.Rows L2
section
variable {X:Cx}
end
end L3
namespace L3
open PySem PySem.Spec PyProof.Rows L2
section
variable {n:Int} {ts:List Tie}
noncomputable def wyN (ts:List Tie) (a b:Nat):Option (List Nat):=@dite _ (∃ ws,Far.MinW (arcsB ts (List.range ts.length)) a b ws) (Classical.propDecidable _) (fun h=>some (Classical.choose h)) (fun _=>none)
theorem zos (ok:WebOk n ts) {a b:Nat} {ws:List Nat} (h:Far.MinW (arcsB ts (List.range ts.length)) a b ws):wyN ts a b=some ws:=by
 have ex:∃ ws,Far.MinW (arcsB ts (List.range ts.length)) a b ws:=⟨ws,h⟩
 unfold wyN
 rw[dif_pos ex]
 exact congrArg some (h.unique (zcs ok (zbg ts)) (Classical.choose_spec ex))
/-- a way, or None -/
def WyV (H:Hp) (ts:List Tie) (o:Option (List Nat)) (v:V):Prop:=(o=none∧v=.non)∨∃ t ws,o=some ws∧v=.ref t∧H t=some (.tup (natV ws))∧ws.length≤24∧linked ts ws
def wyD:Option (List Nat)->PyData
 | none=>.none
 | some ws=>tupH (keepI ws)
end
end L3
namespace L3
open PySem PySem.Spec PyProof.Rows L2
theorem zml {ts:List Tie} {u v k:Nat} (h:tbN ts u v=some k):(tieAt ts k).1=min (u:Int) v∧(tieAt ts k).2.1=max (u:Int) v:=by
 have b:=List.find?_some h
 unfold isTB at b
 rw[Bool.and_eq_true] at b
 exact⟨of_decide_eq_true b.1,of_decide_eq_true b.2⟩
theorem zdg (ts:List Tie) (ws:List Nat):(alongN ts ws).length=ws.length - 1:=by unfold alongN;rw[List.length_map,List.length_range]
theorem zk7 {ts:List Tie} {ws:List Nat} {i u v k:Nat} (hu:ws[i]?=some u) (hv:ws[i + 1]?=some v) (e:tbN ts u v=some k):(alongN ts ws)[i]?=some k:=by
 have hi:=(List.getElem?_eq_some_iff.mp hv).1
 unfold alongN
 rw[List.getElem?_map,List.getElem?_range (by omega)]
 show some ((tbN ts (ws.getD i 0) (ws.getD (i + 1) 0)).getD 0)=some k
 rw[List.getD_eq_getElem?_getD,hu,List.getD_eq_getElem?_getD,hv]
 show some ((tbN ts u v).getD 0)=some k
 rw[e];rfl
end L3
namespace L3
open PySem PySem.Spec PyProof.Rows L2
end L3
namespace Shr
def geo (d:Nat):Nat->Nat
 | 0=>0
 | k + 1=>geo d k * d + 1
def spr (d k:Nat):Nat:=1 + (d + 1) * geo d k
/-- the share: the least d -/
def Share (n k d:Nat):Prop:=n < spr d k∧∀ e,e < d->spr e k≤n
end Shr
namespace Lr
open Far (chn zcc zb9 ze7 zif RingOf)
section
variable {R:Nat->Nat->Prop} {nb:Nat->List Nat}
end
end Lr
namespace Peel
section
variable {n:Nat} {ts:List T2} {d:Int}
end
end Peel
namespace L3
open PySem PySem.Spec PyProof.Rows L2
theorem znm {n:Int} {ts:List Tie} {ks:List Nat} (ok:WebOk n ts) (ko:KeepOk ts.length ks) (p:Nat):(nbN ts ks (p:Int)).Nodup:=by
 unfold nbN
 have arc1:∀ {k c},k ∈ ks->nb1 ts (p:Int) k=some c->(p,c,(tieAt ts k).2.2) ∈ arcs2 (tieAt ts k):=fun {k c} hk e=>by
  refine a2_iff.mpr (.inl ?_)
  unfold nb1 at e
  by_cases z:(tieAt ts k).1=(p:Int)
  ·rw[if_pos z] at e;exact⟨by omega,(Option.some.inj e).symm⟩
  ·rw[if_neg z] at e;cases e
 have arc2:∀ {k c},k ∈ ks->nb2 ts (p:Int) k=some c->(p,c,(tieAt ts k).2.2) ∈ arcs2 (tieAt ts k):=fun {k c} hk e=>by
  refine a2_iff.mpr (.inr ?_)
  unfold nb2 at e
  by_cases z:(tieAt ts k).2.1=(p:Int)
  ·rw[if_pos z] at e;exact⟨by omega,(Option.some.inj e).symm⟩
  ·rw[if_neg z] at e;cases e
 refine List.nodup_append.mpr ⟨?_,?_,fun a ha b hb z=>?_⟩
 ·rw[List.Nodup,List.pairwise_filterMap]
  refine List.Pairwise.imp_of_mem ?_ ko.1
  intro k k' hk hk' lt c hc c' hc' e
  subst e
  exact Nat.ne_of_lt lt (zf8 ok (ko.2 k hk) (ko.2 k' hk') (arc1 hk hc) (arc1 hk' hc'))
 ·rw[List.Nodup,List.pairwise_filterMap]
  refine List.Pairwise.imp_of_mem ?_ ko.1
  intro k k' hk hk' lt c hc c' hc' e
  subst e
  exact Nat.ne_of_lt lt (zf8 ok (ko.2 k hk) (ko.2 k' hk') (arc2 hk hc) (arc2 hk' hc'))
 ·subst z
  obtain⟨k,hk,e⟩:=List.mem_filterMap.mp ha
  obtain⟨k',hk',e'⟩:=List.mem_filterMap.mp hb
  have ee:=zf8 ok (ko.2 k hk) (ko.2 k' hk') (arc1 hk e) (arc2 hk' e')
  subst ee
  have tk:=ok.tie _ (zaz (ko.2 k hk)).2
  unfold nb1 at e
  unfold nb2 at e'
  by_cases z1:(tieAt ts k).1=(p:Int)
  ·rw[if_neg (by omega)] at e';cases e'
  ·rw[if_neg z1] at e;cases e
end L3
namespace L3
open PySem PySem.Spec PyProof.Rows L2
section
variable {g:TG} {te:TE} {own:List Str} {js:List Nat} {σ:L2.St} {H1:Hp} {Q:VK}
end
/-- a ring of that many places, told as it should be, that begins so -/
def RgP (ts:List Tie) (ks w:List Nat) (size:Nat) (r:List Nat):Prop:=∃ h tl,r=h::tl∧Lr.Rg (Adj ts ks) h tl∧Lr.Cano h tl∧r.length=size∧w <+: r
def RowS (ts:List Tie) (ks:List Nat) (j:Nat) (rs:List Nat):Prop:=rs.Pairwise (· < ·)∧∀ c,c ∈ rs↔Adj ts ks j c
/-- lists beside one another, only read -/
def BesS (H:Hp) (l:Addr) (n:Nat) (ts:List Tie) (ks:List Nat):Prop:=∃ vs:List V,H l=some (.lst vs)∧vs.length=n∧∀ j,j < n->∃ a rs,vs[j]?=some (.ref a)∧H a=some (.lst (natV rs))∧RowS ts ks j rs
theorem brT {A T B:Prop} (main:(A->T)->B) (tail:A->T):B:=main tail
def FewD (n:Int) (ts:List Tie) (ks:List Nat) (k:Nat) (x:Str) (ns:List Nat):Prop:=∃ d,Shr.Share n.toNat k d∧((x="few"∧ns=Peel.gone n.toNat (t2s ts ks) (d:Int)∧∀ q,q < n.toNat->q ∈ Peel.gone n.toNat (t2s ts ks) (d:Int))∨(x="ring"∧(∃ q,q < n.toNat∧q ∉ Peel.gone n.toNat (t2s ts ks) (d:Int))∧∃ h tl,ns=h::tl∧IsLR ts ks h tl∧(h::tl).length≤2 * k))
end L3
namespace L3
open PySem PySem.Spec PyProof.Rows L2
end L3
namespace L3
open PySem PySem.Spec PyProof.Rows L2
/-- the guards and the guarded -/
abbrev GS:Type:=List (Nat × List Nat) × List Nat
def bareG (N:Nat->List Nat) (g:List Nat) (p:Nat):List Nat:=(N p).filter fun q=>!g.contains q
def stepG (N:Nat->List Nat) (d:Int) (s:GS) (p:Nat):GS:=if d≤((bareG N s.2 p).length:Int) then (s.1++[(p,bareG N s.2 p)],s.2++bareG N s.2 p) else s
def swG (N:Nat->List Nat) (d:Int):Nat->GS
 | 0=>([],[])
 | p + 1=>stepG N d (swG N d p) p
section
variable {N:Nat->List Nat} {d:Int}
/-- what the guards told keep to -/
structure Grd (N:Nat->List Nat) (d:Int) (p:Nat) (s:GS):Prop where
 all:s.1.flatMap (·.2)=s.2
 nd:s.2.Nodup
 low:∀ e ∈ s.1,e.1 < p
 up:(s.1.map (·.1)).Nodup
 big:∀ e ∈ s.1,d≤(e.2.length:Int)
 sub:∀ e ∈ s.1,e.2.Sublist (N e.1)
theorem zhk (hN:∀ p,(N p).Nodup):∀ p,Grd N d p (swG N d p)
 | 0=>⟨rfl,List.nodup_nil,fun _ h=>absurd h List.not_mem_nil,List.nodup_nil,fun _ h=>absurd h List.not_mem_nil,fun _ h=>absurd h List.not_mem_nil⟩
 | p + 1=>by
  obtain⟨all,nd,low,up,big,sub⟩:=zhk hN p
  rw[swG,stepG]
  split
  ·rename_i h
   refine⟨?_,?_,fun e he=>?_,?_,fun e he=>?_,fun e he=>?_⟩
   ·show (List.flatMap (·.2) ((swG N d p).1++[(p,bareG N (swG N d p).2 p)]))=_
    rw[List.flatMap_append,all];simp
   ·refine List.nodup_append.mpr ⟨nd,(hN p).sublist List.filter_sublist,fun a ha b hb z=>?_⟩
    have:=(List.mem_filter.mp hb).2
    rw[← z] at this
    simp [ha] at this
   ·rcases List.mem_append.mp he with he | he
    ·exact Nat.lt_succ_of_lt (low e he)
    ·rw[List.mem_singleton.mp he];exact Nat.lt_succ_self _
   ·show ((((swG N d p).1++[(p,bareG N (swG N d p).2 p)]).map (·.1)).Nodup)
    rw[List.map_append]
    refine List.nodup_append.mpr ⟨up,by simp,fun a ha b hb z=>?_⟩
    obtain⟨e,he,rfl⟩:=List.mem_map.mp ha
    have h1:=low e he
    rw[z,List.mem_singleton.mp hb] at h1
    exact Nat.lt_irrefl _ h1
   ·rcases List.mem_append.mp he with he | he
    ·exact big e he
    ·rw[List.mem_singleton.mp he];exact h
   ·rcases List.mem_append.mp he with he | he
    ·exact sub e he
    ·rw[List.mem_singleton.mp he];exact List.filter_sublist
  ·exact⟨all,nd,fun e he=>Nat.lt_succ_of_lt (low e he),up,big,sub⟩
end
/-- the neighbours, rising -/
def nbS (n:Int) (ts:List Tie) (ks:List Nat) (p:Nat):List Nat:=(List.range n.toNat).filter fun q=>(nbN ts ks (p:Int)).contains q
theorem zex {n:Int} {ts:List Tie} {ks:List Nat} (p:Nat):(nbS n ts ks p).Nodup:=List.nodup_range.sublist List.filter_sublist
theorem zsi {n:Int} {ts:List Tie} {ks:List Nat} (p:Nat):(nbS n ts ks p).Pairwise (· < ·):=List.Pairwise.sublist List.filter_sublist List.pairwise_lt_range
theorem znl {n:Int} {ts:List Tie} {ks:List Nat} (ok:WebOk n ts) (ko:KeepOk ts.length ks) {p q:Nat}:q ∈ nbS n ts ks p↔Adj ts ks p q:=by
 unfold nbS
 rw[List.mem_filter,List.contains_iff_mem,znk ok ko,List.mem_range]
 exact⟨fun h=>h.2,fun h=>⟨zoo ok ko p q h,h⟩⟩
theorem zsj {n:Int} {ts:List Tie} {ks:List Nat} (ok:WebOk n ts) (ko:KeepOk ts.length ks) {p:Nat} {l:List Nat} (hl:l.Nodup) (hm:∀ q,q ∈ l↔Adj ts ks p q) {ms:List Int} (pm:ms.Perm (keepI l)) (pw:ms.Pairwise (·≤·)):ms=keepI (nbS n ts ks p):=by
 refine zlf (pm.trans (List.Perm.map _ ((List.perm_ext_iff_of_nodup hl (zex p)).mpr fun q=>by rw[hm,znl ok ko]))) pw ?_
 unfold keepI
 rw[List.pairwise_map]
 exact (zsi p).imp fun h=>by omega
theorem zjm {n:Int} {ts:List Tie} {ks:List Nat} (p:Nat):(nbS n ts ks p).length≤n.toNat:=by
 have:=List.length_filter_le (fun q=>(nbN ts ks (p:Int)).contains q) (List.range n.toNat)
 rw[List.length_range] at this
 exact this
end L3
namespace L3
open PySem PySem.Spec PyProof.Rows L2
section
variable {X:Cx}
end
end L3
namespace L3
open PySem PySem.Spec PyProof.Rows L2
section
variable {X:Cx}
open AutoSeq1 in
theorem zrn (l:Addr) (items:Array Value) (n:Nat) (b:Addr) (items2:Array Value) (n2:Nat) (dd:Option Addr) (sl:Array (Option Value)) (hs0:¬(!items.isEmpty && Builtin.List.listTooLong (items.size + items2.size))=true) (hs1:items.size≤sizeLine) (hs2:items.size + items2.size≤sizeLine + 1) :
  Meets (Builtin.«list.extend» ⟨[.ref l,.ref b],[]⟩) (fun _ R s=>s.heap.get? l=some { cls:=.type "list",dict:=none,data:=.seq items n,slots:=#[] }∧s.heap.get? b=some { cls:=.type "tuple",dict:=dd,data:=.seq items2 n2,slots:=sl }∧R (.ok (.ret Value.none)) { s with heap:=s.heap.update l (Obj.mapSeq fun x=>x++items2),toks:=s.toks }) :=
 .of_wp fun prog w A R s h=>by
  obtain⟨hp,g,d,tk,os⟩:=s;obtain⟨hl,hb,h⟩:=h;have f2:=F.sub_tuple_tuple;have f3:=F.sub_list_list;have f4:=F.sub_tuple_list;have f5:=F.sub_list_tuple;
  have hz':(items++items2).size≤sizeLine + 1:=by rw[Array.size_append];exact hs2
  wp_walk using (wpAny_updateSeq hl rfl (hz:=hs1) (_hz':=hz')),wpAny_loadPart' hl,wpAny_loadPart' hb;exact⟨_,rfl,h⟩
/-- l.extend(t), t a tuple -/
def rExtendT:V->List V->Hp->VK->Prop:=fun x vs H Q=>∃ l b xs zs,x=.ref l∧vs=[.ref b]∧H l=some (.lst xs)∧H b=some (.tup zs)∧xs.length + zs.length≤1000∧∀ H',But l H H'->H' l=some (.lst (xs++zs))->Q .non H'
theorem zlo:MtM X "list.extend" rExtendT:=by
 intro pins s σ H x vs v us Q I rx rv h
 obtain⟨l,b,xs,zs,rfl,rfl,hH,hB,hz,q⟩:=h
 cases rx
 obtain⟨u,rfl,ru⟩:=rv.one
 cases ru
 obtain⟨z,its,n,r,hl,e⟩:=I.lstM hH
 obtain⟨its2,r2,⟨o2,e2,c2,n2,d2⟩,z2⟩:=I.tuple (SqT.of hB)
 have hl2:=r2.length
 have hb:(1000:Nat)≤sizeLine:=by decide
 have hsz:its.toArray.size + its2.toArray.size≤sizeLine:=by rw[List.size_toArray,List.size_toArray];omega
 have hlong:¬ (!its.toArray.isEmpty && Builtin.List.listTooLong (its.toArray.size + its2.toArray.size))=true:=by
  rw[notLongL hsz,Bool.and_false]
  exact Bool.false_ne_true
 obtain⟨oc,od,oda,os⟩:=o2
 simp only at c2 d2
 subst c2 d2
 refine call_meets F.slot_list_extend ⟨_,e,rfl⟩ F.entry_list_extend (F.args_list_extend_2 _ _)
  (zrn l its.toArray n b its2.toArray n2 od os hlong (by rw[List.size_toArray];omega) (by omega)) ⟨e,?_,?_⟩
 ·exact e2
 refine⟨.non,_,I.lset (its':=its++its2) hH e (by simp) (r.append r2) ?_,rfl,q _ But.upd zag⟩
 rw[List.length_append]
 omega
end
end L3
namespace L3
open PySem PySem.Spec PyProof.Rows L2
theorem zik {X:Cx}:CallR X (.type "int") (fun xs H Q=>∃ b,xs=[.bl b]∧Q (.int (if b then 1 else 0)) H):=by
 intro pins s σ H xs us Q I r h
 obtain⟨b,rfl,q⟩:=h
 obtain⟨u,rfl,rx⟩:=vals1 r
 cases rx
 exact PySem.call_int_bool ⟨.int _,H,I.tok _,⟨_,rfl⟩,q⟩
end L3
namespace L3
open PySem PySem.Spec PyProof.Rows L2
section
variable {X:Cx}
theorem zle {elts es:List Expr} {c:Nat} {p:Pos} {env:Env}:starEach (.Tuple elts c p::es) env=(false,eval (.Tuple elts c p) env)::starEach es env:=by rfl
theorem zo8 {elts es:List Expr} {c:Nat} {p:Pos} {te:TE} {t:TA} (ha:PE X (.Tuple elts c p) te) (hr:PA X es t):PA X (.Tuple elts c p::es) (tCons te t):=zaa ha hr zle
theorem zhc {elts es:List Expr} {c:Nat} {p:Pos} {te:TE} {t:TA} (a:BE X (.Tuple elts c p) te) (b:BA X es t):BA X (.Tuple elts c p::es) (tCons te t):=⟨zo8 a.h b.h⟩
theorem zby {cv:Const} {c:Nat} {p:Pos} {es:List Expr} {te:TE} {t:TA} (a:BE X (.Constant cv c p) te) (b:BA X es t):BA X (.Constant cv c p::es) (tCons te t):=⟨zaa a.h b.h (by rfl)⟩
theorem zcr {l r:Expr} {op:Operator} {p:Pos} {es:List Expr} {te:TE} {t:TA} (a:BE X (.BinOp l op r p) te) (b:BA X es t):BA X (.BinOp l op r p::es) (tCons te t):=⟨zaa a.h b.h (by rfl)⟩
theorem zp1 {f:Expr} {as:List Expr} {kw:List Keyword} {p:Pos} {es:List Expr} {te:TE} {t:TA} (a:BE X (.Call f as kw p) te) (b:BA X es t):BA X (.Call f as kw p::es) (tCons te t):=⟨zaa a.h b.h (by rfl)⟩
theorem zp0 {l r:Expr} {p:Pos} {es:List Expr} {te:TE} {t:TA} (a:BE X (.Subscript l r p) te) (b:BA X es t):BA X (.Subscript l r p::es) (tCons te t):=⟨zaa a.h b.h (by rfl)⟩
theorem zs7 {c:Expr} {a b:List Stmt} {tc:TT} {t u:TS} {pos:Pos} (hc:PT X c tc) (ha:BSs X a t) (hb:BSs X b u):BS X (.If c a b pos) (tIfS tc t u):=⟨zbj hc ha.h hb.h⟩
theorem zrt:BSs X [] tNext:=⟨zaw⟩
theorem zof {e:Expr} {te:TE} {pos:Pos} (he:BE X e te):BS X (.Return (some e) pos) (tRet te):=⟨zaq he.h⟩
theorem zsu {a b:Expr} {ta tb:TE} {pos:Pos} {r:R2} (hr:IxR X r) (ha:BE X a ta) (hb:BE X b tb) (hs:PlainIx b):BE X (.Subscript a b pos) (tOp r ta tb):=⟨zav hr ha.h hb.h hs⟩
end
end L3
namespace L3
open PySem PySem.Spec PyProof.Rows L2
section
variable {X:Cx}
end
theorem zru {n:Int} (h:n.natAbs < 10 ^ 60):n.natAbs.log2 < 1920:=by
 by_cases c:n.natAbs=0
 ·rw[c];decide
 ·exact (Nat.log2_lt c).mpr (Nat.lt_trans h (by decide +kernel))
end L3
namespace L3
open PySem PySem.Spec PyProof.Rows L2
section
variable {X:Cx}
theorem zf5 {k:Nat} (hr:Room k X.A):CallR X (.builtin "repr") (fun xs H Q=>∃ (a:Addr) (d:PyData),xs=[.ref a]∧Is X.K H d (.ref a)∧d.showable=true∧d.hasDict=false∧d.depth≤60∧d.shown.length≤sizeLine∧Q (.str d.shown) H):=by
 intro pins s σ H xs us Q I r h
 obtain⟨a,d,rfl,hd,h1,h2,h3,h4,q⟩:=h
 obtain⟨u,rfl,rx⟩:=vals1 r
 obtain⟨as,ra⟩:=zc1 I d hd rx
 cases rx
 have hu:=hr.units
 exact repr_of_reads' ra h1 (fun z=>by rw[h2] at z;cases z) hr.gd (by omega) (fun _ _ e=>e) (fun h' u tk hk=>⟨.str d.shown,H,I.kept (t':=tk) hk,⟨_,rfl⟩,q⟩) h4
end
end L3
namespace Hx
open PySem PySem.W
/-- a statement of the top: its number, the first address and the first token it takes, the module's name (statement, token), for a class the chunk of its base -/
structure Ch where
 i:Nat
 a:Nat
 t:Nat
 j:Nat
 u:Nat
 b:Nat:=0
def stt (p:Program) (i:Nat):Stmt:=p.main.body.getD i (.Pass ⟨0,0,0,0⟩)
def fileS:Str:=Str.ofString "/claim/cut.py"
def mdV (p:Program) (c:Ch):Value:=match stt p c.j with
 | .Assign _ (.Constant (.str x) _ _) _=>.str x c.u
 | _=>.str (Str.ofString "__main__") c.u
def sT (xs:List Value):Obj:=⟨.type "tuple",none,.seq xs.toArray 0,#[]⟩
def fE (xs:List Value):Obj:=⟨.none,none,.fields xs.toArray,#[]⟩
def tks:List Str->Nat->List Value
 | [],_=>[]
 | v::r,t=>.str v t::tks r (t + 1)
def z:Value:=.int 0 0
def cdO (nm q:Str) (t:Nat) (l:Int) (na fl:Int) (k:Value) (fn:Bool) (tb vs cs tp:Value) (u:Nat):Obj :=
 ⟨.type "code",none,.fields #[.str nm t,.str q (t + 1),.str fileS (t + 2),.int l 0,.int na 0,z,z,.int fl 0,k,.bool fn,.int 181 0,tb,.none,vs,cs,tp,.int u 0,.int l 0,.str fileS (u + 1)],#[]⟩
def ent (P:Params) (s:Str) (t:Nat) (v:Value):DictEntry:=⟨PyData.keyHash P s,.str s t,v⟩
def dO (es:List DictEntry) (n:Nat):Obj:=⟨.type "dict",none,.dict es.toArray n,#[]⟩
structure Got where
 os:List Obj
 en:List DictEntry
 tb:List Value
def fO (P:Params) (md:Value) (a t:Nat) (name:Str) (args:Arguments) (body:List Stmt) (scope:Scope) (bind:Str) (pos:Pos):Got :=
 let fd:FuncData:=⟨name,bind,args,.stmts body,scope,0,[],.none,.none,.none,.none,none,.none,.none,0⟩
 let k (vs cs:Value) (b u:Nat) (h:List Obj):Got :=
  ⟨h++[⟨.none,none,.func fd,#[]⟩,cdO name bind t pos.line args.args.length 3 (.ref a) true (.ref (a + 1)) vs cs (.ref b) u,
   ⟨.type "function",none,.func ⟨name,bind,args,.stmts body,scope,3,[],.none,.none,.none,md,none,.ref (b + 1),.none,0⟩,#[]⟩],
   [ent P name (u + 2) (.ref (b + 2))],[.int pos.line 0,.int pos.col 0,.ref (b + 1)]⟩
 match localNames args scope (.stmts body) with
 | none=>k .none .none (a + 2) (t + 3) [sT [],fE []]
 | some (vs,cs)=>k (.ref (a + 2)) (.ref (a + 3)) (a + 4) (t + 3 + vs.length + cs.length) [sT [],fE [],sT (tks vs (t + 3)),sT (tks cs (t + 3 + vs.length))]
/-- the base class's address, and its bases; none: ValueError -/
def mro0:List Value:=[.type "ValueError",.type "Exception",.type "BaseException",.type "object"]
def clO (P:Params) (md:Value) (a t:Nat) (base:Option Nat) (sub:List Value) (name bind:Str) (pos:Pos):Got :=
 let l:Int:=pos.line
 let w:=base.isNone
 let C:=a + 9 - (if w then 0 else 0)
 let bs:Value:=match base with | none=>.type "ValueError" | some b=>.ref b
 let e1:=ent P (Str.ofString "__module__") (t + 7) md
 let e2:=ent P (Str.ofString "__firstlineno__") (t + 11) (.int l (t + 10))
 let e3:=ent P (Str.ofString "__static_attributes__") (t + 12) (.ref (a + 7))
 ⟨[sT [bs],⟨.type "builtin_function_or_method",none,.fields #[.builtin "type.__prepare__",.type "type"],#[]⟩,
  dO [e1,ent P (Str.ofString "__qualname__") (t + 9) (.str bind (t + 8)),e2,e3] 4,sT [],fE [],
  cdO name bind (t + 2) l 0 0 (.ref (a + 3)) false (.ref (a + 4)) .none .none .none (t + 5),
  ⟨.type "frame",none,.plain,#[some (.ref (a + 5)),some (.ref 3),some (.ref (a + 2)),none,some md,none,some (.ref 0)]⟩,sT [],
  dO (e1::e2::e3::(if w then [ent P (Str.ofString "__weakref__") (t + 14) (.ref (a + 10)),ent P (Str.ofString "__doc__") (t + 15) .none] else [ent P (Str.ofString "__doc__") (t + 13) .none])) (if w then 3 else 2),
  ⟨.type "type",none,.cls ⟨name,[bs],.ref C::(match base with | none=>mro0 | some b=>.ref b::mro0),a + 8,bind,true,[],sub,false,none,false⟩,
   #[some (.ref a),none,some (.str name t),some (.str bind (t + 8)),some (.builtin "ValueError.__new__"),some (.bool true)]⟩] ++
  (if w then [⟨.type "getset_descriptor",none,.fields #[.str (Str.ofString "__weakref__") (t + 13),.ref C,.builtin "ExceptionGroup.__weakref__",.none],#[]⟩] else []) ++
  [⟨.type "super",none,.fields #[.ref C,.ref C,.ref C],#[]⟩,⟨.type "builtin_function_or_method",none,.fields #[.builtin "object.__init_subclass__",.ref C],#[]⟩],
  [ent P name (t + (if w then 17 else 15)) (.ref C)],[.int l 0,.int pos.col 0,.ref (a + 5)]⟩
/-- what a statement leaves, where the chunks cs are behind it -/
def got (p:Program) (P:Params) (cs:List Ch) (c:Ch):Got:=match stt p c.i with
 | .FunctionDef name args body _ _ _ scope _ bind pos=>fO P (mdV p c) c.a c.t name args body scope bind pos
 | .ClassDef name _ _ _ _ _ _ _ bind _ pos=>clO P (mdV p c) c.a c.t (if c.b == 0 then none else some c.b) (cs.filterMap fun d=>if d.b == c.a + 9 then some (.ref (d.a + 9)) else none) name bind pos
 | _=>⟨[],[],[]⟩
/-- the module's name as the last statement set it -/
def nameNow (p:Program) (cs:List Ch):Option Value:=match cs.getLast? with
 | some c=>some (mdV p { c with j:=c.j,u:=c.u })
 | none=>none
def setName (P:Params) (v:Option Value):List DictEntry->List DictEntry
 | e::r=>(match v with | some v=>{ e with val:=v } | none=>e)::r
 | []=>[]
def globO (p:Program) (P:Params) (cs:List Ch) (en:List DictEntry):Obj->Obj
 | ⟨c,d,.dict es n,s⟩=>⟨c,d,.dict (setName P (nameNow p cs) es.toList++en).toArray (n + en.length),s⟩
 | o=>o
/-- the objects behind the chunks cs, where B are those of the boot -/
def objs (p:Program) (P:Params) (B:List Obj) (cs:List Ch):List Obj :=
 let gs:=cs.map (got p P cs)
 match B with
 | b0::b1::b2::b3::r=>b0::b1::b2::globO p P cs (gs.flatMap (·.en)) b3::(r++(sT []::fE (gs.flatMap (·.tb)) ::
  cdO (Str.ofString "<module>") (Str.ofString "<module>") 182 1 0 0 (.ref 11) false (.ref 12) .none .none .none 185 ::
  ⟨.type "frame",none,.plain,#[some (.ref 13),some (.ref 3),some (.ref 3),none,some (.str (Str.ofString "__main__") 164),none,some (.ref 0)]⟩::gs.flatMap (·.os)))
 | _=>[]
def spl:List Obj->List Obj × List Obj
 | []=>([],[])
 | x::r=>(x::(spl r).2,(spl r).1)
def braun:Nat->List Obj->BT
 | 0,_=>.nil
 | _ + 1,[]=>.nil
 | f + 1,o::r=>.node o (braun f (spl r).1) (braun f (spl r).2)
/-- where a piece ends: the statements behind, the next address, the next token -/
structure Cut where
 k:Nat
 n:Nat
 t:Nat
def hpT (p:Program) (B:Params->List Obj) (cs:List Ch) (c:Cut) (P:Params):Heap:=absHeap (braun 12 (objs p P (B P) (cs.take c.k))) c.n {}
def stT (p:Program) (B:Params->List Obj) (D:Drawn) (cs:List Ch) (c:Cut) (w:World) (os:OsState):SharedT :=
 ⟨braun 12 (objs p w.params (B w.params) (cs.take c.k)),c.n,{},Array.mk [],D,c.t,os⟩
def env (p:Program):Env:={ scope:=p.main.scope,locals:=mainNs,globals:=mainNs,cells:=[],code:=.ref 13,frame:=some 14 }
def cE (p:Program):Code:=.body p.main.body (env p)
def pos0:Pos:=⟨0,0,0,0⟩
def posOf (p:Program):Nat->Pos
 | 0=>pos0
 | k + 1=>match stt p k with
  | .Assign [.Name _ q] _ _=>q
  | .FunctionDef _ _ _ _ _ _ _ _ _ q=>q
  | .ClassDef _ _ _ _ _ _ _ _ _ _ q=>q
  | _=>pos0
def ann0:Option Value:=some (.ref 6)
def PieceT (p:Program) (B:Params->List Obj) (D:Drawn) (cs:List Ch) (a b:Cut) (N:Nat):Prop:=∀ w:World,
 (fun os=>segRunT treeTable p w 11 ann0 1 N (stT p B D cs a w os) (piecesOf ((p.main.body.drop a.k).take (b.k - a.k)) (env p) (cE p) (posOf p a.k) [topFrame pos0]))=fun os=>some (Flow.next,stT p B D cs b w os,cE p,posOf p b.k)
def PreT (p:Program) (B:Params->List Obj) (D:Drawn) (h:Params->Heap) (t:Nat) (cs:List Ch) (a:Cut):Prop:=∀ w:World,
 (fun os=>topGo treeTable p w 11 ann0 12 ⟨h w.params,Array.mk [],D,t,os⟩ (topStub p))=fun os=>some ((stT p B D cs a w os).abs,⟨denote treeTable (cE p),cE p,pos0,[topFrame pos0]⟩)
def BlockT (p:Program):Prop:=∀ (w:World) (s:Shared),segRun treeTable p w 11 ann0 1 1 s (blockOf p.main.body (env p) (cE p) pos0 [topFrame pos0])=some (.next,s,cE p,pos0)
noncomputable def boots (P:Params):List Obj:=[boot_o_0 P,boot_o_1 P,boot_o_2 P,boot_o_3 P,boot_o_4 P,boot_o_5 P,boot_o_6 P,boot_o_7 P,boot_o_8 P,boot_o_9 P,boot_o_10 P]
/-- the statements of the view -/
def qv (p:Program) (is:List Nat):Program:={ p with main:={ p.main with body:=is.map (stt p) } }
def nmO:Stmt->Option Str
 | .FunctionDef n ..=>some n
 | .ClassDef n ..=>some n
 | _=>none
def lz (p:Program) (is:List Nat) (n:Nat):List Str:=(List.range n).filterMap fun i=>if is.contains i then none else nmO (stt p i)
/-- what the law's run never changes: the globals, each def's code and object, each class with its names -/
def kk (a:Nat) (g:Got):List (Nat × Obj):=match g.os with
 | [_,_,_,c,f]=>[(a + 3,c),(a + 4,f)]
 | [_,_,_,_,_,c,f]=>[(a + 5,c),(a + 6,f)]
 | _::_::_::_::_::_::_::_::d::C::_=>[(a + 8,d),(a + 9,C)]
 | _=>[]
def Kf (p:Program) (B:Params->List Obj) (cs:List Ch) (P:Params):Frag :=
 let gs:=cs.map (got p P cs)
 (3,globO p P cs (gs.flatMap (·.en)) ((B P).getD 3 (sT [])))::(cs.zip gs).flatMap fun c=>kk c.1.a c.2
def LookA (p:Program) (B:Params->List Obj) (D:Drawn) (h:Params->Heap) (cs:List Ch) (c:Cut):Prop:=∀ w:World,(fun os =>
  (staticsOk (importedModules p.main.body) (h w.params) (hpT p B cs c w.params) && namesBound p (hpT p B cs c w.params) && gensDone ⟨hpT p B cs c w.params,Array.mk [],D,c.t,os⟩ && laidKept (h w.params) (hpT p B cs c w.params)))=fun _:OsState=>true
def LookB (p:Program) (B:Params->List Obj) (D:Drawn) (cs:List Ch) (c:Cut) (is:List Nat) (rc:WRecords):Prop:=∀ w:World,(fun os =>
  openSeen (qv p is) (lz p is c.k) (importedModules p.main.body) (fun s=>xlAt (qv p is) [] s && recOk rc s) true ⟨hpT p B cs c w.params,Array.mk [],D,c.t,os⟩)=fun _:OsState=>openGood (qv p is) (lz p is c.k)
def LookC (p:Program) (B:Params->List Obj) (cs:List Ch) (c:Cut) (as:List Nat):Prop:=∀ w:World,as.map (hpT p B cs c w.params).get?=(Kf p B cs w.params).map fun p=>some p.2
section
variable {p:Program} {D:Drawn} {cs:List Ch}
theorem zrm {w:World} {s:Shared} {c:Code} {q:Pos}:topRun treeTable p w 11 ann0 2 s ⟨doneF .next,c,q,[topFrame pos0]⟩=some s:=rfl
theorem zob {w:World} {os:OsState} {c:Cut} (h:p.main.body.drop c.k=[]) :
  topRun treeTable p w 11 ann0 2 (stT p boots boot_drawn cs c w os).abs (restOf (p.main.body.drop c.k) (env p) (cE p) (posOf p c.k) [topFrame pos0])=some (stT p boots boot_drawn cs c w os).abs:=by
 rw[h];exact piece_nil zrm
theorem chain {w:World} {os:OsState} {a b:Cut} {N M:Nat} {r:Shared} (h:PieceT p boots boot_drawn cs a b N) (le:a.k≤b.k)
  (k:topRun treeTable p w 11 ann0 M (stT p boots boot_drawn cs b w os).abs (restOf (p.main.body.drop b.k) (env p) (cE p) (posOf p b.k) [topFrame pos0])=some r) :
  topRun treeTable p w 11 ann0 (N + M) (stT p boots boot_drawn cs a w os).abs (restOf (p.main.body.drop a.k) (env p) (cE p) (posOf p a.k) [topFrame pos0])=some r:=by
 have e:p.main.body.drop a.k=(p.main.body.drop a.k).take (b.k - a.k)++p.main.body.drop b.k:=by
  have x:=(List.take_append_drop (b.k - a.k) (p.main.body.drop a.k)).symm
  rw[List.drop_drop,Nat.add_sub_cancel' le] at x;exact x
 rw[e];exact piece_app (segRun_of (congrFun (h w) os)) k
theorem zq0 {w:World} {os:OsState} {M:Nat} {r:Shared} (pre:PreT p boots boot_drawn boot_heap boot_toks cs ⟨0,15,187⟩) (bl:BlockT p)
  (k:topRun treeTable p w 11 ann0 M (stT p boots boot_drawn cs ⟨0,15,187⟩ w os).abs (restOf (p.main.body.drop 0) (env p) (cE p) (posOf p 0) [topFrame pos0])=some r) :
  topRun treeTable p w 11 ann0 (12 + (1 + M)) ⟨boot_heap w.params,Array.mk [],boot_drawn,boot_toks,os⟩ (topStub p)=some r :=
 go_top (congrFun (pre w) os) (piece_block (bl w _) k)
theorem zrf {is as:List Nat} {rc:WRecords} {c:Cut} {M N:Nat} {e:∀ P,as=(Kf p boots cs P).map (·.1)}
  (op:opening p=plainProg p.main.scope.names) (hN:Nat.ble 600 N=true) (fe:∀ s,fenceModules? p s=some s)
  (size:∀ w:World,((boot_heap w.params).isNs mainGlobals && (Array.mk []:Array GenState).size == 0,(boot_heap w.params).objs.size,(boot_heap w.params).nsMap mainGlobals "__annotations__")=(true,11,ann0))
  (run:∀ (w:World) (os:OsState),topRun treeTable p w 11 ann0 M ⟨boot_heap w.params,Array.mk [],boot_drawn,boot_toks,os⟩ (topStub p)=some (stT p boots boot_drawn cs c w os).abs) (le:Nat.ble M N=true)
  (hA:LookA p boots boot_drawn boot_heap cs c) (hB:LookB p boots boot_drawn cs c is rc) (hC:LookC p boots cs c as) :
  LeftO p (qv p is) (lz p is c.k) (fun s=>xlAt (qv p is) [] s && recOk rc s) (Hook.obs (kHook (Kf p boots cs) as e)) (Hook.val (kHook (Kf p boots cs) as e)) N :=
 LeftO.of_pieces (H₀:=boot_heap) (H₁:=hpT p boots cs c) (boot_open op hN fe) size run le fun w=>funext fun os=>by
  have a:=congrFun (hA w) os
  have b:=congrFun (hB w) os
  have c:=hC w
  exact looks_pair a (looks_pair b c)
end
end Hx
namespace Me
open PySem PySem.Spec PyProof.Rows L2 L3
def top (i:Nat):Stmt:=PySem.Challenge.pw_thinways_k62_six_more_judged.main.body.getD i (.Pass ⟨0,0,0,0⟩)
abbrev s_is_whole:Stmt:=top 5
theorem sc_is_whole:FnScope ["thing"] ["thing"] (defScope s_is_whole):=⟨rfl,rfl,rfl,by decide +kernel,rfl,by decide +kernel,by decide +kernel⟩
abbrev s_is_all_wholes:Stmt:=top 6
theorem sc_is_all_wholes:FnScope ["thing"] ["thing"] (defScope s_is_all_wholes):=⟨rfl,rfl,rfl,by decide +kernel,rfl,by decide +kernel,by decide +kernel⟩
abbrev s_is_plain:Stmt:=top 8
theorem sc_is_plain:FnScope ["web"] ["web"] (defScope s_is_plain):=⟨rfl,rfl,rfl,by decide +kernel,rfl,by decide +kernel,by decide +kernel⟩
abbrev s_whole:Stmt:=top 9
theorem sc_whole:FnScope ["web"] ["web"] (defScope s_whole):=⟨rfl,rfl,rfl,by decide +kernel,rfl,by decide +kernel,by decide +kernel⟩
abbrev s_tie_between:Stmt:=top 10
theorem sc_tie_between:FnScope ["web","a","b","ends","number","tie"] ["web","a","b"] (defScope s_tie_between):=⟨rfl,rfl,rfl,by decide +kernel,rfl,by decide +kernel,by decide +kernel⟩
abbrev s_ties_along:Stmt:=top 12
theorem sc_ties_along:FnScope ["web","places"] ["web","places"] (defScope s_ties_along):=⟨rfl,rfl,rfl,by decide +kernel,rfl,by decide +kernel,by decide +kernel⟩
abbrev s_tie_weights:Stmt:=top 13
theorem sc_tie_weights:FnScope ["web","weights","weight","tie"] ["web"] (defScope s_tie_weights):=⟨rfl,rfl,rfl,by decide +kernel,rfl,by decide +kernel,by decide +kernel⟩
abbrev s_cost_with:Stmt:=top 14
theorem sc_cost_with:FnScope ["cost","length","weight"] ["cost","length","weight"] (defScope s_cost_with):=⟨rfl,rfl,rfl,by decide +kernel,rfl,by decide +kernel,by decide +kernel⟩
abbrev s_reached_from:Stmt:=top 15
theorem sc_reached_from:FnScope ["web","keep","root","weights","costs","ahead","again","tie","a","b","length","one","other","cost"] ["web","keep","root"] (defScope s_reached_from):=⟨rfl,rfl,rfl,by decide +kernel,rfl,by decide +kernel,by decide +kernel⟩
abbrev s_fars_from:Stmt:=top 16
theorem sc_fars_from:FnScope ["web","keep","root","costs","ahead"] ["web","keep","root"] (defScope s_fars_from):=⟨rfl,rfl,rfl,by decide +kernel,rfl,by decide +kernel,by decide +kernel⟩
abbrev s_tree_from:Stmt:=top 17
theorem sc_tree_from:FnScope ["web","keep","root","costs","ahead"] ["web","keep","root"] (defScope s_tree_from):=⟨rfl,rfl,rfl,by decide +kernel,rfl,by decide +kernel,by decide +kernel⟩
abbrev s_the_way:Stmt:=top 18
theorem sc_the_way:FnScope ["web","keep","a","b","tree","way"] ["web","keep","a","b"] (defScope s_the_way):=⟨rfl,rfl,rfl,by decide +kernel,rfl,by decide +kernel,by decide +kernel⟩
abbrev s_need_plain:Stmt:=top 20
theorem sc_need_plain:FnScope ["web"] ["web"] (defScope s_need_plain):=⟨rfl,rfl,rfl,by decide +kernel,rfl,by decide +kernel,by decide +kernel⟩
abbrev s_neighbours:Stmt:=top 22
theorem sc_neighbours:FnScope ["web","keep","place","ties"] ["web","keep","place"] (defScope s_neighbours):=⟨rfl,rfl,rfl,by decide +kernel,rfl,by decide +kernel,by decide +kernel⟩
abbrev s_need_share:Stmt:=top 24
theorem sc_need_share:FnScope ["d"] ["d"] (defScope s_need_share):=⟨rfl,rfl,rfl,by decide +kernel,rfl,by decide +kernel,by decide +kernel⟩
abbrev s_bare_neighbours:Stmt:=top 25
theorem sc_bare_neighbours:FnScope ["web","place","guarded"] ["web","place","guarded"] (defScope s_bare_neighbours):=⟨rfl,rfl,rfl,by decide +kernel,rfl,by decide +kernel,by decide +kernel⟩
abbrev s_guards_by:Stmt:=top 26
theorem sc_guards_by:FnScope ["web","d","told","guarded","place","bare"] ["web","d"] (defScope s_guards_by):=⟨rfl,rfl,rfl,by decide +kernel,rfl,by decide +kernel,by decide +kernel⟩
abbrev s_all_guarded:Stmt:=top 27
theorem sc_all_guarded:FnScope ["told","guarded","guard","places"] ["told"] (defScope s_all_guarded):=⟨rfl,rfl,rfl,by decide +kernel,rfl,by decide +kernel,by decide +kernel⟩
abbrev s_bare_ties:Stmt:=top 28
theorem sc_bare_ties:FnScope ["web","told","guarded"] ["web","told"] (defScope s_bare_ties):=⟨rfl,rfl,rfl,by decide +kernel,rfl,by decide +kernel,by decide +kernel⟩
abbrev s_kept_at_first:Stmt:=top 30
theorem sc_kept_at_first:FnScope ["web","guards","ties","guard","places"] ["web","guards"] (defScope s_kept_at_first):=⟨rfl,rfl,rfl,by decide +kernel,rfl,by decide +kernel,by decide +kernel⟩
abbrev s_is_wanted:Stmt:=top 31
theorem sc_is_wanted:FnScope ["near","kept"] ["near","kept"] (defScope s_is_wanted):=⟨rfl,rfl,rfl,by decide +kernel,rfl,by decide +kernel,by decide +kernel⟩
abbrev s_first_wanted:Stmt:=top 32
theorem sc_first_wanted:FnScope ["web","keep","u","near","kept","v"] ["web","keep","u"] (defScope s_first_wanted):=⟨rfl,rfl,rfl,by decide +kernel,rfl,by decide +kernel,by decide +kernel⟩
abbrev s_fars_along:Stmt:=top 33
theorem sc_fars_along:FnScope ["web","way","rows","i","one","j","other"] ["web","way"] (defScope s_fars_along):=⟨rfl,rfl,rfl,by decide +kernel,rfl,by decide +kernel,by decide +kernel⟩
abbrev s_nearest:Stmt:=top 34
theorem sc_nearest:FnScope ["fars","heap","other","lengths","place"] ["fars","heap","other"] (defScope s_nearest):=⟨rfl,rfl,rfl,by decide +kernel,rfl,by decide +kernel,by decide +kernel⟩
abbrev s_gained_by:Stmt:=top 35
theorem sc_gained_by:FnScope ["web","keep","guards","way","along","ahead","gained","guard","heap","other","places","now","before"] ["web","keep","guards","way"] (defScope s_gained_by):=⟨rfl,rfl,rfl,by decide +kernel,rfl,by decide +kernel,by decide +kernel⟩
abbrev s_six_told:Stmt:=top 36
theorem sc_six_told:FnScope ["web","d","guards","keep","ledger","u","v","way","bought"] ["web","d"] (defScope s_six_told):=⟨rfl,rfl,rfl,by decide +kernel,rfl,by decide +kernel,by decide +kernel⟩
abbrev s_six_right:Stmt:=top 37
theorem sc_six_right:FnScope ["web","d","told"] ["web","d","told"] (defScope s_six_right):=⟨rfl,rfl,rfl,by decide +kernel,rfl,by decide +kernel,by decide +kernel⟩
abbrev s__law_pot:Stmt:=top 39
theorem sc__law_pot:FnScope ["script","k","cell","prime"] ["script","k"] (defScope s__law_pot):=⟨rfl,rfl,rfl,by decide +kernel,rfl,by decide +kernel,by decide +kernel⟩
abbrev s__law_take:Stmt:=top 40
theorem sc__law_take:FnScope ["pot","many","found"] ["pot","many"] (defScope s__law_take):=⟨rfl,rfl,rfl,by decide +kernel,rfl,by decide +kernel,by decide +kernel⟩
abbrev s__law_order:Stmt:=top 41
theorem sc__law_order:FnScope ["pot","many","left","found","turn"] ["pot","many"] (defScope s__law_order):=⟨rfl,rfl,rfl,by decide +kernel,rfl,by decide +kernel,by decide +kernel⟩
abbrev s__law_beside:Stmt:=top 42
theorem sc__law_beside:FnScope ["pot","style","n","a","b","step","ring"] ["pot","style","n","a","b"] (defScope s__law_beside):=⟨rfl,rfl,rfl,by decide +kernel,rfl,by decide +kernel,by decide +kernel⟩
abbrev s__law_long:Stmt:=top 43
theorem sc__law_long:FnScope ["pot","most","n","style","names","ties","b","a","one","other"] ["pot","most"] (defScope s__law_long):=⟨rfl,rfl,rfl,by decide +kernel,rfl,by decide +kernel,by decide +kernel⟩
abbrev s__law_share:Stmt:=top 44
theorem sc__law_share:FnScope ["pot","some"] ["pot"] (defScope s__law_share):=⟨rfl,rfl,rfl,by decide +kernel,rfl,by decide +kernel,by decide +kernel⟩
abbrev s__law_bent:Stmt:=top 45
theorem sc__law_bent:FnScope ["pot","row","at","other","found"] ["pot","row"] (defScope s__law_bent):=⟨rfl,rfl,rfl,by decide +kernel,rfl,by decide +kernel,by decide +kernel⟩
abbrev s__law_other_pairs:Stmt:=top 46
theorem sc__law_other_pairs:FnScope ["pot","gained","at","one","other","pair"] ["pot","gained"] (defScope s__law_other_pairs):=⟨rfl,rfl,rfl,by decide +kernel,rfl,by decide +kernel,by decide +kernel⟩
abbrev s__law_other_row:Stmt:=top 47
theorem sc__law_other_row:FnScope ["pot","row","u","v","cost","gained","less"] ["pot","row"] (defScope s__law_other_row):=⟨rfl,rfl,rfl,by decide +kernel,rfl,by decide +kernel,by decide +kernel⟩
abbrev s__law_spoilt:Stmt:=top 48
theorem sc__law_spoilt:FnScope ["pot","web","told","keep","ledger","way","number","other","at"] ["pot","web","told"] (defScope s__law_spoilt):=⟨rfl,rfl,rfl,by decide +kernel,rfl,by decide +kernel,by decide +kernel⟩
abbrev s_law:Stmt:=top 49
theorem sc_law:FnScope ["script","cells","k","pot","web","d","told","turn","paper","handed","found"] ["script"] (defScope s_law):=⟨rfl,rfl,rfl,by decide +kernel,rfl,by decide +kernel,by decide +kernel⟩
section
variable {P:Program} {w:World} {K:PySem.W.Frag} {mg:Str->Option Value} {base:Heap}
theorem zh6 (T:Bi mg) (D:DefOk K mg "_law_take" s__law_take ["pot","many"]):Ok P w K mg base 1 "_law_take" ["pot","many"] spTake:=by
 refine zbb (k:=0) D sc__law_take (fun vs H Q E h=>?_) (fun f cdv A outer s H vs Q E hr h=>?_)
 ·obtain⟨p,m,rfl,_⟩:=h
  rfl
 obtain⟨p,m,rfl,⟨a,b,hp,ha,hb,hb2⟩,hm,hm2,q⟩:=h
 have nd:=sc__law_take.nd
 refine⟨_,(zac (zbj (zao zm9 (zav zay (pv 0) zad (fun _ _=>rfl)) zad (nomark _)) (zac (zan (i:=2) nd rfl (Or.inl rfl) (zat zch (zav zay (pv 0) zad (fun _ _=>rfl)) (pv 1))) (zac (zbz (zat zjg (zav zay (pv 0) zad (fun _ _=>rfl)) (pv 1)) (zdv (pv 0) zad zb3)) (zaf (zaq (pv 2))))) zaw) (zac (zbz (zat zch (zat zbl (zat zm6 (zav zay (pv 0) zad (fun _ _=>rfl)) zad) zad) zad) (zdv (pv 0) zad zb3)) (zaf (zaq (zat zch (zat zjg (zat zch (zat zeq (zav zay (pv 0) zad (fun _ _=>rfl)) zad) zad) zad) (pv 1)))))),?_⟩
 refine⟨_,rfl,p,_,_,_,rfl,rfl,SqL.of hp,rfl,_,_,rfl,rfl,_,rfl,?_⟩
 refine ite2 (fun c=>?_) (fun c=>?_)
 ·refine⟨_,rfl,p,_,_,_,rfl,rfl,SqL.of hp,rfl,_,rfl,_,_,rfl,rfl,hm,?_⟩
  refine⟨_,rfl,p,_,_,_,rfl,rfl,SqL.of hp,rfl,_,rfl,_,_,rfl,rfl,⟨hm,hm2⟩,?_⟩
  refine⟨_,rfl,p,_,0,0,rfl,rfl,hp,rfl,_,rfl,?_⟩
  refine q _ _ (Int.emod_nonneg _ (by omega)) (Int.emod_lt_of_pos _ hm) But.upd ⟨a / m,b,zag,Int.ediv_nonneg ha (by omega),hb,hb2⟩
 ·refine⟨_,rfl,p,_,_,_,rfl,rfl,SqL.of hp,rfl,_,_,rfl,rfl,.inr ⟨by decide,by decide⟩,_,_,rfl,rfl,_,_,rfl,rfl,(by show (0:Int) < 2147483647;decide),?_⟩
  refine⟨_,rfl,p,_,1,1,rfl,rfl,hp,rfl,?_⟩
  have n1:0≤(b * 48271 + 12820163) % 2147483647:=Int.emod_nonneg _ (by decide)
  have n2:(b * 48271 + 12820163) % 2147483647 < 2147483647:=Int.emod_lt_of_pos _ (by decide)
  refine⟨_,rfl,p,_,_,_,rfl,rfl,SqL.of zag,rfl,_,_,rfl,rfl,⟨by decide,by decide,by omega⟩,_,_,rfl,rfl,(by show (0:Int) < 2147483629;decide),_,_,rfl,rfl,⟨by decide,by decide⟩,_,rfl,_,_,rfl,rfl,hm,?_⟩
  exact q _ _ (Int.emod_nonneg _ (by omega)) (Int.emod_lt_of_pos _ hm) But.upd ⟨a,_,zag,ha,n1,n2⟩
theorem zjl (T:Bi mg) (D:DefOk K mg "_law_pot" s__law_pot ["script","k"]):Ok P w K mg base 1 "_law_pot" ["script","k"] (spPot K):=by
 refine zbb (k:=0) D sc__law_pot (fun vs H Q E h=>?_) (fun f cdv A outer s H vs Q E hr h=>?_)
 ·obtain⟨a,k,ns,rfl,_⟩:=h
  rfl
 obtain⟨a,k,ns,rfl,hS,hk0,hk1,q⟩:=h
 have nd:=sc__law_pot.nd
 have hl:(ns.map V.int).length=ns.length:=List.length_map _
 refine⟨_,(zac (zan (i:=2) nd rfl (Or.inl rfl) zad) (zac (zbj (zao zll (pv 1) (zam zau rfl T.z_len (by decide +kernel) (zaa (pv 0) zab)) (nomark _)) (zaf (zan (i:=2) nd rfl (Or.inl rfl) (zat zch (zav zay (pv 0) (pv 1) (fun _ _=>rfl)) (zat zm5 (zat zm5 (zat zeq zad zad) (zat zeq zad zad)) (zat zeq zad zad))))) zaw) (zac (zan (i:=3) nd rfl (Or.inl rfl) (zav zay (zhs (zaa zad (zaa zad (zaa zad (zaa zad (zaa zad zab)))))) (zat zch (pv 1) zad) (fun _ _=>rfl))) (zaf (zaq (zhs (zaa (zam (zij rfl) rfl T.z_max (by decide +kernel) (zaa zad (zaa (zat zc2 (pv 2) (zat zeq zad zad)) zab))) (zaa (zat zch (zat zeq (zat zbl (zat zbl (zat zch (pv 2) (pv 3)) (zat zm6 zad (pv 1))) zad) zad) zad) zab)))))))),?_⟩
  -- behind the test: cell is some number that is not below nought
 have rest : ∀ (cell : Int), 0 ≤ cell → ∀ (σ : L2.St), σ = [some (.ref a), some (.int k), some (.int cell), none] →
     (tSeq (tAsg (tOp (rIxL K) (tLst (tCons (tC (.int 2147483629)) (tCons (tC (.int 2147483587)) (tCons (tC (.int 2147483579)) (tCons (tC (.int 2147483563)) (tCons (tC (.int 2147483549)) tNil)))))) (tOp (rI (fun _ j=>0 < j) fun i j=>.int (i % j)) (tVar 1) (tC (.int 5)))) (gName 3))
       (tRet (tLst (tCons (tCB (fun xs H Q=>∃ i j,xs=[.int i,.int j]∧Q (.int (if j > i then j else i)) H) (tCons (tC (.int 0)) (tCons (tOp (rI0 fun i j=>.int (i - j)) (tVar 2) (tOp (rI CPow fun i j=>.int (i ^ j.toNat)) (tC (.int 10)) (tC (.int 18)))) tNil)))
         (tCons (tOp (rI (fun _ j=>0 < j) fun i j=>.int (i % j)) (tOp (rI CPow fun i j=>.int (i ^ j.toNat)) (tOp (rI0 fun i j=>.int (i + j)) (tOp (rI0 fun i j=>.int (i + j)) (tOp (rI (fun _ j=>0 < j) fun i j=>.int (i % j)) (tVar 2) (tVar 3)) (tOp (rI CMul fun i j=>.int (i * j)) (tC (.int 7919)) (tVar 1))) (tC (.int 11))) (tC (.int 3))) (tC (.int 2147483647))) tNil)))))
       { nx:=fun _ H'=>Q .non H',rt:=Q } σ H:=by
  intro cell hc σ hσ
  subst hσ
  refine⟨(by show 5≤sizeLine;decide),fun l hl=>?_⟩
  refine⟨_,rfl,_,_,rfl,rfl,(by show (0:Int) < 5;decide),?_⟩
  have m0:0≤k % 5:=Int.emod_nonneg _ (by decide)
  have m1:k % 5 < 5:=Int.emod_lt_of_pos _ (by decide)
  have pr:∃ v:Int,atI [V.int 2147483629,V.int 2147483587,V.int 2147483579,V.int 2147483563,V.int 2147483549] (k % 5)=some (.int v)∧2147483549≤v∧v≤2147483629:=by
   have:k % 5=0∨k % 5=1∨k % 5=2∨k % 5=3∨k % 5=4:=by omega
   rcases this with e | e | e | e | e <;> rw[e] <;> exact⟨_,rfl,by decide,by decide⟩
  obtain⟨v,hv,v1,v2⟩:=pr
  refine⟨l,_,_,_,rfl,rfl,SqL.of zag,hv,?_⟩
  have S1:Same H (upd H l (.lst [V.int 2147483629,V.int 2147483587,V.int 2147483579,V.int 2147483563,V.int 2147483549])):=zal hl
  refine⟨_,rfl,_,_,rfl,rfl,⟨by decide,by decide,by decide⟩,_,_,rfl,rfl,_,_,rfl,?_⟩
  refine⟨_,rfl,_,rfl,_,_,rfl,rfl,(by show (0:Int) < v;omega),_,rfl,_,_,rfl,rfl,.inl ⟨by decide,by decide⟩,_,_,rfl,rfl,_,_,rfl,rfl,_,_,rfl,rfl,⟨by decide,by decide,?_⟩,_,_,rfl,rfl,(by show (0:Int) < 2147483647;decide),?_⟩
  ·have c0:0≤cell % v:=Int.emod_nonneg _ (by omega)
   have c1:cell % v < v:=Int.emod_lt_of_pos _ (by omega)
   omega
  refine⟨(by show 2≤sizeLine;decide),fun l2 hl2=>?_⟩
  refine q l2 _ (S1.trans (zal hl2)) (S1.free hl2) ⟨_,_,zag,?_,Int.emod_nonneg _ (by decide),Int.emod_lt_of_pos _ (by decide)⟩
  split <;> omega
 refine⟨_,rfl,_,rfl,a,_,rfl,.inl hS,_,_,rfl,rfl,_,rfl,?_⟩
 refine ite2 (fun c=>?_) (fun c=>?_)
 ·have c':k < (((ns.map V.int).length:Nat):Int):=of_decide_eq_true c
  rw[hl] at c'
  obtain⟨v,hv⟩:∃ v:Int,atI (ns.map V.int) k=some (.int v):=by
   have hk:k.toNat < ns.length:=by omega
   have ek:k=((k.toNat:Nat):Int):=by omega
   have z:atI (ns.map V.int) ((k.toNat:Nat):Int)=some (.int ns[k.toNat]):=zoj (by rw[List.getElem?_map,List.getElem?_eq_getElem hk] <;> rfl)
   rw[← ek] at z
   exact⟨_,z⟩
  refine⟨_,rfl,_,rfl,a,_,_,_,rfl,rfl,hS,hv,?_⟩
  refine⟨_,_,rfl,rfl,⟨by decide,by decide,by decide⟩,_,_,rfl,rfl,⟨by decide,by decide,by decide⟩,_,_,rfl,rfl,mulB,_,_,rfl,rfl,⟨by decide,by decide,by decide⟩,_,_,rfl,rfl,mulB2,_,_,rfl,rfl,posB,?_⟩
  exact rest _ (Int.emod_nonneg _ (by have:=posB;omega)) _ rfl
 ·exact rest 5 (by decide) _ rfl
theorem zgo (T:Bi mg) (D:DefOk K mg "_law_order" s__law_order ["pot","many"]) (O__law_take:Ok P w K mg base 1 "_law_take" ["pot","many"] spTake):Ok P w K mg base 2 "_law_order" ["pot","many"] spOrder:=by
 refine zbb (k:=1) D sc__law_order (fun vs H Q E h=>?_) (fun f cdv A outer s H vs Q E hr h=>?_)
 ·obtain⟨p,m,rfl,_⟩:=h
  rfl
 obtain⟨p,m,rfl,hp,hm0,hm1,q⟩:=h
 have nd:=sc__law_order.nd
 refine⟨_,(zac (zan (i:=2) nd rfl (Or.inl rfl) (zas (zdd rfl) rfl T.z_list (by decide +kernel) (zaa (zas zdo rfl T.z_range (by decide +kernel) (zaa (pv 1) zab)) zab))) (zac (zan (i:=3) nd rfl (Or.inl rfl) (zhs zab)) (zac (zbn PassesOwn.never rfl (zbt rfl T.z_range (zaa (pv 1) zab)) (zah (i:=4) nd rfl (Or.inl rfl)) (zaf (zbq (zd0 PySem.F.plainAttrs_list PySem.F.slot_list_append PySem.F.type_list_append zc5 (pv 3) (zaa (zd0 PySem.F.plainAttrs_list PySem.F.slot_list_pop PySem.F.type_list_pop zpb (pv 2) (zaa (zae O__law_take hr rfl (zaa (pv 0) (zaa (zam zau rfl T.z_len (by decide +kernel) (zaa (pv 2) zab)) zab))) zab)) zab))))) (zaf (zaq (pv 3)))))),?_⟩
 refine⟨_,rfl,m,rfl,fun g hg=>?_⟩
 refine⟨g,m,rfl,zag,hm0,hm1,fun l hl=>?_⟩
 refine⟨(by show 0≤sizeLine;decide),fun l2 hl2=>?_⟩
 obtain⟨H0,eH0⟩:∃ H0,H0=upd (upd (upd H g (.rng 0 m)) l (.lst ((List.range m.toNat).map fun i:Nat=>V.int (i:Int)))) l2 (.lst []):=⟨_,rfl⟩
 rw[← eH0]
 have S1:Same H (upd H g (.rng 0 m)):=zal hg
 have S2:=S1.trans (zal (o:=.lst ((List.range m.toNat).map fun i:Nat=>V.int (i:Int))) hl)
 have S3:Same H H0:=by rw[eH0];exact S2.trans (zal hl2)
 have fl:H l=none:=S1.free hl
 have fl2:H l2=none:=S2.free hl2
 have ll2:l≠l2:=fun e=>by rw[← e,zag] at hl2;cases hl2
 have el:H0 l=some (.lst ((List.range m.toNat).map fun i:Nat=>V.int (i:Int))):=by rw[eH0,zap ll2,zag]
 have el2:H0 l2=some (.lst []):=by rw[eH0,zag]
 have hp0:Pot H0 p:=by
  obtain⟨a,b,e,z⟩:=hp
  exact⟨a,b,S3 _ _ e,z⟩
 have nlp:l≠p:=by
  obtain⟨a,b,e,z⟩:=hp
  exact fun x=>by rw[x,e] at fl;cases fl
 have nl2p:l2≠p:=by
  obtain⟨a,b,e,z⟩:=hp
  exact fun x=>by rw[x,e] at fl2;cases fl2
 refine⟨_,rfl,m,rfl,by omega,by omega,?_⟩
 refine zbu (n:=m.toNat) (fun i σ H'=>∃ (t:Option V) (ls ms:List Int),σ=[some (.ref p),some (.int m),some (.ref l),some (.ref l2),t]∧H' l=some (.lst (ls.map V.int))∧H' l2=some (.lst (ms.map V.int))∧Pot H' p ∧
  (∀ b o,b≠p->H b=some o->H' b=some o)∧(ms++ls).Perm ((List.range m.toNat).map fun i:Nat=>(i:Int))∧ms.length=i) ?start ?turn ?fin
 case start=>exact⟨none,(List.range m.toNat).map fun i:Nat=>(i:Int),[],rfl,by rw[el,List.map_map];rfl,el2,hp0,fun b o _ e=>S3 b o e,List.Perm.refl _,rfl⟩
 case turn =>
  rintro i σ H' hi ⟨t,ls,ms,rfl,e1,e2,hp',kp,pm,hl'⟩
  have hlen:ls.length=m.toNat - i:=by
   have:=pm.length_eq
   rw[List.length_append,List.length_map,List.length_range] at this
   omega
  refine⟨_,rfl,.inl ⟨rfl,_,SqL.of e2⟩,_,rfl,.inl ⟨rfl,_,SqL.of e1⟩,_,rfl,_,rfl,l,_,rfl,.inl (SqL.of e1),?_⟩
  refine⟨p,_,rfl,hp',(by rw[List.length_map];omega),(by rw[List.length_map];omega),fun r H1 r0 r1 b1 p1=>?_⟩
  rw[List.length_map] at r1
  have hr1:r.toNat < ls.length:=by omega
  have er:r=((r.toNat:Nat):Int):=by omega
  have six:seqIndex? r (ls.map V.int).length=some r.toNat:=(zjo (by unfold ixN;rw[if_pos r0,if_pos (by rw[List.length_map];omega)])).1
  refine⟨l,_,r,r.toNat,.int ls[r.toNat],rfl,rfl,b1 _ _ nlp e1,by omega,by omega,six,by rw[List.getElem?_map,List.getElem?_eq_getElem hr1];rfl,?_⟩
  refine⟨l2,_,_,rfl,rfl,by rw[zap ll2.symm];exact b1 _ _ nl2p e2,?_,?_⟩
  ·rw[List.length_map]
   exact Nat.lt_of_le_of_lt (by omega:ms.length≤1000) (by decide)
  ·refine⟨_,ls.eraseIdx r.toNat,ms++[ls[r.toNat]],rfl,?_,?_,?_,?_,?_,by rw[List.length_append,List.length_singleton];omega⟩
   ·rw[zap ll2,zag,zia]
   ·rw[zag,List.map_append];rfl
   ·obtain⟨a,b,e,z⟩:=p1
    exact⟨a,b,by rw[zap nl2p.symm,zap nlp.symm];exact e,z⟩
   ·intro b o hb e
    have n1:b≠l:=fun x=>by rw[x,fl] at e;cases e
    have n2:b≠l2:=fun x=>by rw[x,fl2] at e;cases e
    rw[zap n2,zap n1]
    exact b1 _ _ hb (kp _ _ hb e)
   ·refine List.Perm.trans ?_ pm
    rw[List.append_assoc]
    refine List.Perm.append_left _ ?_
    show (ls[r.toNat]::ls.eraseIdx r.toNat).Perm ls
    exact zf4 ls r.toNat hr1
 case fin =>
  rintro σ H' ⟨t,ls,ms,rfl,e1,e2,hp',kp,pm,hl'⟩
  have hlen:ls=[]:=by
   have:=pm.length_eq
   rw[List.length_append,List.length_map,List.length_range] at this
   exact List.eq_nil_of_length_eq_zero (by omega)
  subst hlen
  rw[List.append_nil] at pm
  exact⟨_,rfl,q l2 H' ms kp hp' fl2 nl2p e2 pm⟩
theorem zjj (T:Bi mg) (D:DefOk K mg "is_whole" s_is_whole ["thing"]):Ok P w K mg base 1 "is_whole" ["thing"] (spD1 K (fun _=>True) wholeB):=by
 refine zbb (k:=0) D sc_is_whole (fun vs H Q E h=>?_) (fun f cdv A outer s H vs Q E hr h=>?_)
 ·obtain⟨d,v,rfl,_⟩:=h
  rfl
 obtain⟨d,v,rfl,hd,_,q⟩:=h
 have nd:=sc_is_whole.nd
 have q0:=q H (Same.refl H)
 have ty:=zqs hd
 refine⟨_,(zaf (zaq (zeo (zam (zde (n:="int")) rfl T.z_isinstance (by decide +kernel) (zaa (pv 0) (zaa (zen (v:=.ty "int") rfl T.z_int (by decide +kernel) rfl) zab))) (zcg (zsb (zam (zde (n:="bool")) rfl T.z_isinstance (by decide +kernel) (zaa (pv 0) (zaa (zen (v:=.ty "bool") rfl T.z_bool (by decide +kernel) rfl) zab)))))))),?_⟩
 cases d with
 | int i=>exact⟨_,rfl,_,_,_,rfl,ty,rfl,_,rfl,iteT ⟨_,rfl,_,_,_,rfl,ty,rfl,_,rfl,q0⟩⟩
 | bool b=>exact⟨_,rfl,_,_,_,rfl,ty,rfl,_,rfl,iteT ⟨_,rfl,_,_,_,rfl,ty,rfl,_,rfl,q0⟩⟩
 | none=>exact⟨_,rfl,_,_,_,rfl,ty,rfl,_,rfl,iteF q0⟩
 | str x=>exact⟨_,rfl,_,_,_,rfl,ty,rfl,_,rfl,iteF q0⟩
 | tuple ds=>exact⟨_,rfl,_,_,_,rfl,ty,rfl,_,rfl,iteF q0⟩
 | list ds=>exact⟨_,rfl,_,_,_,rfl,ty,rfl,_,rfl,iteF q0⟩
 | dict ds=>exact⟨_,rfl,_,_,_,rfl,ty,rfl,_,rfl,iteF q0⟩
theorem zfe (T:Bi mg) (D:DefOk K mg "tie_weights" s_tie_weights ["web"]):Ok P w K mg base 1 "tie_weights" ["web"] (spWeights K):=by
 refine zbb (k:=0) D sc_tie_weights (fun vs H Q E h=>?_) (fun f cdv A outer s H vs Q E hr h=>?_)
 ·obtain⟨n,ts,v,rfl,_⟩:=h
  rfl
 obtain⟨n,ts,v,rfl,hw,few60,q⟩:=h
 have nd:=sc_tie_weights.nd
 obtain⟨g0,g,ws,rfl,hg0,hg,hall,hlw⟩:=za7 hw
 refine⟨_,(zac (zan (i:=1) nd rfl (Or.inl rfl) (za5 zab)) (zac (zan (i:=2) nd rfl (Or.inl rfl) zad) (zac (zbn PassesOwn.never rfl (zbw (zav zbc (pv 0) zad (fun _ _=>rfl))) (zah (i:=3) nd rfl (Or.inl rfl)) (zac (zbq (zd0 PySem.F.plainAttrs_list PySem.F.slot_list_append PySem.F.type_list_append zb7 (pv 1) (zaa (pv 2) zab))) (zaf (zan (i:=2) nd rfl (Or.inl rfl) (zat zm6 zad (pv 2)))))) (zaf (zaq (pv 1)))))),?_⟩
 refine⟨(by show 0≤1000;decide),fun l J0 S0 f0 e0=>?_⟩
 refine⟨_,rfl,g0,_,_,_,rfl,rfl,SqT.of (S0 _ _ hg0),rfl,g,rfl,⟨_,SqT.of (S0 _ _ hg)⟩,?_⟩
 refine zcy (xs:=ws) (fun i σ J=>∃ y3:Option V,σ=[some (.ref g0),some (.ref l),some (.int (2 ^ i)),y3]∧Same H J∧J l=some (.lst (pows i))) ⟨none,rfl,S0,e0⟩ (fun i σ J _ h=>by obtain⟨_,_,s,_⟩:=h;exact SqT.of (s _ _ hg)) (fun i x σ J hx h=>?_) (fun σ J h=>?_)
 ·obtain⟨y3,rfl,s1,e1⟩:=h
  have hi:i < ws.length:=(List.getElem?_eq_some_iff.mp hx).1
  refine⟨_,rfl,.inl ⟨rfl,_,SqL.of e1⟩,_,rfl,l,_,_,rfl,rfl,e1,(by unfold pows;rw[List.length_map,List.length_range];omega),fun J1 b1 e2=>?_⟩
  refine⟨_,rfl,_,_,rfl,rfl,.inl ⟨by decide,by decide⟩,?_⟩
  refine⟨some x,?_,fun b o e=>b1 _ _ (zaj e f0) (s1 _ _ e),by rw[e2,zmx]⟩
  have ep:(2:Int) * 2 ^ i=2 ^ (i + 1):=by rw[Int.pow_succ,Int.mul_comm]
  show [some (V.ref g0),some (V.ref l),some (V.int (2 * 2 ^ i)),some x]=_
  rw[ep]
 ·obtain⟨y3,rfl,s1,e1⟩:=h
  exact⟨_,rfl,q l J s1 f0 (by rw[e1,hlw])⟩
theorem zhz (T:Bi mg) (D:DefOk K mg "cost_with" s_cost_with ["cost","length","weight"]):Ok P w K mg base 1 "cost_with" ["cost","length","weight"] (spCost K):=by
 refine zbb (k:=0) D sc_cost_with (fun vs H Q E h=>?_) (fun f cdv A outer s H vs Q E hr h=>?_)
 ·obtain⟨c,x,y,l,ww,rfl,_⟩:=h
  rfl
 obtain⟨c,x,y,l,ww,rfl,hc,q⟩:=h
 have nd:=sc_cost_with.nd
 refine⟨_,(zaf (zaq (zar (zaa (zat zbl (zav zbc (pv 0) zad (fun _ _=>rfl)) (pv 1)) (zaa (zat zbl (zav zbc (pv 0) zad (fun _ _=>rfl)) (pv 2)) zab))))),?_⟩
 exact⟨_,rfl,c,_,_,_,rfl,rfl,SqT.of hc,rfl,_,rfl,_,_,rfl,rfl,_,rfl,c,_,_,_,rfl,rfl,SqT.of hc,rfl,_,rfl,_,_,rfl,rfl,(by show 2≤1000;decide),fun t J S f e=>q t J S e⟩
def rWB (H:Hp) (wv kv:V) (n r:Int) (ts:List Tie) (ks:List Nat) (lw lc la:Addr) (m:Nat) (σ:L2.St) (J:Hp):Prop:=∃ (cs:List (Option (Int × Int))) (as:List (Option Nat)) (ag:Bool) (y7 y8 y9 y10 y11 y12 y13:Option V),σ=[some wv,some kv,some (.int r),some (.ref lw),some (.ref lc),some (.ref la),some (.bl ag),y7,y8,y9,y10,y11,y12,y13] ∧
 RA H J lw lc la (pows ts.length) cs as∧Far.Good (arcs ts ks) n.toNat r.toNat cs∧Far.Run (arcsB ts ks) r.toNat cs as∧(ag=false->Far.Stab2 (arcsB ts ks) cs)∧m=Far.mu cs + (if ag=true then 1 else 0)
theorem zd1 (T:Bi mg) (D:DefOk K mg "reached_from" s_reached_from ["web","keep","root"]) (O_tie_weights:Ok P w K mg base 1 "tie_weights" ["web"] (spWeights K)) (O_cost_with:Ok P w K mg base 1 "cost_with" ["cost","length","weight"] (spCost K)):Ok P w K mg base 2 "reached_from" ["web","keep","root"] (spReachedC K):=by
 refine zbb (k:=1) D sc_reached_from (fun vs H Q E h=>?_) (fun f cdv A outer s H vs Q E hr h=>?_)
 ·obtain⟨n,ts,ks,wv,kv,r,rfl,_⟩:=h
  rfl
 obtain⟨n,ts,ks,wv,kv,r,rfl,⟨isw,ok,isk,ko⟩,r0,r1,q⟩:=h
 have nd:=sc_reached_from.nd
 have few60:=ok.few
 have n1:=ok.n1
 have n24:=ok.n24
 obtain⟨g0,g,ws,rfl,hg0,hg,hall,hlw⟩:=za7 isw
 obtain⟨kp,rfl,hkp⟩:=zf3 isk
 have P:=zp2 ok ko
 refine⟨_,(zac (zan (i:=3) nd rfl (Or.inl rfl) (zae O_tie_weights hr rfl (zaa (pv 0) zab))) (zac (zan (i:=4) nd rfl (Or.inl rfl) (zat zgh (za5 (zaa zbp zab)) (zav zbc (pv 0) zad (fun _ _=>rfl)))) (zac (zan (i:=5) nd rfl (Or.inl rfl) (zat zgh (za5 (zaa zbp zab)) (zav zbc (pv 0) zad (fun _ _=>rfl)))) (zac (zbz (zar (zaa zad (zaa zad zab))) (zdv (pv 4) (pv 2) zb3)) (zac (zan (i:=6) nd rfl (Or.inl rfl) zje) (zac (zgf PassesOwn.never (zdu (pv 6)) (zac (zan (i:=6) nd rfl (Or.inl rfl) zje) (zaf (zbn PassesOwn.never rfl (zbw (pv 1)) (zah (i:=7) nd rfl (Or.inl rfl)) (zac (zbz (zav zbc (zav zbc (pv 0) zad (fun _ _=>rfl)) (pv 7) (fun _ _=>rfl)) (zb0 (n:=3) rfl (zak (zah (i:=8) nd rfl (Or.inl rfl)) (zak (zah (i:=9) nd rfl (Or.inl rfl)) (zak (zah (i:=10) nd rfl (Or.inl rfl)) zbd))))) (zaf (zbn PassesOwn.never rfl (zbw (zar (zaa (zar (zaa (pv 8) (zaa (pv 9) zab))) (zaa (zar (zaa (pv 9) (zaa (pv 8) zab))) zab)))) (zb0 (n:=2) rfl (zak (zah (i:=11) nd rfl (Or.inl rfl)) (zak (zah (i:=12) nd rfl (Or.inl rfl)) zbd))) (zac (zbj (zao zer (zav zay (pv 4) (pv 11) (fun _ _=>rfl)) zbp (nomark _)) (zaf zej) zaw) (zac (zan (i:=13) nd rfl (Or.inl rfl) (zae O_cost_with hr rfl (zaa (zav zay (pv 4) (pv 11) (fun _ _=>rfl)) (zaa (pv 10) (zaa (zav zay (pv 3) (pv 7) (fun _ _=>rfl)) zab))))) (zaf (zbj (PW.pt (zge (zao zer (zav zay (pv 4) (pv 12) (fun _ _=>rfl)) zbp (nomark _)) (zdt (zao (zsd hr.units0) (pv 13) (zav zay (pv 4) (pv 12) (fun _ _=>rfl)) (nomark _))))) (zac (zbz (pv 13) (zdv (pv 4) (pv 12) zb3)) (zac (zbz (pv 11) (zdv (pv 5) (pv 12) zb3)) (zaf (zan (i:=6) nd rfl (Or.inl rfl) zje)))) zaw))))))))))) (zaf (zaq (zar (zaa (pv 4) (zaa (pv 5) zab))))))))))),?_⟩
 refine⟨_,rfl,n,ts,_,rfl,isw,few60,fun lw J1 S1 f1 e1=>?_⟩
 refine⟨(by show 1≤1000;decide),fun t0 J2 S2 f2 e2=>⟨_,rfl,g0,_,_,_,rfl,rfl,SqT.of (S2 _ _ (S1 _ _ hg0)),rfl,t0,n,_,rfl,rfl,e2,by omega,by omega,fun lc J3 S3 f3 e3=>?_⟩⟩
 have S13:=S1.trans (S2.trans S3)
 refine⟨(by show 1≤1000;decide),fun t1 J4 S4 f4 e4=>⟨_,rfl,g0,_,_,_,rfl,rfl,SqT.of (S4 _ _ (S13 _ _ hg0)),rfl,t1,n,_,rfl,rfl,e4,by omega,by omega,fun la J5 S5 f5 e5=>?_⟩⟩
 refine⟨(by show 2≤1000;decide),fun t2 J6 S6 f6 e6=>?_⟩
 have S36:=S4.trans (S5.trans S6)
 have elc:=S36 _ _ e3
 refine⟨_,rfl,_,rfl,lc,_,r,r.toNat,rfl,rfl,elc,zcw r0 (by rw[List.length_replicate];omega),?_⟩
 have Sall:Same H J6:=S13.trans S36
 have fc:H lc=none:=(S1.trans S2).free f3
 have fa:H la=none:=(S13.trans S4).free f5
 have nwc:lw≠lc:=fun z=>by rw[← z,S2 _ _ e1] at f3;cases f3
 have nwa:lw≠la:=fun z=>by rw[← z,S4 _ _ (S3 _ _ (S2 _ _ e1))] at f5;cases f5
 have nca:lc≠la:=fun z=>by rw[← z,S4 _ _ e3] at f5;cases f5
 have R0:RA H J6 lw lc la (pows ts.length) (List.replicate n.toNat none) (List.replicate n.toNat none):=⟨Sall,fc,fa,nwc,nwa,nca,S36 _ _ (S3 _ _ (S2 _ _ e1)),⟨_,elc,CostL.first _⟩,by rw[S6 _ _ e5,List.map_replicate];rfl⟩
 have R1:=R0.put (k:=r.toNat) elc (by rw[List.length_replicate];omega) e6
  -- the passes
 refine⟨rWB H (.ref g0) (.ref kp) n r ts ks lw lc la,⟨_,_,_,true,none,none,none,none,none,none,none,rfl,R1,Far.Good.first (by omega),Far.Run.first (by omega),fun z=>(by cases z),rfl⟩,?_⟩
 rintro m σ J ⟨c0,as0,ag,y7,y8,y9,y10,y11,y12,y13,rfl,R,G,AH,St,rfl⟩
 refine⟨_,rfl,ag,rfl,?_⟩
 cases ag with
 | false =>
  refine iteF ?_
  obtain⟨cvs,hc,cl⟩:=R.co
  exact⟨_,rfl,_,rfl,(by show 2≤1000;decide),fun p J' S' f' e'=>q p lc la cvs as0 c0 J' (R.same.trans S') e' (S' _ _ hc) (S' _ _ R.ah) (cl.keep (zmj S')) (AH.best P G (St rfl)) G (zqy (St rfl))⟩
 | true =>
  refine iteT ⟨fun σ' J'=>∃ m',m' < Far.mu c0 + 1∧rWB H (.ref g0) (.ref kp) n r ts ks lw lc la m' σ' J',fun _ _ h=>h,?_⟩
  refine⟨_,rfl,kp,rfl,⟨_,SqT.of (R.same _ _ hkp)⟩,?_⟩
  refine zcy (xs:=(keepI ks).map V.int) (fun i σ J=>∃ (cs:List (Option (Int × Int))) (as:List (Option Nat)) (ag:Bool) (y7 y8 y9 y10 y11 y12 y13:Option V),σ=[some (.ref g0),some (.ref kp),some (.int r),some (.ref lw),some (.ref lc),some (.ref la),some (.bl ag),y7,y8,y9,y10,y11,y12,y13] ∧
   RA H J lw lc la (pows ts.length) cs as∧Far.Good (arcs ts ks) n.toNat r.toNat cs∧Far.Run (arcsB ts ks) r.toNat cs as∧Far.PS2 c0 (fun z=>z ∈ arcsB ts (ks.take i)) cs ag) ⟨c0,as0,false,_,_,_,_,_,_,_,rfl,R,G,AH,.inl ⟨rfl,rfl,fun u v l k c z=>by cases z⟩⟩ (fun i σ J _ h=>?_) (fun i x σ J hx h=>?_) (fun σ J h=>?_)
  ·obtain⟨cs,as,ag,y7,y8,y9,y10,y11,y12,y13,rfl,R,_⟩:=h
   exact SqT.of (R.same _ _ hkp)
  ·obtain⟨cs,as,ag,y7,y8,y9,y10,y11,y12,y13,rfl,R,G,AH,Pt⟩:=h
   obtain⟨k,hk,rfl⟩:=zjn hx
   have hkl:k < ts.length:=ko.2 k (List.mem_of_getElem? hk)
   obtain⟨ta,hta,htie⟩:=zdh hall hkl
   obtain⟨t,et⟩:∃ t,t=tieAt ts k:=⟨_,rfl⟩
   rw[← et] at htie
   have tk:=ok.tie _ (zaz hkl).2
   rw[← et] at tk
   refine⟨_,rfl,g0,_,_,_,rfl,rfl,SqT.of (R.same _ _ hg0),rfl,_,rfl,g,_,_,_,rfl,rfl,SqT.of (R.same _ _ hg),za2 (Int.natCast_nonneg _) hta,ta,_,rfl,SqT.of (R.same _ _ htie),rfl,_,_,rfl,_,_,rfl,_,_,rfl,rfl,?_⟩
   refine⟨_,rfl,_,rfl,(by show 2≤1000;decide),fun t1 K1 T1 u1 v1=>⟨_,rfl,_,rfl,(by show 2≤1000;decide),fun t2 K2 T2 u2 v2=>⟨(by show 2≤1000;decide),fun t3 K3 T3 u3 v3=>⟨t3,rfl,⟨_,SqT.of v3⟩,?_⟩⟩⟩⟩
   have R3:=R.step (T1.trans (T2.trans T3))
   have v1':=T3 _ _ (T2 _ _ v1)
   have v2':=T3 _ _ v2
   refine zcy (xs:=[V.ref t1,.ref t2]) (fun j σ J=>∃ (cs:List (Option (Int × Int))) (as:List (Option Nat)) (ag:Bool) (y11 y12 y13:Option V),σ=[some (.ref g0),some (.ref kp),some (.int r),some (.ref lw),some (.ref lc),some (.ref la),some (.bl ag),some (.int (k:Int)),some (.int t.1),some (.int t.2.1),some (.int t.2.2),y11,y12,y13] ∧
    RA H J lw lc la (pows ts.length) cs as∧Far.Good (arcs ts ks) n.toNat r.toNat cs∧Far.Run (arcsB ts ks) r.toNat cs as∧Far.PS2 c0 (fun z=>z ∈ arcsB ts (ks.take i)∨z ∈ (arcs2B t k).take j) cs ag∧TupKeep K3 J) ⟨cs,as,ag,_,_,_,rfl,R3,G,AH,Pt.less fun a z=>z.elim id fun z=>(by cases z),fun _ _ e=>e⟩ (fun j σ J _ h=>?_) (fun j x σ J hx h=>?_) (fun σ J h=>?_)
   ·obtain⟨cs,as,ag,y11,y12,y13,rfl,R,G,AH,Pt,tk⟩:=h
    exact SqT.of (tk _ _ v3)
   ·obtain⟨cs,as,ag,y11,y12,y13,rfl,R,G,AH,Pt,tkp⟩:=h
    obtain⟨p,u,v,rfl,hp,u0,un,v0,vn,arc,arcB,more⟩:∃ p u v,x=.ref p∧J p=some (.tup [.int u,.int v])∧0≤u∧u < n∧0≤v∧v < n∧(u.toNat,v.toNat,t.2.2) ∈ arcs ts ks∧(u.toNat,v.toNat,t.2.2,k) ∈ arcsB ts ks∧∀ z,z ∈ (arcs2B t k).take (j + 1)->z ∈ (arcs2B t k).take j∨z=(u.toNat,v.toNat,t.2.2,k):=by
     have memB:∀ z,z ∈ arcs2B t k->z ∈ arcsB ts ks:=fun z hz=>arcsB_mem.mpr ⟨k,List.mem_of_getElem? hk,by rw[← et];exact hz⟩
     have mem:∀ z,z ∈ arcs2 t->z ∈ arcs ts ks:=fun z hz=>arcs_mem.mpr ⟨k,List.mem_of_getElem? hk,by rw[← et];exact hz⟩
     match j,hx with
     | 0,hx=>cases hx;exact⟨t1,t.1,t.2.1,rfl,tkp _ _ v1',by omega,by omega,by omega,by omega,mem _ (arcs2_mem.mpr (.inl rfl)),memB _ (arcs2B_mem.mpr (.inl rfl)),fun z hz=>by unfold arcs2B at *;simpa using hz⟩
     | 1,hx=>cases hx;exact⟨t2,t.2.1,t.1,rfl,tkp _ _ v2',by omega,by omega,by omega,by omega,mem _ (arcs2_mem.mpr (.inr rfl)),memB _ (arcs2B_mem.mpr (.inr rfl)),fun z hz=>by unfold arcs2B at *;simpa using hz⟩
    refine⟨p,_,rfl,SqT.of hp,rfl,_,_,rfl,_,_,rfl,rfl,?_⟩
    obtain⟨cvs,hc,cl⟩:=R.co
    have lenC:cvs.length=n.toNat:=by rw[cl.1];exact G.len
    obtain⟨x1,at1,cv1⟩:=zn9 cl u0 (by rw[G.len];omega)
    obtain⟨x2,at2,cv2⟩:=zn9 cl v0 (by rw[G.len];omega)
    have next:∀ {cs':List (Option (Int × Int))} {ag':Bool},Far.PS2 c0 (Far.plusA (fun z=>z ∈ arcsB ts (ks.take i)∨z ∈ (arcs2B t k).take j) (u.toNat,v.toNat,t.2.2,k)) cs' ag'->Far.PS2 c0 (fun z=>z ∈ arcsB ts (ks.take i)∨z ∈ (arcs2B t k).take (j + 1)) cs' ag':=fun h=>h.less fun z hz=>by
     rcases hz with hz | hz
     ·exact .inl (.inl hz)
     ·exact (more z hz).elim (fun y=>.inl (.inr y)) .inr
    refine⟨_,rfl,_,rfl,lc,_,_,_,rfl,rfl,SqL.of hc,at1,rfl,_,rfl,ite2 (fun c1=>?_) (fun c1=>?_)⟩
    ·-- not reached
     have gu:Far.get cs u.toNat=none:=by
      cases e:Far.get cs u.toNat with
      | none=>rfl
      | some d =>
       rw[e] at cv1
       obtain⟨tt,rfl,_⟩:=cv1
       cases of_decide_eq_true c1
     exact⟨cs,as,ag,_,_,_,rfl,R,G,AH,next (Pt.no gu),tkp⟩
    ·obtain⟨d,gu⟩:∃ d,Far.get cs u.toNat=some d:=by
      cases e:Far.get cs u.toNat with
      | none=>rw[e] at cv1;exact absurd (decide_eq_true (show x1=V.non from cv1)) c1
      | some d=>exact⟨d,rfl⟩
     rw[gu] at cv1
     obtain⟨td,rfl,htd⟩:=cv1
     have pw:=zr6 (i:=k) (by omega)
     refine⟨_,rfl,_,rfl,lc,_,_,_,rfl,rfl,SqL.of hc,at1,_,rfl,_,rfl,_,rfl,lw,_,_,_,rfl,rfl,SqL.of R.wl,za2 (Int.natCast_nonneg _) (zq5 hkl),td,_,_,_,_,rfl,htd,fun tn L1 Z1 en=>?_⟩
     have R':=R.step Z1
     have hc':=Z1 _ _ hc
     have tkp':TupKeep K3 L1:=fun a xs e=>Z1 _ _ (tkp a xs e)
     have done : ∀ (hlt : Far.get cs v.toNat = none ∨ ∃ c', Far.get cs v.toNat = some c' ∧ Far.lt2 (d.1 + t.2.2, d.2 + 2 ^ k) c') , ∀ L, L = upd (upd L1 lc (.lst (cvs.set v.toNat (.ref tn)))) la (.lst ((as.map oa).set v.toNat (.int u))) →
         RA H L lw lc la (pows ts.length) (cs.set v.toNat (some (d.1 + t.2.2,d.2 + 2 ^ k))) (as.set v.toNat (some u.toNat))∧Far.Good (arcs ts ks) n.toNat r.toNat (cs.set v.toNat (some (d.1 + t.2.2,d.2 + 2 ^ k)))∧Far.Run (arcsB ts ks) r.toNat (cs.set v.toNat (some (d.1 + t.2.2,d.2 + 2 ^ k))) (as.set v.toNat (some u.toNat))∧Far.PS2 c0 (fun z=>z ∈ arcsB ts (ks.take i)∨z ∈ (arcs2B t k).take (j + 1)) (cs.set v.toNat (some (d.1 + t.2.2,d.2 + 2 ^ k))) true∧TupKeep K3 L:=fun hlt L eL=>by
      subst eL
      obtain⟨G',mm⟩:=G.step P (by omega) arc (by omega) pw.1 pw.2 (by omega) gu hlt
      have Rp:=R'.put hc' (k:=v.toNat) (by omega) en
      have Rm:=Rp.mark (k:=v.toNat) (u:=u.toNat)
      rw[Int.toNat_of_nonneg u0] at Rm
      exact⟨Rm,G',Far.Run.step P G AH arc arcB (by omega) gu hlt,next (Pt.put mm),fun a xs e=>zhj Rp.ah _ _ (zhj hc' _ _ (tkp' a xs e))⟩
     have ha:=R'.ah
     have hal:(as.map oa).length=n.toNat:=by rw[List.length_map,AH.len];exact G.len
     refine⟨_,rfl,_,rfl,lc,_,_,_,rfl,rfl,SqL.of hc',at2,rfl,_,rfl,ite2 (fun c2=>iteT ?_) (fun c2=>?_)⟩
     ·have gv:Far.get cs v.toNat=none:=by
       cases e:Far.get cs v.toNat with
       | none=>rfl
       | some d =>
        rw[e] at cv2
        obtain⟨tt,rfl,_⟩:=cv2
        cases of_decide_eq_true c2
      obtain⟨R2,G2,A2,P2,k2⟩:=done (.inl gv) _ rfl
      exact⟨_,rfl,_,rfl,_,rfl,lc,_,_,_,rfl,rfl,hc',zcw v0 (by omega),_,rfl,_,rfl,_,rfl,la,_,_,_,rfl,rfl,(by rw[zap R.nca.symm];exact ha),zcw v0 (by omega),_,_,true,_,_,_,rfl,R2,G2,A2,P2,k2⟩
     ·obtain⟨d2,gv⟩:∃ d,Far.get cs v.toNat=some d:=by
       cases e:Far.get cs v.toNat with
       | none=>rw[e] at cv2;exact absurd (decide_eq_true (show x2=V.non from cv2)) c2
       | some d=>exact⟨d,rfl⟩
      rw[gv] at cv2
      obtain⟨te,rfl,hte⟩:=cv2
      refine⟨_,rfl,_,rfl,_,rfl,lc,_,_,_,rfl,rfl,SqL.of hc',at2,tn,te,L3.e2 (d.1 + t.2.2,d.2 + 2 ^ k),L3.e2 d2,rfl,rfl,SqT.of en,SqT.of (Z1 _ _ hte),_,rfl,ite2 (fun c3=>?_) (fun c3=>?_)⟩
      ·have hl:=(zkk _ _).mp c3
       obtain⟨R2,G2,A2,P2,k2⟩:=done (.inr ⟨d2,gv,hl⟩) _ rfl
       exact⟨_,rfl,_,rfl,_,rfl,lc,_,_,_,rfl,rfl,hc',zcw v0 (by omega),_,rfl,_,rfl,_,rfl,la,_,_,_,rfl,rfl,(by rw[zap R.nca.symm];exact ha),zcw v0 (by omega),_,_,true,_,_,_,rfl,R2,G2,A2,P2,k2⟩
      ·have hn:¬ Far.lt2 (d.1 + t.2.2,d.2 + 2 ^ k) d2:=fun z=>c3 ((zkk _ _).mpr z)
       exact⟨cs,as,ag,_,_,_,rfl,R',G,AH,next (Pt.old gu gv hn),tkp'⟩
   ·obtain⟨cs,as,ag,y11,y12,y13,rfl,R,G,AH,Pt,tkp⟩:=h
    refine⟨cs,as,ag,_,_,_,_,_,_,_,rfl,R,G,AH,Pt.less fun z hz=>?_⟩
    exact (zl5 hk hz).elim .inl fun y=>.inr (by rw[← et] at y;exact y)
  ·obtain⟨cs,as,ag,y7,y8,y9,y10,y11,y12,y13,rfl,R2,G2,A2,Pt⟩:=h
   have lk:((keepI ks).map V.int).length=ks.length:=by unfold keepI;rw[List.length_map,List.length_map]
   rw[lk,List.take_length] at Pt
   rcases Pt with ⟨ea,ec,st⟩ | ⟨ea,lt⟩
   ·subst ea
    rw[← ec] at st
    exact⟨Far.mu cs + 0,by rw[ec];omega,cs,as,false,_,_,_,_,_,_,_,rfl,R2,G2,A2,fun _=>st,rfl⟩
   ·subst ea
    exact⟨Far.mu cs + 1,by omega,cs,as,true,_,_,_,_,_,_,_,rfl,R2,G2,A2,fun z=>(by cases z),rfl⟩
theorem zhy (T:Bi mg) (D:DefOk K mg "fars_from" s_fars_from ["web","keep","root"]) (O_reached_from:Ok P w K mg base 2 "reached_from" ["web","keep","root"] (spReached K)):Ok P w K mg base 3 "fars_from" ["web","keep","root"] (spFars K):=by
 refine zbb (k:=2) D sc_fars_from (fun vs H Q E h=>?_) (fun f cdv A outer s H vs Q E hr h=>?_)
 ·obtain⟨n,ts,ks,wv,kv,r,rfl,_⟩:=h
  rfl
 obtain⟨n,ts,ks,wv,kv,r,rfl,wk,r0,r1,q⟩:=h
 have nd:=sc_fars_from.nd
 have n24:=wk.2.1.n24
 refine⟨_,(zac (zbz (zae O_reached_from hr rfl (zaa (pv 0) (zaa (pv 1) (zaa (pv 2) zab)))) (zb0 (n:=2) rfl (zak (zah (i:=3) nd rfl (Or.inl rfl)) (zak (zah (i:=4) nd rfl (Or.inl rfl)) zbd)))) (zaf (zaq (zbv (N:=["web","keep","root","costs","ahead"]) (sc0:=defScope s_fars_from) (own:=["cost"]) (fr:=[]) (js:=[]) rfl (zel (pv 3)) (fun _ _ _ _=>(zah (i:=0) (by show List.Nodup [("cost":Str)];decide +kernel) rfl (Or.inl rfl))) (fun _ _ _ _=>zcb) (fun _ _ _ _=>(zo6 (zao zer (pv 0) zbp (nomark _)) zbp (zav zb2 (pv 0) zad (fun _ _=>rfl)))))))),?_⟩
 refine⟨_,rfl,_,rfl,_,rfl,n,ts,ks,wv,kv,r,rfl,wk,r0,r1,fun p lc la cvs avs cs J S ep ec ea cl G St=>?_⟩
 refine⟨p,_,rfl,SqT.of ep,rfl,_,_,rfl,_,_,rfl,rfl,?_⟩
 have lenC:cvs.length=n.toNat:=by rw[cl.1];exact G.len
 refine⟨_,rfl,lc,rfl,⟨_,SqL.of ec⟩,?_⟩
 refine zpu ec (fun σ'=>σ'.length=1) (fun i v _=>v=ov ((Far.get cs i).map (·.1))) (by omega) (by rfl) (fun _ _ _ _ _ h=>h) (fun i x σ' H' hx s2 sg C hC=>?_) (fun L ys H2 hL s2 hH hly hys=>?_)
 ·match σ',sg with
  | [o],_ =>
   have cv:=cl.2 i x hx
   refine⟨_,rfl,rfl,_,rfl,ite2 (fun c=>?_) (fun c=>?_)⟩
   ·have e:Far.get cs i=none:=by
     cases e:Far.get cs i with
     | none=>rfl
     | some d =>
      rw[e] at cv
      obtain⟨tt,rfl,_⟩:=cv
      cases of_decide_eq_true c
    exact hC _ _ _ rfl (Same.refl _) (by rw[e];rfl)
   ·obtain⟨d,gu⟩:∃ d,Far.get cs i=some d:=by
     cases e:Far.get cs i with
     | none=>rw[e] at cv;exact absurd (decide_eq_true (show x=V.non from cv)) c
     | some d=>exact⟨d,rfl⟩
    rw[gu] at cv
    obtain⟨td,rfl,htd⟩:=cv
    exact⟨_,rfl,td,_,_,_,rfl,rfl,SqT.of (s2 _ _ htd),rfl,hC _ _ _ rfl (Same.refl _) (by rw[gu];rfl)⟩
 ·obtain⟨DD,eD⟩:∃ DD,DD=cs.map fun o=>o.map (·.1):=⟨_,rfl⟩
  have gD:∀ v,Far.get DD v=(Far.get cs v).map (·.1):=fun v=>by
   rw[eD];unfold Far.get
   rw[List.getD_eq_getElem?_getD,List.getElem?_map,List.getD_eq_getElem?_getD]
   cases cs[v]? <;> rfl
  refine q L DD H2 (S.trans s2) (S.free hL) ?_ (by rw[eD,List.length_map];exact G.len) fun v hv=>by rw[gD];exact G.dst St v
  rw[hH]
  refine congrArg (fun z=>some (HO.lst z)) (List.ext_getElem? fun i=>?_)
  have lD:DD.length=n.toNat:=by rw[eD,List.length_map];exact G.len
  by_cases hi:i < n.toNat
  ·rw[zq9 (by omega),gD]
   have e:ys[i]?=some ys[i]:=List.getElem?_eq_getElem (by omega)
   rw[e,hys i _ e]
  ·rw[List.getElem?_eq_none (by omega),List.getElem?_eq_none (by rw[List.length_map];omega)]
theorem zgi (T:Bi mg) (D:DefOk K mg "tree_from" s_tree_from ["web","keep","root"]) (O_reached_from:Ok P w K mg base 2 "reached_from" ["web","keep","root"] (spReachedB K)):Ok P w K mg base 3 "tree_from" ["web","keep","root"] (spTreeB K):=by
 refine zbb (k:=2) D sc_tree_from (fun vs H Q E h=>?_) (fun f cdv A outer s H vs Q E hr h=>?_)
 ·obtain⟨n,ts,ks,wv,kv,r,rfl,_⟩:=h
  rfl
 obtain⟨n,ts,ks,wv,kv,r,rfl,wk,r0,r1,q⟩:=h
 have nd:=sc_tree_from.nd
 refine⟨_,(zac (zbz (zae O_reached_from hr rfl (zaa (pv 0) (zaa (pv 1) (zaa (pv 2) zab)))) (zb0 (n:=2) rfl (zak (zah (i:=3) nd rfl (Or.inl rfl)) (zak (zah (i:=4) nd rfl (Or.inl rfl)) zbd)))) (zaf (zaq (zas za1 rfl T.z_tuple (by decide +kernel) (zaa (pv 4) zab))))),?_⟩
 refine⟨_,rfl,_,rfl,_,rfl,n,ts,ks,wv,kv,r,rfl,wk,r0,r1,fun p lc la cvs as cs J S ep ec ea cl G=>?_⟩
 refine⟨p,_,rfl,SqT.of ep,rfl,_,_,rfl,_,_,rfl,rfl,?_⟩
 exact⟨_,rfl,la,_,rfl,ea,fun t J2 S2 f2 e2=>q t as cs J2 (S.trans S2) e2 G⟩
theorem zk5 {ws:List V} {x:V}:atI (ws++[x]) (-1)=some x:=by
 unfold atI ixN
 rw[if_neg (by decide),if_pos (by rw[List.length_append,List.length_singleton];omega)]
 show (ws++[x])[(-1 + ((ws++[x]).length:Int)).toNat]?=some x
 rw[List.length_append,List.length_singleton,show (-1 + ((ws.length + 1:Nat):Int)).toNat=ws.length by omega]
 simp
theorem zjh (T:Bi mg) (D:DefOk K mg "the_way" s_the_way ["web","keep","a","b"]) (O_tree_from:Ok P w K mg base 3 "tree_from" ["web","keep","root"] (spTreeB K)):Ok P w K mg base 4 "the_way" ["web","keep","a","b"] (spWayB K):=by
 refine zbb (k:=3) D sc_the_way (fun vs H Q E h=>?_) (fun f cdv A outer s H vs Q E hr h=>?_)
 ·obtain⟨n,ts,ks,wv,kv,a,b,rfl,_⟩:=h
  rfl
 obtain⟨n,ts,ks,wv,kv,a,b,rfl,wk,a0,a1,b0,b1,q⟩:=h
 have nd:=sc_the_way.nd
 have n24:=wk.2.1.n24
 have KB:=zcs wk.2.1 wk.2.2.2
 refine⟨_,(zac (zan (i:=4) nd rfl (Or.inl rfl) (zae O_tree_from hr rfl (zaa (pv 0) (zaa (pv 1) (zaa (pv 3) zab))))) (zac (zan (i:=5) nd rfl (Or.inl rfl) (za5 (zaa (pv 2) zab))) (zac (zgf PassesOwn.never (zao zo9 (zav zay (pv 5) (zhq zds zad) (fun _ _=>rfl)) (pv 3) (nomark _)) (zac (zbj (zao zer (zav zbc (pv 4) (zav zay (pv 5) (zhq zds zad) (fun _ _=>rfl)) (fun _ _=>rfl)) zbp (nomark _)) (zaf (zaq zbp)) zaw) (zaf (zbq (zd0 PySem.F.plainAttrs_list PySem.F.slot_list_append PySem.F.type_list_append zb7 (pv 5) (zaa (zav zbc (pv 4) (zav zay (pv 5) (zhq zds zad) (fun _ _=>rfl)) (fun _ _=>rfl)) zab)))))) (zaf (zaq (zas za1 rfl T.z_tuple (by decide +kernel) (zaa (pv 5) zab))))))),?_⟩
 refine⟨_,rfl,_,rfl,_,rfl,n,ts,ks,wv,kv,b,rfl,wk,b0,b1,fun p as cs J S ep G=>?_⟩
 refine⟨_,rfl,(by show 1≤1000;decide),fun lw J1 S1 f1 e1=>?_⟩
 have lA:=G.alen
 have ep1:=S1 _ _ ep
 have fw:H lw=none:=S.free f1
 have nlp:p≠lw:=fun z=>by rw[z,f1] at ep;cases ep
 refine⟨fun m σ J2=>∃ (pre:List Nat) (c:Nat),σ=[some wv,some kv,some (.int a),some (.int b),some (.ref p),some (.ref lw)]∧Same H J2∧J2 p=some (.tup (as.map oa))∧J2 lw=some (.lst (natV (pre++[c])))∧c < n.toNat ∧
  ((pre=[]∧c=a.toNat∧Far.get cs c=none∧m=0)∨∃ ca cc,Far.get cs a.toNat=some ca∧Far.get cs c=some cc∧(∀ P,Far.TPw as b.toNat P c->Far.TPw as b.toNat (P++pre.reverse) a.toNat)∧pre.length + 1≤Far.beyond n.toNat cs cc.1∧m=cc.1.toNat),?_,?_⟩
 ·have e1':J1 lw=some (.lst (natV ([]++[a.toNat]))):=by rw[e1];show some (HO.lst [V.int a])=some (HO.lst [V.int ((a.toNat:Nat):Int)]);rw[Int.toNat_of_nonneg a0]
  cases e:Far.get cs a.toNat with
  | none=>exact⟨0,[],a.toNat,rfl,S.trans S1,ep1,e1',by omega,.inl ⟨rfl,rfl,e,rfl⟩⟩
  | some ca=>exact⟨_,[],a.toNat,rfl,S.trans S1,ep1,e1',by omega,.inr ⟨ca,ca,rfl,e,fun P t=>by rw[List.reverse_nil,List.append_nil];exact t,Far.zlz (by omega) e,rfl⟩⟩
 rintro m σ J2 ⟨pre,c,rfl,sm,hp,hw,hc,inv⟩
 have lastV:atI (natV (pre++[c])) (-1)=some (.int (c:Int)):=by
  unfold natV;rw[List.map_append];exact zk5
 have hat:atI (as.map oa) (c:Int)=some (oa (Far.get as c)):=za2 (Int.natCast_nonneg _) (by rw[Int.toNat_natCast];exact zs1 (by omega))
 refine⟨_,rfl,_,rfl,lw,_,_,_,rfl,rfl,SqL.of hw,lastV,_,rfl,rfl,_,rfl,?_⟩
 by_cases cb:c=b.toNat
 ·refine iteNS (by rw[cb,Int.toNat_of_nonneg b0]) ?_
  refine⟨_,rfl,lw,_,rfl,hw,fun t J3 S3 f3 e3=>q _ J3 (sm.trans S3) ⟨cs,as,G,.inr ?_⟩⟩
  rcases inv with ⟨_,_,ec,_⟩ | ⟨ca,cc,e1',e2',tp,hl,_⟩
  ·rw[cb,G.start] at ec;cases ec
  ·have:=Far.ziq n.toNat cs cc.1
   refine⟨t,pre++[c],ca,rfl,e3,by rw[List.length_append,List.length_singleton];omega,e1',?_⟩
   rw[List.reverse_append]
   have:=tp [b.toNat] (by rw[cb];exact .root)
   rw[cb];exact this
 ·have ne:decide (V.int (c:Int)=V.int b)=false:=decide_eq_false fun z=>cb (by injection z with z;omega)
  rw[ne]
  refine iteT ⟨fun σ' J'=>∃ m',m' < m∧∃ (pre:List Nat) (c:Nat),σ'=[some wv,some kv,some (.int a),some (.int b),some (.ref p),some (.ref lw)]∧Same H J'∧J' p=some (.tup (as.map oa))∧J' lw=some (.lst (natV (pre++[c])))∧c < n.toNat ∧
   ((pre=[]∧c=a.toNat∧Far.get cs c=none∧m'=0)∨∃ ca cc,Far.get cs a.toNat=some ca∧Far.get cs c=some cc∧(∀ P,Far.TPw as b.toNat P c->Far.TPw as b.toNat (P++pre.reverse) a.toNat)∧pre.length + 1≤Far.beyond n.toNat cs cc.1∧m'=cc.1.toNat),fun _ _ h=>h,?_⟩
  refine⟨_,rfl,_,rfl,_,rfl,lw,_,_,_,rfl,rfl,SqL.of hw,lastV,p,_,_,_,rfl,rfl,SqT.of hp,hat,rfl,_,rfl,?_⟩
  cases ea:Far.get as c with
  | none =>
   refine iteT (q _ _ sm ⟨cs,as,G,.inl ⟨rfl,?_⟩⟩)
   rcases inv with ⟨_,ec,e2',_⟩ | ⟨ca,cc,_,e2',_⟩
   ·rw[← ec];exact e2'
   ·exact absurd ea (G.has c cc e2' cb)
  | some u =>
   obtain⟨l,k,cu,mm,e1',e2'⟩:=G.arc _ _ ea
   rw[ea] at hat
   rcases inv with ⟨_,_,ec,_⟩ | ⟨ca,cc,e3',e4',tp,hl,rfl⟩
   ·rw[ec] at e2';cases e2'
   ·have ecc:cc=(cu.1 + l,cu.2 + 2 ^ k):=Option.some.inj (e4'.symm.trans e2')
    have l1:=KB.pos _ _ _ _ mm
    have cu0:=G.nn _ _ e1'
    have hu:=(zp3 wk.2.1 wk.2.2.2 mm).1
    have c1:cc.1=cu.1 + l:=by rw[ecc]
    have bl:=Far.zog hu e1' (show cu.1 < cc.1 by omega)
    have ble:=Far.ziq n.toNat cs cu.1
    have lenW:(natV (pre++[c])).length=pre.length + 1:=by unfold natV;rw[List.length_map,List.length_append,List.length_singleton]
    refine iteF ⟨_,rfl,.inl ⟨rfl,_,SqL.of hw⟩,_,rfl,_,rfl,_,rfl,lw,_,_,_,rfl,rfl,SqL.of hw,lastV,p,_,_,_,rfl,rfl,SqT.of hp,hat,lw,_,_,rfl,rfl,hw,by omega,fun J3 b3 e3=>?_⟩
    refine⟨cu.1.toNat,by omega,pre++[c],u,rfl,fun c o z=>b3 _ _ (zaj z fw) (sm _ _ z),b3 _ _ nlp hp,?_,hu,.inr ⟨ca,cu,e3',e1',fun P t=>?_,by rw[List.length_append,List.length_singleton];omega,rfl⟩⟩
    ·rw[e3];unfold natV;rw[List.map_append (l₂:=[u])];rfl
    ·have:=tp (P++[c]) (.step ea t)
     rw[List.reverse_append]
     rw[List.append_assoc] at this
     exact this
theorem zpa (T:Bi mg) (D:DefOk K mg "whole" s_whole ["web"]):Ok P w K mg base 1 "whole" ["web"] (spWhole K):=by
 refine zbb (k:=0) D sc_whole (fun vs H Q E h=>?_) (fun f cdv A outer s H vs Q E hr h=>?_)
 ·obtain⟨n,ts,v,rfl,_⟩:=h
  rfl
 obtain⟨n,ts,v,rfl,hw,few60,q⟩:=h
 have nd:=sc_whole.nd
 obtain⟨g0,g,ws,rfl,hg0,hg,hall,hlw⟩:=za7 hw
 refine⟨_,(zaf (zaq (zas (zfn rfl) rfl T.z_tuple (by decide +kernel) (zaa (zas zdo rfl T.z_range (by decide +kernel) (zaa (zam zau rfl T.z_len (by decide +kernel) (zaa (zav zbc (pv 0) zad (fun _ _=>rfl)) zab)) zab)) zab)))),?_⟩
 refine⟨_,rfl,g0,_,_,_,rfl,rfl,SqT.of hg0,rfl,g,_,rfl,.inr (SqT.of hg),_,rfl,fun r hr'=>?_⟩
 refine⟨r,_,rfl,zag,by omega,by omega,fun l H' S f e=>q l H' ((zal hr').trans S) ((zal (o:=.rng 0 _) hr').free f) ?_⟩
 rw[e,show ((ws.length:Nat):Int).toNat=ts.length by omega]
def spPlainW (K:PySem.W.Frag):Sp:=fun vs H Q _=>∃ n ts v,vs=[v]∧Is K H (webD n ts) v∧ts.length≤60∧∀ H',Same H H'->Q (.bl (ts.all fun t=>decide (t.2.2=1))) H'
theorem zld {ts:List Tie} {i:Nat} (h:i < ts.length):ts[i]?=some (tieAt ts i):=by
 obtain⟨h1,h2⟩:=zaz h
 exact h1
theorem zjk (T:Bi mg) (D:DefOk K mg "is_plain" s_is_plain ["web"]):Ok P w K mg base 1 "is_plain" ["web"] (spPlainW K):=by
 refine zbb (k:=0) D sc_is_plain (fun vs H Q E h=>?_) (fun f cdv A outer s H vs Q E hr h=>?_)
 ·obtain⟨n,ts,v,rfl,_⟩:=h
  rfl
 obtain⟨n,ts,v,rfl,hw,few60,q⟩:=h
 have nd:=sc_is_plain.nd
 obtain⟨g0,g,ws,rfl,hg0,hg,hall,hlw⟩:=za7 hw
 refine⟨_,(zaf (zaq (zam (zg3 rfl) rfl T.z_all (by decide +kernel) (zaa (zbv (N:=["web"]) (sc0:=defScope s_is_plain) (own:=["tie"]) (fr:=[]) (js:=[]) rfl (zbw (zav zbc (pv 0) zad (fun _ _=>rfl))) (fun _ _ _ _=>(zah (i:=0) (by show List.Nodup [("tie":Str)];decide +kernel) rfl (Or.inl rfl))) (fun _ _ _ _=>zcb) (fun _ _ _ _=>(za3 zbo (zav zb2 (pv 0) zad (fun _ _=>rfl)) zad (nomark _)))) zab)))),?_⟩
 refine⟨_,rfl,g0,_,_,_,rfl,rfl,SqT.of hg0,rfl,g,rfl,⟨_,SqT.of hg⟩,?_⟩
 refine zeg hg (fun σ'=>σ'.length=1) (fun i v _=>v=.bl (decide ((tieAt ts i).2.2=1))) (by omega) (by rfl) (fun _ _ _ _ _ h=>h) (fun i x σ' H' hx s2 sg C hC=>?_) (fun L ys H' hL s2 hH hly hys=>?_)
 ·match σ',sg with
  | [o],_ =>
   have hi:i < ts.length:=by have:=(List.getElem?_eq_some_iff.mp hx).1;omega
   obtain⟨ta,hta,htie⟩:=zdh hall hi
   rw[hta] at hx
   cases hx
   refine⟨_,rfl,ta,_,_,_,rfl,rfl,SqT.of (s2 _ _ htie),rfl,rfl,hC _ _ _ rfl (Same.refl _) ?_⟩
   by_cases z:(tieAt ts i).2.2=1
   ·rw[decide_eq_true z,decide_eq_true (congrArg V.int z)]
   ·rw[decide_eq_false z,decide_eq_false fun h=>z (by injection h)]
 ·refine⟨L,_,rfl,SqL.of (by rw[hH,zk3 hly hys]),?_⟩
  have e:((List.range ws.length).map fun i=>decide ((tieAt ts i).2.2=1)).all id=ts.all fun t=>decide (t.2.2=1):=by
   rw[List.all_map,Bool.eq_iff_iff,List.all_eq_true,List.all_eq_true]
   constructor
   ·intro h t ht
    obtain⟨j,hj,rfl⟩:=List.getElem_of_mem ht
    have:=h j (List.mem_range.mpr (by omega))
    have e2:=zld hj
    rw[List.getElem?_eq_getElem hj] at e2
    rw[Option.some.inj e2]
    exact this
   ·intro h j hj
    have hj':j < ts.length:=by have:=List.mem_range.mp hj;omega
    exact h _ (zaz hj').2
  rw[e]
  exact q H' s2
def spNeedP (K:PySem.W.Frag):Sp:=fun vs H Q _=>∃ (n:Int) (ts:List Tie) (wv:V),vs=[wv]∧Is K H (webD n (ones ts)) wv∧ts.length≤60∧∀ H',Same H H'->Q .non H'
theorem zgm (T:Bi mg) (D:DefOk K mg "need_plain" s_need_plain ["web"]) (O_is_plain:Ok P w K mg base 1 "is_plain" ["web"] (spPlainW K)):Ok P w K mg base 2 "need_plain" ["web"] (spNeedP K):=by
 refine zbb (k:=1) D sc_need_plain (fun vs H Q E h=>?_) (fun f cdv A outer s H vs Q E hr h=>?_)
 ·obtain⟨n,ts,wv,rfl,_⟩:=h
  rfl
 obtain⟨n,ts,wv,rfl,isw,few,q⟩:=h
 have nd:=sc_need_plain.nd
 refine⟨_,(zaf (zbj (zmv (zdu (zae O_is_plain hr rfl (zaa (pv 0) zab)))) (zaf zkh) zaw)),?_⟩
 refine⟨_,rfl,n,ones ts,wv,rfl,isw,by rw[za4];exact few,fun H1 s1=>?_⟩
 rw[zlm]
 exact⟨_,rfl,iteF (q H1 s1)⟩
theorem znj (f:Nat->Option Nat):∀ ks:List Nat,ks.filterMap (fun k=>(f k).map fun v:Nat=>V.int (v:Int))=natV (ks.filterMap f)
 | []=>rfl
 | k::r=>by
  rw[List.filterMap_cons,List.filterMap_cons,znj f r]
  cases f k <;> rfl
theorem zgk (T:Bi mg) (D:DefOk K mg "neighbours" s_neighbours ["web","keep","place"]):Ok P w K mg base 1 "neighbours" ["web","keep","place"] (spNeigh K):=by
 refine zbb (k:=0) D sc_neighbours (fun vs H Q E h=>?_) (fun f cdv A outer s H vs Q E hr h=>?_)
 ·obtain⟨n,ts,ks,wv,kv,p,rfl,_⟩:=h
  rfl
 obtain⟨n,ts,ks,wv,kv,p,rfl,wk,q⟩:=h
 have nd:=sc_neighbours.nd
 have ok:=wk.2.1
 have ko:=wk.2.2.2
 have few60:=ok.few
 have lks:=ko.len
 obtain⟨g0,g,ws,rfl,hg0,hg,hall,hlw⟩:=za7 wk.1
 obtain⟨kp,rfl,hkp⟩:=zf3 wk.2.2.1
 have len:((keepI ks).map V.int).length=ks.length:=by unfold keepI;rw[List.length_map,List.length_map]
 refine⟨_,(zac (zco (i:=3) (N:=["web","keep","place","ties"]) (sc0:=defScope s_neighbours) (own:=["tie"]) (fr:=["web"]) (js:=[0]) rfl (zbw (pv 1)) (fun _ _ _ _=>(zah (i:=0) (by show List.Nodup [("tie":Str),("web":Str)];decide +kernel) rfl (Or.inl rfl))) (fun _ _ _ _=>zcb) (fun _ _ _ _=>(zav zb2 (zav zb2 (pv 1) zad (fun _ _=>rfl)) (pv 0) (fun _ _=>rfl))) nd rfl (Or.inl rfl)) (zaf (zaq (zat znb (zbv (N:=["web","keep","place","ties"]) (sc0:=defScope s_neighbours) (own:=["a","b","length"]) (fr:=["place"]) (js:=[2]) rfl (zel (pv 3)) (fun _ _ _ _=>(zjd (n:=3) rfl (zak (zah (i:=0) (by show List.Nodup [("a":Str),("b":Str),("length":Str),("place":Str)];decide +kernel) rfl (Or.inl rfl)) (zak (zah (i:=1) (by show List.Nodup [("a":Str),("b":Str),("length":Str),("place":Str)];decide +kernel) rfl (Or.inl rfl)) (zak (zah (i:=2) (by show List.Nodup [("a":Str),("b":Str),("length":Str),("place":Str)];decide +kernel) rfl (Or.inl rfl)) zbd))))) (fun _ _ _ _=>(zct (zao zbo (pv 0) (pv 3) (nomark _)))) (fun _ _ _ _=>(pv 1))) (zbv (N:=["web","keep","place","ties"]) (sc0:=defScope s_neighbours) (own:=["a","b","length"]) (fr:=["place"]) (js:=[2]) rfl (zel (pv 3)) (fun _ _ _ _=>(zjd (n:=3) rfl (zak (zah (i:=0) (by show List.Nodup [("a":Str),("b":Str),("length":Str),("place":Str)];decide +kernel) rfl (Or.inl rfl)) (zak (zah (i:=1) (by show List.Nodup [("a":Str),("b":Str),("length":Str),("place":Str)];decide +kernel) rfl (Or.inl rfl)) (zak (zah (i:=2) (by show List.Nodup [("a":Str),("b":Str),("length":Str),("place":Str)];decide +kernel) rfl (Or.inl rfl)) zbd))))) (fun _ _ _ _=>(zct (zao zbo (pv 1) (pv 3) (nomark _)))) (fun _ _ _ _=>(pv 0))))))),?_⟩
 refine⟨_,rfl,kp,rfl,⟨_,SqT.of hkp⟩,?_⟩
 refine zeg hkp (fun σ'=>∃ o,σ'=[o,some (.ref g0)]) (fun i v J=>∃ t k,ks[i]?=some k∧v=.ref t∧J t=some (.tup [.int (tieAt ts k).1,.int (tieAt ts k).2.1,.int (tieAt ts k).2.2])) (by omega) (by exact⟨none,rfl⟩) (fun i v H H' tk ⟨t,k,h0,h1,h2⟩=>⟨t,k,h0,h1,tk _ _ h2⟩) (fun i x σ' H' hx s2 sg C hC=>?_) (fun L ys H2 hL s2 hH hly hys=>?_)
 ·obtain⟨o,rfl⟩:=sg
  obtain⟨k,hk,rfl⟩:=zjn hx
  have hkl:k < ts.length:=ko.2 k (List.mem_of_getElem? hk)
  obtain⟨ta,hta,htie⟩:=zdh hall hkl
  exact⟨_,rfl,g0,_,_,_,rfl,rfl,SqT.of (s2 _ _ hg0),rfl,_,rfl,g,_,_,_,rfl,rfl,SqT.of (s2 _ _ hg),za2 (Int.natCast_nonneg _) hta,hC _ _ _ ⟨_,rfl⟩ (Same.refl _) ⟨ta,k,hk,rfl,s2 _ _ htie⟩⟩
 have half:∀ (J:Hp) (i:Nat) (x:V),Same H2 J->ys[i]?=some x->∃ t k,ks.getD i 0=k∧k < ts.length∧x=.ref t∧J t=some (.tup [.int (tieAt ts k).1,.int (tieAt ts k).2.1,.int (tieAt ts k).2.2]):=fun J i x S hx=>by
  obtain⟨t,k,h0,h1,h2⟩:=hys i x hx
  exact⟨t,k,by rw[List.getD_eq_getElem?_getD,h0];rfl,ko.2 k (List.mem_of_getElem? h0),h1,S _ _ h2⟩
 refine⟨_,rfl,L,rfl,⟨_,SqL.of hH⟩,?_⟩
 refine zda hH (fun σ'=>∃ o1 o2 o3,σ'=[o1,o2,o3,some (.int p)]) (fun i=>(nb1 ts p (ks.getD i 0)).map fun v:Nat=>V.int (v:Int)) (by omega) (by exact⟨none,none,none,rfl⟩) (fun i x σ' H' hx s3 sg C M hC hM=>?_) (fun L3 H3 hL3 s3 hH3=>?_)
 ·obtain⟨o1,o2,o3,rfl⟩:=sg
  obtain⟨t,k,ek,hkl,rfl,ht⟩:=half H' i x s3 hx
  have tk:=ok.tie _ (zaz hkl).2
  refine⟨t,_,rfl,SqT.of ht,rfl,_,_,rfl,_,_,rfl,_,_,rfl,rfl,?_⟩
  refine⟨_,rfl,_,rfl,rfl,_,rfl,?_⟩
  rw[ek] at hC hM
  by_cases z:(tieAt ts k).1=p
  ·rw[decide_eq_true (by rw[z])]
   refine iteT ⟨_,rfl,hC _ _ _ ⟨_,_,_,rfl⟩ (Same.refl _) ?_⟩
   unfold nb1;rw[if_pos z]
   show some (V.int _)=some (V.int _)
   rw[Int.toNat_of_nonneg (by omega)]
  ·rw[decide_eq_false fun e=>z (by injection e)]
   refine iteF (hM _ _ ⟨_,_,_,rfl⟩ (Same.refl _) ?_)
   unfold nb1;rw[if_neg z];rfl
 refine⟨_,rfl,L,rfl,⟨_,SqL.of (s3 _ _ hH)⟩,?_⟩
 refine zda (s3 _ _ hH) (fun σ'=>∃ o1 o2 o3,σ'=[o1,o2,o3,some (.int p)]) (fun i=>(nb2 ts p (ks.getD i 0)).map fun v:Nat=>V.int (v:Int)) (by omega) (by exact⟨none,none,none,rfl⟩) (fun i x σ' H' hx s4 sg C M hC hM=>?_) (fun L4 H4 hL4 s4 hH4=>?_)
 ·obtain⟨o1,o2,o3,rfl⟩:=sg
  obtain⟨t,k,ek,hkl,rfl,ht⟩:=half H' i x (s3.trans s4) hx
  have tk:=ok.tie _ (zaz hkl).2
  refine⟨t,_,rfl,SqT.of ht,rfl,_,_,rfl,_,_,rfl,_,_,rfl,rfl,?_⟩
  refine⟨_,rfl,_,rfl,rfl,_,rfl,?_⟩
  rw[ek] at hC hM
  by_cases z:(tieAt ts k).2.1=p
  ·rw[decide_eq_true (by rw[z])]
   refine iteT ⟨_,rfl,hC _ _ _ ⟨_,_,_,rfl⟩ (Same.refl _) ?_⟩
   unfold nb2;rw[if_pos z]
   show some (V.int _)=some (V.int _)
   rw[Int.toNat_of_nonneg (by omega)]
  ·rw[decide_eq_false fun e=>z (by injection e)]
   refine iteF (hM _ _ ⟨_,_,_,rfl⟩ (Same.refl _) ?_)
   unfold nb2;rw[if_neg z];rfl
 have ly:ys.length=ks.length:=by rw[hly,len]
 rw[ly,zho (fun k=>(nb1 ts p k).map fun v:Nat=>V.int (v:Int)) 0,znj] at hH3
 rw[ly,zho (fun k=>(nb2 ts p k).map fun v:Nat=>V.int (v:Int)) 0,znj] at hH4
 have l1:(natV (ks.filterMap (nb1 ts p))).length≤ks.length:=by unfold natV;rw[List.length_map];exact List.length_filterMap_le _ _
 have l2:(natV (ks.filterMap (nb2 ts p))).length≤ks.length:=by unfold natV;rw[List.length_map];exact List.length_filterMap_le _ _
 refine⟨L3,L4,_,_,rfl,rfl,s4 _ _ hH3,hH4,by omega,fun pp J S fr e=>q pp J (s2.trans (s3.trans (s4.trans S))) ((s2.trans (s3.trans s4)).free fr) ?_⟩
 rw[e];unfold nbN natV;rw[List.map_append]
theorem zff (T:Bi mg) (D:DefOk K mg "tie_between" s_tie_between ["web","a","b"]):Ok P w K mg base 1 "tie_between" ["web","a","b"] (spTB K):=by
 refine zbb (k:=0) D sc_tie_between (fun vs H Q E h=>?_) (fun f cdv A outer s H vs Q E hr h=>?_)
 ·obtain⟨n,ts,wv,u,v,rfl,_⟩:=h
  rfl
 obtain⟨n,ts,wv,u,v,rfl,isw,few60,q⟩:=h
 have nd:=sc_tie_between.nd
 have units:∀ {x:Nat},x≤3->(A.deeper (envOfC "tie_between" (defScope s_tie_between) s.heap.objs.size f cdv)).units + x < cLine:=fun {x} hu=>by have:=hr.units;omega
 obtain⟨g0,g,ws,rfl,hg0,hg,hall,hlw⟩:=za7 isw
 refine⟨_,(zac (zan (i:=3) nd rfl (Or.inl rfl) (zar (zaa (zam (zii rfl) rfl T.z_min (by decide +kernel) (zaa (pv 1) (zaa (pv 2) zab))) (zaa (zam (zij rfl) rfl T.z_max (by decide +kernel) (zaa (pv 1) (zaa (pv 2) zab))) zab)))) (zac (zbn PassesOwn.never rfl (zjc true rfl T.z_enumerate (zaa (zav zbc (pv 0) zad (fun _ _=>rfl)) zab)) (zb0 (n:=2) rfl (zak (zah (i:=4) nd rfl (Or.inl rfl)) (zak (zah (i:=5) nd rfl (Or.inl rfl)) zbd))) (zaf (zbj (zao zna (za9 zbi (pv 5) zbe (zbk zad)) (pv 3) (nomark _)) (zaf (zaq (pv 4))) zaw))) (zaf (zaq zbp)))),?_⟩
 refine⟨_,rfl,_,rfl,_,_,rfl,_,rfl,_,rfl,_,_,rfl,(by show 2≤1000;decide),fun te J1 S1 f1 e1=>?_⟩
 have eMin:(if (v:Int) < (u:Int) then (v:Int) else u)=min (u:Int) v:=by split <;> omega
 have eMax:(if (v:Int) > (u:Int) then (v:Int) else u)=max (u:Int) v:=by split <;> omega
 rw[eMin,eMax] at e1
 refine⟨_,rfl,g0,_,_,_,rfl,rfl,SqT.of (S1 _ _ hg0),rfl,g,rfl,⟨ws,SqX.of (S1 _ _ hg)⟩,?_⟩
 refine⟨fun i m σ J=>m=ts.length - i∧i≤ts.length∧(∃ y4 y5:Option V,σ=[some (.ref g0),some (.int (u:Int)),some (.int (v:Int)),some (.ref te),y4,y5])∧Same J1 J∧∀ k,k < i->isTB ts u v k=false,⟨_,rfl,Nat.zero_le _,⟨none,none,rfl⟩,Same.refl _,fun k hk=>(by omega)⟩,?_⟩
 rintro i m σ J ⟨rfl,hi,⟨y4,y5,rfl⟩,sm,pre⟩
 have sH:=S1.trans sm
 have sq:SqX true K J g ws:=SqX.of (sH _ _ hg)
 by_cases hlt:i < ts.length
 ·refine .inr ⟨⟨ws,ws[i]'(by omega),sq,by simp [show i < ws.length by omega]⟩,fun σ' J'=>∃ m',m' < ts.length - i∧(m'=ts.length - (i + 1)∧i + 1≤ts.length∧(∃ y4 y5:Option V,σ'=[some (.ref g0),some (.int (u:Int)),some (.int (v:Int)),some (.ref te),y4,y5])∧Same J1 J'∧∀ k,k < i + 1->isTB ts u v k=false),fun _ _ h=>h,fun x J' hy=>?_⟩
  obtain⟨T',y,hT,rfl,rfl,ey⟩:=hy
  have hyi:=ey ws sq
  obtain⟨ta,hta,htie⟩:=zdh hall hlt
  rw[hta] at hyi
  cases hyi
  have S2:=zal (o:=.tup [.int (i:Nat),.ref ta]) hT
  have htie':=S2 _ _ (sH _ _ htie)
  refine⟨T',_,rfl,SqT.of zag,rfl,_,_,rfl,_,_,rfl,rfl,?_⟩
  refine⟨_,rfl,_,rfl,ta,_,rfl,htie',fun tc J3 S3 e3=>?_⟩
  have e3':J3 tc=some (.tup (([(tieAt ts i).1,(tieAt ts i).2.1]:List Int).map V.int)):=e3
  have e1':J3 te=some (.tup (([min (u:Int) v,max (u:Int) v]:List Int).map V.int)):=S3 _ _ (S2 _ _ (sm _ _ e1))
  refine⟨_,rfl,.tuple (([(tieAt ts i).1,(tieAt ts i).2.1]:List Int).map .int),.tuple (([min (u:Int) v,max (u:Int) v]:List Int).map .int),⟨tc,_,rfl,e3',IsAll.ints _⟩,⟨te,_,rfl,e1',IsAll.ints _⟩,zed _,zed _,?_,_,rfl,?_⟩
  ·have d1:=zid [(tieAt ts i).1,(tieAt ts i).2.1]
   have d2:PyData.depth (.tuple (([(tieAt ts i).1,(tieAt ts i).2.1]:List Int).map .int))=PyData.depthAll (([(tieAt ts i).1,(tieAt ts i).2.1]:List Int).map .int) + 1:=rfl
   exact units (Nat.le_trans (Nat.min_le_left _ _) (by rw[d2];omega))
  have eq:PyData.eqv (.tuple (([(tieAt ts i).1,(tieAt ts i).2.1]:List Int).map .int)) (.tuple (([min (u:Int) v,max (u:Int) v]:List Int).map .int))=isTB ts u v i:=zo7 _ _ _ _
  rw[eq]
  have SS:=S2.trans S3
  refine ite2 (fun c=>?_) (fun c=>?_)
  ·have et:tbN ts u v=some i:=by
    unfold tbN
    refine List.find?_range_eq_some.mpr ⟨c,List.mem_range.mpr hlt,fun j hj=>?_⟩
    rw[pre j hj];rfl
   have q1:=q J3 (sH.trans SS)
   rw[et] at q1
   exact⟨_,rfl,q1⟩
  ·refine⟨ts.length - (i + 1),by omega,rfl,hlt,⟨_,_,rfl⟩,sm.trans SS,fun k hk=>?_⟩
   by_cases z:k=i
   ·rw[z];exact Bool.eq_false_iff.mpr c
   ·exact pre k (by omega)
 ·have e:i=ts.length:=by omega
  subst e
  refine .inl ⟨⟨ws,sq,by omega⟩,?_⟩
  have et:tbN ts u v=none:=by
   unfold tbN
   refine List.find?_eq_none.mpr fun k hk=>?_
   rw[pre k (List.mem_range.mp hk)];exact Bool.false_ne_true
  have q1:=q J sH
  rw[et] at q1
  exact q1
theorem zfd (T:Bi mg) (D:DefOk K mg "ties_along" s_ties_along ["web","places"]) (O_tie_between:Ok P w K mg base 1 "tie_between" ["web","a","b"] (spTB K)):Ok P w K mg base 2 "ties_along" ["web","places"] (spAlongW K):=by
 refine zbb (k:=1) D sc_ties_along (fun vs H Q E h=>?_) (fun f cdv A outer s H vs Q E hr h=>?_)
 ·obtain⟨n,ts,wv,t,ws,rfl,_⟩:=h
  rfl
 obtain⟨n,ts,wv,t,ws,rfl,isw,few60,ht,l24,lk,q⟩:=h
 have nd:=sc_ties_along.nd
 have lenW:(natV ws).length=ws.length:=by unfold natV;rw[List.length_map]
 have ecut:cutV (natV ws) (some 1) none=natV (ws.drop 1):=by
  unfold cutV
  have h1:HT.sIx (natV ws).length (natV ws).length none=(natV ws).length:=rfl
  rw[h1]
  by_cases z:ws=[]
  ·subst z;rfl
  ·have pos:=List.length_pos_iff.mpr z
   have h0:HT.sIx (natV ws).length 0 (some 1)=1:=by
    unfold HT.sIx
    simp
    omega
   rw[h0,List.take_of_length_le (by rw[List.length_drop];exact Nat.le_refl _)]
   unfold natV
   rw[List.map_drop]
 refine⟨_,(zaf (zaq (zbv (N:=["web","places"]) (sc0:=defScope s_ties_along) (own:=["one","other"]) (fr:=["web"]) (js:=[0]) rfl (zr8 true true rfl T.z_zip (zaa (pv 1) (zaa (za9 zbi (pv 1) (zbk zad) zbe) zab))) (fun _ _ _ _=>(zjd (n:=2) rfl (zak (zah (i:=0) (by show List.Nodup [("one":Str),("other":Str),("web":Str)];decide +kernel) rfl (Or.inl rfl)) (zak (zah (i:=1) (by show List.Nodup [("one":Str),("other":Str),("web":Str)];decide +kernel) rfl (Or.inl rfl)) zbd)))) (fun _ _ _ _=>zcb) (fun _ _ _ _=>(zae O_tie_between hr rfl (zaa (pv 2) (zaa (pv 0) (zaa (pv 1) zab)))))))),?_⟩
 refine⟨_,rfl,_,rfl,_,rfl,t,_,rfl,ht,fun t2 J1 S1 e1=>?_⟩
 rw[ecut] at e1
 refine⟨t,t2,rfl,⟨_,SqX.of (t:=true) (S1 _ _ ht)⟩,⟨_,SqX.of (t:=true) e1⟩,?_⟩
 have lenD:(natV (ws.drop 1)).length=ws.length - 1:=by unfold natV;rw[List.length_map,List.length_drop]
 refine zpt (t1:=true) (t2:=true) (xs:=natV ws) (zs:=natV (ws.drop 1)) (S1 _ _ ht) e1 (fun σ'=>∃ o1 o2,σ'=[o1,o2,some wv]) (fun i x _=>x=V.int (((tbN ts (ws.getD i 0) (ws.getD (i + 1) 0)).getD 0:Nat):Int)) (by omega) (by exact⟨none,none,rfl⟩) (fun _ _ _ _ _ h=>h) (fun i x z U σ' H' hxi hzi s2 hU sg C hC=>?_) (fun L ys H2 hL s2 hH hly hys=>?_)
 ·obtain⟨o1,o2,rfl⟩:=sg
  obtain⟨u,hu,rfl⟩:=zcj hxi
  obtain⟨v,hv,rfl⟩:=zcj hzi
  rw[List.getElem?_drop,Nat.add_comm] at hv
  obtain⟨k,ek,hk⟩:=zck lk hu hv
  have eu:ws.getD i 0=u:=by rw[List.getD_eq_getElem?_getD,hu];rfl
  have ev:ws.getD (i + 1) 0=v:=by rw[List.getD_eq_getElem?_getD,hv];rfl
  refine⟨U,_,rfl,SqT.of zag,rfl,_,_,rfl,_,_,rfl,rfl,?_⟩
  have SU:=zal (o:=.tup [V.int (u:Int),.int (v:Int)]) hU
  refine⟨_,rfl,_,rfl,_,rfl,n,ts,wv,u,v,rfl,Is.same (S1.trans (s2.trans SU)) _ isw,few60,fun H5 s5=>hC _ _ _ ⟨_,_,rfl⟩ (SU.trans s5) ?_⟩
  rw[eu,ev,ek];rfl
 ·refine q L H2 (S1.trans s2) ?_
  rw[hH]
  refine congrArg (fun z=>some (HO.lst z)) (List.ext_getElem? fun i=>?_)
  have hl2:ys.length=ws.length - 1:=by rw[hly,lenW,lenD];omega
  unfold alongN natV
  rw[List.map_map,List.getElem?_map]
  by_cases hi:i < ws.length - 1
  ·have e:ys[i]?=some ys[i]:=List.getElem?_eq_getElem (by omega)
   rw[e,hys i _ e,List.getElem?_range hi];rfl
  ·rw[List.getElem?_eq_none (by omega),List.getElem?_eq_none (by rw[List.length_range];omega)];rfl
def nbW (n:Int) (ts:List Tie):Nat->List Nat:=nbS n (ones ts) (List.range (ones ts).length)
def spShare:Sp:=fun vs H Q _=>∃ d:Int,vs=[.int d]∧1≤d∧∀ H',Same H H'->Q .non H'
theorem zgl (T:Bi mg) (D:DefOk K mg "need_share" s_need_share ["d"]) (O_is_whole:Ok P w K mg base 1 "is_whole" ["thing"] (spD1 K (fun _=>True) wholeB)):Ok P w K mg base 2 "need_share" ["d"] spShare:=by
 refine zbb (k:=1) D sc_need_share (fun vs H Q E h=>?_) (fun f cdv A outer s H vs Q E hr h=>?_)
 ·obtain⟨d,rfl,_⟩:=h
  rfl
 obtain⟨d,rfl,d1,q⟩:=h
 have nd:=sc_need_share.nd
 refine⟨_,(zaf (zbj (PW.pt (zge (zmv (zdu (zae O_is_whole hr rfl (zaa (pv 0) zab)))) (zdt (zao zll (pv 0) zad (nomark _))))) (zaf zkh) zaw)),?_⟩
 refine⟨_,rfl,.int d,.int d,rfl,rfl,trivial,fun H1 s1=>⟨_,rfl,iteF ⟨_,rfl,_,_,rfl,rfl,_,rfl,?_⟩⟩⟩
 rw[decide_eq_false (by omega)]
 exact iteF (q H1 s1)
def spBare (K:PySem.W.Frag):Sp:=fun vs H Q _=>∃ (n:Int) (ts:List Tie) (wv:V) (p:Nat) (g:Addr) (gs:List Nat),vs=[wv,.int (p:Int),.ref g]∧Is K H (webD n (ones ts)) wv∧WebOk n ts∧H g=some (.lst (natV gs))∧∀ l H',Same H H'->H l=none->H' l=some (.lst (natV (bareG (nbW n ts) gs p)))->Q (.ref l) H'
theorem zpz (l gs:List Nat):(List.range l.length).filterMap (fun i=>if (!gs.contains (l.getD i 0))=true then some (V.int ((l.getD i 0:Nat):Int)) else none)=natV (l.filter fun q=>!gs.contains q):=zd9 (fun q=>!gs.contains q) l
theorem zsh {n:Int} {ts:List Tie} {ks:List Nat} (ok:WebOk n ts) (ko:KeepOk ts.length ks) {l:List Nat} {p:Nat} (hl:l.Nodup) (hm:∀ q,q ∈ l↔Adj ts ks p q):l.length < 64:=by
 have:=zc4 (b:=List.range n.toNat) hl fun q hq=>List.mem_range.mpr (zoo ok ko p q ((hm q).mp hq))
 rw[List.length_range] at this
 have:=ok.n24
 omega
theorem zlj (m:Nat):KeepOk m (List.range m):=⟨List.pairwise_lt_range,fun k hk=>List.mem_range.mp hk⟩
theorem zc3 (T:Bi mg) (D:DefOk K mg "bare_neighbours" s_bare_neighbours ["web","place","guarded"]) (O_neighbours:Ok P w K mg base 1 "neighbours" ["web","keep","place"] (spNeigh K)) (O_whole:Ok P w K mg base 1 "whole" ["web"] (spWhole K)):Ok P w K mg base 2 "bare_neighbours" ["web","place","guarded"] (spBare K):=by
 refine zbb (k:=1) D sc_bare_neighbours (fun vs H Q E h=>?_) (fun f cdv A outer s H vs Q E hr h=>?_)
 ·obtain⟨n,ts,wv,p,g,gs,rfl,_⟩:=h
  rfl
 obtain⟨n,ts,wv,p,g,gs,rfl,isw,ok,hg,q⟩:=h
 have nd:=sc_bare_neighbours.nd
 have ok1:=zes ok
 have few1:=ok1.few
 have ko1:=zlj (ones ts).length
 refine⟨_,(zaf (zaq (zbv (N:=["web","place","guarded"]) (sc0:=defScope s_bare_neighbours) (own:=["other"]) (fr:=["guarded"]) (js:=[2]) rfl (zel (zam zdy rfl T.z_sorted (by decide +kernel) (zaa (zae O_neighbours hr rfl (zaa (pv 0) (zaa (zae O_whole hr rfl (zaa (pv 0) zab)) (zaa (pv 1) zab)))) zab))) (fun _ _ _ _=>(zah (i:=0) (by show List.Nodup [("other":Str),("guarded":Str)];decide +kernel) rfl (Or.inl rfl))) (fun _ _ _ _=>(zct (zao zbx (pv 0) (pv 1) (by with_unfolding_all rfl)))) (fun _ _ _ _=>(pv 0))))),?_⟩
 refine⟨_,rfl,_,rfl,n,ones ts,wv,rfl,isw,few1,fun kp J1 S1 f1 e1=>?_⟩
 have isk:Is K J1 (keepD (List.range (ones ts).length)) (.ref kp):=⟨kp,_,rfl,e1,by rw[za8];exact IsAll.ints _⟩
 refine⟨_,rfl,n,ones ts,List.range (ones ts).length,wv,.ref kp,(p:Int),rfl,⟨Is.same S1 _ isw,ok1,isk,ko1⟩,fun l J2 S2 f2 e2=>?_⟩
 have ndl:=znm ok1 ko1 p
 rw[za8] at e2
 have lk:(keepI (nbN (ones ts) (List.range (ones ts).length) (p:Int))).length=(nbN (ones ts) (List.range (ones ts).length) (p:Int)).length:=List.length_map _
 refine⟨l,_,rfl,SqL.of e2,by rw[lk];exact zsh ok1 ko1 ndl (znk ok1 ko1 p),fun ms pm pw l3 f3=>?_⟩
 have em:=zsj ok1 ko1 ndl (znk ok1 ko1 p) pm pw
 have lb:=zjm (n:=n) (ts:=ones ts) (ks:=List.range (ones ts).length) p
 have n24:=ok.n24
 have e3:(upd J2 l3 (.lst (ms.map V.int))) l3=some (.lst (natV (nbW n ts p))):=by
  rw[zag,em,za8];rfl
 have lw:(natV (nbW n ts p)).length=(nbW n ts p).length:=zai _
 have lb':(nbW n ts p).length≤n.toNat:=lb
 have S12:=S1.trans (S2.trans (zal (o:=.lst (ms.map V.int)) f3))
 refine⟨l3,rfl,⟨_,SqL.of e3⟩,?_⟩
 refine zda e3 (fun σ'=>∃ u,σ'=[u,some (.ref g)]) (fun i=>if (!gs.contains ((nbW n ts p).getD i 0))=true then some (V.int (((nbW n ts p).getD i 0:Nat):Int)) else none) (by omega) (by exact⟨none,rfl⟩) (fun i x σ' H' hx s3 sg C M hC hM=>?_) (fun L3 H3 hL3 s3 hH3=>?_)
 ·obtain⟨u,rfl⟩:=sg
  obtain⟨k,hk,rfl⟩:=zcj hx
  have ek:(nbW n ts p).getD i 0=k:=by rw[List.getD_eq_getElem?_getD,hk];rfl
  rw[ek] at hC hM
  refine⟨_,rfl,_,rfl,g,_,rfl,.inl (SqL.of (s3 _ _ (S12 _ _ hg))),rfl,zc9 gs,_,rfl,?_⟩
  show if (!inV (V.int (k:Int)) (natV gs))=true then _ else _
  rw[zgr (Int.natCast_nonneg _),Int.toNat_natCast]
  have ec:decide (k ∈ gs)=gs.contains k:=by rw[List.contains_eq_mem]
  rw[ec]
  exact ite2 (fun c=>⟨_,rfl,hC _ _ _ ⟨_,rfl⟩ (Same.refl _) (by rw[if_pos c])⟩) (fun c=>hM _ _ ⟨_,rfl⟩ (Same.refl _) (by rw[if_neg c]))
 ·rw[lw,zpz] at hH3
  exact q L3 H3 (S12.trans s3) (S12.free hL3) hH3
def pairD (e:Nat × List Nat):PyData:=.tuple [.int (e.1:Int),keepD e.2]
def grdD (l:List (Nat × List Nat)):PyData:=.tuple (l.map pairD)
theorem zhi (l:List (Nat × List Nat)):tupAll (l.map pairD)=true:=by
 induction l with
 | nil=>rfl
 | cons e l ih =>
  show (tupD (pairD e) && tupAll (l.map pairD))=true
  rw[ih,Bool.and_true]
  show (true && (tupD (keepD e.2) && true))=true
  rw[zj7];rfl
theorem zqd {n:Int} {ts:List Tie} (p q:Nat) (h:q ∈ nbW n ts p):q < n.toNat:=List.mem_range.mp (List.mem_filter.mp h).1
theorem zjr {n:Int} {ts:List Tie} {d:Int} {p:Nat} {s:GS} (g:Grd (nbW n ts) d p s):s.1.length≤p∧s.2.length≤n.toNat:=by
 constructor
 ·have:=zc4 (b:=List.range p) g.up fun u hu=>by
   obtain⟨e,he,rfl⟩:=List.mem_map.mp hu
   exact List.mem_range.mpr (g.low e he)
  rw[List.length_map,List.length_range] at this
  exact this
 ·have:=zc4 (b:=List.range n.toNat) g.nd fun u hu=>by
   rw[← g.all] at hu
   obtain⟨e,he,hu⟩:=List.mem_flatMap.mp hu
   exact List.mem_range.mpr (zqd _ _ ((g.sub e he).subset hu))
  rw[List.length_range] at this
  exact this
def spGuards (K:PySem.W.Frag):Sp:=fun vs H Q _=>∃ (n:Int) (ts:List Tie) (wv:V) (d:Int),vs=[wv,.int d]∧Is K H (webD n (ones ts)) wv∧WebOk n ts∧1≤d∧∀ v H',Same H H'->Is K H' (grdD (swG (nbW n ts) d n.toNat).1) v->Q v H'
theorem zhw (T:Bi mg) (D:DefOk K mg "guards_by" s_guards_by ["web","d"]) (O_need_plain:Ok P w K mg base 2 "need_plain" ["web"] (spNeedP K)) (O_need_share:Ok P w K mg base 2 "need_share" ["d"] spShare) (O_bare_neighbours:Ok P w K mg base 2 "bare_neighbours" ["web","place","guarded"] (spBare K)):Ok P w K mg base 3 "guards_by" ["web","d"] (spGuards K):=by
 refine zbb (k:=2) D sc_guards_by (fun vs H Q E h=>?_) (fun f cdv A outer s H vs Q E hr h=>?_)
 ·obtain⟨n,ts,wv,d,rfl,_⟩:=h
  rfl
 obtain⟨n,ts,wv,d,rfl,isw,ok,d1,q⟩:=h
 have nd:=sc_guards_by.nd
 have few60:=ok.few
 have n24:=ok.n24
 have n1:=ok.n1
 refine⟨_,(zac (zbq (zae O_need_plain hr rfl (zaa (pv 0) zab))) (zac (zbq (zae O_need_share hr rfl (zaa (pv 1) zab))) (zac (zan (i:=2) nd rfl (Or.inl rfl) (za5 zab)) (zac (zan (i:=3) nd rfl (Or.inl rfl) (za5 zab)) (zac (zbn PassesOwn.never rfl (zbt rfl T.z_range (zaa (zav zbc (pv 0) zad (fun _ _=>rfl)) zab)) (zah (i:=4) nd rfl (Or.inl rfl)) (zac (zan (i:=5) nd rfl (Or.inl rfl) (zae O_bare_neighbours hr rfl (zaa (pv 0) (zaa (pv 4) (zaa (pv 3) zab))))) (zaf (zbj (zao zse (zam zau rfl T.z_len (by decide +kernel) (zaa (pv 5) zab)) (pv 1) (nomark _)) (zac (zbq (zd0 PySem.F.plainAttrs_list PySem.F.slot_list_append PySem.F.type_list_append zb7 (pv 2) (zaa (zar (zaa (pv 4) (zaa (zas za1 rfl T.z_tuple (by decide +kernel) (zaa (pv 5) zab)) zab))) zab))) (zaf (zbq (zd0 PySem.F.plainAttrs_list PySem.F.slot_list_extend PySem.F.type_list_extend zlp (pv 3) (zaa (pv 5) zab))))) zaw)))) (zaf (zaq (zas za1 rfl T.z_tuple (by decide +kernel) (zaa (pv 2) zab))))))))),?_⟩
 refine⟨_,rfl,n,ts,wv,rfl,isw,few60,fun H1 s1=>?_⟩
 refine⟨_,rfl,d,rfl,d1,fun H2 s2=>?_⟩
 refine⟨(by show 0≤1000;decide),fun lt J1 S1 f1 e1=>⟨(by show 0≤1000;decide),fun lg J2 S2 f2 e2=>?_⟩⟩
 have S02:Same H J2:=s1.trans (s2.trans (S1.trans S2))
 have flt:H lt=none:=(s1.trans s2).free f1
 have flg:H lg=none:=(s1.trans (s2.trans S1)).free f2
 have ntg:lt≠lg:=fun z=>by rw[← z,e1] at f2;cases f2
 obtain⟨g0,g,ws,rfl,hg0,hg,hall,hlw⟩:=za7 isw
 refine⟨_,rfl,g0,_,_,_,rfl,rfl,SqT.of (S02 _ _ hg0),rfl,n,rfl,by omega,by omega,?_⟩
 refine zbu (n:=n.toNat) (fun i σ J=>∃ (y4 y5:Option V) (vs:List V),σ=[some (.ref g0),some (.int d),some (.ref lt),some (.ref lg),y4,y5]∧Same H J∧J lt=some (.lst vs)∧IsAll K J ((swG (nbW n ts) d i).1.map pairD) vs∧J lg=some (.lst (natV (swG (nbW n ts) d i).2))) ⟨none,none,[],rfl,S02,S2 _ _ e1,rfl,e2⟩ (fun i σ J hi h=>?_) (fun σ J h=>?_)
 ·obtain⟨y4,y5,vs,rfl,sm,hlt,hvs,hlg⟩:=h
  have gr:=zhk (N:=nbW n ts) (d:=d) (fun p=>zex p) i
  obtain⟨c1,c2⟩:=zjr gr
  have lv:vs.length=(swG (nbW n ts) d i).1.length:=by rw[hvs.length,List.length_map]
  rw[show (0 + (i:Int))=(i:Int) by omega]
  refine⟨_,rfl,_,rfl,_,rfl,n,ts,_,i,lg,_,rfl,Is.same sm _ isw,ok,hlg,fun b J3 S3 f3 e3=>?_⟩
  refine⟨_,rfl,b,_,rfl,.inl (SqL.of e3),_,rfl,_,_,rfl,rfl,_,rfl,?_⟩
  have lb:(bareG (nbW n ts) (swG (nbW n ts) d i).2 i).length≤n.toNat:=Nat.le_trans (List.length_filter_le _ _) (zjm i)
  rw[zai]
  refine ite2 (fun c=>?_) (fun c=>?_)
  ·have cc:d≤((bareG (nbW n ts) (swG (nbW n ts) d i).2 i).length:Int):=of_decide_eq_true c
   have es:swG (nbW n ts) d (i + 1)=((swG (nbW n ts) d i).1++[(i,bareG (nbW n ts) (swG (nbW n ts) d i).2 i)],(swG (nbW n ts) d i).2++bareG (nbW n ts) (swG (nbW n ts) d i).2 i):=by
    rw[swG,stepG,if_pos cc]
   refine⟨_,rfl,.inl ⟨rfl,_,SqL.of (S3 _ _ hlt)⟩,_,rfl,_,rfl,b,_,rfl,e3,fun tp J4 S4 f4 e4=>⟨(by show 2≤1000;decide),fun tq J5 S5 f5 e5=>?_⟩⟩
   have S35:=S3.trans (S4.trans S5)
   refine⟨lt,_,_,rfl,rfl,S35 _ _ hlt,by omega,fun J6 b6 e6=>?_⟩
   have e3':=S5 _ _ (S4 _ _ e3)
   have bne:b≠lt:=fun z=>by rw[z,hlt] at f3;cases f3
   refine⟨_,rfl,.inl ⟨rfl,_,SqL.of (b6 _ _ (Ne.symm ntg) (S35 _ _ hlg))⟩,_,rfl,lg,b,_,_,rfl,rfl,b6 _ _ (Ne.symm ntg) (S35 _ _ hlg),b6 _ _ bne e3',by rw[zai,zai];omega,fun J7 b7 e7=>?_⟩
   rw[es]
   have hnew:Is K J5 (pairD (i,bareG (nbW n ts) (swG (nbW n ts) d i).2 i)) (.ref tq):=by
    refine⟨tq,_,rfl,e5,_,_,rfl,rfl,_,_,rfl,⟨tp,_,rfl,S5 _ _ e4,?_⟩,rfl⟩
    rw[za8];exact IsAll.ints _
   have hvs5:=IsAll.snoc hnew (IsAll.same S35 _ hvs)
   have tu:tupAll ((swG (nbW n ts) d i).1.map pairD++[pairD (i,bareG (nbW n ts) (swG (nbW n ts) d i).2 i)])=true:=by
    have:=zhi ((swG (nbW n ts) d i).1++[(i,bareG (nbW n ts) (swG (nbW n ts) d i).2 i)])
    rw[List.map_append] at this;exact this
   have hvs6:=IsAll.but b6 (S35 _ _ hlt) _ tu hvs5
   have hvs7:=IsAll.but b7 (b6 _ _ (Ne.symm ntg) (S35 _ _ hlg)) _ tu hvs6
   refine⟨_,_,vs++[.ref tq],rfl,fun a o e=>b7 _ _ (zaj e flg) (b6 _ _ (zaj e flt) (S35 _ _ (sm _ _ e))),b7 _ _ ntg e6,?_,?_⟩
   ·show IsAll K J7 (((swG (nbW n ts) d i).1++[(i,bareG (nbW n ts) (swG (nbW n ts) d i).2 i)]).map pairD) _
    rw[List.map_append];exact hvs7
   ·rw[e7];unfold natV;rw[List.map_append]
  ·have cc:¬ d≤((bareG (nbW n ts) (swG (nbW n ts) d i).2 i).length:Int):=fun z=>c (decide_eq_true z)
   have es:swG (nbW n ts) d (i + 1)=swG (nbW n ts) d i:=by rw[swG,stepG,if_neg cc]
   rw[es]
   exact⟨_,_,vs,rfl,sm.trans S3,S3 _ _ hlt,IsAll.same S3 _ hvs,S3 _ _ hlg⟩
 ·obtain⟨y4,y5,vs,rfl,sm,hlt,hvs,hlg⟩:=h
  exact⟨_,rfl,lt,_,rfl,hlt,fun tt J8 S8 f8 e8=>q _ J8 (sm.trans S8) ⟨tt,_,rfl,e8,IsAll.same S8 _ hvs⟩⟩
def spAllG (K:PySem.W.Frag):Sp:=fun vs H Q _=>∃ (v:V) (l:List (Nat × List Nat)),vs=[v]∧Is K H (grdD l) v∧(l.flatMap (·.2)).length≤1000∧∀ b H',Same H H'->H b=none->H' b=some (.lst (natV (l.flatMap (·.2))))->Q (.ref b) H'
theorem zdk {K:PySem.W.Frag} {H:Hp} {e:Nat × List Nat} {v:V} (h:Is K H (pairD e) v):∃ t tp:Addr,v=.ref t∧H t=some (.tup [.int (e.1:Int),.ref tp])∧H tp=some (.tup (natV e.2)):=by
 obtain⟨t,vs,rfl,ht,v1,r1,rfl,h1,v2,r2,rfl,⟨tp,zs,rfl,htp,hzs⟩,h3⟩:=h
 obtain rfl:v1=.int (e.1:Int):=h1
 obtain rfl:r2=[]:=h3
 rw[IsAll.of_ints hzs,← za8] at htp
 exact⟨t,tp,rfl,ht,htp⟩
theorem zfg (T:Bi mg) (D:DefOk K mg "all_guarded" s_all_guarded ["told"]):Ok P w K mg base 1 "all_guarded" ["told"] (spAllG K):=by
 refine zbb (k:=0) D sc_all_guarded (fun vs H Q E h=>?_) (fun f cdv A outer s H vs Q E hr h=>?_)
 ·obtain⟨v,l,rfl,_⟩:=h
  rfl
 obtain⟨v,l,rfl,isv,few,q⟩:=h
 have nd:=sc_all_guarded.nd
 obtain⟨t,xs,rfl,ht,hxs⟩:=isv
 have lx:xs.length=l.length:=by rw[hxs.length,List.length_map]
 refine⟨_,(zac (zan (i:=1) nd rfl (Or.inl rfl) (za5 zab)) (zac (zbn PassesOwn.never rfl (zbw (pv 0)) (zb0 (n:=2) rfl (zak (zah (i:=2) nd rfl (Or.inl rfl)) (zak (zah (i:=3) nd rfl (Or.inl rfl)) zbd))) (zaf (zbq (zd0 PySem.F.plainAttrs_list PySem.F.slot_list_extend PySem.F.type_list_extend zlo (pv 1) (zaa (pv 3) zab))))) (zaf (zaq (pv 1))))),?_⟩
 refine⟨(by show 0≤1000;decide),fun b J1 S1 f1 e1=>?_⟩
 refine⟨_,rfl,t,rfl,⟨_,SqT.of (S1 _ _ ht)⟩,?_⟩
 refine zn1 (t:=true) (xs:=xs) (fun i σ J=>∃ (y2 y3:Option V),σ=[some (.ref t),some (.ref b),y2,y3]∧Same H J∧J b=some (.lst (natV ((l.take i).flatMap (·.2))))) ⟨none,none,rfl,S1,e1⟩ (fun i σ J _ h=>?_) (fun i x σ J hx h=>?_) (fun σ J h=>?_)
 ·obtain⟨y2,y3,rfl,sm,_⟩:=h
  exact SqX.of (t:=true) (sm _ _ ht)
 ·obtain⟨y2,y3,rfl,sm,hb⟩:=h
  have hi:i < l.length:=by have:=(List.getElem?_eq_some_iff.mp hx).1;omega
  have el:l[i]?=some l[i]:=List.getElem?_eq_getElem hi
  obtain⟨x',ex,ix⟩:=hxs.at_ (show (l.map pairD)[i]?=some (pairD l[i]) by rw[List.getElem?_map,el];rfl)
  rw[hx] at ex
  cases ex
  obtain⟨tt,tp,rfl,htt,htp⟩:=zdk ix
  refine⟨tt,_,rfl,SqT.of (sm _ _ htt),rfl,_,_,rfl,_,_,rfl,rfl,?_⟩
  have tn:(l.take (i + 1)).flatMap (·.2)=(l.take i).flatMap (·.2)++l[i].2:=by
   rw[List.take_add_one,el,List.flatMap_append];simp
  have le:((l.take (i + 1)).flatMap (·.2)).length≤(l.flatMap (·.2)).length:=by
   conv=>rhs;rw[← List.take_append_drop (i + 1) l,List.flatMap_append,List.length_append]
   omega
  rw[tn,List.length_append] at le
  refine⟨_,rfl,.inl ⟨rfl,_,SqL.of hb⟩,_,rfl,b,tp,_,_,rfl,rfl,hb,sm _ _ htp,by rw[zai,zai];omega,fun J2 b2 e2=>?_⟩
  refine⟨_,_,rfl,fun a o e=>b2 _ _ (zaj e f1) (sm _ _ e),?_⟩
  rw[e2,tn];unfold natV;rw[List.map_append]
 ·obtain⟨y2,y3,rfl,sm,hb⟩:=h
  rw[lx,List.take_length] at hb
  exact⟨_,rfl,q b J sm f1 hb⟩
def bareB (ts:List Tie) (G:List Nat) (k:Nat):Bool:=!decide ((tieAt ts k).1.toNat ∈ G) || !decide ((tieAt ts k).2.1.toNat ∈ G)
def btK (ts:List Tie) (G:List Nat):List Nat:=(List.range ts.length).filter (bareB ts G)
def spBT (K:PySem.W.Frag):Sp:=fun vs H Q _=>∃ (n:Int) (ts:List Tie) (wv gv:V) (l:List (Nat × List Nat)),vs=[wv,gv]∧Is K H (webD n ts) wv∧WebOk n ts∧Is K H (grdD l) gv∧(l.flatMap (·.2)).length≤1000∧∀ b H',Same H H'->H b=none->H' b=some (.lst (natV (btK ts (l.flatMap (·.2)))))->Q (.ref b) H'
theorem zh0 (T:Bi mg) (D:DefOk K mg "bare_ties" s_bare_ties ["web","told"]) (O_all_guarded:Ok P w K mg base 1 "all_guarded" ["told"] (spAllG K)) (O_whole:Ok P w K mg base 1 "whole" ["web"] (spWhole K)):Ok P w K mg base 2 "bare_ties" ["web","told"] (spBT K):=by
 refine zbb (k:=1) D sc_bare_ties (fun vs H Q E h=>?_) (fun f cdv A outer s H vs Q E hr h=>?_)
 ·obtain⟨n,ts,wv,gv,l,rfl,_⟩:=h
  rfl
 obtain⟨n,ts,wv,gv,l,rfl,isw,ok,isg,few,q⟩:=h
 have nd:=sc_bare_ties.nd
 have few60:=ok.few
 refine⟨_,(zac (zan (i:=2) nd rfl (Or.inr rfl) (zae O_all_guarded hr rfl (zaa (pv 1) zab))) (zaf (zaq (zbv (N:=["web","told","guarded"]) (sc0:=defScope s_bare_ties) (own:=["tie"]) (fr:=["web","guarded"]) (js:=[0,2]) rfl (zbw (zae O_whole hr rfl (zaa (pv 0) zab))) (fun _ _ _ _=>(zah (i:=0) (by show List.Nodup [("tie":Str),("web":Str),("guarded":Str)];decide +kernel) rfl (Or.inl rfl))) (fun _ _ _ _=>(zct (PW.pt (zge (zao zbx (zav zb2 (zav zb2 (zav zb2 (pv 1) zad (fun _ _=>rfl)) (pv 0) (fun _ _=>rfl)) zad (fun _ _=>rfl)) (pv 2) (by with_unfolding_all rfl)) (zdt (zao zbx (zav zb2 (zav zb2 (zav zb2 (pv 1) zad (fun _ _=>rfl)) (pv 0) (fun _ _=>rfl)) zad (fun _ _=>rfl)) (pv 2) (by with_unfolding_all rfl))))))) (fun _ _ _ _=>(pv 0)))))),?_⟩
 refine⟨_,rfl,gv,l,rfl,isg,few,fun lg J1 S1 f1 e1=>?_⟩
 obtain⟨G,eG⟩:∃ G,G=l.flatMap (·.2):=⟨_,rfl⟩
 rw[← eG] at e1 q
 refine⟨_,rfl,n,ts,wv,rfl,Is.same S1 _ isw,few60,fun lk J2 S2 f2 e2=>?_⟩
 obtain⟨g0,gg,ws,rfl,hg0,hg,hall,hlw⟩:=za7 isw
 have S12:=S1.trans S2
 refine⟨lk,rfl,⟨_,SqT.of e2⟩,?_⟩
 refine ze6 e2 (fun σ'=>∃ o,σ'=[o,some (.ref g0),some (.ref lg)]) (fun i=>if bareB ts G ((List.range ts.length).getD i 0)=true then some (V.int (((List.range ts.length).getD i 0:Nat):Int)) else none) (by rw[zai,List.length_range];omega) (by exact⟨none,rfl⟩) (fun i x σ' H' hx s2 sg C L hC hL=>?_) (fun L J4 hL S4 hH=>?_)
 ·obtain⟨o,rfl⟩:=sg
  obtain⟨k,hk,rfl⟩:=zcj hx
  have ek:(List.range ts.length).getD i 0=k:=by rw[List.getD_eq_getElem?_getD,hk];rfl
  have hkl:k < ts.length:=List.mem_range.mp (List.mem_of_getElem? hk)
  rw[ek] at hC hL
  obtain⟨ta,hta,htie⟩:=zdh hall hkl
  have tk:=ok.tie _ (zaz hkl).2
  have s3:=S12.trans s2
  have hlg:=s2 _ _ (S2 _ _ e1)
  refine⟨_,rfl,g0,_,_,_,rfl,rfl,SqT.of (s3 _ _ hg0),rfl,_,rfl,gg,_,_,_,rfl,rfl,SqT.of (s3 _ _ hg),za2 (Int.natCast_nonneg _) hta,ta,_,_,_,rfl,rfl,SqT.of (s3 _ _ htie),rfl,_,rfl,lg,_,rfl,.inl (SqL.of hlg),rfl,zc9 _,_,rfl,?_⟩
  show if (!inV (V.int (tieAt ts k).1) (natV G))=true then _ else _
  rw[zgr tk.1]
  cases d1:decide ((tieAt ts k).1.toNat ∈ G) with
  | false=>exact iteT ⟨_,rfl,hC _ _ _ ⟨_,rfl⟩ (Same.refl _) (by rw[if_pos (by unfold bareB;rw[d1];rfl)])⟩
  | true =>
   refine iteF ⟨_,rfl,g0,_,_,_,rfl,rfl,SqT.of (s3 _ _ hg0),rfl,_,rfl,gg,_,_,_,rfl,rfl,SqT.of (s3 _ _ hg),za2 (Int.natCast_nonneg _) hta,ta,_,_,_,rfl,rfl,SqT.of (s3 _ _ htie),rfl,_,rfl,lg,_,rfl,.inl (SqL.of hlg),rfl,zc9 _,_,rfl,?_⟩
   show if (!inV (V.int (tieAt ts k).2.1) (natV G))=true then _ else _
   rw[zgr (show 0≤(tieAt ts k).2.1 by omega)]
   cases d2:decide ((tieAt ts k).2.1.toNat ∈ G) with
   | false=>exact iteT ⟨_,rfl,hC _ _ _ ⟨_,rfl⟩ (Same.refl _) (by rw[if_pos (by unfold bareB;rw[d1,d2];rfl)])⟩
   | true=>exact iteF (hL _ _ ⟨_,rfl⟩ (Same.refl _) (by rw[if_neg (by unfold bareB;rw[d1,d2];decide)]))
 rw[zai,zd9 (bareB ts G) (List.range ts.length)] at hH
 exact q L J4 (S12.trans S4) (S12.free hL) hH
def tbL (ts:List Tie) (e:Nat × List Nat):List Nat:=e.2.map fun p=>(tbN ts e.1 p).getD 0
def kfL (ts:List Tie) (l:List (Nat × List Nat)):List Nat:=btK ts (l.flatMap (·.2))++l.flatMap (tbL ts)
def kfK (ts:List Tie) (l:List (Nat × List Nat)):List Nat:=(List.range ts.length).filter fun k=>decide (k ∈ kfL ts l)
theorem zns (ts:List Tie) (l:List (Nat × List Nat)):KeepOk ts.length (kfK ts l):=⟨List.Pairwise.filter _ List.pairwise_lt_range,fun k hk=>List.mem_range.mp (List.mem_filter.mp hk).1⟩
/-- guards of a web: each place that is guarded is tied to its guard -/
def GdsW (n:Int) (ts:List Tie) (l:List (Nat × List Nat)):Prop:=l.length≤24∧(l.flatMap (·.2)).length≤24∧∀ e ∈ l,e.1 < n.toNat∧∀ p ∈ e.2,p < n.toNat∧∃ k,tbN ts e.1 p=some k∧k < ts.length
def spKF (K:PySem.W.Frag):Sp:=fun vs H Q _=>∃ (n:Int) (ts:List Tie) (wv gv:V) (l:List (Nat × List Nat)),vs=[wv,gv]∧Is K H (webD n ts) wv∧WebOk n ts∧Is K H (grdD l) gv∧GdsW n ts l∧∀ t H',Same H H'->H' t=some (.tup (natV (kfK ts l)))->Q (.ref t) H'
theorem zd3 (T:Bi mg) (D:DefOk K mg "kept_at_first" s_kept_at_first ["web","guards"]) (O_bare_ties:Ok P w K mg base 2 "bare_ties" ["web","told"] (spBT K)) (O_tie_between:Ok P w K mg base 2 "tie_between" ["web","a","b"] (spTB K)):Ok P w K mg base 3 "kept_at_first" ["web","guards"] (spKF K):=by
 refine zbb (k:=2) D sc_kept_at_first (fun vs H Q E h=>?_) (fun f cdv A outer s H vs Q E hr h=>?_)
 ·obtain⟨n,ts,wv,gv,l,rfl,_⟩:=h
  rfl
 obtain⟨n,ts,wv,gv,l,rfl,isw,ok,isg,gd,q⟩:=h
 have nd:=sc_kept_at_first.nd
 have few60:=ok.few
 obtain⟨gl,gf,ge⟩:=gd
 refine⟨_,(zac (zan (i:=2) nd rfl (Or.inl rfl) (zae O_bare_ties hr rfl (zaa (pv 0) (zaa (pv 1) zab)))) (zac (zbn PassesOwn.never rfl (zbw (pv 1)) (zb0 (n:=2) rfl (zak (zah (i:=3) nd rfl (Or.inr rfl)) (zak (zah (i:=4) nd rfl (Or.inl rfl)) zbd))) (zaf (zbq (zd0 PySem.F.plainAttrs_list PySem.F.slot_list_extend PySem.F.type_list_extend zf2 (pv 2) (zaa (zbv (N:=["web","guards","ties","guard","places"]) (sc0:=defScope s_kept_at_first) (own:=["place"]) (fr:=["web","guard"]) (js:=[0,3]) rfl (zbw (pv 4)) (fun _ _ _ _=>(zah (i:=0) (by show List.Nodup [("place":Str),("web":Str),("guard":Str)];decide +kernel) rfl (Or.inl rfl))) (fun _ _ _ _=>zcb) (fun _ _ _ _=>(zae O_tie_between hr rfl (zaa (pv 1) (zaa (pv 2) (zaa (pv 0) zab)))))) zab))))) (zaf (zaq (zas za1 rfl T.z_tuple (by decide +kernel) (zaa (zam (zih rfl) rfl T.z_sorted (by decide +kernel) (zaa (zas (zlx rfl) rfl T.z_set (by decide +kernel) (zaa (pv 2) zab)) zab)) zab)))))),?_⟩
 refine⟨_,rfl,_,rfl,n,ts,wv,gv,l,rfl,isw,ok,isg,by omega,fun b J1 S1 f1 e1=>?_⟩
 obtain⟨t,xs,rfl,ht,hxs⟩:=isg
 have lx:xs.length=l.length:=by rw[hxs.length,List.length_map]
 obtain⟨B0,eB0⟩:∃ B0,B0=btK ts (l.flatMap (·.2)):=⟨_,rfl⟩
 rw[← eB0] at e1
 have lB0:B0.length≤60:=by
  rw[eB0];unfold btK
  have:=List.length_filter_le (bareB ts (l.flatMap (·.2))) (List.range ts.length)
  rw[List.length_range] at this;omega
 have ltb:∀ m:List (Nat × List Nat),(m.flatMap (tbL ts)).length=(m.flatMap (·.2)).length:=fun m=>by
  rw[List.length_flatMap,List.length_flatMap]
  congr 1
  exact List.map_congr_left fun e _=>by unfold tbL;rw[List.length_map]
 refine⟨_,rfl,t,rfl,⟨_,SqT.of (S1 _ _ ht)⟩,?_⟩
 refine zn1 (t:=true) (xs:=xs) (fun i σ J=>∃ (y3 y4:Option V),σ=[some wv,some (.ref t),some (.ref b),y3,y4]∧But b J1 J∧J b=some (.lst (natV (B0++(l.take i).flatMap (tbL ts))))) ⟨none,none,rfl,But.refl,by rw[e1,List.take_zero];simp⟩ (fun i σ J _ h=>?_) (fun i x σ J hx h=>?_) (fun σ J h=>?_)
 ·obtain⟨y3,y4,rfl,bt,_⟩:=h
  exact SqX.of (t:=true) (bt _ _ (zaj ht f1) (S1 _ _ ht))
 ·obtain⟨y3,y4,rfl,bt,hb⟩:=h
  have sm:Same H J:=fun c o e=>bt _ _ (zaj e f1) (S1 _ _ e)
  have hi:i < l.length:=by have:=(List.getElem?_eq_some_iff.mp hx).1;omega
  have el:l[i]?=some l[i]:=List.getElem?_eq_getElem hi
  obtain⟨x',ex,ix⟩:=hxs.at_ (show (l.map pairD)[i]?=some (pairD l[i]) by rw[List.getElem?_map,el];rfl)
  rw[hx] at ex
  cases ex
  obtain⟨tt,tp,rfl,htt,htp⟩:=zdk ix
  obtain⟨e,ee⟩:∃ e,e=l[i]:=⟨_,rfl⟩
  rw[← ee] at htt htp el
  obtain⟨g1,gp⟩:=ge e (List.mem_of_getElem? el)
  have tn:(l.take (i + 1)).flatMap (tbL ts)=(l.take i).flatMap (tbL ts)++tbL ts e:=by
   rw[List.take_add_one,el,List.flatMap_append];simp
  have tn2:(l.take (i + 1)).flatMap (·.2)=(l.take i).flatMap (·.2)++e.2:=by
   rw[List.take_add_one,el,List.flatMap_append];simp
  have le:((l.take (i + 1)).flatMap (·.2)).length≤(l.flatMap (·.2)).length:=by
   conv=>rhs;rw[← List.take_append_drop (i + 1) l,List.flatMap_append,List.length_append]
   omega
  rw[tn2,List.length_append] at le
  have le2:e.2.length≤24:=by omega
  have le3:((l.take i).flatMap (tbL ts)).length≤24:=by rw[ltb];omega
  refine⟨tt,_,rfl,SqT.of (sm _ _ htt),rfl,_,_,rfl,_,_,rfl,rfl,?_⟩
  refine⟨_,rfl,.inl ⟨rfl,_,SqL.of hb⟩,_,rfl,tp,rfl,⟨_,SqT.of (sm _ _ htp)⟩,?_⟩
  refine zeg (sm _ _ htp) (fun σ'=>∃ o,σ'=[o,some wv,some (.int (e.1:Int))]) (fun j v _=>v=.int (((tbL ts e).getD j 0:Nat):Int)) (by rw[zai];omega) (by exact⟨none,rfl⟩) (fun _ _ _ _ _ h=>h) (fun j x σ' H' hx s2 sg C hC=>?_) (fun L ys J2 hL S2 hH hly hys=>?_)
  ·obtain⟨o,rfl⟩:=sg
   obtain⟨p,hp,rfl⟩:=zcj hx
   obtain⟨pn,k,ek,hk⟩:=gp p (List.mem_of_getElem? hp)
   refine⟨_,rfl,_,rfl,_,rfl,n,ts,wv,e.1,p,rfl,Is.same (sm.trans s2) _ isw,few60,fun H5 S5=>?_⟩
   rw[ek]
   refine hC _ _ _ ⟨_,rfl⟩ S5 ?_
   unfold tbL
   rw[List.getD_eq_getElem?_getD,List.getElem?_map,hp]
   show V.int (k:Int)=V.int (((tbN ts e.1 p).getD 0:Nat):Int)
   rw[ek];rfl
  rw[zai] at hly
  have lt:(tbL ts e).length=e.2.length:=by unfold tbL;rw[List.length_map]
  have eys:ys=natV (tbL ts e):=by
   refine List.ext_getElem? fun j=>?_
   by_cases hj:j < e.2.length
   ·have e1:ys[j]?=some ys[j]:=List.getElem?_eq_getElem (by omega)
    rw[e1,hys j _ e1]
    unfold natV
    rw[List.getElem?_map,List.getElem?_eq_getElem (by omega),List.getD_eq_getElem?_getD,List.getElem?_eq_getElem (by omega)]
    rfl
   ·rw[List.getElem?_eq_none (by omega),List.getElem?_eq_none (by rw[zai];omega)]
  rw[eys] at hH
  refine⟨b,L,_,_,rfl,rfl,S2 _ _ hb,hH,by rw[zai,zai,List.length_append];omega,fun J3 b3 e3=>⟨_,_,rfl,fun c o z e=>b3 _ _ z (S2 _ _ (bt _ _ z e)),?_⟩⟩
  rw[e3,tn,← zey,List.append_assoc]
 ·obtain⟨y3,y4,rfl,bt,hb⟩:=h
  rw[lx,List.take_length] at hb
  have sm:Same H J:=fun c o e=>bt _ _ (zaj e f1) (S1 _ _ e)
  obtain⟨fu,efu⟩:∃ fu,fu=B0++l.flatMap (tbL ts):=⟨_,rfl⟩
  have lfu:fu.length≤84:=by rw[efu,List.length_append,ltb];omega
  rw[← efu] at hb
  have ekf:fu=kfL ts l:=by rw[efu,eB0];rfl
  have inl:∀ k ∈ fu,k < ts.length:=fun k hk=>by
   rw[efu] at hk
   rcases List.mem_append.mp hk with z | z
   ·rw[eB0] at z;exact List.mem_range.mp (List.mem_filter.mp z).1
   ·obtain⟨e,he,z⟩:=List.mem_flatMap.mp z
    obtain⟨p,hp,rfl⟩:=List.mem_map.mp z
    obtain⟨_,k,ek,hk⟩:=(ge e he).2 p hp
    rw[ek];exact hk
  have mfu:∀ k,k ∈ kfK ts l↔k ∈ fu:=fun k=>by
   unfold kfK
   rw[List.mem_filter,List.mem_range,decide_eq_true_iff,← ekf]
   exact⟨fun z=>z.2,fun z=>⟨inl k z,z⟩⟩
  have few:=zo2 (ns:=keepI fu) (m:=60) fun x hx=>by
   obtain⟨c,hc,rfl⟩:=List.mem_map.mp hx
   have:=inl c hc
   omega
  rw[za8] at hb
  refine⟨_,rfl,b,keepI fu,rfl,hb,by unfold keepI;rw[List.length_map];omega,fun q1 J2 S2 f2 e2=>⟨q1,_,_,rfl,e2,by omega,fun ms m1 m2 m3 l3 J3 S3 f3 e3=>⟨l3,_,rfl,e3,fun t J4 S4 f4 e4=>?_⟩⟩⟩
  rw[zi9 m1 m2 m3 (zns ts l).1 mfu] at e4
  exact q t J4 (sm.trans (S2.trans (S3.trans S4))) e4
def wantB:Option Int->Option Int->Bool
 | none,_=>false
 | some _,none=>true
 | some x,some y=>decide (y - x > 6)
def spWant:Sp:=fun vs H Q _=>∃ o1 o2,vs=[ov o1,ov o2]∧Q (.bl (wantB o1 o2)) H
theorem zhv (T:Bi mg) (D:DefOk K mg "is_wanted" s_is_wanted ["near","kept"]):Ok P w K mg base 1 "is_wanted" ["near","kept"] spWant:=by
 refine zbb (k:=0) D sc_is_wanted (fun vs H Q E h=>?_) (fun f cdv A outer s H vs Q E hr h=>?_)
 ·obtain⟨o1,o2,rfl,_⟩:=h
  rfl
 obtain⟨o1,o2,rfl,q⟩:=h
 have nd:=sc_is_wanted.nd
 refine⟨_,(zaf (zaq (zeo (za3 zjf (pv 0) zbp (nomark _)) (zcg (zm2 (za3 zer (pv 1) zbp (nomark _)) (zcg (za3 zm9 (zat zc2 (pv 1) (pv 0)) zad (nomark _)))))))),?_⟩
 cases o1 with
 | none=>exact⟨_,rfl,rfl,_,rfl,iteF q⟩
 | some x =>
  cases o2 with
  | none=>exact⟨_,rfl,rfl,_,rfl,iteT ⟨_,rfl,rfl,_,rfl,iteT q⟩⟩
  | some y=>exact⟨_,rfl,rfl,_,rfl,iteT ⟨_,rfl,rfl,_,rfl,iteF ⟨_,rfl,_,rfl,_,_,rfl,rfl,_,_,rfl,rfl,q⟩⟩⟩
theorem zn3 {n v:Nat} {p:Nat->Bool} (hv:v < n) (h:∀ w,w < v->p w=false) (hp:p v=true):(List.range n).find? p=some v:=by
 rw[List.find?_eq_some_iff_getElem]
 refine⟨hp,v,by rw[List.length_range];exact hv,List.getElem_range _,fun j hj=>?_⟩
 rw[List.getElem_range,h j hj];rfl
noncomputable def fwB (ts:List Tie) (ks:List Nat) (u v:Nat):Bool:=decide (u < v) && wantB (dstF ts (List.range ts.length) u v) (dstF ts ks u v)
noncomputable def fwF (n:Int) (ts:List Tie) (ks:List Nat) (u:Nat):Option Nat:=(List.range n.toNat).find? (fwB ts ks u)
def spFW (K:PySem.W.Frag):Sp:=fun vs H Q _=>∃ (n:Int) (ts:List Tie) (ks:List Nat) (wv kv:V) (u:Nat),vs=[wv,kv,.int (u:Int)]∧WK K H n (ones ts) ks wv kv∧WebOk n ts∧u < n.toNat∧∀ H',Same H H'->Q (oa (fwF n ts ks u)) H'
theorem zet (T:Bi mg) (D:DefOk K mg "first_wanted" s_first_wanted ["web","keep","u"]) (O_fars_from:Ok P w K mg base 3 "fars_from" ["web","keep","root"] (spFars K)) (O_whole:Ok P w K mg base 3 "whole" ["web"] (spWhole K)) (O_is_wanted:Ok P w K mg base 3 "is_wanted" ["near","kept"] spWant):Ok P w K mg base 4 "first_wanted" ["web","keep","u"] (spFW K):=by
 refine zbb (k:=3) D sc_first_wanted (fun vs H Q E h=>?_) (fun f cdv A outer s H vs Q E hr h=>?_)
 ·obtain⟨n,ts,ks,wv,kv,u,rfl,_⟩:=h
  rfl
 obtain⟨n,ts,ks,wv,kv,u,rfl,wk,ok,hu,q⟩:=h
 have nd:=sc_first_wanted.nd
 have few60:=ok.few
 have n24:=ok.n24
 have ko:KeepOk ts.length ks:=by have:=wk.2.2.2;rw[za4] at this;exact this
 obtain⟨g0,gg,ws,rfl,hg0,hg,hall,hlw⟩:=za7 wk.1
 refine⟨_,(zac (zan (i:=3) nd rfl (Or.inl rfl) (zae O_fars_from hr rfl (zaa (pv 0) (zaa (zae O_whole hr rfl (zaa (pv 0) zab)) (zaa (pv 2) zab))))) (zac (zan (i:=4) nd rfl (Or.inl rfl) (zae O_fars_from hr rfl (zaa (pv 0) (zaa (pv 1) (zaa (pv 2) zab))))) (zac (zbn PassesOwn.never rfl (zhp rfl T.z_range (zaa (zat zbl (pv 2) zad) (zaa (zav zbc (pv 0) zad (fun _ _=>rfl)) zab))) (zah (i:=5) nd rfl (Or.inl rfl)) (zaf (zbj (zdu (zae O_is_wanted hr rfl (zaa (zav zay (pv 3) (pv 5) (fun _ _=>rfl)) (zaa (zav zay (pv 4) (pv 5) (fun _ _=>rfl)) zab)))) (zaf (zaq (pv 5))) zaw))) (zaf (zaq zbp))))),?_⟩
 refine⟨_,rfl,_,rfl,n,ones ts,_,rfl,wk.1,by rw[za4];exact few60,fun lk J2 S2 f2 e2=>?_⟩
 rw[za4] at e2
 refine⟨_,rfl,n,ones ts,List.range ts.length,_,.ref lk,(u:Int),rfl,⟨Is.same S2 _ wk.1,wk.2.1,zc7 e2,by rw[za4];exact zbg ts⟩,by omega,by omega,fun ln D1 J3 S3 f3 e3 lD1 hD1=>?_⟩
 refine⟨_,rfl,_,rfl,_,rfl,n,ones ts,ks,_,kv,(u:Int),rfl,wk.same (S2.trans S3),by omega,by omega,fun lk2 D2 J4 S4 f4 e4 lD2 hD2=>?_⟩
 rw[Int.toNat_natCast] at hD1 hD2
 have ed1:=zjt (zbg ts) lD1 hD1
 have ed2:=zjt ko lD2 hD2
 subst ed1
 subst ed2
 have S24:=S2.trans (S3.trans S4)
 refine⟨_,rfl,_,_,rfl,rfl,_,rfl,g0,_,_,_,rfl,rfl,SqT.of (S24 _ _ hg0),rfl,_,_,rfl,⟨by omega,by omega,by omega,by omega⟩,?_⟩
 have low:∀ v,v≤u->fwB ts ks u v=false:=fun v hv=>by unfold fwB;rw[decide_eq_false (by omega)];rfl
 refine zbu (n:=(n - ((u:Int) + 1)).toNat) (fun j σ J'=>∃ y5:Option V,σ=[some (.ref g0),some kv,some (.int (u:Int)),some (.ref ln),some (.ref lk2),y5]∧Same J4 J'∧∀ v,v < u + 1 + j->fwB ts ks u v=false) ⟨_,rfl,Same.refl _,fun v hv=>low v (by omega)⟩ (fun j σ J' hj h=>?_) (fun σ J' h=>?_)
 ·obtain⟨y5,rfl,sm,hb⟩:=h
  obtain⟨v,ev⟩:∃ v,v=u + 1 + j:=⟨_,rfl⟩
  have evI:(u:Int) + 1 + (j:Int)=(v:Int):=by omega
  rw[evI]
  have hv:v < n.toNat:=by omega
  have at1:atI ((dstL n ts (List.range ts.length) u).map ov) (v:Int)=some (ov (dstF ts (List.range ts.length) u v)):=za2 (Int.natCast_nonneg _) (by rw[Int.toNat_natCast,zq9 (by rw[zgw];exact hv),zku hv])
  have at2:atI ((dstL n ts ks u).map ov) (v:Int)=some (ov (dstF ts ks u v)):=za2 (Int.natCast_nonneg _) (by rw[Int.toNat_natCast,zq9 (by rw[zgw];exact hv),zku hv])
  refine⟨_,rfl,_,rfl,ln,_,_,_,rfl,rfl,SqL.of (sm _ _ (S4 _ _ e3)),at1,_,rfl,_,rfl,lk2,_,_,_,rfl,rfl,SqL.of (sm _ _ e4),at2,_,_,rfl,_,rfl,?_⟩
  have ew:fwB ts ks u v=wantB (dstF ts (List.range ts.length) u v) (dstF ts ks u v):=by unfold fwB;rw[decide_eq_true (by omega),Bool.true_and]
  rw[← ew]
  cases e:fwB ts ks u v with
  | true =>
   refine iteT ⟨_,rfl,?_⟩
   have q1:=q J' (S24.trans sm)
   have ef:fwF n ts ks u=some v:=zn3 hv (fun w hw=>hb w (by omega)) e
   rw[ef] at q1;exact q1
  | false =>
   refine iteF ⟨_,rfl,sm,fun w hw=>?_⟩
   by_cases z:w=v
   ·rw[z];exact e
   ·exact hb w (by omega)
 ·obtain⟨y5,rfl,sm,hb⟩:=h
  have q1:=q J' (S24.trans sm)
  have ef:fwF n ts ks u=none:=List.find?_eq_none.mpr fun v hv=>by rw[hb v (by have:=List.mem_range.mp hv;omega)];decide
  rw[ef] at q1;exact q1
/-- where it stands -/
def posO (ws:List Nat) (x:Nat):Option Nat:=(List.range ws.length).find? fun i=>decide (ws.getD i 0=x)
theorem zmz {ws:List Nat} (nd:ws.Nodup) {i x:Nat} (h:ws[i]?=some x):posO ws x=some i:=by
 have hi:=(List.getElem?_eq_some_iff.mp h).1
 have gi:ws.getD i 0=x:=by rw[List.getD_eq_getElem?_getD,h];rfl
 refine zn3 hi (fun w hw=>decide_eq_false fun e=>?_) (decide_eq_true gi)
 have hw':w < ws.length:=by omega
 have e2:ws[w]?=some x:=by rw[← e,List.getD_eq_getElem?_getD,List.getElem?_eq_getElem hw'];rfl
 rw[List.getElem?_eq_getElem hw'] at e2
 rw[List.getElem?_eq_getElem hi] at h
 exact List.pairwise_iff_getElem.mp nd w i hw' hi hw ((Option.some.inj e2).trans (Option.some.inj h).symm)
theorem zeb {ws:List Nat} {i x:Nat} (h:posO ws x=some i):ws[i]?=some x:=by
 have h0:decide (ws.getD i 0=x)=true:=List.find?_some (p:=fun i=>decide (ws.getD i 0=x)) h
 have h1:=of_decide_eq_true h0
 have hi:=List.mem_range.mp (List.mem_of_find?_eq_some h)
 rw[List.getD_eq_getElem?_getD,List.getElem?_eq_getElem hi] at h1
 rw[List.getElem?_eq_getElem hi,← h1];rfl
/-- how far on the way, as far as a pair is gone over -/
def alP (ws:List Nat) (go:Nat->Nat->Bool) (x y:Nat):Option Int:=match posO ws x,posO ws y with
 | some i,some j=>if go i j=true then some (absI ((i:Int) - (j:Int))) else none
 | _,_=>none
def alM (ws:List Nat):Nat->Nat->Option Int:=alP ws fun _ _=>true
theorem zk8 {ws:List Nat} {go go':Nat->Nat->Bool} (h:∀ i j,i < ws.length->j < ws.length->go i j=go' i j) (x y:Nat):alP ws go x y=alP ws go' x y:=by
 unfold alP
 cases ex:posO ws x with
 | none=>rfl
 | some i =>
  cases ey:posO ws y with
  | none=>rfl
  | some j =>
   have hi:=(List.getElem?_eq_some_iff.mp (zeb ex)).1
   have hj:=(List.getElem?_eq_some_iff.mp (zeb ey)).1
   show (if go i j=true then _ else _)=if go' i j=true then _ else _
   rw[h i j hi hj]
theorem zp6 (ws:List Nat) (x y:Nat):alP ws (fun _ _=>false) x y=none:=by
 unfold alP
 cases posO ws x with
 | none=>rfl
 | some i =>
  cases posO ws y with
  | none=>rfl
  | some j=>rfl
def rowM (n:Int) (M:Nat->Nat->Option Int) (x:Nat):List V:=((List.range n.toNat).map (M x)).map ov
theorem zea (n:Int) (M:Nat->Nat->Option Int) (x:Nat):(rowM n M x).length=n.toNat:=by unfold rowM;rw[List.length_map,List.length_map,List.length_range]
theorem zmr {n:Int} {M:Nat->Nat->Option Int} {x y:Nat} (h:y < n.toNat):atI (rowM n M x) (y:Int)=some (ov (M x y)):=za2 (Int.natCast_nonneg _) (by rw[Int.toNat_natCast];unfold rowM;rw[List.getElem?_map,List.getElem?_map,List.getElem?_range h];rfl)
def spFA (K:PySem.W.Frag):Sp:=fun vs H Q _=>∃ (n:Int) (ts:List Tie) (wv:V) (t:Addr) (ws:List Nat),vs=[wv,.ref t]∧Is K H (webD n ts) wv∧WebOk n ts∧H t=some (.tup (natV ws))∧ws.Nodup∧(∀ x ∈ ws,x < n.toNat)∧∀ l as H',Same H H'->H l=none->as.length=n.toNat->Bes H' l as (rowM n (alM ws))->Q (.ref l) H'
theorem zgn (T:Bi mg) (D:DefOk K mg "fars_along" s_fars_along ["web","way"]):Ok P w K mg base 1 "fars_along" ["web","way"] (spFA K):=by
 refine zbb (k:=0) D sc_fars_along (fun vs H Q E h=>?_) (fun f cdv A outer s H vs Q E hr h=>?_)
 ·obtain⟨n,ts,wv,t,ws,rfl,_⟩:=h
  rfl
 obtain⟨n,ts,wv,t,ws,rfl,isw,ok,ht,nd',lt,q⟩:=h
 have nd:=sc_fars_along.nd
 have n1:=ok.n1
 have n24:=ok.n24
 have lws:ws.length≤n.toNat:=Peel.ze0 n.toNat _ nd' lt
 obtain⟨g0,gg,wz,rfl,hg0,hg,hall,hlw⟩:=za7 isw
 refine⟨_,(zac (zco (i:=2) (N:=["web","way","rows","i","one","j","other"]) (sc0:=defScope s_fars_along) (own:=["place"]) (fr:=["web"]) (js:=[0]) rfl (zbt rfl T.z_range (zaa (zav zbc (pv 0) zad (fun _ _=>rfl)) zab)) (fun _ _ _ _=>(zah (i:=0) (by show List.Nodup [("place":Str),("web":Str)];decide +kernel) rfl (Or.inl rfl))) (fun _ _ _ _=>zcb) (fun _ _ _ _=>(zat zgh (za5 (zaa zbp zab)) (zav zb2 (pv 1) zad (fun _ _=>rfl)))) nd rfl (Or.inl rfl)) (zac (zbn PassesOwn.never rfl (zjc true rfl T.z_enumerate (zaa (pv 1) zab)) (zb0 (n:=2) rfl (zak (zah (i:=3) nd rfl (Or.inl rfl)) (zak (zah (i:=4) nd rfl (Or.inl rfl)) zbd))) (zaf (zbn PassesOwn.never rfl (zjc true rfl T.z_enumerate (zaa (pv 1) zab)) (zb0 (n:=2) rfl (zak (zah (i:=5) nd rfl (Or.inl rfl)) (zak (zah (i:=6) nd rfl (Or.inl rfl)) zbd))) (zaf (zbz (zam zpx rfl T.z_abs (by decide +kernel) (zaa (zat zc2 (pv 3) (pv 5)) zab)) (zdv (zav zay (pv 2) (pv 4) (fun _ _=>rfl)) (pv 6) zb3)))))) (zaf (zaq (pv 2))))),?_⟩
 refine⟨_,rfl,g0,_,_,_,rfl,rfl,SqT.of hg0,rfl,n,rfl,by omega,by omega,?_⟩
 refine zdx (n:=n.toNat) (lo:=0) (fun _=>List.replicate n.toNat V.non) (fun σ'=>∃ o,σ'=[o,some (.ref g0)]) (by omega) (by exact⟨none,rfl⟩) (fun i σ' H' hi s6 sg C hC=>?_) (fun L as J1 hL S1 hH las ndA noA new=>?_)
 ·obtain⟨o,rfl⟩:=sg
  refine⟨(by show 1≤1000;decide),fun l0 H3 s3 f3 e3=>⟨_,rfl,g0,_,_,_,rfl,rfl,SqT.of (s3 _ _ (s6 _ _ hg0)),rfl,l0,n,.non,rfl,rfl,e3,by omega,by omega,fun p H4 s4 f4 e4=>?_⟩⟩
  exact hC _ _ _ ⟨_,rfl⟩ (s3.trans s4) (s3.free f4) e4
 have r0:∀ go:Nat->Nat->Bool,(∀ i j,i < ws.length->j < ws.length->go i j=false)->∀ x,rowM n (alP ws go) x=List.replicate n.toNat V.non:=fun go hgo x=>by
  unfold rowM
  rw[List.map_map]
  refine List.eq_replicate_iff.mpr ⟨by rw[List.length_map,List.length_range],fun v hv=>?_⟩
  obtain⟨y,_,rfl⟩:=List.mem_map.mp hv
  show ov (alP ws go x y)=_
  rw[zk8 hgo,zp6];rfl
 have B1:Bes J1 L as (rowM n (alP ws fun i _=>decide (i < 0))):=Bes.newF hH ndA noA fun i a ha=>by
  rw[r0 _ (fun i j _ _=>decide_eq_false (Nat.not_lt_zero _))];exact (new i a ha).2
 have fas:∀ a ∈ as,H a=none:=fun a ha=>by
  obtain⟨k,hk⟩:=List.getElem?_of_mem ha
  exact (new k a hk).1
 refine⟨_,rfl,t,rfl,⟨_,SqX.of (t:=true) (S1 _ _ ht)⟩,?_⟩
 refine zkq (t:=true) (xs:=natV ws) (fun i σ J=>∃ (y3 y4 y5 y6:Option V),σ=[some (.ref g0),some (.ref t),some (.ref L),y3,y4,y5,y6]∧Same H J∧Bes J L as (rowM n (alP ws fun a _=>decide (a < i)))) ⟨none,none,none,none,rfl,S1,B1⟩ (fun i σ J h=>?_) (fun i x U σ J hx hU h=>?_) (fun σ J h=>?_)
 ·obtain⟨y3,y4,y5,y6,rfl,sm,_⟩:=h
  exact SqX.of (t:=true) (sm _ _ ht)
 ·obtain⟨y3,y4,y5,y6,rfl,sm,B⟩:=h
  obtain⟨one,ho,rfl⟩:=zcj hx
  have hi:=(List.getElem?_eq_some_iff.mp ho).1
  have onn:=lt one (List.mem_of_getElem? ho)
  have SU:=zal (H:=J) (o:=.tup [.int (i:Nat),V.int (one:Int)]) hU
  refine⟨U,_,rfl,SqT.of zag,rfl,_,_,rfl,_,_,rfl,rfl,?_⟩
  have smU:=sm.trans SU
  refine⟨_,rfl,t,rfl,⟨_,SqX.of (t:=true) (smU _ _ ht)⟩,?_⟩
  refine zkq (t:=true) (xs:=natV ws) (fun j σ J'=>∃ (y5 y6:Option V),σ=[some (.ref g0),some (.ref t),some (.ref L),some (.int (i:Int)),some (.int (one:Int)),y5,y6]∧Same H J'∧Bes J' L as (rowM n (alP ws fun a b=>decide (a < i) || (decide (a=i) && decide (b < j))))) ⟨_,_,rfl,smU,?_⟩ (fun j σ J' h=>?_) (fun j x U2 σ J' hx2 hU2 h=>?_) (fun σ J' h=>?_)
  ·have e:(fun x=>rowM n (alP ws fun a b=>decide (a < i) || (decide (a=i) && decide (b < 0))) x)=fun x=>rowM n (alP ws fun a _=>decide (a < i)) x:=by
    funext x
    unfold rowM
    rw[List.map_map,List.map_map]
    refine List.map_congr_left fun y _=>?_
    show ov (alP ws _ x y)=ov (alP ws _ x y)
    rw[zk8 (go':=fun a _=>decide (a < i)) (fun a b _ _=>by rw[decide_eq_false (Nat.not_lt_zero b),Bool.and_false,Bool.or_false])]
   show Bes _ L as fun x=>rowM n _ x
   rw[e];exact B.same SU
  ·obtain⟨y5,y6,rfl,sm',_⟩:=h
   exact SqX.of (t:=true) (sm' _ _ ht)
  ·obtain⟨y5,y6,rfl,sm',B'⟩:=h
   obtain⟨oth,ho2,rfl⟩:=zcj hx2
   have hj:=(List.getElem?_eq_some_iff.mp ho2).1
   have otn:=lt oth (List.mem_of_getElem? ho2)
   have SU2:=zal (H:=J') (o:=.tup [.int (j:Nat),V.int (oth:Int)]) hU2
   refine⟨U2,_,rfl,SqT.of zag,rfl,_,_,rfl,_,_,rfl,rfl,?_⟩
   have smU2:=sm'.trans SU2
   have B2:=B'.same SU2
   obtain⟨ra,hra,hra2,hrow⟩:=B2.ix (i:=one) (by omega)
   refine⟨_,rfl,_,rfl,_,_,rfl,rfl,_,rfl,_,rfl,_,rfl,L,_,_,_,rfl,rfl,SqL.of B2.top,za2 (Int.natCast_nonneg _) (by rw[Int.toNat_natCast];exact hra2),_,rfl,ra,_,_,oth,rfl,rfl,hrow,by rw[zea,zcw (Int.natCast_nonneg _) (by omega),Int.toNat_natCast],?_⟩
   have nra:H ra=none:=fas ra (List.mem_of_getElem? hra)
   refine⟨_,_,rfl,fun b o e=>?_,?_⟩
   ·rw[zap (zaj e nra)];exact smU2 _ _ e
   have Bp:=B2.put hra (But.upd (o:=.lst ((rowM n (alP ws fun a b=>decide (a < i) || (decide (a=i) && decide (b < j))) one).set oth (.int (absI ((i:Int) - (j:Int))))))) zag
   have e:(fun x=>if x=one then (rowM n (alP ws fun a b=>decide (a < i) || (decide (a=i) && decide (b < j))) one).set oth (.int (absI ((i:Int) - (j:Int)))) else rowM n (alP ws fun a b=>decide (a < i) || (decide (a=i) && decide (b < j))) x)=fun x=>rowM n (alP ws fun a b=>decide (a < i) || (decide (a=i) && decide (b < j + 1))) x:=by
    funext x
    by_cases ex:x=one
    ·subst ex
     rw[if_pos rfl]
     refine List.ext_getElem? fun y=>?_
     by_cases hy:y < n.toNat
     ·have r1:∀ M:Nat->Nat->Option Int,(rowM n M x)[y]?=some (ov (M x y)):=fun M=>by unfold rowM;rw[List.getElem?_map,List.getElem?_map,List.getElem?_range hy];rfl
      rw[r1]
      by_cases ey:y=oth
      ·subst ey
       rw[List.getElem?_set_self (by rw[zea];exact hy)]
       unfold alP
       rw[zmz nd' ho,zmz nd' ho2]
       show _=some (ov (if (decide (i < i) || (decide (i=i) && decide (j < j + 1)))=true then _ else _))
       rw[decide_eq_true (rfl:i=i),decide_eq_true (Nat.lt_succ_self j),Bool.and_true,Bool.or_true,if_pos rfl];rfl
      ·rw[List.getElem?_set_ne (Ne.symm ey),r1]
       congr 2
       unfold alP
       rw[zmz nd' ho]
       cases ep:posO ws y with
       | none=>rfl
       | some b =>
        have nb:b≠j:=fun z=>by
         have:=zeb ep
         rw[z,ho2] at this
         exact ey (Option.some.inj this).symm
        show (if (decide (i < i) || (decide (i=i) && decide (b < j)))=true then _ else _)=if (decide (i < i) || (decide (i=i) && decide (b < j + 1)))=true then _ else _
        have:decide (b < j)=decide (b < j + 1):=by
         by_cases z:b < j
         ·rw[decide_eq_true z,decide_eq_true (show b < j + 1 by omega)]
         ·rw[decide_eq_false z,decide_eq_false (show ¬ b < j + 1 by omega)]
        rw[this]
     ·rw[List.getElem?_eq_none (by rw[List.length_set,zea];omega),List.getElem?_eq_none (by rw[zea];omega)]
    ·rw[if_neg ex]
     unfold rowM
     rw[List.map_map,List.map_map]
     refine List.map_congr_left fun y _=>?_
     show ov (alP ws _ x y)=ov (alP ws _ x y)
     congr 1
     unfold alP
     cases ep:posO ws x with
     | none=>rfl
     | some a =>
      have na:a≠i:=fun z=>by
       have:=zeb ep
       rw[z,ho] at this
       exact ex (Option.some.inj this).symm
      cases posO ws y with
      | none=>rfl
      | some b =>
       show (if (decide (a < i) || (decide (a=i) && decide (b < j)))=true then _ else _)=if (decide (a < i) || (decide (a=i) && decide (b < j + 1)))=true then _ else _
       rw[decide_eq_false na,Bool.false_and,Bool.false_and]
   show Bes _ L as fun x=>rowM n _ x
   rw[← e];exact Bp
  ·obtain⟨y5,y6,rfl,sm',B'⟩:=h
   refine⟨_,_,_,_,rfl,sm',?_⟩
   have e:(fun x=>rowM n (alP ws fun a b=>decide (a < i) || (decide (a=i) && decide (b < (natV ws).length))) x)=fun x=>rowM n (alP ws fun a _=>decide (a < i + 1)) x:=by
    funext x
    unfold rowM
    rw[List.map_map,List.map_map]
    refine List.map_congr_left fun y _=>?_
    show ov (alP ws _ x y)=ov (alP ws _ x y)
    rw[zk8 (go':=fun a _=>decide (a < i + 1)) (fun a b _ hb=>by
     rw[zai,decide_eq_true hb,Bool.and_true]
     by_cases z:a < i
     ·rw[decide_eq_true z,decide_eq_true (show a < i + 1 by omega)];rfl
     ·by_cases z2:a=i
      ·rw[decide_eq_true z2,decide_eq_true (show a < i + 1 by omega),Bool.or_true]
      ·rw[decide_eq_false z,decide_eq_false z2,decide_eq_false (show ¬ a < i + 1 by omega)];rfl)]
   show Bes _ L as fun x=>rowM n _ x
   rw[← e];exact B'
 ·obtain⟨y3,y4,y5,y6,rfl,sm,B⟩:=h
  have e:(fun x=>rowM n (alP ws fun a _=>decide (a < (natV ws).length)) x)=fun x=>rowM n (alM ws) x:=by
   funext x
   unfold rowM alM
   rw[List.map_map,List.map_map]
   refine List.map_congr_left fun y _=>?_
   show ov (alP ws _ x y)=ov (alP ws _ x y)
   rw[zk8 (go':=fun _ _=>true) (fun a b ha _=>by rw[zai];exact decide_eq_true ha)]
  refine⟨_,rfl,q L as J sm hL las ?_⟩
  show Bes _ L as fun x=>rowM n _ x
  rw[← e];exact B
theorem zks {α β:Type} {f:α->List β} {m:Nat}:∀ (l:List α),(∀ x ∈ l,(f x).length≤m)->(l.flatMap f).length≤l.length * m
 | [],_=>Nat.zero_le _
 | x::r,h=>by
  have h1:=h x List.mem_cons_self
  have h2:=zks r fun y hy=>h y (List.mem_cons_of_mem _ hy)
  rw[List.flatMap_cons,List.length_append,List.length_cons,Nat.succ_mul]
  omega
def minO:List Int->Option Int
 | []=>none
 | x::r=>some (r.foldl min x)
theorem zkr:∀ (r:List Int) (x:Int),r.foldl min x≤x∧(∀ y ∈ r,r.foldl min x≤y)∧(r.foldl min x=x∨r.foldl min x ∈ r)
 | [],x=>⟨Int.le_refl _,fun y h=>(by cases h),Or.inl rfl⟩
 | y::r,x=>by
  obtain⟨h1,h2,h3⟩:=zkr r (min x y)
  refine⟨?_,fun z hz=>?_,?_⟩
  ·show r.foldl min (min x y)≤x;omega
  ·show r.foldl min (min x y)≤z
   rcases List.mem_cons.mp hz with e | e
   ·rw[e];omega
   ·exact h2 z e
  ·show r.foldl min (min x y)=x∨r.foldl min (min x y) ∈ y::r
   rcases h3 with e | e
   ·by_cases c:x≤y
    ·left;omega
    ·right;rw[e,show min x y=y by omega];exact List.mem_cons_self
   ·exact .inr (List.mem_cons_of_mem _ e)
theorem zrd {ns:List Int} {b:Int} (h1:b ∈ ns) (h2:∀ x ∈ ns,b≤x):minO ns=some b:=by
 cases ns with
 | nil=>cases h1
 | cons x r =>
  obtain⟨f1,f2,f3⟩:=zkr r x
  show some (r.foldl min x)=some b
  congr 1
  have le:r.foldl min x≤b:=by
   rcases List.mem_cons.mp h1 with e | e
   ·rw[e];exact f1
   ·exact f2 b e
  have ge:b≤r.foldl min x:=by
   rcases f3 with e | e
   ·rw[e];exact h2 x List.mem_cons_self
   ·exact h2 _ (List.mem_cons_of_mem _ e)
  omega
def nearL (M:Nat->Nat->Option Int) (hp ot:List Nat):List Int:=hp.flatMap fun p=>ot.filterMap (M p)
def nearF (M:Nat->Nat->Option Int) (hp ot:List Nat):Option Int:=minO (nearL M hp ot)
def spNear:Sp:=fun vs H Q _=>∃ (n:Int) (l h o:Addr) (as:List Addr) (M:Nat->Nat->Option Int) (hp ot:List Nat),vs=[.ref l,.ref h,.ref o]∧Bes H l as (rowM n M)∧as.length=n.toNat∧n≤24∧H h=some (.tup (natV hp))∧H o=some (.tup (natV ot))∧(∀ x ∈ hp,x < n.toNat)∧(∀ x ∈ ot,x < n.toNat)∧hp.length≤24∧ot.length≤24∧∀ H',Same H H'->Q (ov (nearF M hp ot)) H'
theorem zln (T:Bi mg) (D:DefOk K mg "nearest" s_nearest ["fars","heap","other"]):Ok P w K mg base 1 "nearest" ["fars","heap","other"] spNear:=by
 refine zbb (k:=0) D sc_nearest (fun vs H Q E h=>?_) (fun f cdv A outer s H vs Q E hr h=>?_)
 ·obtain⟨n,l,h,o,as,M,hp,ot,rfl,_⟩:=h
  rfl
 obtain⟨n,l,h,o,as,M,hp,ot,rfl,B,las,n24,hh,ho,lh,lo,l1,l2,q⟩:=h
 have nd:=sc_nearest.nd
 refine⟨_,(zac (zan (i:=3) nd rfl (Or.inl rfl) (za5 zab)) (zac (zbn PassesOwn.never rfl (zbw (pv 1)) (zah (i:=4) nd rfl (Or.inr rfl)) (zaf (zbq (zd0 PySem.F.plainAttrs_list PySem.F.slot_list_extend PySem.F.type_list_extend zf2 (pv 3) (zaa (zbv (N:=["fars","heap","other","lengths","place"]) (sc0:=defScope s_nearest) (own:=["there"]) (fr:=["fars","place"]) (js:=[0,4]) rfl (zbw (pv 2)) (fun _ _ _ _=>(zah (i:=0) (by show List.Nodup [("there":Str),("fars":Str),("place":Str)];decide +kernel) rfl (Or.inl rfl))) (fun _ _ _ _=>(zct (zao zjf (zav zee (zav zee (pv 1) (pv 2) (fun _ _=>rfl)) (pv 0) (fun _ _=>rfl)) zbp (nomark _)))) (fun _ _ _ _=>(zav zee (zav zee (pv 1) (pv 2) (fun _ _=>rfl)) (pv 0) (fun _ _=>rfl)))) zab))))) (zaf (zaq (zq7 rfl rfl T.z_min (zaa (pv 3) zab) (zq6 zbp zr7)))))),?_⟩
 refine⟨(by show 0≤1000;decide),fun ll J1 S1 f1 e1=>?_⟩
 refine⟨_,rfl,h,rfl,⟨_,SqT.of (S1 _ _ hh)⟩,?_⟩
 have fl:∀ i,(nearL M (hp.take i) ot).length≤576:=fun i=>by
  have h1:=zks (f:=fun p=>ot.filterMap (M p)) (m:=24) (hp.take i) fun r _=>Nat.le_trans (List.length_filterMap_le _ _) l2
  have h2:(hp.take i).length≤24:=by rw[List.length_take];omega
  have h3:=Nat.mul_le_mul_right 24 h2
  exact Nat.le_trans h1 h3
 refine zcy (xs:=natV hp) (fun i σ J=>∃ y4:Option V,σ=[some (.ref l),some (.ref h),some (.ref o),some (.ref ll),y4]∧But ll J1 J∧J ll=some (.lst ((nearL M (hp.take i) ot).map V.int))) ⟨none,rfl,But.refl,e1⟩ (fun i σ J _ h=>?_) (fun i x σ J hx h=>?_) (fun σ J h=>?_)
 ·obtain⟨y4,rfl,bt,_⟩:=h
  exact SqT.of (bt _ _ (zaj hh f1) (S1 _ _ hh))
 ·obtain⟨y4,rfl,bt,hll⟩:=h
  have sm:Same H J:=fun c o' e=>bt _ _ (zaj e f1) (S1 _ _ e)
  obtain⟨p,hp',rfl⟩:=zcj hx
  have pn:=lh p (List.mem_of_getElem? hp')
  have tn:nearL M (hp.take (i + 1)) ot=nearL M (hp.take i) ot++ot.filterMap (M p):=by
   unfold nearL
   rw[List.take_add_one,hp',List.flatMap_append];simp
  have BJ:=B.same sm
  refine⟨_,rfl,.inl ⟨rfl,_,SqL.of hll⟩,_,rfl,o,rfl,⟨_,SqT.of (sm _ _ ho)⟩,?_⟩
  refine ze6 (sm _ _ ho) (fun σ'=>∃ y,σ'=[y,some (.ref l),some (.int (p:Int))]) (fun i=>(M p (ot.getD i 0)).map V.int) (by rw[zai];omega) (by exact⟨none,rfl⟩) (fun i x σ' H' hx s2 sg C L hC hL=>?_) (fun L J4 hL S4 hH=>?_)
  ·obtain⟨y,rfl⟩:=sg
   obtain⟨r,hr',rfl⟩:=zcj hx
   have rn:=lo r (List.mem_of_getElem? hr')
   have er:ot.getD i 0=r:=by rw[List.getD_eq_getElem?_getD,hr'];rfl
   rw[er] at hC hL
   have BH:=BJ.same s2
   obtain⟨ra,hra,hra2,hrow⟩:=BH.ix (i:=p) (by omega)
   have at1:atI (as.map V.ref) (p:Int)=some (.ref ra):=za2 (Int.natCast_nonneg _) (by rw[Int.toNat_natCast];exact hra2)
   refine⟨_,rfl,_,rfl,l,_,_,_,rfl,rfl,SqL.of BH.top,at1,_,rfl,ra,_,_,_,rfl,rfl,SqL.of hrow,zmr rn,?_⟩
   cases e:M p r with
   | none =>
    rw[e] at hL
    exact⟨rfl,_,rfl,iteF (hL _ _ ⟨_,rfl⟩ (Same.refl _) rfl)⟩
   | some x =>
    rw[e] at hC
    refine⟨rfl,_,rfl,iteT ⟨_,rfl,_,rfl,l,_,_,_,rfl,rfl,SqL.of BH.top,at1,_,rfl,ra,_,_,_,rfl,rfl,SqL.of hrow,zmr rn,?_⟩⟩
    rw[e]
    exact hC _ _ _ ⟨_,rfl⟩ (Same.refl _) rfl
  have eL:(List.range (natV ot).length).filterMap (fun i=>(M p (ot.getD i 0)).map V.int)=(ot.filterMap (M p)).map V.int:=by
   rw[zai,List.map_filterMap]
   have z:=congrArg (List.filterMap fun r=>(M p r).map V.int) (L3.zbf ot 0)
   rw[List.filterMap_map] at z
   exact z
  rw[eL] at hH
  have f1':=fl (i + 1)
  rw[tn,List.length_append] at f1'
  refine⟨ll,L,_,_,rfl,rfl,S4 _ _ hll,hH,by rw[List.length_map,List.length_map];omega,fun J5 b5 e5=>⟨_,rfl,fun c o' z e=>b5 _ _ z (S4 _ _ (bt _ _ z e)),?_⟩⟩
  rw[e5,tn,List.map_append]
 ·obtain⟨y4,rfl,bt,hll⟩:=h
  rw[zai,List.take_length] at hll
  have sm:Same H J:=fun c o' e=>bt _ _ (zaj e f1) (S1 _ _ e)
  have q1:=q J sm
  refine⟨_,rfl,ll,_,.non,rfl,rfl,hll,fun e=>?_,fun b h1 h2=>?_⟩
  ·unfold nearF at q1;rw[e] at q1;exact q1
  ·unfold nearF at q1;rw[zrd h1 h2] at q1;exact q1
theorem iteTe {b:Bool} {A B:Prop} (e:b=true) (h:A):if b=true then A else B:=by rw[if_pos e];exact h
theorem iteFe {b:Bool} {A B:Prop} (e:b=false) (h:B):if b=true then A else B:=by rw[e];exact h
def gnO (g:Nat × List Nat->Nat × List Nat->Bool) (e e':Nat × List Nat):Option (Nat × Nat):=if (decide (e.1 < e'.1) && g e e')=true then some (e.1,e'.1) else none
def gnL (g:Nat × List Nat->Nat × List Nat->Bool) (l:List (Nat × List Nat)):List (Nat × Nat):=l.flatMap fun e=>l.filterMap (gnO g e)
theorem zn0 {g:Nat × List Nat->Nat × List Nat->Bool} {e e':Nat × List Nat} (h:¬ e.1 < e'.1):gnO g e e'=none:=by
 unfold gnO
 rw[decide_eq_false h];rfl
theorem zef {g:Nat × List Nat->Nat × List Nat->Bool} {e e':Nat × List Nat} {p:Nat × Nat} (h:gnO g e e'=some p):p=(e.1,e'.1):=by
 unfold gnO at h
 split at h
 ·exact (Option.some.inj h).symm
 ·cases h
def up1 (a b:Nat × List Nat):Prop:=a.1 < b.1
theorem zkp {g:Nat × List Nat->Nat × List Nat->Bool} {e:Nat × List Nat} {r:List (Nat × List Nat)} (h:(e::r).Pairwise up1):gnL g (e::r)=r.filterMap (gnO g e)++gnL g r:=by
 obtain⟨h1,h2⟩:=List.pairwise_cons.mp h
 unfold gnL
 rw[List.flatMap_cons,List.filterMap_cons,zn0 (Nat.lt_irrefl _)]
 show r.filterMap (gnO g e)++_=_
 congr 1
 unfold List.flatMap
 congr 1
 refine List.map_congr_left fun x hx=>?_
 have:e.1 < x.1:=h1 x hx
 rw[List.filterMap_cons,zn0 (by omega)]
theorem zgu {g:Nat × List Nat->Nat × List Nat->Bool}:∀ {l:List (Nat × List Nat)},l.Pairwise up1->2 * (gnL g l).length≤l.length * l.length
 | [],_=>Nat.zero_le _
 | e::r,h=>by
  have ih:=zgu (g:=g) (List.pairwise_cons.mp h).2
  have:=List.length_filterMap_le (gnO g e) r
  have e:(r.length + 1) * (r.length + 1)=r.length * r.length + r.length + (r.length + 1):=by rw[Nat.add_mul,Nat.mul_add,Nat.one_mul,Nat.mul_one]
  rw[zkp h,List.length_append,List.length_cons,e]
  omega
def pr2 (p:Nat × Nat):List Int:=[(p.1:Int),(p.2:Int)]
theorem zqa {p q:Nat × Nat} (h:p.1 < q.1∨(p.1=q.1∧p.2 < q.2)):Srt.lexI (pr2 q) (pr2 p)=false:=by
 have:Srt.lexI (pr2 p) (pr2 q)=true:=by
  rcases h with z | ⟨z1,z2⟩
  ·show (if (p.1:Int)=(q.1:Int) then _ else decide ((p.1:Int) < (q.1:Int)))=true
   rw[if_neg (by omega)]
   exact decide_eq_true (by omega)
  ·show (if (p.1:Int)=(q.1:Int) then (if (p.2:Int)=(q.2:Int) then _ else decide ((p.2:Int) < (q.2:Int))) else _)=true
   rw[if_pos (by omega),if_neg (by omega)]
   exact decide_eq_true (by omega)
 cases e:Srt.lexI (pr2 q) (pr2 p) with
 | false=>rfl
 | true =>
  have z:=Srt.zbr _ _ _ this e
  rw[Srt.zb4] at z;cases z
theorem zqg {g:Nat × List Nat->Nat × List Nat->Bool}:∀ {l:List (Nat × List Nat)},l.Pairwise up1->(gnL g l).Pairwise (fun p q=>p.1 < q.1∨(p.1=q.1∧p.2 < q.2))∧∀ p ∈ gnL g l,∃ e ∈ l,p.1=e.1
 | [],_=>⟨List.Pairwise.nil,fun p h=>by cases h⟩
 | e::r,h=>by
  obtain⟨h1,h2⟩:=List.pairwise_cons.mp h
  obtain⟨ih1,ih2⟩:=zqg (g:=g) h2
  rw[zkp h]
  have fst:∀ p ∈ r.filterMap (gnO g e),p.1=e.1:=fun p hp=>by
   obtain⟨x,_,hx⟩:=List.mem_filterMap.mp hp
   rw[zef hx]
  refine⟨List.pairwise_append.mpr ⟨?_,ih1,fun p hp q hq=>?_⟩,fun p hp=>?_⟩
  ·refine (List.Pairwise.filterMap (gnO g e) (S:=fun p q:Nat × Nat=>p.1 < q.1∨(p.1=q.1∧p.2 < q.2)) (fun a a' haa b hb b' hb'=>?_) h2)
   rw[zef hb,zef hb']
   exact .inr ⟨rfl,haa⟩
  ·obtain⟨x,hx,ex⟩:=ih2 q hq
   have:e.1 < x.1:=h1 x hx
   left
   rw[fst p hp,ex];exact this
  ·rcases List.mem_append.mp hp with z | z
   ·exact⟨e,List.mem_cons_self,fst p z⟩
   ·obtain⟨x,hx,ex⟩:=ih2 p z
    exact⟨x,List.mem_cons_of_mem _ hx,ex⟩
def gnB (A M:Nat->Nat->Option Int) (e e':Nat × List Nat):Bool:=match nearF A e.2 e'.2 with
 | none=>false
 | some x=>match nearF M e.2 e'.2 with
  | none=>true
  | some y=>decide (x < y)
def pr2D (p:Nat × Nat):PyData:=.tuple [.int (p.1:Int),.int (p.2:Int)]
def gainD (ps:List (Nat × Nat)):PyData:=.tuple (ps.map pr2D)
theorem zi6 (ps:List (Nat × Nat)):tupAll (ps.map pr2D)=true:=by
 induction ps with
 | nil=>rfl
 | cons p r ih =>
  show (tupD (pr2D p) && tupAll (r.map pr2D))=true
  rw[ih];rfl
theorem pr2_is {K:PySem.W.Frag} {H:Hp} {p:Nat × Nat} {v:V}:Is K H (pr2D p) v↔∃ a,v=.ref a∧H a=some (.tup ((pr2 p).map V.int)):=by
 constructor
 ·rintro ⟨a,vs,e,h,hv⟩
  rw[IsAll.of_ints (ns:=pr2 p) hv] at h
  exact⟨a,e,h⟩
 ·rintro ⟨a,e,h⟩
  exact⟨a,_,e,h,IsAll.ints (pr2 p)⟩
theorem zki {K:PySem.W.Frag} {H:Hp}:∀ {ps:List (Nat × Nat)} {ys:List V},IsAll K H (ps.map pr2D) ys->Paired (fun (y:V) (k:List Int)=>∃ a,y=.ref a∧H a=some (.tup (k.map V.int))) ys (ps.map pr2)
 | [],_,h=>by cases h;exact .nil
 | p::r,_,⟨v,s,e,h1,h2⟩=>by subst e;exact .cons (pr2_is.mp h1) (zki h2)
theorem zfz {α β:Type} {R:α->β->Prop}:∀ {xs:List α} {ys:List β},Paired R xs ys->∀ {x:α} {y:β},(x,y) ∈ xs.zip ys->R x y
 | _,_,.nil,x,y,h=>by cases h
 | _,_,.cons r rs,x,y,h=>by
  rcases List.mem_cons.mp h with e | e
  ·cases e;exact r
  ·exact zfz rs e
noncomputable def gnF (ts:List Tie) (ks:List Nat) (l:List (Nat × List Nat)) (ws:List Nat):List (Nat × Nat):=gnL (gnB (alM ws) (dstF ts ks)) l
/-- guards that rise, few, each with places of the web -/
def GdsP (n:Int) (l:List (Nat × List Nat)):Prop:=l.Pairwise up1∧l.length≤24∧∀ e ∈ l,e.1 < n.toNat∧e.2.length≤24∧∀ p ∈ e.2,p < n.toNat
def spGB (K:PySem.W.Frag):Sp:=fun vs H Q _=>∃ (n:Int) (ts:List Tie) (ks:List Nat) (wv kv gv:V) (l:List (Nat × List Nat)) (t:Addr) (ws:List Nat),vs=[wv,kv,gv,.ref t]∧WK K H n (ones ts) ks wv kv∧WebOk n ts∧Is K H (grdD l) gv∧GdsP n l∧H t=some (.tup (natV ws))∧ws.Nodup∧(∀ x ∈ ws,x < n.toNat)∧∀ v H',Same H H'->Is K H' (gainD (gnF ts ks l ws)) v->Q v H'
theorem zhx (T:Bi mg) (D:DefOk K mg "gained_by" s_gained_by ["web","keep","guards","way"]) (O_fars_along:Ok P w K mg base 3 "fars_along" ["web","way"] (spFA K)) (O_fars_from:Ok P w K mg base 3 "fars_from" ["web","keep","root"] (spFars K)) (O_nearest:Ok P w K mg base 3 "nearest" ["fars","heap","other"] spNear):Ok P w K mg base 4 "gained_by" ["web","keep","guards","way"] (spGB K):=by
 refine zbb (k:=3) D sc_gained_by (fun vs H Q E h=>?_) (fun f cdv A outer s H vs Q E hr h=>?_)
 ·obtain⟨n,ts,ks,wv,kv,gv,l,t,ws,rfl,_⟩:=h
  rfl
 obtain⟨n,ts,ks,wv,kv,gv,l,t,ws,rfl,wk,ok,isg,⟨gup,gl,ge⟩,ht,nd',lt,q⟩:=h
 have nd:=sc_gained_by.nd
 have n1:=ok.n1
 have n24:=ok.n24
 have ko:KeepOk ts.length ks:=by have:=wk.2.2.2;rw[za4] at this;exact this
 refine⟨_,(zac (zan (i:=4) nd rfl (Or.inl rfl) (zae O_fars_along hr rfl (zaa (pv 0) (zaa (pv 3) zab)))) (zac (zco (i:=5) (N:=["web","keep","guards","way","along","ahead","gained","guard","heap","other","places","now","before"]) (sc0:=defScope s_gained_by) (own:=["place"]) (fr:=["web","keep"]) (js:=[0,1]) rfl (zbt rfl T.z_range (zaa (zav zbc (pv 0) zad (fun _ _=>rfl)) zab)) (fun _ _ _ _=>(zah (i:=0) (by show List.Nodup [("place":Str),("web":Str),("keep":Str)];decide +kernel) rfl (Or.inl rfl))) (fun _ _ _ _=>zcb) (fun _ _ _ _=>(zae O_fars_from hr rfl (zaa (pv 1) (zaa (pv 2) (zaa (pv 0) zab))))) nd rfl (Or.inl rfl)) (zac (zan (i:=6) nd rfl (Or.inl rfl) (za5 zab)) (zac (zbn PassesOwn.never rfl (zbw (pv 2)) (zb0 (n:=2) rfl (zak (zah (i:=7) nd rfl (Or.inl rfl)) (zak (zah (i:=8) nd rfl (Or.inl rfl)) zbd))) (zaf (zbn PassesOwn.never rfl (zbw (pv 2)) (zb0 (n:=2) rfl (zak (zah (i:=9) nd rfl (Or.inl rfl)) (zak (zah (i:=10) nd rfl (Or.inl rfl)) zbd))) (zac (zan (i:=11) nd rfl (Or.inl rfl) (zae O_nearest hr rfl (zaa (pv 4) (zaa (pv 8) (zaa (pv 10) zab))))) (zac (zbj (PW.pt (zge (zao zse (pv 7) (pv 9) (nomark _)) (zdt (zao zer (pv 11) zbp (nomark _))))) (zaf zej) zaw) (zac (zan (i:=12) nd rfl (Or.inl rfl) (zae O_nearest hr rfl (zaa (pv 5) (zaa (pv 8) (zaa (pv 10) zab))))) (zaf (zbj (PW.pt (zge (zao zer (pv 12) zbp (nomark _)) (zdt (zao zll (pv 11) (pv 12) (nomark _))))) (zaf (zbq (zd0 PySem.F.plainAttrs_list PySem.F.slot_list_append PySem.F.type_list_append zb7 (pv 6) (zaa (zar (zaa (pv 7) (zaa (pv 9) zab))) zab)))) zaw)))))))) (zaf (zaq (zas za1 rfl T.z_tuple (by decide +kernel) (zaa (zam zg1 rfl T.z_sorted (by decide +kernel) (zaa (pv 6) zab)) zab)))))))),?_⟩
 refine⟨_,rfl,_,rfl,n,ones ts,wv,t,ws,rfl,wk.1,wk.2.1,ht,nd',lt,fun la as1 J1 S1 f1 l1 B1=>?_⟩
 obtain⟨g0,gg,wz,rfl,hg0,hg,hall,hlw⟩:=za7 wk.1
 refine⟨_,rfl,g0,_,_,_,rfl,rfl,SqT.of (S1 _ _ hg0),rfl,n,rfl,by omega,by omega,?_⟩
 refine zdx (n:=n.toNat) (lo:=0) (rowM n (dstF ts ks)) (fun σ'=>∃ o,σ'=[o,some (.ref g0),some kv]) (by omega) (by exact⟨none,rfl⟩) (fun i σ' H' hi s6 sg C hC=>?_) (fun lb as2 J2 hL S2 hH las ndA noA new=>?_)
 ·obtain⟨o,rfl⟩:=sg
  refine⟨_,rfl,_,rfl,_,rfl,n,ones ts,ks,_,kv,0 + (i:Int),rfl,wk.same (S1.trans s6),by omega,by omega,fun ln D1 J3 S3 f3 e3 lD1 hD1=>?_⟩
  rw[show (0 + (i:Int)).toNat=i by omega] at hD1
  have ed:=zjt ko lD1 hD1
  subst ed
  exact hC _ _ _ ⟨_,rfl⟩ S3 f3 e3
 have B2:Bes J2 lb as2 (rowM n (dstF ts ks)):=Bes.newF hH ndA noA fun i a ha=>(new i a ha).2
 have S02:=S1.trans S2
 refine⟨(by show 0≤1000;decide),fun lg J3 S3 f3 e3=>?_⟩
 have S03:=S02.trans S3
 have fg:H lg=none:=S02.free f3
 obtain⟨tg,xs,rfl,htg,hxs⟩:=isg
 have lx:xs.length=l.length:=by rw[hxs.length,List.length_map]
 have B13:=(B1.same S2).same S3
 have B23:=B2.same S3
 obtain⟨gB,egB⟩:∃ gB,gB=gnB (alM ws) (dstF ts ks):=⟨_,rfl⟩
 have few:2 * (gnL gB l).length≤576:=Nat.le_trans (zgu gup) (Nat.mul_le_mul gl gl)
 have item:∀ {i:Nat} {x:V},xs[i]?=some x->∃ (e:Nat × List Nat) (tt tp:Addr),l[i]?=some e∧x=.ref tt∧H tt=some (.tup [.int (e.1:Int),.ref tp])∧H tp=some (.tup (natV e.2)):=fun {i x} hx=>by
  have hi:i < l.length:=by have:=(List.getElem?_eq_some_iff.mp hx).1;omega
  have el:l[i]?=some l[i]:=List.getElem?_eq_getElem hi
  obtain⟨x',ex,ix⟩:=hxs.at_ (show (l.map pairD)[i]?=some (pairD l[i]) by rw[List.getElem?_map,el];rfl)
  rw[hx] at ex
  cases ex
  obtain⟨tt,tp,rfl,htt,htp⟩:=zdk ix
  exact⟨l[i],tt,tp,el,rfl,htt,htp⟩
 refine⟨_,rfl,tg,rfl,⟨_,SqT.of (S03 _ _ htg)⟩,?_⟩
 refine zcy (xs:=xs) (fun i σ J=>∃ (y7 y8 y9 y10 y11 y12:Option V) (ys:List V),σ=[some (.ref g0),some kv,some (.ref tg),some (.ref t),some (.ref la),some (.ref lb),some (.ref lg),y7,y8,y9,y10,y11,y12]∧But lg J3 J∧J lg=some (.lst ys)∧IsAll K J (((l.take i).flatMap fun e=>l.filterMap (gnO gB e)).map pr2D) ys) ⟨none,none,none,none,none,none,[],rfl,But.refl,e3,rfl⟩ (fun i σ J _ h=>?_) (fun i x σ J hx h=>?_) (fun σ J h=>?_)
 ·obtain⟨y7,y8,y9,y10,y11,y12,ys,rfl,bt,_⟩:=h
  exact SqT.of (bt _ _ (zaj htg fg) (S03 _ _ htg))
 ·obtain⟨y7,y8,y9,y10,y11,y12,ys,rfl,bt,hlg,hys⟩:=h
  obtain⟨e,tt,tp,el,rfl,htt,htp⟩:=item hx
  obtain⟨e1,e2,e4⟩:=ge e (List.mem_of_getElem? el)
  have sm:Same H J:=fun c o' e=>bt _ _ (zaj e fg) (S03 _ _ e)
  have tn:((l.take (i + 1)).flatMap fun e=>l.filterMap (gnO gB e))=((l.take i).flatMap fun e=>l.filterMap (gnO gB e))++l.filterMap (gnO gB e):=by
   rw[List.take_add_one,el,List.flatMap_append];simp
  have lel:(((l.take (i + 1)).flatMap fun e=>l.filterMap (gnO gB e))).length≤(gnL gB l).length:=by
   unfold gnL
   conv=>rhs;rw[← List.take_append_drop (i + 1) l,List.flatMap_append,List.length_append]
   simp
  rw[tn,List.length_append] at lel
  refine⟨tt,_,rfl,SqT.of (sm _ _ htt),rfl,_,_,rfl,_,_,rfl,rfl,?_⟩
  refine⟨_,rfl,tg,rfl,⟨_,SqT.of (sm _ _ htg)⟩,?_⟩
  refine zcy (xs:=xs) (fun j σ J'=>∃ (y9 y10 y11 y12:Option V) (ys:List V),σ=[some (.ref g0),some kv,some (.ref tg),some (.ref t),some (.ref la),some (.ref lb),some (.ref lg),some (.int (e.1:Int)),some (.ref tp),y9,y10,y11,y12]∧But lg J3 J'∧J' lg=some (.lst ys)∧IsAll K J' ((((l.take i).flatMap fun e=>l.filterMap (gnO gB e))++(l.take j).filterMap (gnO gB e)).map pr2D) ys) ⟨_,_,_,_,ys,rfl,bt,hlg,by rw[List.take_zero,List.filterMap_nil,List.append_nil];exact hys⟩ (fun j σ J' _ h=>?_) (fun j x σ J' hx2 h=>?_) (fun σ J' h=>?_)
  ·obtain⟨y9,y10,y11,y12,ys,rfl,bt',_⟩:=h
   exact SqT.of (bt' _ _ (zaj htg fg) (S03 _ _ htg))
  ·obtain⟨y9,y10,y11,y12,ys,rfl,bt',hlg',hys'⟩:=h
   obtain⟨e',tt',tp',el',rfl,htt',htp'⟩:=item hx2
   obtain⟨e1',e2',e4'⟩:=ge e' (List.mem_of_getElem? el')
   have sm':Same H J':=fun c o' e=>bt' _ _ (zaj e fg) (S03 _ _ e)
   have tn':(l.take (j + 1)).filterMap (gnO gB e)=(l.take j).filterMap (gnO gB e)++(gnO gB e e').toList:=by
    rw[List.take_add_one,el',List.filterMap_append]
    show _++[e'].filterMap (gnO gB e)=_
    congr 1
   have lel':((l.take (j + 1)).filterMap (gnO gB e)).length≤(l.filterMap (gnO gB e)).length:=by
    conv=>rhs;rw[← List.take_append_drop (j + 1) l,List.filterMap_append,List.length_append]
    omega
   have nla:la≠lg:=fun z=>by have:=(B1.same S2).top;rw[z,f3] at this;cases this
   have BA:Bes J' la as1 (rowM n (alM ws)):=⟨bt' _ _ nla B13.top,B13.nd,B13.own,fun i a ha=>bt' _ _ (fun z=>by have:=(B1.same S2).row i a ha;rw[z,f3] at this;cases this) (B13.row i a ha)⟩
   have BB:Bes J' lb as2 (rowM n (dstF ts ks)):=⟨bt' _ _ (fun z=>by have:=B2.top;rw[z,f3] at this;cases this) B23.top,B23.nd,B23.own,fun i a ha=>bt' _ _ (fun z=>by have:=B2.row i a ha;rw[z,f3] at this;cases this) (B23.row i a ha)⟩
   refine⟨tt',_,rfl,SqT.of (sm' _ _ htt'),rfl,_,_,rfl,_,_,rfl,rfl,?_⟩
   refine⟨_,rfl,_,rfl,_,rfl,n,la,tp,tp',as1,alM ws,e.2,e'.2,rfl,BA,l1,n24,sm' _ _ htp,sm' _ _ htp',e4,e4',e2,e2',fun J4 S4=>?_⟩
   have stay:∀ J5:Hp,Same J' J5->gnO gB e e'=none->∃ (y9 y10 y11 y12:Option V) (ys:List V),But lg J3 J5∧J5 lg=some (.lst ys)∧IsAll K J5 ((((l.take i).flatMap fun e=>l.filterMap (gnO gB e))++(l.take (j + 1)).filterMap (gnO gB e)).map pr2D) ys:=fun J5 S5 en=>by
    refine⟨none,none,none,none,ys,fun b o z e=>S5 _ _ (bt' _ _ z e),S5 _ _ hlg',?_⟩
    rw[tn',en]
    show IsAll K J5 ((_++(_++[])).map pr2D) ys
    rw[List.append_nil]
    exact IsAll.same S5 _ hys'
   refine⟨_,rfl,_,rfl,_,_,rfl,rfl,_,rfl,?_⟩
   by_cases lt':e.1 < e'.1
   case neg =>
    rw[decide_eq_true (show (e.1:Int) ≥ (e'.1:Int) by omega)]
    refine iteT ?_
    obtain⟨_,_,_,_,ys2,h1,h2,h3⟩:=stay J4 S4 (zn0 lt')
    exact⟨_,_,_,_,ys2,rfl,h1,h2,h3⟩
   rw[decide_eq_false (show ¬ (e.1:Int) ≥ (e'.1:Int) by omega)]
   refine iteF ⟨_,rfl,?_⟩
   have egO:gnO gB e e'=if gB e e'=true then some (e.1,e'.1) else none:=by unfold gnO;rw[decide_eq_true lt',Bool.true_and]
   cases en:nearF (alM ws) e.2 e'.2 with
   | none =>
    refine⟨rfl,_,rfl,iteT ?_⟩
    obtain⟨_,_,_,_,ys2,h1,h2,h3⟩:=stay J4 S4 (by rw[egO,egB];unfold gnB;rw[en];rfl)
    exact⟨_,_,_,_,ys2,rfl,h1,h2,h3⟩
   | some x =>
    refine⟨rfl,_,rfl,iteF ?_⟩
    refine⟨_,rfl,_,rfl,_,rfl,n,lb,tp,tp',as2,dstF ts ks,e.2,e'.2,rfl,BB.same S4,las,n24,S4 _ _ (sm' _ _ htp),S4 _ _ (sm' _ _ htp'),e4,e4',e2,e2',fun J5 S5=>?_⟩
    have S45:=S4.trans S5
    obtain⟨vb,evb⟩:∃ vb,vb=ov (nearF (dstF ts ks) e.2 e'.2):=⟨_,rfl⟩
    rw[← evb]
    apply brT (A:=gnO gB e e'=some (e.1,e'.1))
    case main =>
     intro tail
     cases en2:nearF (dstF ts ks) e.2 e'.2 with
     | none =>
      rw[en2] at evb
      refine⟨_,rfl,rfl,_,rfl,iteTe (by rw[evb];rfl) ?_⟩
      exact tail (by rw[egO,egB];unfold gnB;rw[en,en2];rfl)
     | some y =>
      rw[en2] at evb
      refine⟨_,rfl,rfl,_,rfl,iteFe (by rw[evb];rfl) ⟨_,rfl,_,rfl,x,y,rfl,evb,_,rfl,?_⟩⟩
      by_cases xy:x < y
      ·rw[decide_eq_true xy]
       exact iteT (tail (by rw[egO,egB];unfold gnB;rw[en,en2];exact if_pos (decide_eq_true xy)))
      ·rw[decide_eq_false xy]
       refine iteF ?_
       obtain⟨_,_,_,_,ys2,h1,h2,h3⟩:=stay J5 S45 (by rw[egO,egB];unfold gnB;rw[en,en2];exact if_neg (by rw[decide_eq_true_iff];exact xy))
       exact⟨_,_,_,_,ys2,rfl,h1,h2,h3⟩
    case tail =>
     intro eg
     have hlg5:=S45 _ _ hlg'
     rw[tn',eg] at lel'
     rw[List.length_append] at lel'
     have lys:ys.length=((l.take i).flatMap fun e=>l.filterMap (gnO gB e)).length + ((l.take j).filterMap (gnO gB e)).length:=by rw[hys'.length,List.length_map,List.length_append]
     have one:(some (e.1,e'.1):Option (Nat × Nat)).toList.length=1:=rfl
     refine⟨_,rfl,.inl ⟨rfl,_,SqL.of hlg5⟩,_,rfl,_,rfl,(by show 2≤1000;decide),fun c J6 S6 f6 e6=>?_⟩
     have hlg6:=S6 _ _ hlg5
     refine⟨lg,_,_,rfl,rfl,hlg6,by omega,fun J7 b7 e7=>?_⟩
     have tk7:TupKeep J6 J7:=fun b us e=>b7 _ _ (fun z=>by rw[z,hlg6] at e;cases e) e
     refine⟨_,_,_,_,ys++[.ref c],rfl,fun b o z e=>b7 _ _ z (S6 _ _ (S45 _ _ (bt' _ _ z e))),e7,?_⟩
     rw[tn',eg]
     show IsAll K J7 ((_++(_++[(e.1,e'.1)])).map pr2D) _
     rw[← List.append_assoc,List.map_append]
     refine IsAll.snoc (d:=pr2D (e.1,e'.1)) ⟨c,_,rfl,tk7 _ _ e6,IsAll.ints [(e.1:Int),(e'.1:Int)]⟩ ?_
     exact IsAll.but b7 hlg6 _ (zi6 _) (IsAll.same (S45.trans S6) _ hys')
  ·obtain⟨y9,y10,y11,y12,ys,rfl,bt',hlg',hys'⟩:=h
   rw[lx,List.take_length] at hys'
   exact⟨_,_,_,_,_,_,ys,rfl,bt',hlg',by rw[tn];exact hys'⟩
 ·obtain⟨y7,y8,y9,y10,y11,y12,ys,rfl,bt,hlg,hys⟩:=h
  rw[lx,List.take_length] at hys
  have sm:Same H J:=fun c o' e=>bt _ _ (zaj e fg) (S03 _ _ e)
  have hys:IsAll K J ((gnL gB l).map pr2D) ys:=hys
  have lys:ys.length=(gnL gB l).length:=by rw[hys.length,List.length_map]
  have pr:=zki hys
  have up:=(zqg (g:=gB) gup).1
  have asc:∀ i j,i≤j->j < ys.length->Srt.lexI (((gnL gB l).map pr2).getD j []) (((gnL gB l).map pr2).getD i [])=false:=fun i j hij hj=>by
   have hj':j < (gnL gB l).length:=by omega
   have hi':i < (gnL gB l).length:=by omega
   rw[List.getD_eq_getElem?_getD,List.getD_eq_getElem?_getD,List.getElem?_map,List.getElem?_map,List.getElem?_eq_getElem hj',List.getElem?_eq_getElem hi']
   by_cases e:i=j
   ·subst e;exact Srt.zb4 _
   ·exact zqa (List.pairwise_iff_getElem.mp up i j hi' hj' (by omega))
  refine⟨_,rfl,lg,ys,(gnL gB l).map pr2,rfl,hlg,by omega,asc,pr,fun k hk=>by obtain⟨p,_,rfl⟩:=List.mem_map.mp hk;simp [pr2],fun qs pq wq ls J4 S4 f4 e4=>?_⟩
  refine⟨ls,_,rfl,e4,fun tz J5 S5 f5 e5=>?_⟩
  have zs:qs.map (·.2)=(gnL gB l).map pr2:=by
   refine List.Perm.eq_of_pairwise (le:=fun a b=>Srt.lexI b a=false) (fun a b _ _ h1 h2=>Srt.zkl _ _ h2 h1) ?_ ?_ ?_
   ·exact List.Pairwise.map _ (fun _ _ h=>h) wq
   ·exact List.Pairwise.map _ (fun _ _ h=>zqa h) up
   ·have:=pq.map (·.2)
    rw[List.map_snd_zip (by rw[List.length_map,lys];exact Nat.le_refl _)] at this
    exact this
  refine q _ J5 (sm.trans (S4.trans S5)) ⟨tz,_,rfl,e5,?_⟩
  have egn:gnF ts ks l ws=gnL gB l:=by rw[egB];rfl
  rw[egn]
  have lq:qs.length=(gnL gB l).length:=by have:=congrArg List.length zs;rw[List.length_map,List.length_map] at this;exact this
  refine IsAll.of (by rw[List.length_map,List.length_map,lq]) fun i d v hd hv=>?_
  rw[List.getElem?_map] at hd hv
  obtain⟨p,hp,rfl⟩:=Option.map_eq_some_iff.mp hd
  obtain⟨qq,hqq,rfl⟩:=Option.map_eq_some_iff.mp hv
  have ek:qq.2=pr2 p:=by
   have:=congrArg (fun l=>l[i]?) zs
   simp only [List.getElem?_map,hp,hqq,Option.map_some,Option.some.injEq] at this
   exact this
  have mz:=pq.mem_iff.mp (List.mem_of_getElem? hqq)
  obtain⟨a,e1,e2⟩:=zfz pr mz
  rw[ek] at e2
  exact pr2_is.mpr ⟨a,e1,(S4.trans S5) _ _ e2⟩
theorem zl6 {T:List Tie} {ws:List Nat} {v:Nat}:∀ k ∈ alongN T ws,k ∈ alongN T (ws++[v]):=fun k hk=>by
 unfold alongN at hk ⊢
 obtain⟨i,hi,rfl⟩:=List.mem_map.mp hk
 have hi':=List.mem_range.mp hi
 refine List.mem_map.mpr ⟨i,List.mem_range.mpr (by rw[List.length_append,List.length_singleton];omega),?_⟩
 rw[List.getD_eq_getElem?_getD,List.getD_eq_getElem?_getD,List.getElem?_append_left (by omega),List.getElem?_append_left (by omega),← List.getD_eq_getElem?_getD,← List.getD_eq_getElem?_getD]
theorem zl7 {T:List Tie} {r:List Nat} {u v:Nat}:(tbN T u v).getD 0 ∈ alongN T (r++[u]++[v]):=by
 unfold alongN
 refine List.mem_map.mpr ⟨r.length,List.mem_range.mpr (by simp),?_⟩
 have e1:(r++[u]++[v]).getD r.length 0=u:=by simp [List.getD_eq_getElem?_getD]
 have e2:(r++[u]++[v]).getD (r.length + 1) 0=v:=by simp [List.getD_eq_getElem?_getD]
 rw[e1,e2]
theorem zmb {n:Int} {T:List Tie} {ks':List Nat} (ok:WebOk n T) {a b:Nat} {ws:List Nat} {x:Int} (tr:Far.Tr (arcs T (List.range T.length)) a ws b x):(∀ k ∈ alongN T ws,k ∈ ks')->Far.Walk (arcs T ks') a b x:=by
 induction tr with
 | one=>exact fun _=>Far.Walk.nil
 | snoc t m ih =>
  intro h
  obtain⟨r,er⟩:=zmh t
  subst er
  refine Far.Walk.snoc (ih fun k hk=>h k (zl6 k hk)) ?_
  rw[← zce] at m
  obtain⟨k,mk⟩:=Far.arcsF_mem.mp m
  have ek:=zqx ok (zbg T) mk
  have kin:=h _ zl7
  rw[ek] at kin
  have kin:k ∈ ks':=kin
  obtain⟨j,hj,z⟩:=arcsB_mem.mp mk
  have ej:j=k:=by rcases arcs2B_mem.mp z with z | z <;> (cases z;rfl)
  rw[← zce]
  exact Far.arcsF_mem.mpr ⟨k,arcsB_mem.mpr ⟨j,by rw[ej];exact kin,z⟩⟩
theorem zp5 {T:List Tie} {ws:List Nat} (nd:ws.Nodup) (ln:linked T ws):(alongN T ws).Nodup:=by
 refine List.pairwise_iff_getElem.mpr fun i j hi hj lt=>?_
 rw[zdg] at hi hj
 have g:∀ k (h:k < ws.length),ws[k]?=some ws[k]:=fun k h=>List.getElem?_eq_getElem h
 obtain⟨k1,e1,_⟩:=zck ln (g i (by omega)) (g (i + 1) (by omega))
 obtain⟨k2,e2,_⟩:=zck ln (g j (by omega)) (g (j + 1) (by omega))
 have a1:=zk7 (g i (by omega)) (g (i + 1) (by omega)) e1
 have a2:=zk7 (g j (by omega)) (g (j + 1) (by omega)) e2
 intro e
 rw[List.getElem?_eq_getElem (by rw[zdg];omega)] at a1 a2
 have ek:k1=k2:=by rw[← Option.some.inj a1,← Option.some.inj a2];exact e
 rw[ek] at e1
 obtain⟨m1,m2⟩:=zml e1
 obtain⟨m3,m4⟩:=zml e2
 have ne:∀ p q (hp:p < ws.length) (hq:q < ws.length),p < q->ws[p]≠ws[q]:=fun p q hp hq h=>List.pairwise_iff_getElem.mp nd p q hp hq h
 have n1:=ne i j (by omega) (by omega) lt
 have n2:=ne i (j + 1) (by omega) (by omega) (by omega)
 omega
theorem zpo {ts:List Tie} {ks ks':List Nat} (ko:KeepOk ts.length ks) (ko':KeepOk ts.length ks') (h:∀ k ∈ ks,k ∈ ks') {u v:Nat} {y:Int} (e:dstF ts ks u v=some y):∃ z,dstF ts ks' u v=some z∧z≤y:=by
 have w:=(zgx ko u v).1 y e
 have go:∀ {v:Nat} {x:Int},Far.Walk (arcs (ones ts) ks) u v x->Far.Walk (arcs (ones ts) ks') u v x:=fun {v x} hw=>by
  induction hw with
  | nil=>exact Far.Walk.nil
  | snoc _ m ih =>
   obtain⟨k,hk,mk⟩:=arcs_mem.mp m
   exact Far.Walk.snoc ih (arcs_mem.mpr ⟨k,h k hk,mk⟩)
 exact (zgx ko' u v).2 y (go w)
theorem zrl {n:Int} {ts:List Tie} {ks ks':List Nat} (ko:KeepOk ts.length ks) (ko':KeepOk ts.length ks') (h:∀ k ∈ ks,k ∈ ks') {u v v':Nat} (e:fwF n ts ks u=some v) {x y:Int} (nx:dstF ts (List.range ts.length) u v=some x) (hy:dstF ts ks' u v=some y) (le:y≤x) (e':fwF n ts ks' u=some v'):v < v':=by
 refine Classical.byContradiction fun c=>?_
 have b':fwB ts ks' u v'=true:=List.find?_some e'
 have no:fwB ts ks' u v'=false:=by
  unfold fwB
  by_cases uv:u < v'
  ·rw[decide_eq_true uv,Bool.true_and]
   by_cases ev:v'=v
   ·rw[ev,nx,hy]
    exact decide_eq_false (by omega)
   ·have lt:v' < v:=by omega
    have bf:fwB ts ks u v'=false:=by
     have:=(List.find?_eq_some_iff_getElem.mp e).2
     obtain⟨i,hi,gi,al⟩:=this
     rw[List.getElem_range] at gi
     subst gi
     have z:=al v' lt
     rw[List.getElem_range] at z
     simpa using z
    unfold fwB at bf
    rw[decide_eq_true uv,Bool.true_and] at bf
    cases en:dstF ts (List.range ts.length) u v' with
    | none=>rfl
    | some a =>
     rw[en] at bf
     cases ek:dstF ts ks u v' with
     | none=>rw[ek] at bf;cases bf
     | some b =>
      rw[ek] at bf
      obtain⟨z,ez,lz⟩:=zpo ko ko' h ek
      rw[ez]
      have:decide (b - a > 6)=false:=bf
      have:=of_decide_eq_false this
      exact decide_eq_false (by omega)
  ·rw[decide_eq_false uv];rfl
 rw[no] at b';cases b'
theorem zr0 {N:Nat->List Nat} {d:Int} (hN:∀ p,(N p).Nodup):∀ p,(swG N d p).1.Pairwise up1
 | 0=>List.Pairwise.nil
 | p + 1=>by
  have ih:=zr0 (d:=d) hN p
  have g:=zhk (d:=d) hN p
  show (stepG N d (swG N d p) p).1.Pairwise up1
  unfold stepG
  split
  ·refine List.pairwise_append.mpr ⟨ih,List.pairwise_singleton _ _,fun a ha b hb=>?_⟩
   rw[List.mem_singleton.mp hb]
   exact g.low a ha
  ·exact ih
theorem zew {n:Int} {ts:List Tie} (p:Nat):(nbW n ts p).Nodup:=zex p
theorem zqh {n:Int} {ts:List Tie} {d:Int} (ok:WebOk n ts) (n9:n≤24):GdsW n (ones ts) (swG (nbW n ts) d n.toNat).1∧GdsP n (swG (nbW n ts) d n.toNat).1:=by
 have g:=zhk (d:=d) (zew (n:=n) (ts:=ts)) n.toNat
 obtain⟨f1,f2⟩:=zjr g
 rw[← g.all] at f2
 have sub:∀ e ∈ (swG (nbW n ts) d n.toNat).1,∀ p ∈ e.2,p < n.toNat∧∃ k,tbN (ones ts) e.1 p=some k∧k < (ones ts).length:=fun e he p hp=>by
  have m:=(g.sub e he).subset hp
  refine⟨zqd _ _ m,?_⟩
  have a:=(znl (zes ok) (zbg (ones ts))).mp m
  have z:=(zfa (ts:=ones ts) (zbg (ones ts)) (l:=1)).mpr ⟨rfl,a⟩
  rw[znd] at z
  obtain⟨k,ek,hk,_⟩:=zp7 (zes ok) (zbg (ones ts)) z
  exact⟨k,ek,hk⟩
 refine⟨⟨by omega,by omega,fun e he=>⟨g.low e he,sub e he⟩⟩,zr0 zew _,by omega,fun e he=>⟨g.low e he,?_,fun p hp=>(sub e he p hp).1⟩⟩
 have h1:=(g.sub e he).length_le
 have h2:=zjm (n:=n) (ts:=ones ts) (ks:=List.range (ones ts).length) e.1
 have h3:(nbW n ts e.1).length≤n.toNat:=h2
 omega
theorem zrz {n:Int} {T:List Tie} {ks:List Nat} (ok:WebOk n T) (ko:KeepOk T.length ks) {a b:Nat} (ha:a < n.toNat) {ws:List Nat} {x:Int} (tr:Far.Tr (arcs T ks) a ws b x):∀ y ∈ ws,y < n.toNat:=by
 induction tr with
 | one=>intro y hy;rw[List.mem_singleton.mp hy];exact ha
 | snoc t m ih =>
  intro y hy
  rcases List.mem_append.mp hy with z | z
  ·exact ih y z
  ·rw[List.mem_singleton.mp z];exact (zom ok ko _ _ _ m).2
abbrev St6:=List Nat × List (Nat × Nat × Nat × List (Nat × Nat))
def rowSD (r:Nat × Nat × Nat × List (Nat × Nat)):PyData:=.tuple [.int (r.1:Int),.int (r.2.1:Int),.int (r.2.2.1:Int),gainD r.2.2.2]
theorem zj5 (rs:List (Nat × Nat × Nat × List (Nat × Nat))):tupAll (rs.map rowSD)=true:=by
 induction rs with
 | nil=>rfl
 | cons r rs ih =>
  show (tupD (rowSD r) && tupAll (rs.map rowSD))=true
  rw[ih,Bool.and_true]
  show (true && (true && (true && (tupAll (r.2.2.2.map pr2D) && true))))=true
  rw[zi6];rfl
noncomputable def wyW (ts:List Tie) (u v:Nat):List Nat:=(wyN (ones ts) u v).getD []
noncomputable def addK (ts:List Tie) (ks ws:List Nat):List Nat:=(List.range ts.length).filter fun k=>decide (k ∈ ks) || decide (k ∈ alongN (ones ts) ws)
noncomputable def boK (ts:List Tie) (ks ws:List Nat):List Nat:=(alongN (ones ts) ws).filter fun k=>!decide (k ∈ ks)
noncomputable def stS (ts:List Tie) (l:List (Nat × List Nat)) (u v:Nat) (s:St6):St6:=(addK ts s.1 (wyW ts u v),s.2++[(u,v,(boK ts s.1 (wyW ts u v)).length,gnF ts s.1 l (wyW ts u v))])
noncomputable def inS (n:Int) (ts:List Tie) (l:List (Nat × List Nat)) (u:Nat):Nat->St6->St6
 | 0,s=>s
 | f + 1,s=>match fwF n ts s.1 u with
  | none=>s
  | some v=>inS n ts l u f (stS ts l u v s)
theorem zgt {n:Int} {ts:List Tie} {l:List (Nat × List Nat)} {u:Nat} {s:St6} (e:fwF n ts s.1 u=none):∀ f,inS n ts l u f s=s
 | 0=>rfl
 | f + 1=>by unfold inS;rw[e]
theorem zgs {n:Int} {ts:List Tie} {l:List (Nat × List Nat)} {u v f:Nat} {s:St6} (e:fwF n ts s.1 u=some v):inS n ts l u (f + 1) s=inS n ts l u f (stS ts l u v s):=by conv=>lhs;unfold inS;rw[e]
noncomputable def sixS (n:Int) (ts:List Tie) (l:List (Nat × List Nat)):Nat->St6
 | 0=>(kfK (ones ts) l,[])
 | u + 1=>inS n ts l u (n.toNat + 1) (sixS n ts l u)
theorem zfc (ts:List Tie) (ks ws:List Nat):KeepOk ts.length (addK ts ks ws):=⟨List.Pairwise.filter _ List.pairwise_lt_range,fun k hk=>List.mem_range.mp (List.mem_filter.mp hk).1⟩
theorem zhe {ts:List Tie} {ks ws:List Nat} (ko:KeepOk ts.length ks) (ln:linked (ones ts) ws) {k:Nat}:k ∈ addK ts ks ws↔k ∈ ks∨k ∈ alongN (ones ts) ws:=by
 unfold addK
 rw[List.mem_filter,List.mem_range,Bool.or_eq_true,decide_eq_true_iff,decide_eq_true_iff]
 refine⟨fun h=>h.2,fun h=>⟨?_,h⟩⟩
 rcases h with z | z
 ·exact ko.2 k z
 ·have:=zp4 ln k z;rw[za4] at this;exact this
theorem zop {ts:List Tie} {ks ws:List Nat} (ko:KeepOk ts.length ks) (nd:ws.Nodup) (ln:linked (ones ts) ws):(addK ts ks ws).Perm (ks++boK ts ks ws):=by
 refine (List.perm_ext_iff_of_nodup ?_ ?_).mpr fun k=>?_
 ·exact List.Pairwise.imp (fun h=>Nat.ne_of_lt h) (zfc ts ks ws).1
 ·refine List.nodup_append.mpr ⟨List.Pairwise.imp (fun h=>Nat.ne_of_lt h) ko.1,List.Nodup.sublist List.filter_sublist (zp5 nd ln),fun a ha b hb e=>?_⟩
  have:=(List.mem_filter.mp hb).2
  rw[← e] at this
  simp [ha] at this
 ·rw[zhe ko ln,List.mem_append]
  unfold boK
  rw[List.mem_filter]
  constructor
  ·rintro (z | z)
   ·exact .inl z
   ·by_cases c:k ∈ ks
    ·exact .inl c
    ·exact .inr ⟨z,by simp [c]⟩
  ·rintro (z | z)
   ·exact .inl z
   ·exact .inr z.1
def sixD (s:St6):PyData:=.tuple [keepD s.1,.tuple (s.2.map rowSD)]
/-- what is told is small -/
def SixFew (s:St6):Prop:=s.1.length≤60∧s.2.length≤1000∧∀ r ∈ s.2,r.2.2.2.length≤1000
theorem zsp {ts:List Tie} {ks ws:List Nat} {l:List (Nat × List Nat)} (up:l.Pairwise up1) (h:l.length≤24):(gnF ts ks l ws).length≤1000:=by
 have h1:2 * (gnF ts ks l ws).length≤l.length * l.length:=zgu up
 have h2:=Nat.mul_le_mul h h
 omega
def RowsFew (s:St6):Prop:=∀ r ∈ s.2,r.2.2.2.length≤1000
theorem zny {n:Int} {ts:List Tie} {l:List (Nat × List Nat)} {u:Nat} (up:l.Pairwise up1) (h:l.length≤24):∀ (f:Nat) (s:St6),RowsFew s->RowsFew (inS n ts l u f s)
 | 0,s,hs=>hs
 | f + 1,s,hs=>by
  cases e:fwF n ts s.1 u with
  | none=>rw[zgt e];exact hs
  | some v =>
   rw[zgs e]
   refine zny up h f _ fun r hr=>?_
   rcases List.mem_append.mp hr with z | z
   ·exact hs r z
   ·rw[List.mem_singleton.mp z];exact zsp up h
theorem zmo {n:Int} {ts:List Tie} {l:List (Nat × List Nat)} (up:l.Pairwise up1) (h:l.length≤24):∀ u,RowsFew (sixS n ts l u)
 | 0=>fun r hr=>by cases hr
 | u + 1=>zny up h _ _ (zmo up h u)
noncomputable def sixV (n:Int) (ts:List Tie) (d:Int):St6:=sixS n ts (swG (nbW n ts) d n.toNat).1 n.toNat
def spSix (K:PySem.W.Frag):Sp:=fun vs H Q _=>∃ (n:Int) (ts:List Tie) (wv:V) (d:Int),vs=[wv,.int d]∧Is K H (webD n (ones ts)) wv∧WebOk n ts∧n≤24∧1≤d∧∀ v H',Same H H'->SixFew (sixV n ts d)->Is K H' (sixD (sixV n ts d)) v->Q v H'
theorem zji (T:Bi mg) (D:DefOk K mg "six_told" s_six_told ["web","d"]) (O_guards_by:Ok P w K mg base 5 "guards_by" ["web","d"] (spGuards K)) (O_kept_at_first:Ok P w K mg base 5 "kept_at_first" ["web","guards"] (spKF K)) (O_first_wanted:Ok P w K mg base 5 "first_wanted" ["web","keep","u"] (spFW K)) (O_the_way:Ok P w K mg base 5 "the_way" ["web","keep","a","b"] (spWayM K)) (O_whole:Ok P w K mg base 5 "whole" ["web"] (spWhole K)) (O_ties_along:Ok P w K mg base 5 "ties_along" ["web","places"] (spAlongW K)) (O_gained_by:Ok P w K mg base 5 "gained_by" ["web","keep","guards","way"] (spGB K)):Ok P w K mg base 6 "six_told" ["web","d"] (spSix K):=by
 refine zbb (k:=5) D sc_six_told (fun vs H Q E h=>?_) (fun f cdv A outer s H vs Q E hr h=>?_)
 ·obtain⟨n,ts,wv,d,rfl,_⟩:=h
  rfl
 obtain⟨n,ts,wv,d,rfl,isw,ok,n9,d1,q⟩:=h
 have nd:=sc_six_told.nd
 have few60:=ok.few
 have n1:=ok.n1
 have oko:=zes ok
 refine⟨_,(zac (zan (i:=2) nd rfl (Or.inl rfl) (zae O_guards_by hr rfl (zaa (pv 0) (zaa (pv 1) zab)))) (zac (zan (i:=3) nd rfl (Or.inr rfl) (zae O_kept_at_first hr rfl (zaa (pv 0) (zaa (pv 2) zab)))) (zac (zan (i:=4) nd rfl (Or.inl rfl) (za5 zab)) (zac (zbn PassesOwn.never rfl (zbt rfl T.z_range (zaa (zav zbc (pv 0) zad (fun _ _=>rfl)) zab)) (zah (i:=5) nd rfl (Or.inl rfl)) (zac (zan (i:=6) nd rfl (Or.inl rfl) (zae O_first_wanted hr rfl (zaa (pv 0) (zaa (pv 3) (zaa (pv 5) zab))))) (zaf (zgf PassesOwn.never (zao zjf (pv 6) zbp (nomark _)) (zac (zan (i:=7) nd rfl (Or.inl rfl) (zae O_the_way hr rfl (zaa (pv 0) (zaa (zae O_whole hr rfl (zaa (pv 0) zab)) (zaa (pv 5) (zaa (pv 6) zab)))))) (zac (zco (i:=8) (N:=["web","d","guards","keep","ledger","u","v","way","bought"]) (sc0:=defScope s_six_told) (own:=["tie"]) (fr:=["keep"]) (js:=[3]) rfl (zel (zae O_ties_along hr rfl (zaa (pv 0) (zaa (pv 7) zab)))) (fun _ _ _ _=>(zah (i:=0) (by show List.Nodup [("tie":Str),("keep":Str)];decide +kernel) rfl (Or.inl rfl))) (fun _ _ _ _=>(zct (zao zbx (pv 0) (pv 1) (by with_unfolding_all rfl)))) (fun _ _ _ _=>(pv 0)) nd rfl (Or.inl rfl)) (zac (zbq (zd0 PySem.F.plainAttrs_list PySem.F.slot_list_append PySem.F.type_list_append zb7 (pv 4) (zaa (zar (zaa (pv 5) (zaa (pv 6) (zaa (zam zau rfl T.z_len (by decide +kernel) (zaa (pv 8) zab)) (zaa (zae O_gained_by hr rfl (zaa (pv 0) (zaa (pv 3) (zaa (pv 2) (zaa (pv 7) zab))))) zab))))) zab))) (zac (zan (i:=3) nd rfl (Or.inr rfl) (zas za1 rfl T.z_tuple (by decide +kernel) (zaa (zam zdc rfl T.z_sorted (by decide +kernel) (zaa (zat zb1 (pv 3) (zas za1 rfl T.z_tuple (by decide +kernel) (zaa (pv 8) zab))) zab)) zab))) (zaf (zan (i:=6) nd rfl (Or.inl rfl) (zae O_first_wanted hr rfl (zaa (pv 0) (zaa (pv 3) (zaa (pv 5) zab)))))))))))))) (zaf (zaq (zar (zaa (pv 3) (zaa (zas za1 rfl T.z_tuple (by decide +kernel) (zaa (pv 4) zab)) zab))))))))),?_⟩
 refine⟨_,rfl,_,rfl,n,ts,wv,d,rfl,isw,ok,d1,fun gv J1 S1 isg=>?_⟩
 obtain⟨gw,gp⟩:=zqh (d:=d) ok n9
 have qv:∀ v H',Same H H'->SixFew (sixS n ts (swG (nbW n ts) d n.toNat).1 n.toNat)->Is K H' (sixD (sixS n ts (swG (nbW n ts) d n.toNat).1 n.toNat)) v->Q v H':=q
 obtain⟨l,el⟩:∃ l,l=(swG (nbW n ts) d n.toNat).1:=⟨_,rfl⟩
 rw[← el] at isg gw gp qv
 refine⟨_,rfl,_,rfl,n,ones ts,wv,gv,l,rfl,Is.same S1 _ isw,oko,isg,gw,fun kp J2 S2 e2=>?_⟩
 refine⟨(by show 0≤1000;decide),fun lg J3 S3 f3 e3=>?_⟩
 have S13:=S1.trans (S2.trans S3)
 have fg:H lg=none:=(S1.trans S2).free f3
 obtain⟨g0,gg,wz,rfl,hg0,hg,hall,hlw⟩:=za7 isw
 have tkl:∀ {J:Hp},But lg J3 J->TupKeep J3 J:=fun b c us e=>b _ _ (fun z=>by rw[z,e3] at e;cases e) e
 have smJ:∀ {J:Hp},But lg J3 J->Same H J:=fun b c o e=>b _ _ (zaj e fg) (S13 _ _ e)
 have gJ:∀ {J:Hp},But lg J3 J->Is K J (grdD l) gv:=fun b=>Is.tk (tkl b) _ (by
  show tupAll (l.map pairD)=true
  exact zhi l) (Is.same (S2.trans S3) _ isg)
 refine⟨_,rfl,g0,_,_,_,rfl,rfl,SqT.of (S13 _ _ hg0),rfl,n,rfl,by omega,by omega,?_⟩
 refine zbu (n:=n.toNat) (fun i σ J=>∃ (y5 y6 y7 y8:Option V) (kp:Addr) (ys:List V),σ=[some (.ref g0),some (.int d),some gv,some (.ref kp),some (.ref lg),y5,y6,y7,y8]∧But lg J3 J∧J kp=some (.tup (natV (sixS n ts l i).1))∧KeepOk ts.length (sixS n ts l i).1∧J lg=some (.lst ys)∧IsAll K J ((sixS n ts l i).2.map rowSD) ys∧(sixS n ts l i).2.length≤i * 24) ⟨none,none,none,none,kp,[],rfl,But.refl,S3 _ _ e2,(by have:=zns (ones ts) l;rw[za4] at this;exact this),e3,rfl,Nat.le_refl _⟩ (fun i σ J hi h=>?_) (fun σ J h=>?_)
 ·obtain⟨y5,y6,y7,y8,kp,ys,rfl,bt,hk,ko,hl,hys,lys⟩:=h
  have wkJ:∀ {J:Hp} {kp:Addr} {ks:List Nat},But lg J3 J->J kp=some (.tup (natV ks))->KeepOk ts.length ks->WK K J n (ones ts) ks (.ref g0) (.ref kp):=fun b e o=>⟨Is.same (smJ b) _ isw,oko,zc7 e,by rw[za4];exact o⟩
  refine⟨_,rfl,_,rfl,_,rfl,n,ts,(sixS n ts l i).1,_,_,i,(show [V.ref g0,.ref kp,.int (0 + (i:Int))]=[.ref g0,.ref kp,.int (i:Int)] by rw[Int.zero_add]),wkJ bt hk ko,ok,hi,fun J4 S4=>?_⟩
  have ev:V.int (0 + (i:Int))=V.int (i:Int):=by rw[Int.zero_add]
  rw[ev]
  have fin:sixS n ts l (i + 1)=inS n ts l i (n.toNat + 1) (sixS n ts l i):=rfl
  obtain⟨s0,es0⟩:∃ s0,s0=sixS n ts l i:=⟨_,rfl⟩
  rw[← es0] at hk ko hys lys fin ⊢
  refine⟨fun m σ J=>∃ (y7 y8:Option V) (kp:Addr) (ys:List V) (s:St6) (fu:Nat),σ=[some (.ref g0),some (.int d),some gv,some (.ref kp),some (.ref lg),some (.int (i:Int)),some (oa (fwF n ts s.1 i)),y7,y8]∧But lg J3 J∧J kp=some (.tup (natV s.1))∧KeepOk ts.length s.1∧J lg=some (.lst ys)∧IsAll K J (s.2.map rowSD) ys∧sixS n ts l (i + 1)=inS n ts l i fu s∧(∀ x,fwF n ts s.1 i=some x->s.2.length≤i * 24 + x∧n.toNat + 1≤fu + x∧m=n.toNat - x)∧(fwF n ts s.1 i=none->s.2.length≤i * 24 + 24),?_,?_⟩
  ·cases efw:fwF n ts s0.1 i with
   | none=>exact⟨0,_,_,kp,ys,s0,n.toNat + 1,by rw[efw];rfl,fun b o z e=>S4 _ _ (bt _ _ z e),S4 _ _ hk,ko,S4 _ _ hl,IsAll.same S4 _ hys,fin,fun x e=>(by rw[efw] at e;cases e),fun _=>by omega⟩
   | some x=>exact⟨n.toNat - x,_,_,kp,ys,s0,n.toNat + 1,by rw[efw];rfl,fun b o z e=>S4 _ _ (bt _ _ z e),S4 _ _ hk,ko,S4 _ _ hl,IsAll.same S4 _ hys,fin,fun x' e=>(by rw[efw] at e;cases e;exact⟨by omega,by omega,rfl⟩),fun e=>by rw[efw] at e;cases e⟩
  rintro m σ J5 ⟨y7,y8,kp,ys,s,fu,rfl,bt5,hk5,ko5,hl5,hys5,efu,hsome,hnone⟩
  cases efw:fwF n ts s.1 i with
  | none =>
   refine⟨_,rfl,rfl,_,rfl,iteF ?_⟩
   rw[zgt efw] at efu
   have:=hnone efw
   exact⟨_,_,_,_,kp,ys,rfl,bt5,by rw[efu];exact hk5,by rw[efu];exact ko5,hl5,by rw[efu];exact hys5,by rw[efu,Nat.add_mul];omega⟩
  | some v =>
   obtain⟨ls1,ls2,rfl⟩:=hsome v efw
   have vb:=List.find?_some efw
   have vn:v < n.toNat:=List.mem_range.mp (List.mem_of_find?_eq_some efw)
   obtain⟨f',rfl⟩:∃ f',fu=f' + 1:=⟨fu - 1,by omega⟩
   rw[zgs efw] at efu
   obtain⟨x,nx⟩:∃ x,dstF ts (List.range ts.length) i v=some x:=by
    unfold fwB at vb
    rw[Bool.and_eq_true] at vb
    cases e:dstF ts (List.range ts.length) i v with
    | none=>rw[e] at vb;cases vb.2
    | some x=>exact⟨x,rfl⟩
   have tk5:=tkl bt5
   refine⟨_,rfl,rfl,_,rfl,iteT ⟨fun σ' J'=>∃ m',m' < n.toNat - v∧∃ (y7 y8:Option V) (kp:Addr) (ys:List V) (s:St6) (fu:Nat),σ'=[some (.ref g0),some (.int d),some gv,some (.ref kp),some (.ref lg),some (.int (i:Int)),some (oa (fwF n ts s.1 i)),y7,y8]∧But lg J3 J'∧J' kp=some (.tup (natV s.1))∧KeepOk ts.length s.1∧J' lg=some (.lst ys)∧IsAll K J' (s.2.map rowSD) ys∧sixS n ts l (i + 1)=inS n ts l i fu s∧(∀ x,fwF n ts s.1 i=some x->s.2.length≤i * 24 + x∧n.toNat + 1≤fu + x∧m'=n.toNat - x)∧(fwF n ts s.1 i=none->s.2.length≤i * 24 + 24),fun _ _ h=>h,?_⟩⟩
   have sm5:=smJ bt5
   refine⟨_,rfl,_,rfl,n,ones ts,_,rfl,Is.same sm5 _ isw,by rw[za4];exact few60,fun lk J6 S6 f6 e6=>?_⟩
   refine⟨_,rfl,_,rfl,n,ones ts,List.range (ones ts).length,_,.ref lk,(i:Int),(v:Int),rfl,⟨Is.same (sm5.trans S6) _ isw,oko,zc7 e6,zbg (ones ts)⟩,by omega,by omega,by omega,by omega,fun wv J7 S7 wm=>?_⟩
   rw[Int.toNat_natCast,Int.toNat_natCast] at wm
   rcases wm with ⟨_,dn⟩ | ⟨tw,ws,x',rfl,ew,l24,mw,tr,dx⟩
   ·rw[za4] at dn
    have:=zju (zbg ts) dn
    rw[nx] at this;cases this
   have xx:x'=x:=by
    rw[za4] at dx
    have:=zju (zbg ts) dx
    rw[nx] at this
    exact Option.some.inj this
   subst xx
   have ewy:wyW ts i v=ws:=by unfold wyW;rw[zos oko mw];rfl
   have ndw:=mw.nodup
   have ln:=(zsz oko (zbg (ones ts)) tr).2
   have wlt:∀ y ∈ ws,y < n.toNat:=zrz oko (zbg (ones ts)) hi tr
   have S57:=S6.trans S7
   have sm7:=sm5.trans S57
   refine⟨_,rfl,_,rfl,n,ones ts,_,tw,ws,rfl,Is.same sm7 _ isw,by rw[za4];exact few60,ew,by omega,ln,fun la J8 S8 e8=>?_⟩
   have lal:(alongN (ones ts) ws).length≤24:=by rw[zdg];omega
   have S58:=S57.trans S8
   have hk8:=S58 _ _ hk5
   refine⟨la,rfl,⟨_,SqL.of e8⟩,?_⟩
   refine zda e8 (fun σ'=>∃ o,σ'=[o,some (.ref kp)]) (fun j=>if (fun k=>!decide (k ∈ s.1)) ((alongN (ones ts) ws).getD j 0)=true then some (V.int (((alongN (ones ts) ws).getD j 0:Nat):Int)) else none) (by rw[zai];omega) (by exact⟨none,rfl⟩) (fun j x σ' H' hx s2 sg C L hC hL=>?_) (fun lb J9 hL S9 hH=>?_)
   ·obtain⟨o,rfl⟩:=sg
    obtain⟨k,hk',rfl⟩:=zcj hx
    have ek:(alongN (ones ts) ws).getD j 0=k:=by rw[List.getD_eq_getElem?_getD,hk'];rfl
    rw[ek] at hC hL
    refine⟨_,rfl,_,rfl,kp,_,rfl,.inr (SqT.of (s2 _ _ hk8)),rfl,zc9 _,_,rfl,?_⟩
    show if (!inV (V.int (k:Int)) (natV s.1))=true then _ else _
    rw[zgr (Int.natCast_nonneg _),Int.toNat_natCast]
    cases dk:decide (k ∈ s.1) with
    | false=>exact iteT ⟨_,rfl,hC _ _ _ ⟨_,rfl⟩ (Same.refl _) (by rw[if_pos (by show (!decide (k ∈ s.1))=true;rw[dk];rfl)])⟩
    | true=>exact iteF (hL _ _ ⟨_,rfl⟩ (Same.refl _) (by rw[if_neg (by show ¬ (!decide (k ∈ s.1))=true;rw[dk];decide)]))
   rw[zai,zd9 (fun k=>!decide (k ∈ s.1)) (alongN (ones ts) ws)] at hH
   have hH:J9 lb=some (.lst (natV (boK ts s.1 ws))):=hH
   have S59:=S58.trans S9
   have hl9:=S59 _ _ hl5
   have bt9:But lg J3 J9:=fun b o z e=>S59 _ _ (bt5 _ _ z e)
   refine⟨_,rfl,.inl ⟨rfl,_,SqL.of hl9⟩,_,rfl,_,rfl,_,rfl,lb,_,rfl,.inl (SqL.of hH),_,rfl,_,rfl,_,rfl,_,rfl,n,ts,s.1,_,_,gv,l,tw,ws,rfl,wkJ bt9 (S59 _ _ hk5) ko5,ok,gJ bt9,gp,(S8.trans S9) _ _ ew,ndw,wlt,fun gv' J10 S10 isg'=>?_⟩
   refine⟨(by show 4≤1000;decide),fun tc J11 S11 f11 e11=>?_⟩
   have hl11:=S11 _ _ (S10 _ _ hl9)
   have lys5:ys.length=s.2.length:=by rw[hys5.length,List.length_map]
   have i9:i < 24:=by omega
   refine⟨lg,_,_,rfl,rfl,hl11,by omega,fun J12 b12 e12=>?_⟩
   have S911:=S10.trans S11
   have tk12:TupKeep J11 J12:=fun b us e=>b12 _ _ (fun z=>by rw[z,hl11] at e;cases e) e
   have bt12:But lg J3 J12:=fun b o z e=>b12 _ _ z (S911 _ _ (bt9 _ _ z e))
   have hk12:=tk12 _ _ (S911 _ _ (S59 _ _ hk5))
   have nlb:lb≠lg:=fun z=>by rw[z] at hL;have:=S58 _ _ hl5;rw[hL] at this;cases this
   have hb12:=b12 _ _ nlb (S911 _ _ hH)
   have pm0:=zop ko5 ndw ln
   have lks:s.1.length + (boK ts s.1 ws).length≤60:=by
    have:=pm0.length_eq
    rw[List.length_append] at this
    have h2:=(zfc ts s.1 ws).len
    omega
   refine⟨_,rfl,_,rfl,lb,_,rfl,hb12,fun tb J13 S13' f13 e13=>⟨kp,tb,_,_,rfl,rfl,S13' _ _ hk12,e13,Nat.le_trans (show (natV s.1).length + (natV (boK ts s.1 ws)).length≤1000 by rw[zai,zai];omega) (by decide),fun kc J14 S14 e14=>?_⟩⟩
   rw[← zey,za8] at e14
   refine⟨kc,keepI (s.1++boK ts s.1 ws),rfl,e14,by unfold keepI;rw[List.length_map,List.length_append];omega,fun ms pm pw lz J15 S15 f15 e15=>⟨lz,_,rfl,e15,fun kn J16 S16 f16 e16=>?_⟩⟩
   have ems:ms=keepI (addK ts s.1 ws):=by
    refine List.Perm.eq_of_pairwise (le:=(·≤·)) (fun a b _ _ h1 h2=>Int.le_antisymm h1 h2) pw ?_ (pm.trans (by unfold keepI;exact (pm0.symm).map _))
    unfold keepI
    exact List.Pairwise.map _ (fun a b h=>by have:a < b:=h;omega) (zfc ts s.1 ws).1
   rw[ems,← za8] at e16
   have S1216:=S13'.trans (S14.trans (S15.trans S16))
   have bt16:But lg J3 J16:=fun b o z e=>S1216 _ _ (bt12 _ _ z e)
   have ko':=zfc ts s.1 ws
   refine⟨_,rfl,_,rfl,_,rfl,n,ts,addK ts s.1 ws,_,_,i,rfl,wkJ bt16 e16 ko',ok,hi,fun J17 S17=>?_⟩
   have sub:∀ k ∈ s.1,k ∈ addK ts s.1 ws:=fun k hk=>(zhe ko5 ln).mpr (.inl hk)
   obtain⟨y,ey,ley⟩:=(zgx ko' i v).2 x' (zmb oko tr fun k hk=>(zhe ko5 ln).mpr (.inr hk))
   have S1217:=S1216.trans S17
   have es:stS ts l i v s=(addK ts s.1 ws,s.2++[(i,v,(boK ts s.1 ws).length,gnF ts s.1 l ws)]):=by unfold stS;rw[ewy]
   have up:∀ v',fwF n ts (addK ts s.1 ws) i=some v'->v < v'∧v' < n.toNat:=fun v' e=>⟨zrl ko5 ko' sub efw nx ey ley e,List.mem_range.mp (List.mem_of_find?_eq_some e)⟩
   have ll:(s.2++[(i,v,(boK ts s.1 ws).length,gnF ts s.1 l ws)]).length=s.2.length + 1:=by rw[List.length_append];rfl
   have rows:IsAll K J17 ((s.2++[(i,v,(boK ts s.1 ws).length,gnF ts s.1 l ws)]).map rowSD) (ys++[.ref tc]):=by
    rw[List.map_append]
    refine IsAll.snoc (d:=rowSD (i,v,(boK ts s.1 ws).length,gnF ts s.1 l ws)) ?_ ?_
    ·refine⟨tc,_,rfl,S1217 _ _ (tk12 _ _ e11),.int (i:Int),_,rfl,rfl,.int (v:Int),_,rfl,rfl,_,_,rfl,(by rw[zai];rfl),gv',[],rfl,?_,rfl⟩
     refine Is.same S1217 _ (Is.tk tk12 _ ?_ (Is.same S11 _ isg'))
     exact zi6 _
    ·exact IsAll.same S1217 _ (IsAll.but b12 hl11 _ (zj5 _) (IsAll.same (S59.trans S911) _ hys5))
   cases ef':fwF n ts (addK ts s.1 ws) i with
   | none =>
    have efs:fwF n ts (stS ts l i v s).1 i=none:=by rw[es];exact ef'
    refine⟨0,by omega,_,_,kn,ys++[.ref tc],stS ts l i v s,f',by rw[efs];rfl,fun b o z e=>S17 _ _ (bt16 _ _ z e),by rw[es];exact S17 _ _ e16,by rw[es];exact ko',S1217 _ _ e12,by rw[es];exact rows,efu,fun x e=>?_,fun _=>?_⟩
    ·rw[es] at e;rw[ef'] at e;cases e
    ·rw[es,ll];omega
   | some v' =>
    obtain⟨u1,u2⟩:=up v' ef'
    have efs:fwF n ts (stS ts l i v s).1 i=some v':=by rw[es];exact ef'
    refine⟨n.toNat - v',by omega,_,_,kn,ys++[.ref tc],stS ts l i v s,f',by rw[efs];rfl,fun b o z e=>S17 _ _ (bt16 _ _ z e),by rw[es];exact S17 _ _ e16,by rw[es];exact ko',S1217 _ _ e12,by rw[es];exact rows,efu,fun x e=>?_,fun e=>?_⟩
    ·rw[es] at e ⊢
     rw[ef'] at e
     cases e
     rw[ll]
     exact⟨by omega,by omega,rfl⟩
    ·rw[es] at e;rw[ef'] at e;cases e
 ·obtain⟨y5,y6,y7,y8,kp,ys,rfl,bt,hk,ko,hl,hys,lys⟩:=h
  refine⟨_,rfl,_,rfl,lg,_,rfl,hl,fun t1 J6 S6 f6 e6=>⟨(by show 2≤1000;decide),fun t2 J7 S7 f7 e7=>?_⟩⟩
  refine qv _ J7 ((smJ bt).trans (S6.trans S7)) ⟨by have:=ko.len;omega,by omega,zmo gp.1 gp.2.1 _⟩ ⟨t2,_,rfl,e7,.ref kp,_,rfl,zc7 ((S6.trans S7) _ _ hk),.ref t1,[],rfl,⟨t1,ys,rfl,S7 _ _ e6,IsAll.same (S6.trans S7) _ hys⟩,rfl⟩
def awB:Nat->PyData->Bool
 | _,.int _=>true
 | k + 1,.tuple ds=>decide (ds.length≤1000) && ds.all (awB k)
 | _,_=>false
def spAW0:Sp:=fun _ _ _ _=>False
theorem ztb:DefOk K mg "is_all_wholes" s_is_all_wholes ["thing"]->Ok P w K mg base 0 "is_all_wholes" ["thing"] spAW0:=fun ⟨f,fd,F,b,m⟩=>by
 have no:∀ vs H Q E,¬ spAW0 vs H Q E:=fun vs H Q E h=>h
 exact⟨f,fd,⟨fun vs H Q E h=>absurd h (no vs H Q E),fun A outer s H args us vs Q E _ _ _ _ h=>absurd h (no vs H Q E)⟩,b,F.kp,m⟩
def spAW (K:PySem.W.Frag) (k:Nat):Sp:=fun vs H Q _=>∃ d v,vs=[v]∧Is K H d v∧awB k d=true∧∀ H',Same H H'->Q (.bl true) H'
theorem zta (T:Bi mg) (D:DefOk K mg "is_all_wholes" s_is_all_wholes ["thing"]) (O_is_all_wholes:Ok P w K mg base 1 "is_all_wholes" ["thing"] spAW0) (O_is_whole:Ok P w K mg base 1 "is_whole" ["thing"] (spD1 K (fun _=>True) wholeB)):Ok P w K mg base 2 "is_all_wholes" ["thing"] (spAW K 0):=by
 refine zbb (k:=1) D sc_is_all_wholes (fun vs H Q E h=>?_) (fun f cdv A outer s H vs Q E hr h=>?_)
 ·obtain⟨d,v,rfl,_⟩:=h
  rfl
 obtain⟨d,v,rfl,hd,e,q⟩:=h
 have nd:=sc_is_all_wholes.nd
 refine⟨_,(zac (zbj (zdu (zam (zde (n:="tuple")) rfl T.z_isinstance (by decide +kernel) (zaa (pv 0) (zaa (zen (v:=.ty "tuple") rfl T.z_tuple (by decide +kernel) rfl) zab)))) (zaf (zaq (zam (zg3 rfl) rfl T.z_all (by decide +kernel) (zaa (zbv (N:=["thing"]) (sc0:=defScope s_is_all_wholes) (own:=["part"]) (fr:=[]) (js:=[]) rfl (zbw (pv 0)) (fun _ _ _ _=>(zah (i:=0) (by show List.Nodup [("part":Str)];decide +kernel) rfl (Or.inl rfl))) (fun _ _ _ _=>zcb) (fun _ _ _ _=>(zae O_is_all_wholes hr rfl (zaa (pv 0) zab)))) zab)))) zaw) (zaf (zaq (zae O_is_whole hr rfl (zaa (pv 0) zab))))),?_⟩
 cases d with
 | int i =>
  have ty:=zqs hd
  cases hd
  exact⟨_,rfl,_,_,_,rfl,ty,rfl,_,rfl,iteF ⟨_,rfl,.int i,.int i,rfl,rfl,trivial,fun H1 s1=>q H1 s1⟩⟩
 | _=>cases e
theorem zsw {k j:Nat} (T:Bi mg) (D:DefOk K mg "is_all_wholes" s_is_all_wholes ["thing"]) (O_is_all_wholes:Ok P w K mg base (j + 1) "is_all_wholes" ["thing"] (spAW K k)) (O_is_whole:Ok P w K mg base (j + 1) "is_whole" ["thing"] (spD1 K (fun _=>True) wholeB)):Ok P w K mg base (j + 2) "is_all_wholes" ["thing"] (spAW K (k + 1)):=by
 refine zbb (k:=j + 1) D sc_is_all_wholes (fun vs H Q E h=>?_) (fun f cdv A outer s H vs Q E hr h=>?_)
 ·obtain⟨d,v,rfl,_⟩:=h
  rfl
 obtain⟨d,v,rfl,hd,e,q⟩:=h
 have nd:=sc_is_all_wholes.nd
 refine⟨_,(zac (zbj (zdu (zam (zde (n:="tuple")) rfl T.z_isinstance (by decide +kernel) (zaa (pv 0) (zaa (zen (v:=.ty "tuple") rfl T.z_tuple (by decide +kernel) rfl) zab)))) (zaf (zaq (zam (zg3 rfl) rfl T.z_all (by decide +kernel) (zaa (zbv (N:=["thing"]) (sc0:=defScope s_is_all_wholes) (own:=["part"]) (fr:=[]) (js:=[]) rfl (zbw (pv 0)) (fun _ _ _ _=>(zah (i:=0) (by show List.Nodup [("part":Str)];decide +kernel) rfl (Or.inl rfl))) (fun _ _ _ _=>zcb) (fun _ _ _ _=>(zae O_is_all_wholes hr rfl (zaa (pv 0) zab)))) zab)))) zaw) (zaf (zaq (zae O_is_whole hr rfl (zaa (pv 0) zab))))),?_⟩
 cases d with
 | int i =>
  have ty:=zqs hd
  cases hd
  exact⟨_,rfl,_,_,_,rfl,ty,rfl,_,rfl,iteF ⟨_,rfl,.int i,.int i,rfl,rfl,trivial,fun H1 s1=>q H1 s1⟩⟩
 | tuple ds =>
  have e':(decide (ds.length≤1000) && ds.all (awB k))=true:=e
  rw[Bool.and_eq_true] at e'
  have l1:=of_decide_eq_true e'.1
  obtain⟨t,xs,rfl,ht,hxs⟩:=hd
  have lx:xs.length=ds.length:=hxs.length
  refine⟨_,rfl,_,_,_,rfl,TyOf.tup ht,rfl,_,rfl,iteT ⟨_,rfl,t,rfl,⟨_,SqT.of ht⟩,?_⟩⟩
  refine zeg ht (fun σ'=>σ'.length=1) (fun i v _=>v=.bl ((fun _=>true) i)) (by omega) (by rfl) (fun _ _ _ _ _ h=>h) (fun i x σ' H' hx s2 sg C hC=>?_) (fun L ys J1 hL S1 hH hly hys=>?_)
  ·match σ',sg with
   | [o],_ =>
    have hi:i < ds.length:=by have:=(List.getElem?_eq_some_iff.mp hx).1;omega
    obtain⟨x',ex,ix⟩:=hxs.at_ (List.getElem?_eq_getElem hi)
    rw[hx] at ex
    cases ex
    exact⟨_,rfl,ds[i],x,rfl,Is.same s2 _ ix,List.all_eq_true.mp e'.2 _ (List.getElem_mem hi),fun H5 S5=>hC _ _ _ rfl S5 rfl⟩
  refine⟨L,_,rfl,SqL.of (by rw[hH,zk3 hly hys]),?_⟩
  have e1:((List.range xs.length).map fun _=>true).all id=true:=by simp
  rw[e1]
  exact q J1 S1
 | _=>cases e
theorem zoi {k:Nat}:∀ is:List Int,is.length≤1000->awB (k + 1) (.tuple (is.map .int))=true:=fun is h=>by
 show (decide ((is.map PyData.int).length≤1000) && (is.map PyData.int).all (awB k))=true
 rw[decide_eq_true (by rw[List.length_map];exact h),Bool.true_and,List.all_map]
 exact List.all_eq_true.mpr fun x _=>by cases k <;> rfl
theorem zdr {k:Nat} {ds:List PyData} (h:ds.length≤1000) (ha:∀ d ∈ ds,awB k d=true):awB (k + 1) (.tuple ds)=true:=by
 show (decide (ds.length≤1000) && ds.all (awB k))=true
 rw[decide_eq_true h,Bool.true_and]
 exact List.all_eq_true.mpr ha
theorem zqp {s:St6} (f:SixFew s):awB 5 (sixD s)=true:=by
 unfold sixD
 refine zdr (by show 2≤1000;decide) fun d hd=>?_
 simp only [List.mem_cons,List.not_mem_nil,or_false] at hd
 rcases hd with rfl | rfl
 ·exact zoi (keepI s.1) (by unfold keepI;rw[List.length_map];have:=f.1;omega)
 ·refine zdr (by rw[List.length_map];exact f.2.1) fun d hd=>?_
  obtain⟨r,hr,rfl⟩:=List.mem_map.mp hd
  refine zdr (by show 4≤1000;decide) fun d hd=>?_
  simp only [List.mem_cons,List.not_mem_nil,or_false] at hd
  rcases hd with rfl | rfl | rfl | rfl
  ·rfl
  ·rfl
  ·rfl
  ·refine zdr (by rw[List.length_map];exact f.2.2 r hr) fun d hd=>?_
   obtain⟨p,_,rfl⟩:=List.mem_map.mp hd
   exact zoi [(p.1:Int),(p.2:Int)] (by show 2≤1000;decide)
theorem zax {J J':Hp} {p:Addr} (b:But p J J') (pp:Pot J p):TupKeep J J':=by
 obtain⟨xs,e⟩:=pp.lst
 exact fun a ys h=>b _ _ (fun z=>by rw[z,e] at h;cases h) h
/-- showable, no dict, short leaves -/
def ShD (d:PyData):Prop:=d.showable=true∧d.hasDict=false∧d.leavesShort 10=true
theorem ShD.all:∀ {ds:List PyData},(∀ d ∈ ds,ShD d)->PyData.showableAll ds=true∧PyData.hasDictAll ds=false∧PyData.leavesShortAll 10 ds=true
 | [],_=>⟨rfl,rfl,rfl⟩
 | d::ds,h=>by
  obtain⟨a1,a2,a3⟩:=h d List.mem_cons_self
  obtain⟨b1,b2,b3⟩:=ShD.all fun e he=>h e (List.mem_cons_of_mem _ he)
  refine⟨?_,?_,?_⟩
  ·show (d.showable && PyData.showableAll ds)=true
   rw[a1,b1];rfl
  ·show (d.hasDict || PyData.hasDictAll ds)=false
   rw[a2,b2];rfl
  ·show (d.leavesShort 10 && PyData.leavesShortAll 10 ds)=true
   rw[a3,b3];rfl
theorem zoe {b:Nat}:∀ {ds:List PyData},(∀ d ∈ ds,d.bulk≤b)->PyData.bulkAll ds≤(b + 1) * ds.length
 | [],_=>Nat.zero_le _
 | d::ds,h=>by
  have h1:=h d List.mem_cons_self
  have h2:=zoe fun e he=>h e (List.mem_cons_of_mem _ he)
  show d.bulk + 1 + PyData.bulkAll ds≤(b + 1) * (ds.length + 1)
  rw[Nat.mul_add,Nat.mul_one];omega
/-- whole numbers and tuples of such, small -/
def Cl (k b:Nat) (d:PyData):Prop:=awB k d=true∧ShD d∧d.bulk≤b
theorem zk4:∀ (k:Nat) (d:PyData),awB k d=true->tupD d=true
 | k,.int i,_=>rfl
 | 0,.tuple _,h=>by cases h
 | k + 1,.tuple ds,h=>by
  have h':(decide (ds.length≤1000) && ds.all (awB k))=true:=h
  rw[Bool.and_eq_true,List.all_eq_true] at h'
  have go:∀ es:List PyData,(∀ d ∈ es,awB k d=true)->tupAll es=true:=fun es=>by
   induction es with
   | nil=>exact fun _=>rfl
   | cons e r ih =>
    intro he
    show (tupD e && tupAll r)=true
    rw[zk4 k e (he e List.mem_cons_self),ih fun d hd=>he d (List.mem_cons_of_mem _ hd)];rfl
  exact go ds h'.2
 | 0,.none,h=>by cases h
 | 0,.bool _,h=>by cases h
 | 0,.str _,h=>by cases h
 | 0,.list _,h=>by cases h
 | 0,.dict _,h=>by cases h
 | k + 1,.none,h=>by cases h
 | k + 1,.bool _,h=>by cases h
 | k + 1,.str _,h=>by cases h
 | k + 1,.list _,h=>by cases h
 | k + 1,.dict _,h=>by cases h
theorem Cl.tuple {k b m:Nat} {ds:List PyData} (h:ds.length≤m) (hm:m≤1000) (ha:∀ d ∈ ds,Cl k b d):Cl (k + 1) ((b + 1) * m) (.tuple ds):=by
 obtain⟨s1,s2,s3⟩:=ShD.all fun d hd=>(ha d hd).2.1
 refine⟨zdr (by omega) fun d hd=>(ha d hd).1,⟨s1,s2,s3⟩,?_⟩
 exact Nat.le_trans (zoe fun d hd=>(ha d hd).2.2) (Nat.mul_le_mul (Nat.le_refl _) h)
theorem Cl.int {k b:Nat} {i:Int} (h:i.natAbs < 10 ^ 8):Cl k b (.int i):=by
 refine⟨by cases k <;> rfl,⟨decide_eq_true (zru (Nat.lt_trans h (by decide +kernel))),rfl,decide_eq_true ?_⟩,Nat.zero_le _⟩
 have e:=int_text_length_le10 (k:=8) (by decide) h
 show (Str.ofString (toString i)).length≤10
 rw[PySem.ofString_length];omega
theorem Cl.le {k b b':Nat} {d:PyData} (h:Cl k b d) (hb:b≤b'):Cl k b' d:=⟨h.1,h.2.1,Nat.le_trans h.2.2 hb⟩
theorem zsv:∀ (k:Nat) (d:PyData),awB k d=true->awB (k + 1) d=true
 | k,.int i,_=>rfl
 | 0,.tuple _,h=>by cases h
 | k + 1,.tuple ds,h=>by
  have h':(decide (ds.length≤1000) && ds.all (awB k))=true:=h
  rw[Bool.and_eq_true,List.all_eq_true] at h'
  exact zdr (of_decide_eq_true h'.1) fun d hd=>zsv k d (h'.2 d hd)
 | 0,.none,h=>by cases h
 | 0,.bool _,h=>by cases h
 | 0,.str _,h=>by cases h
 | 0,.list _,h=>by cases h
 | 0,.dict _,h=>by cases h
 | k + 1,.none,h=>by cases h
 | k + 1,.bool _,h=>by cases h
 | k + 1,.str _,h=>by cases h
 | k + 1,.list _,h=>by cases h
 | k + 1,.dict _,h=>by cases h
theorem Cl.up {k b:Nat} {d:PyData} (h:Cl k b d):Cl (k + 1) b d:=⟨zsv k d h.1,h.2⟩
theorem Cl.fits {k b:Nat} {d:PyData} (h:Cl k b d) (hb:b≤1200000):d.shown.length≤sizeLine:=by
 have h1:=PyData.shown_le_bulk 10 (by decide) d h.2.1.2.2
 have h2:=h.2.2
 have:(12 * 1200000 + 10:Nat)≤sizeLine:=by decide
 omega
/-- values that stand for data of a sort -/
def AllV (K:PySem.W.Frag) (H:Hp) (C:PyData->Prop) (ys:List V):Prop:=∀ y ∈ ys,∃ d,Is K H d y∧C d
theorem AllV.data {K:PySem.W.Frag} {H:Hp} {C:PyData->Prop}:∀ {ys:List V},AllV K H C ys->∃ ds,IsAll K H ds ys∧ds.length=ys.length∧∀ d ∈ ds,C d
 | [],_=>⟨[],rfl,rfl,fun d h=>by cases h⟩
 | y::ys,h=>by
  obtain⟨d,h1,h2⟩:=h y List.mem_cons_self
  obtain⟨ds,g1,g2,g3⟩:=AllV.data fun z hz=>h z (List.mem_cons_of_mem _ hz)
  exact⟨d::ds,⟨y,ys,rfl,h1,g1⟩,by rw[List.length_cons,List.length_cons,g2],fun e he=>by
   rcases List.mem_cons.mp he with z | z
   ·rw[z];exact h2
   ·exact g3 e z⟩
theorem AllV.of {K:PySem.W.Frag} {H:Hp} {C:PyData->Prop} {ds:List PyData} {ys:List V} (h:IsAll K H ds ys) (c:∀ d ∈ ds,C d):AllV K H C ys:=fun y hy=>by
 obtain⟨i,hi⟩:=List.mem_iff_getElem?.mp hy
 obtain⟨d,hd,is⟩:=h.from_ hi
 exact⟨d,is,c d (List.mem_of_getElem? hd)⟩
theorem AllV.tk {K:PySem.W.Frag} {H H':Hp} {k b:Nat} {ys:List V} (e:TupKeep H H') (h:AllV K H (Cl k b) ys):AllV K H' (Cl k b) ys:=fun y hy=>by
 obtain⟨d,is,c⟩:=h y hy
 exact⟨d,Is.tk e _ (zk4 k d c.1) is,c⟩
/-- a tuple of such -/
def TupV (K:PySem.W.Frag) (H:Hp) (k b m:Nat) (v:V):Prop:=∃ t ys,v=.ref t∧H t=some (.tup ys)∧ys.length≤m∧AllV K H (Cl k b) ys
theorem TupV.tk {K:PySem.W.Frag} {H H':Hp} {k b m:Nat} {v:V} (e:TupKeep H H') (h:TupV K H k b m v):TupV K H' k b m v:=by
 obtain⟨t,ys,rfl,h1,h2,h3⟩:=h
 exact⟨t,ys,rfl,e _ _ h1,h2,h3.tk e⟩
theorem TupV.data {K:PySem.W.Frag} {H:Hp} {k b m:Nat} {v:V} (h:TupV K H k b m v) (hm:m≤1000):∃ d,Is K H d v∧Cl (k + 1) ((b + 1) * m) d:=by
 obtain⟨t,ys,rfl,h1,h2,h3⟩:=h
 obtain⟨ds,g1,g2,g3⟩:=h3.data
 exact⟨.tuple ds,⟨t,ys,rfl,h1,g1⟩,Cl.tuple (by omega) hm g3⟩
theorem AllV.sub {K:PySem.W.Frag} {H:Hp} {C:PyData->Prop} {xs ys:List V} (h:AllV K H C xs) (e:∀ y ∈ ys,y ∈ xs):AllV K H C ys:=fun y hy=>h y (e y hy)
theorem AllV.cut {K:PySem.W.Frag} {H:Hp} {C:PyData->Prop} {xs:List V} (h:AllV K H C xs) (lo hi:Option Int):AllV K H C (cutV xs lo hi):=h.sub (zkw xs lo hi).2
theorem AllV.cat {K:PySem.W.Frag} {H:Hp} {C:PyData->Prop} {xs ys:List V} (h:AllV K H C xs) (g:AllV K H C ys):AllV K H C (xs++ys):=fun y hy=>by
 rcases List.mem_append.mp hy with z | z
 ·exact h y z
 ·exact g y z
theorem AllV.one {K:PySem.W.Frag} {H:Hp} {C:PyData->Prop} {v:V} {d:PyData} (h:Is K H d v) (c:C d):AllV K H C [v]:=fun y hy=>by
 rw[List.mem_singleton.mp hy];exact⟨d,h,c⟩
theorem AllV.same {K:PySem.W.Frag} {H H':Hp} {C:PyData->Prop} {ys:List V} (e:Same H H') (h:AllV K H C ys):AllV K H' C ys:=fun y hy=>by
 obtain⟨d,is,c⟩:=h y hy
 exact⟨d,Is.same e _ is,c⟩
theorem zrw {n:Int} {ts:List Tie} (ok:WebOk n ts) {u v:Nat} (hu:u < n.toNat):(wyW ts u v).length≤n.toNat:=by
 unfold wyW
 cases e:wyN (ones ts) u v with
 | none=>exact Nat.zero_le _
 | some ws =>
  have mw:Far.MinW (arcsB (ones ts) (List.range (ones ts).length)) u v ws:=by
   unfold wyN at e
   split at e
   ·rename_i h
    have:=Classical.choose_spec h
    rw[Option.some.inj e] at this
    exact this
   ·cases e
  have oko:=zes ok
  have nd:=mw.nodup
  obtain⟨S,x,y,r,_⟩:=mw
  have tr:=r.tr
  rw[zce] at tr
  have lt:=zrz oko (zbg (ones ts)) hu tr
  have:=zc4 (b:=List.range n.toNat) nd fun y hy=>List.mem_range.mpr (lt y hy)
  rw[List.length_range] at this
  exact this
def RowSm (r:Nat × Nat × Nat × List (Nat × Nat)):Prop:=r.1≤24∧r.2.1≤24∧r.2.2.1≤24∧r.2.2.2.length≤72∧∀ p ∈ r.2.2.2,p.1≤24∧p.2≤24
theorem zs3 {g:Nat × List Nat->Nat × List Nat->Bool} {l:List (Nat × List Nat)} {p:Nat × Nat} (h:p ∈ gnL g l):(∃ e ∈ l,p.1=e.1)∧∃ e ∈ l,p.2=e.1:=by
 unfold gnL at h
 obtain⟨e,he,hp⟩:=List.mem_flatMap.mp h
 obtain⟨e',he',hq⟩:=List.mem_filterMap.mp hp
 rw[zef hq]
 exact⟨⟨e,he,rfl⟩,e',he',rfl⟩
theorem zqf {n:Int} {ts:List Tie} {l:List (Nat × List Nat)} {u:Nat} (ok:WebOk n ts) (n12:n≤12) (gp:GdsP n l) (l12:l.length≤12) (hu:u < n.toNat):∀ (f:Nat) (s:St6),KeepOk ts.length s.1->(∀ r ∈ s.2,RowSm r)->KeepOk ts.length (inS n ts l u f s).1∧(inS n ts l u f s).2.length≤s.2.length + f∧∀ r ∈ (inS n ts l u f s).2,RowSm r
 | 0,s,hk,hs=>⟨hk,Nat.le_refl _,hs⟩
 | f + 1,s,hk,hs=>by
  cases e:fwF n ts s.1 u with
  | none=>rw[zgt e];exact⟨hk,by omega,hs⟩
  | some v =>
   have vn:v < n.toNat:=List.mem_range.mp (List.mem_of_find?_eq_some e)
   rw[zgs e]
   obtain⟨a1,a2,a3⟩:=zqf ok n12 gp l12 hu f (stS ts l u v s) (zfc ts s.1 _) fun r hr=>by
    rcases List.mem_append.mp hr with z | z
    ·exact hs r z
    ·rw[List.mem_singleton.mp z]
     have h1:(boK ts s.1 (wyW ts u v)).length≤(alongN (ones ts) (wyW ts u v)).length:=List.length_filter_le _ _
     rw[zdg] at h1
     have h2:=zrw (v:=v) ok hu
     have h3:2 * (gnF ts s.1 l (wyW ts u v)).length≤l.length * l.length:=zgu gp.1
     have h4:=Nat.mul_le_mul l12 l12
     refine⟨by show u≤24;omega,by show v≤24;omega,by show (boK ts s.1 (wyW ts u v)).length≤24;omega,by show (gnF ts s.1 l (wyW ts u v)).length≤72;omega,fun p hp=>?_⟩
     obtain⟨⟨e1,m1,q1⟩,e2,m2,q2⟩:=zs3 hp
     have:=(gp.2.2 e1 m1).1
     have:=(gp.2.2 e2 m2).1
     exact⟨by omega,by omega⟩
   refine⟨a1,?_,a3⟩
   have:(stS ts l u v s).2.length=s.2.length + 1:=by unfold stS;rw[List.length_append];rfl
   omega
theorem zmp {n:Int} {ts:List Tie} {l:List (Nat × List Nat)} (ok:WebOk n ts) (n12:n≤12) (gp:GdsP n l) (l12:l.length≤12):∀ u,u≤n.toNat->KeepOk ts.length (sixS n ts l u).1∧(sixS n ts l u).2.length≤u * 13∧∀ r ∈ (sixS n ts l u).2,RowSm r
 | 0,_=>⟨by have:=zns (ones ts) l;rw[za4] at this;exact this,Nat.zero_le _,fun r hr=>by cases hr⟩
 | u + 1,hu=>by
  obtain⟨a1,a2,a3⟩:=zmp ok n12 gp l12 u (by omega)
  obtain⟨b1,b2,b3⟩:=zqf ok n12 gp l12 (show u < n.toNat by omega) (n.toNat + 1) (sixS n ts l u) a1 a3
  refine⟨b1,?_,b3⟩
  show (inS n ts l u (n.toNat + 1) (sixS n ts l u)).2.length≤_
  rw[Nat.add_mul];omega
/-- what is told at most -/
def SixSm (s:St6):Prop:=s.1.length≤60∧(∀ k ∈ s.1,k < 60)∧s.2.length≤156∧∀ r ∈ s.2,RowSm r
theorem zp8 {n:Int} {ts:List Tie} {d:Int} (ok:WebOk n ts) (n12:n≤12):SixSm (sixV n ts d):=by
 have gp:=(zqh (d:=d) ok (by omega)).2
 have l12:=(zjr (zhk (d:=d) (zew (n:=n) (ts:=ts)) n.toNat)).1
 obtain⟨a1,a2,a3⟩:=zmp ok n12 gp (by omega) n.toNat (Nat.le_refl _)
 have few:=ok.few
 exact⟨by have:=a1.len;show (sixS n ts _ n.toNat).1.length≤60;omega,fun k hk=>by have:=a1.2 k hk;omega,by show (sixS n ts _ n.toNat).2.length≤156;omega,a3⟩
theorem zmw {p:Nat × Nat} (h:p.1≤24∧p.2≤24):Cl 1 2 (pr2D p):=Cl.tuple (b:=0) (m:=2) (by show 2≤2;decide) (by decide) fun d hd=>by
 simp only [List.mem_cons,List.not_mem_nil,or_false] at hd
 rcases hd with rfl | rfl
 ·exact Cl.int (by have:=h.1;omega)
 ·exact Cl.int (by have:=h.2;omega)
theorem zgd {r:Nat × Nat × Nat × List (Nat × Nat)} (h:RowSm r):Cl 3 880 (rowSD r):=Cl.tuple (b:=219) (m:=4) (by show 4≤4;decide) (by decide) fun d hd=>by
 simp only [List.mem_cons,List.not_mem_nil,or_false] at hd
 rcases hd with rfl | rfl | rfl | rfl
 ·exact Cl.int (by have:=h.1;omega)
 ·exact Cl.int (by have:=h.2.1;omega)
 ·exact Cl.int (by have:=h.2.2.1;omega)
 ·exact (Cl.tuple (b:=2) (m:=73) (by rw[List.length_map];have:=h.2.2.2.1;omega) (by decide) fun d hd=>by
   obtain⟨p,hp,rfl⟩:=List.mem_map.mp hd
   exact zmw (h.2.2.2.2 p hp))
theorem zr2 {s:St6} (h:SixSm s):Cl 5 280000 (sixD s):=(Cl.tuple (b:=138317) (m:=2) (by show 2≤2;decide) (by decide) fun d hd=>by
 simp only [List.mem_cons,List.not_mem_nil,or_false] at hd
 rcases hd with rfl | rfl
 ·refine (Cl.tuple (k:=0) (b:=0) (m:=60) (by rw[List.length_map];unfold keepI;rw[List.length_map];exact h.1) (by decide) fun d hd=>?_).up.up.up.le (by decide)
  obtain⟨i,hi,rfl⟩:=List.mem_map.mp hd
  obtain⟨k,hk,rfl⟩:=List.mem_map.mp hi
  have:=h.2.1 k hk
  exact Cl.int (by omega)
 ·refine (Cl.tuple (b:=880) (m:=157) (by rw[List.length_map];have:=h.2.2.1;omega) (by decide) fun d hd=>?_)
  obtain⟨r,hr,rfl⟩:=List.mem_map.mp hd
  exact zgd (h.2.2.2 r hr)).le (by decide)
theorem zi2:∀ (k:Nat) (d:PyData),awB k d=true->d.canLay0=true∧d.depth≤k + 1∧PyData.eqv d d=true
 | k,.int i,_=>⟨rfl,Nat.zero_le _,by show (i == i)=true;simp⟩
 | 0,.tuple _,h=>by cases h
 | k + 1,.tuple ds,h=>by
  have h':(decide (ds.length≤1000) && ds.all (awB k))=true:=h
  rw[Bool.and_eq_true,List.all_eq_true] at h'
  have go:∀ es:List PyData,(∀ d ∈ es,awB k d=true)->PyData.canLayAll0 es=true∧PyData.depthAll es≤k + 1∧PyData.eqvAll es es=true:=fun es=>by
   induction es with
   | nil=>exact fun _=>⟨rfl,Nat.zero_le _,rfl⟩
   | cons e r ih =>
    intro he
    obtain⟨a1,a2,a3⟩:=zi2 k e (he e List.mem_cons_self)
    obtain⟨b1,b2,b3⟩:=ih fun d hd=>he d (List.mem_cons_of_mem _ hd)
    refine⟨?_,?_,?_⟩
    ·show (e.canLay0 && PyData.canLayAll0 r)=true
     rw[a1,b1];rfl
    ·show max e.depth (PyData.depthAll r)≤k + 1
     omega
    ·show (PyData.eqv e e && PyData.eqvAll r r)=true
     rw[a3,b3];rfl
  obtain⟨g1,g2,g3⟩:=go ds h'.2
  exact⟨g1,by show PyData.depthAll ds + 1≤k + 1 + 1;omega,g3⟩
 | 0,.none,h=>by cases h
 | 0,.bool _,h=>by cases h
 | 0,.str _,h=>by cases h
 | 0,.list _,h=>by cases h
 | 0,.dict _,h=>by cases h
 | k + 1,.none,h=>by cases h
 | k + 1,.bool _,h=>by cases h
 | k + 1,.str _,h=>by cases h
 | k + 1,.list _,h=>by cases h
 | k + 1,.dict _,h=>by cases h
def spSixJ (K:PySem.W.Frag):Sp:=fun vs H Q _=>∃ (n:Int) (ts:List Tie) (wv tv:V) (d:Int) (dp:PyData),vs=[wv,.int d,tv]∧Is K H (webD n (ones ts)) wv∧WebOk n ts∧n≤24∧1≤d∧Is K H dp tv∧awB 5 dp=true∧∀ H',Same H H'->Q (.bl (PyData.eqv dp (sixD (sixV n ts d)))) H'
theorem zgj (T:Bi mg) (D:DefOk K mg "six_right" s_six_right ["web","d","told"]) (O_six_told:Ok P w K mg base 8 "six_told" ["web","d"] (spSix K)) (O_is_all_wholes:Ok P w K mg base 8 "is_all_wholes" ["thing"] (spAW K 5)):Ok P w K mg base 9 "six_right" ["web","d","told"] (spSixJ K):=by
 refine zbb (k:=8) D sc_six_right (fun vs H Q E h=>?_) (fun f cdv A outer s H vs Q E hr h=>?_)
 ·obtain⟨n,ts,wv,tv,d,dp,rfl,_⟩:=h
  rfl
 obtain⟨n,ts,wv,tv,d,dp,rfl,isw,ok,n9,d1,ist,aw,q⟩:=h
 have nd:=sc_six_right.nd
 have units:(A.deeper (envOfC "six_right" (defScope s_six_right) s.heap.objs.size f cdv)).units + 6 < cLine:=by have:=hr.units;omega
 refine⟨_,(zaf (zaq (zeo (za3 zna (pv 2) (zae O_six_told hr rfl (zaa (pv 0) (zaa (pv 1) zab))) (nomark _)) (zcg (zae O_is_all_wholes hr rfl (zaa (pv 2) zab)))))),?_⟩
 refine⟨_,rfl,_,rfl,_,rfl,n,ts,wv,d,rfl,isw,ok,n9,d1,fun v J S few isv=>?_⟩
 obtain⟨lay,dep,eqv⟩:=zi2 5 _ (zqp few)
 obtain⟨lay2,dep2,_⟩:=zi2 5 _ aw
 refine⟨dp,sixD (sixV n ts d),Is.same S _ ist,isv,lay2,lay,Nat.lt_of_le_of_lt (Nat.add_le_add (Nat.le_refl _) (Nat.le_trans (Nat.min_le_left _ _) dep2)) units,?_⟩
 cases e:PyData.eqv dp (sixD (sixV n ts d)) with
 | false =>
  rw[e] at q
  exact⟨_,rfl,iteF (q _ S)⟩
 | true =>
  rw[e] at q
  exact⟨_,rfl,iteT ⟨_,rfl,dp,tv,rfl,Is.same S _ ist,aw,fun H1 S1=>q H1 (S.trans S1)⟩⟩
def spShareL:Sp:=fun vs H Q _=>∃ (p:Addr),vs=[.ref p]∧Pot H p∧∀ (d:Int) H',1≤d->But p H H'->Pot H' p->Q (.int d) H'
theorem zeu (T:Bi mg) (D:DefOk K mg "_law_share" s__law_share ["pot"]) (O__law_take:Ok P w K mg base 1 "_law_take" ["pot","many"] spTake):Ok P w K mg base 2 "_law_share" ["pot"] spShareL:=by
 refine zbb (k:=1) D sc__law_share (fun vs H Q E h=>?_) (fun f cdv A outer s H vs Q E hr h=>?_)
 ·obtain⟨p,rfl,_⟩:=h
  rfl
 obtain⟨p,rfl,hp,q⟩:=h
 have nd:=sc__law_share.nd
 have npot:∀ {J:Hp} {b:Addr},Pot J p->J b=none->b≠p:=fun pp hb z=>by
  obtain⟨xs,e⟩:=pp.lst
  rw[z,e] at hb;cases hb
 refine⟨_,(BSs.h (zcd (zk2 (i:=1) nd rfl (Or.inl rfl) (zoh (zby (BE.mk zad) (zby (BE.mk zad) (zby (BE.mk zad) (zcr (BE.mk (zat zbl zad (zae O__law_take hr rfl (zaa (pv 0) (zaa zad zab))))) (zcr (BE.mk (zat zbl zad (zae O__law_take hr rfl (zaa (pv 0) (zaa zad zab))))) (zby (BE.mk zad) (zcr (BE.mk (zat zbl zad (zae O__law_take hr rfl (zaa (pv 0) (zaa zad zab))))) (zcr (BE.mk (zat zeq zad zad)) zf6)))))))))) (zjy (zof (zsu zay (BE.mk (pv 1)) (BE.mk (zae O__law_take hr rfl (zaa (pv 0) (zaa zad zab)))) (fun _ _=>rfl)))))),?_⟩
 refine⟨_,rfl,p,5,rfl,hp,by decide,by decide,fun r1 J1 r10 r11 b1 p1=>⟨_,_,rfl,rfl,_,rfl,p,2,rfl,p1,by decide,by decide,fun r2 J2 r20 r21 b2 p2=>⟨_,_,rfl,rfl,_,rfl,p,24,rfl,p2,by decide,by decide,fun r3 J3 r30 r31 b3 p3=>⟨_,_,rfl,rfl,_,_,rfl,rfl,⟨by decide,by decide,by decide⟩,(by show 8≤1000;decide),fun ls J4 S4 f4 e4=>?_⟩⟩⟩⟩
 have p4:=p3.same S4
 refine⟨_,rfl,_,rfl,p,8,rfl,p4,by decide,by decide,fun r4 J5 r40 r41 b5 p5=>?_⟩
 obtain⟨d,d1,hd⟩:∃ d:Int,1≤d∧atI [V.int 1,V.int 2,V.int 2,V.int (1 + r1),V.int (2 + r2),V.int 2,V.int (1 + r3),V.int ((10:Int) ^ (50:Int).toNat)] r4=some (.int d):=by
  have:r4=0∨r4=1∨r4=2∨r4=3∨r4=4∨r4=5∨r4=6∨r4=7:=by omega
  rcases this with rfl | rfl | rfl | rfl | rfl | rfl | rfl | rfl
  ·exact⟨1,by decide,rfl⟩
  ·exact⟨2,by decide,rfl⟩
  ·exact⟨2,by decide,rfl⟩
  ·exact⟨1 + r1,by omega,rfl⟩
  ·exact⟨2 + r2,by omega,rfl⟩
  ·exact⟨2,by decide,rfl⟩
  ·exact⟨1 + r3,by omega,rfl⟩
  ·exact⟨(10:Int) ^ (50:Int).toNat,by decide +kernel,rfl⟩
 exact⟨ls,_,_,_,rfl,rfl,SqL.of (b5 _ _ (npot p3 f4) e4),hd,q d J5 d1 (b1.trans (b2.trans (b3.trans ((Same.but S4).trans b5)))) p5⟩
theorem zbh (xs:List V) (lo hi:Option Int) {m:Nat} (h:xs.length≤m):(cutV xs lo hi).length≤m:=Nat.le_trans (zkw xs lo hi).1 h
theorem zq1:Cl 3 1744 (rowSD (0,1,1,[(0,1)])):=by
 refine Cl.le (zgd ⟨by show 0≤24;omega,by show 1≤24;omega,by show 1≤24;omega,by show 1≤72;omega,fun p hp=>?_⟩) (by omega)
 rw[List.mem_singleton.mp hp]
 exact⟨by show 0≤24;omega,by show 1≤24;omega⟩
def spBent (K:PySem.W.Frag):Sp:=fun vs H Q _=>∃ (p t:Addr) (xs:List V),vs=[.ref p,.ref t]∧Pot H p∧H t=some (.tup xs)∧xs.length≤156∧AllV K H (Cl 3 1744) xs∧∀ v H',But p H H'->Pot H' p->TupV K H' 3 1744 313 v->Q v H'
theorem zfi (T:Bi mg) (D:DefOk K mg "_law_bent" s__law_bent ["pot","row"]) (O__law_take:Ok P w K mg base 1 "_law_take" ["pot","many"] spTake):Ok P w K mg base 2 "_law_bent" ["pot","row"] (spBent K):=by
 refine zbb (k:=1) D sc__law_bent (fun vs H Q E h=>?_) (fun f cdv A outer s H vs Q E hr h=>?_)
 ·obtain⟨p,t,xs,rfl,_⟩:=h
  rfl
 obtain⟨p,t,xs,rfl,hp,ht,lx,ax,q⟩:=h
 have nd:=sc__law_bent.nd
 have npot:∀ {J:Hp} {b:Addr},Pot J p->J b=none->b≠p:=fun pp hb z=>by
  obtain⟨xs,e⟩:=pp.lst
  rw[z,e] at hb;cases hb
 have line:∀ a b:List V,a.length≤400->b.length≤400->a.length + b.length≤sizeLine:=fun a b h1 h2=>Nat.le_trans (show _≤1000 by omega) (by decide)
 refine⟨_,(BSs.h (zcd (zs7 (zao zbo (zam zau rfl T.z_len (by decide +kernel) (zaa (pv 1) zab)) zad (nomark _)) (zjy (zof (zg4 (zhc (zg4 (zby (BE.mk zad) (zby (BE.mk zad) (zby (BE.mk zad) (zhc (zg4 (zhc (zg4 (zby (BE.mk zad) (zby (BE.mk zad) zf6))) zf6)) zf6))))) zf6)))) zrt) (zcd (zk2 (i:=2) nd rfl (Or.inl rfl) (BE.mk (zae O__law_take hr rfl (zaa (pv 0) (zaa (zam zau rfl T.z_len (by decide +kernel) (zaa (pv 1) zab)) zab))))) (zcd (zk2 (i:=3) nd rfl (Or.inl rfl) (BE.mk (zae O__law_take hr rfl (zaa (pv 0) (zaa (zam zau rfl T.z_len (by decide +kernel) (zaa (pv 1) zab)) zab))))) (zcd (zk2 (i:=4) nd rfl (Or.inl rfl) (BE.mk (zas zly rfl T.z_list (by decide +kernel) (zaa (pv 1) zab)))) (zcd (BS.mk (zbz (zav zbc (pv 1) (pv 3) (fun _ _=>rfl)) (zdv (pv 4) (pv 2) zb3))) (zcd (BS.mk (zbz (zav zbc (pv 1) (pv 2) (fun _ _=>rfl)) (zdv (pv 4) (pv 3) zb3))) (zjy (zof (zsu zay (zoh (zcr (zst zb1 (BE.mk (za9 zbi (pv 1) zbe (zbk (pv 2)))) (BE.mk (za9 zbi (pv 1) (zbk (zat zbl (pv 2) zad)) zbe))) (zcr (zst zb1 (BE.mk (za9 zbi (pv 1) zbe (zbk (zat zbl (pv 2) zad)))) (BE.mk (za9 zbi (pv 1) (zbk (pv 2)) zbe))) (zp1 (BE.mk (zas za1 rfl T.z_tuple (by decide +kernel) (zaa (pv 4) zab))) (zp0 (BE.mk (za9 zbi (pv 1) zbe (zbk (pv 2)))) zf6))))) (BE.mk (zae O__law_take hr rfl (zaa (pv 0) (zaa zad zab)))) (fun _ _=>rfl))))))))))),?_⟩
 refine⟨_,rfl,t,_,rfl,.inr (SqT.of ht),rfl,_,rfl,?_⟩
 by_cases z:xs.length=0
 ·rw[decide_eq_true (show V.int ((xs.length:Nat):Int)=V.int 0 by rw[z];rfl)]
  refine iteT ⟨(by show 2≤1000;decide),fun t1 J1 S1 f1 e1=>⟨(by show 1≤1000;decide),fun t2 J2 S2 f2 e2=>⟨(by show 4≤1000;decide),fun t3 J3 S3 f3 e3=>⟨(by show 1≤1000;decide),fun t4 J4 S4 f4 e4=>?_⟩⟩⟩⟩
  have S14:=S1.trans (S2.trans (S3.trans S4))
  refine q _ _ (Same.but S14) (hp.same S14) ⟨t4,_,rfl,e4,by show 1≤313;omega,AllV.one (d:=rowSD (0,1,1,[(0,1)])) ?_ zq1⟩
  refine⟨t3,_,rfl,S4 _ _ e3,.int 0,_,rfl,rfl,.int 1,_,rfl,rfl,.int 1,_,rfl,rfl,.ref t2,_,rfl,?_,rfl⟩
  exact⟨t2,_,rfl,(S3.trans S4) _ _ e2,.ref t1,_,rfl,⟨t1,_,rfl,(S2.trans (S3.trans S4)) _ _ e1,IsAll.ints [0,1]⟩,rfl⟩
 rw[decide_eq_false (show ¬ V.int ((xs.length:Nat):Int)=V.int 0 from fun h=>by injection h with h;omega)]
 refine iteF ?_
 refine⟨_,rfl,_,rfl,t,_,rfl,.inr (SqT.of ht),p,_,rfl,hp,by omega,by omega,fun a0 J1 a00 a01 b1 p1=>?_⟩
 have ht1:=zax b1 hp _ _ ht
 refine⟨_,rfl,_,rfl,t,_,rfl,.inr (SqT.of ht1),p,_,rfl,p1,by omega,by omega,fun o0 J2 o00 o01 b2 p2=>?_⟩
 have B2:=b1.trans b2
 have ht2:=zax b2 p1 _ _ ht1
 have ax2:=ax.tk (zax B2 hp)
 obtain⟨at_,rfl⟩:∃ k:Nat,a0=k:=⟨a0.toNat,by omega⟩
 obtain⟨ot,rfl⟩:∃ k:Nat,o0=k:=⟨o0.toNat,by omega⟩
 have hA:at_ < xs.length:=by omega
 have hO:ot < xs.length:=by omega
 have hatA:atI xs (at_:Int)=some xs[at_]:=za2 (Int.natCast_nonneg _) (by rw[Int.toNat_natCast,List.getElem?_eq_getElem hA])
 have hatO:atI xs (ot:Int)=some xs[ot]:=za2 (Int.natCast_nonneg _) (by rw[Int.toNat_natCast,List.getElem?_eq_getElem hO])
 refine⟨_,rfl,t,_,rfl,.inr ht2,fun l J3 S3 fl e3=>?_⟩
 have ixn:∀ (ys:List V) (k:Nat),ys.length=xs.length->k < xs.length->ixN ys.length (k:Int)=some k:=fun ys k e h=>by
  rw[e,zcw (Int.natCast_nonneg _) (by omega),Int.toNat_natCast]
 have p3:=p2.same S3
 have nl:=npot p2 fl
 have ht3:=S3 _ _ ht2
 have ntl:t≠l:=fun z=>by rw[z,fl] at ht2;cases ht2
 have keep:∀ {J:Hp} {ys:List V} {o:HO},But l J (upd J l o):=fun {J ys o}=>But.upd
 refine⟨_,rfl,_,rfl,t,_,_,_,rfl,rfl,SqT.of ht3,hatO,_,rfl,_,rfl,l,_,_,_,rfl,rfl,e3,ixn _ _ rfl hA,?_⟩
 refine⟨_,rfl,_,rfl,t,_,_,_,rfl,rfl,SqT.of (by rw[zap ntl];exact ht3),hatA,_,rfl,_,rfl,l,_,_,_,rfl,rfl,zag,ixn _ _ (List.length_set) hO,?_⟩
 have e5:(upd (upd J3 l (.lst (xs.set at_ xs[ot]))) l (.lst ((xs.set at_ xs[ot]).set ot xs[at_]))) l=some (.lst ((xs.set at_ xs[ot]).set ot xs[at_])):=zag
 have b5:But l J3 (upd (upd J3 l (.lst (xs.set at_ xs[ot]))) l (.lst ((xs.set at_ xs[ot]).set ot xs[at_]))):=But.upd.trans But.upd
 generalize upd (upd J3 l (.lst (xs.set at_ xs[ot]))) l (.lst ((xs.set at_ xs[ot]).set ot xs[at_]))=J5 at e5 b5 ⊢
 have tk35:TupKeep J3 J5:=fun a us e=>b5 _ _ (fun z=>by rw[z,e3] at e;cases e) e
 have ht5:=tk35 _ _ ht3
 have p5:Pot J5 p:=by
  obtain⟨a,b,e,z⟩:=p3
  exact⟨a,b,b5 _ _ (Ne.symm nl) e,z⟩
 have B5:But p H J5:=fun b o nb e=>b5 _ _ (fun z=>by have:=B2 _ _ nb e;rw[z,fl] at this;cases this) ((B2.trans (Same.but S3)) _ _ nb e)
 have ax5:=ax.tk (fun a us e=>tk35 _ _ (S3 _ _ (zax B2 hp _ _ e)))
 refine⟨_,rfl,_,rfl,_,rfl,t,_,rfl,ht5,fun x1 K1 T1 g1=>?_⟩
 refine⟨_,rfl,_,rfl,_,_,rfl,rfl,_,rfl,t,_,rfl,T1 _ _ ht5,fun x2 K2 T2 g2=>?_⟩
 refine⟨x1,x2,_,_,rfl,rfl,T2 _ _ g1,g2,line _ _ (zbh _ _ _ (by omega)) (zbh _ _ _ (by omega)),fun x3 K3 T3 g3=>?_⟩
 have U3:=T1.trans (T2.trans T3)
 refine⟨_,rfl,_,rfl,_,_,rfl,rfl,_,rfl,t,_,rfl,U3 _ _ ht5,fun x4 K4 T4 g4=>?_⟩
 refine⟨_,rfl,_,rfl,_,rfl,t,_,rfl,(U3.trans T4) _ _ ht5,fun x5 K5 T5 g5=>?_⟩
 refine⟨x4,x5,_,_,rfl,rfl,T5 _ _ g4,g5,line _ _ (zbh _ _ _ (by omega)) (zbh _ _ _ (by omega)),fun x6 K6 T6 g6=>?_⟩
 have U6:=U3.trans (T4.trans (T5.trans T6))
 refine⟨_,rfl,l,_,rfl,U6 _ _ e5,fun x7 K7 T7 f7 g7=>?_⟩
 have U7:=U6.trans T7
 refine⟨_,rfl,_,rfl,_,rfl,t,_,rfl,U7 _ _ ht5,fun x8 K8 T8 g8=>⟨(by show 4≤1000;decide),fun lz K9 T9 f9 g9=>?_⟩⟩
 have U8:=U7.trans T8
 have p9:=(p5.same U8).same T9
 refine⟨_,rfl,p,4,rfl,p9,by decide,by decide,fun r K10 r0 r1 b10 p10=>?_⟩
 have U9:=U8.trans T9
 have tkA:TupKeep K9 K10:=zax b10 p9
 have axA:AllV K K10 (Cl 3 1744) xs:=(ax5.same U9).tk tkA
 obtain⟨v,hv,tv⟩:∃ v,atI [V.ref x3,V.ref x6,V.ref x7,V.ref x8] r=some v∧TupV K K10 3 1744 313 v:=by
  have c:=fun lo hi=>zbh xs lo hi lx
  have:r=0∨r=1∨r=2∨r=3:=by omega
  rcases this with rfl | rfl | rfl | rfl
  ·exact⟨_,rfl,x3,_,rfl,tkA _ _ ((T4.trans (T5.trans (T6.trans (T7.trans (T8.trans T9))))) _ _ g3),by rw[List.length_append];have:=c none (some (at_:Int));have:=c (some ((at_:Int) + 1)) none;omega,(axA.cut _ _).cat (axA.cut _ _)⟩
  ·exact⟨_,rfl,x6,_,rfl,tkA _ _ ((T7.trans (T8.trans T9)) _ _ g6),by rw[List.length_append];have:=c none (some ((at_:Int) + 1));have:=c (some (at_:Int)) none;omega,(axA.cut _ _).cat (axA.cut _ _)⟩
  ·refine⟨_,rfl,x7,_,rfl,tkA _ _ ((T8.trans T9) _ _ g7),by rw[List.length_set,List.length_set];omega,axA.sub fun y hy=>?_⟩
   rcases List.mem_or_eq_of_mem_set hy with z | z
   ·rcases List.mem_or_eq_of_mem_set z with z2 | z2
    ·exact z2
    ·rw[z2];exact List.getElem_mem hO
   ·rw[z];exact List.getElem_mem hA
  ·exact⟨_,rfl,x8,_,rfl,tkA _ _ (T9 _ _ g8),Nat.le_trans (c _ _) (by omega),axA.cut _ _⟩
 refine⟨lz,_,_,_,rfl,rfl,SqL.of (b10 _ _ (npot (p5.same U8) f9) g9),hv,q _ _ (B5.trans ((Same.but U9).trans b10)) p10 tv⟩
def spPairs (K:PySem.W.Frag):Sp:=fun vs H Q _=>∃ (p t:Addr) (ps:List (Nat × Nat)),vs=[.ref p,.ref t]∧Pot H p∧Is K H (gainD ps) (.ref t)∧ps.length≤72∧(∀ q ∈ ps,q.1≤24∧q.2≤24)∧∀ v H',But p H H'->Pot H' p->TupV K H' 1 2 145 v->Q v H'
theorem zfu {a b:Int} (ha:a.natAbs < 10 ^ 8) (hb:b.natAbs < 10 ^ 8):Cl 1 2 (.tuple ([a,b].map .int)):=Cl.tuple (b:=0) (m:=2) (by show 2≤2;decide) (by decide) fun d hd=>by
 have hd':d ∈ [PyData.int a,PyData.int b]:=hd
 simp only [List.mem_cons,List.not_mem_nil,or_false] at hd'
 rcases hd' with rfl | rfl
 ·exact Cl.int ha
 ·exact Cl.int hb
theorem zft {K:PySem.W.Frag} {H:Hp} {x:Addr} {a b:Int} (h:H x=some (.tup [.int a,.int b])):Is K H (.tuple ([a,b].map .int)) (.ref x):=⟨x,_,rfl,h,IsAll.ints [a,b]⟩
theorem zci (T:Bi mg) (D:DefOk K mg "_law_other_pairs" s__law_other_pairs ["pot","gained"]) (O__law_take:Ok P w K mg base 1 "_law_take" ["pot","many"] spTake):Ok P w K mg base 2 "_law_other_pairs" ["pot","gained"] (spPairs K):=by
 refine zbb (k:=1) D sc__law_other_pairs (fun vs H Q E h=>?_) (fun f cdv A outer s H vs Q E hr h=>?_)
 ·obtain⟨p,t,xs,rfl,_⟩:=h
  rfl
 obtain⟨p,t,ps,rfl,hp,isg,lp,sm,q⟩:=h
 have nd:=sc__law_other_pairs.nd
 obtain⟨t',xs,et,ht,hxs⟩:=isg
 refine⟨_,(zac (zbj (zao zbo (zam zau rfl T.z_len (by decide +kernel) (zaa (pv 1) zab)) zad (nomark _)) (zaf (zaq (zar (zaa (zar (zaa zad (zaa zad zab))) zab)))) zaw) (zac (zan (i:=2) nd rfl (Or.inl rfl) (zae O__law_take hr rfl (zaa (pv 0) (zaa (zam zau rfl T.z_len (by decide +kernel) (zaa (pv 1) zab)) zab)))) (zac (zbz (zav zbc (pv 1) (pv 2) (fun _ _=>rfl)) (zb0 (n:=2) rfl (zak (zah (i:=3) nd rfl (Or.inl rfl)) (zak (zah (i:=4) nd rfl (Or.inl rfl)) zbd)))) (zac (zan (i:=5) nd rfl (Or.inl rfl) (zav zay (za5 (zaa (zar (zaa (pv 4) (zaa (pv 3) zab))) (zaa (zar (zaa (zat zbl (pv 3) zad) (zaa (pv 4) zab))) (zaa (zar (zaa (pv 3) (zaa (zat zc2 (pv 4) zad) zab))) (zaa (zar (zaa (zhq zds zad) (zaa (pv 4) zab))) (zaa (zar (zaa (pv 3) (zaa (pv 3) zab))) zab)))))) (zae O__law_take hr rfl (zaa (pv 0) (zaa zad zab))) (fun _ _=>rfl))) (zaf (zaq (zav zay (za5 (zaa (zat zb1 (za9 zbi (pv 1) zbe (zbk (pv 2))) (za9 zbi (pv 1) (zbk (zat zbl (pv 2) zad)) zbe)) (zaa (zhr zp9 (pv 1) zbe (zhq zds zad)) (zaa (zat zb1 (pv 1) (za9 zbi (pv 1) zbe (zbk zad))) (zaa (zat zb1 (zat zb1 (za9 zbi (pv 1) zbe (zbk (pv 2))) (zar (zaa (pv 5) zab))) (za9 zbi (pv 1) (zbk (zat zbl (pv 2) zad)) zbe)) (zaa (zar zab) zab)))))) (zae O__law_take hr rfl (zaa (pv 0) (zaa zad zab))) (fun _ _=>rfl)))))))),?_⟩
 cases et
 have lx:xs.length=ps.length:=by rw[hxs.length,List.length_map]
 have ax:AllV K H (Cl 1 2) xs:=AllV.of hxs fun d hd=>by
  obtain⟨q,hq,rfl⟩:=List.mem_map.mp hd
  exact zmw (sm q hq)
 have npot:∀ {J:Hp} {b:Addr},Pot J p->J b=none->b≠p:=fun pp hb z=>by
  obtain⟨xs,e⟩:=pp.lst
  rw[z,e] at hb;cases hb
 have line:∀ a b:List V,a.length≤400->b.length≤400->a.length + b.length≤sizeLine:=fun a b h1 h2=>Nat.le_trans (show _≤1000 by omega) (by decide)
 refine⟨_,rfl,t,_,rfl,.inr (SqT.of ht),rfl,_,rfl,?_⟩
 by_cases z:xs.length=0
 ·rw[decide_eq_true (show V.int ((xs.length:Nat):Int)=V.int 0 by rw[z];rfl)]
  refine iteT ⟨(by show 2≤1000;decide),fun t1 J1 S1 f1 e1=>⟨(by show 1≤1000;decide),fun t2 J2 S2 f2 e2=>?_⟩⟩
  have S12:=S1.trans S2
  exact q _ _ (Same.but S12) (hp.same S12) ⟨t2,_,rfl,e2,by show 1≤145;omega,AllV.one (zft (S2 _ _ e1)) (zfu (by decide) (by decide))⟩
 rw[decide_eq_false (show ¬ V.int ((xs.length:Nat):Int)=V.int 0 from fun h=>by injection h with h;omega)]
 refine iteF ?_
 refine⟨_,rfl,_,rfl,t,_,rfl,.inr (SqT.of ht),p,_,rfl,hp,by omega,by omega,fun a0 J1 a00 a01 b1 p1=>?_⟩
 obtain⟨at_,rfl⟩:∃ k:Nat,a0=k:=⟨a0.toNat,by omega⟩
 have tk1:=zax b1 hp
 have ht1:=tk1 _ _ ht
 have hA:at_ < ps.length:=by omega
 obtain⟨x,hx,ix⟩:=hxs.at_ (show (ps.map pr2D)[at_]?=some (pr2D ps[at_]) by rw[List.getElem?_map,List.getElem?_eq_getElem hA];rfl)
 obtain⟨c,rfl,hc⟩:=pr2_is.mp ix
 have sma:=sm _ (List.getElem_mem hA)
 obtain⟨o1,eo1⟩:∃ o1:Int,o1=((ps[at_].1:Nat):Int):=⟨_,rfl⟩
 obtain⟨o2,eo2⟩:∃ o2:Int,o2=((ps[at_].2:Nat):Int):=⟨_,rfl⟩
 have hc:H c=some (.tup [.int o1,.int o2]):=by rw[hc,eo1,eo2];rfl
 have hatA:atI xs (at_:Int)=some (.ref c):=za2 (Int.natCast_nonneg _) (by rw[Int.toNat_natCast];exact hx)
 refine⟨_,rfl,_,rfl,t,_,_,_,rfl,rfl,SqT.of ht1,hatA,c,_,rfl,SqT.of (tk1 _ _ hc),rfl,_,_,rfl,_,_,rfl,rfl,?_⟩
 refine⟨_,rfl,_,rfl,(by show 2≤1000;decide),fun y1 L1 T1 f1 g1=>?_⟩
 refine⟨_,rfl,_,_,rfl,rfl,_,rfl,(by show 2≤1000;decide),fun y2 L2 T2 f2 g2=>?_⟩
 refine⟨_,rfl,_,rfl,_,_,rfl,rfl,(by show 2≤1000;decide),fun y3 L3 T3 f3 g3=>?_⟩
 refine⟨_,rfl,_,rfl,(by show 2≤1000;decide),fun y4 L4 T4 f4 g4=>?_⟩
 refine⟨_,rfl,_,rfl,(by show 2≤1000;decide),fun y5 L5 T5 f5 g5=>⟨(by show 5≤1000;decide),fun lz L6 T6 f6 g6=>?_⟩⟩
 have U5:=T1.trans (T2.trans (T3.trans (T4.trans T5)))
 have p6:=(p1.same U5).same T6
 refine⟨_,rfl,p,5,rfl,p6,by decide,by decide,fun r L7 r0 r1 b7 p7=>?_⟩
 have tk7:TupKeep L6 L7:=zax b7 p6
 obtain⟨y,dy,hy,isy,cy,ey⟩:∃ (y:Addr) (dy:PyData),atI [V.ref y1,V.ref y2,V.ref y3,V.ref y4,V.ref y5] r=some (.ref y)∧Is K L7 dy (.ref y)∧Cl 1 2 dy∧tupD dy=true:=by
  have:r=0∨r=1∨r=2∨r=3∨r=4:=by omega
  rcases this with rfl | rfl | rfl | rfl | rfl
  ·exact⟨_,_,rfl,zft (tk7 _ _ ((T2.trans (T3.trans (T4.trans (T5.trans T6)))) _ _ g1)),zfu (by omega) (by omega),rfl⟩
  ·exact⟨_,_,rfl,zft (tk7 _ _ ((T3.trans (T4.trans (T5.trans T6))) _ _ g2)),zfu (by omega) (by omega),rfl⟩
  ·exact⟨_,_,rfl,zft (tk7 _ _ ((T4.trans (T5.trans T6)) _ _ g3)),zfu (by omega) (by omega),rfl⟩
  ·exact⟨_,_,rfl,zft (tk7 _ _ ((T5.trans T6) _ _ g4)),zfu (by omega) (by omega),rfl⟩
  ·exact⟨_,_,rfl,zft (tk7 _ _ (T6 _ _ g5)),zfu (by omega) (by omega),rfl⟩
 refine⟨lz,_,_,_,rfl,rfl,SqL.of (b7 _ _ (npot (p1.same U5) f6) g6),hy,?_⟩
 have B7:But p H L7:=b1.trans ((Same.but (U5.trans T6)).trans b7)
 have ht7:=zax B7 hp _ _ ht
 have ax7:=ax.tk (zax B7 hp)
 refine⟨_,rfl,_,rfl,_,rfl,t,_,rfl,ht7,fun x1 K1 S1 h1=>?_⟩
 refine⟨_,rfl,_,rfl,_,_,rfl,rfl,_,rfl,t,_,rfl,S1 _ _ ht7,fun x2 K2 S2 h2=>?_⟩
 refine⟨x1,x2,_,_,rfl,rfl,S2 _ _ h1,h2,line _ _ (zbh _ _ _ (by omega)) (zbh _ _ _ (by omega)),fun x3 K3 S3 h3=>?_⟩
 have V3:=S1.trans (S2.trans S3)
 refine⟨_,rfl,_,rfl,rfl,t,_,0,rfl,V3 _ _ ht7,.inl ⟨rfl,rfl⟩,fun x4 K4 S4 f4 h4=>?_⟩
 have V4:=V3.trans S4
 refine⟨_,rfl,_,rfl,_,rfl,t,_,rfl,V4 _ _ ht7,fun x5 K5 S5 h5=>?_⟩
 have V5:=V4.trans S5
 refine⟨t,x5,_,_,rfl,rfl,V5 _ _ ht7,h5,line _ _ (by omega) (zbh _ _ _ (by omega)),fun x6 K6 S6 h6=>?_⟩
 have V6:=V5.trans S6
 refine⟨_,rfl,_,rfl,_,rfl,t,_,rfl,V6 _ _ ht7,fun x7 K7 S7 h7=>?_⟩
 refine⟨_,rfl,(by show 1≤1000;decide),fun x8 K8 S8 f8 h8=>?_⟩
 refine⟨x7,x8,_,_,rfl,rfl,S8 _ _ h7,h8,line _ _ (zbh _ _ _ (by omega)) (by show 1≤400;decide),fun x9 K9 S9 h9=>?_⟩
 have V9:=V6.trans (S7.trans (S8.trans S9))
 refine⟨_,rfl,_,rfl,_,_,rfl,rfl,_,rfl,t,_,rfl,V9 _ _ ht7,fun x10 K10 S10 h10=>?_⟩
 have c:=fun lo hi=>zbh xs lo hi (show xs.length≤72 by omega)
 have l9:(cutV xs none (some (at_:Int))++[V.ref y]).length≤73:=by rw[List.length_append];exact Nat.add_le_add (c _ _) (Nat.le_refl 1)
 refine⟨x9,x10,_,_,rfl,rfl,S10 _ _ h9,h10,line _ _ (by omega) (zbh _ _ _ (by omega)),fun x11 K11 S11 h11=>?_⟩
 refine⟨(by show 0≤1000;decide),fun x12 K12 S12 f12 h12=>⟨(by show 5≤1000;decide),fun lw K13 S13 f13 h13=>?_⟩⟩
 have V12:=V9.trans (S10.trans (S11.trans S12))
 have p13:=(p7.same V12).same S13
 refine⟨_,rfl,p,5,rfl,p13,by decide,by decide,fun r' K14 r0' r1' b14 p14=>?_⟩
 have tkA:TupKeep K13 K14:=zax b14 p13
 have V13:=V12.trans S13
 have axA:AllV K K14 (Cl 1 2) xs:=(ax7.same V13).tk tkA
 have isyA:Is K K14 dy (.ref y):=Is.tk tkA _ ey (Is.same V13 _ isy)
 obtain⟨v,hv,tv⟩:∃ v,atI [V.ref x3,V.ref x4,V.ref x6,V.ref x11,V.ref x12] r'=some v∧TupV K K14 1 2 145 v:=by
  have:r'=0∨r'=1∨r'=2∨r'=3∨r'=4:=by omega
  have W11:=S12.trans S13
  have W9:=S10.trans (S11.trans W11)
  have W6:=S7.trans (S8.trans (S9.trans W9))
  rcases this with rfl | rfl | rfl | rfl | rfl
  ·exact⟨_,rfl,x3,_,rfl,tkA _ _ ((S4.trans (S5.trans (S6.trans W6))) _ _ h3),by rw[List.length_append];have:=c none (some (at_:Int));have:=c (some ((at_:Int) + 1)) none;omega,(axA.cut _ _).cat (axA.cut _ _)⟩
  ·exact⟨_,rfl,x4,_,rfl,tkA _ _ ((S5.trans (S6.trans W6)) _ _ h4),by rw[List.length_reverse,List.drop_zero];omega,axA.sub fun y hy=>by rw[List.drop_zero] at hy;exact List.mem_reverse.mp hy⟩
  ·exact⟨_,rfl,x6,_,rfl,tkA _ _ (W6 _ _ h6),by rw[List.length_append];have:=c none (some 1);omega,axA.cat (axA.cut _ _)⟩
  ·exact⟨_,rfl,x11,_,rfl,tkA _ _ (W11 _ _ h11),by rw[List.length_append];have:=c (some ((at_:Int) + 1)) none;omega,((axA.cut _ _).cat (AllV.one isyA cy)).cat (axA.cut _ _)⟩
  ·exact⟨_,rfl,x12,_,rfl,tkA _ _ (S13 _ _ h12),Nat.zero_le _,fun y hy=>by cases hy⟩
 exact⟨lw,_,_,_,rfl,rfl,SqL.of (b14 _ _ (npot (p7.same V12) f13) h13),hv,q _ _ (B7.trans ((Same.but V13).trans b14)) p14 tv⟩
theorem zfw {a b c:Int} {g:PyData} (ha:a.natAbs < 10 ^ 8) (hb:b.natAbs < 10 ^ 8) (hc:c.natAbs < 10 ^ 8) (hg:Cl 2 435 g):Cl 3 1744 (.tuple [.int a,.int b,.int c,g]):=Cl.tuple (b:=435) (m:=4) (by show 4≤4;decide) (by decide) fun d hd=>by
 simp only [List.mem_cons,List.not_mem_nil,or_false] at hd
 rcases hd with rfl | rfl | rfl | rfl
 ·exact Cl.int ha
 ·exact Cl.int hb
 ·exact Cl.int hc
 ·exact hg
theorem zfv {K:PySem.W.Frag} {H:Hp} {x:Addr} {a b c:Int} {g:PyData} {gv:V} (h:H x=some (.tup [.int a,.int b,.int c,gv])) (hg:Is K H g gv):Is K H (.tuple [.int a,.int b,.int c,g]) (.ref x):=⟨x,_,rfl,h,.int a,_,rfl,rfl,.int b,_,rfl,rfl,.int c,_,rfl,rfl,gv,[],rfl,hg,rfl⟩
def spRow62 (K:PySem.W.Frag):Sp:=fun vs H Q _=>∃ (p:Addr) (rv:V) (r:Nat × Nat × Nat × List (Nat × Nat)),vs=[.ref p,rv]∧Pot H p∧Is K H (rowSD r) rv∧RowSm r∧∀ v H',But p H H'->Pot H' p->(∃ d,Is K H' d v∧Cl 3 1744 d)->Q v H'
theorem zcu (T:Bi mg) (D:DefOk K mg "_law_other_row" s__law_other_row ["pot","row"]) (O__law_take:Ok P w K mg base 2 "_law_take" ["pot","many"] spTake) (O__law_other_pairs:Ok P w K mg base 2 "_law_other_pairs" ["pot","gained"] (spPairs K)):Ok P w K mg base 3 "_law_other_row" ["pot","row"] (spRow62 K):=by
 refine zbb (k:=2) D sc__law_other_row (fun vs H Q E h=>?_) (fun f cdv A outer s H vs Q E hr h=>?_)
 ·obtain⟨p,rv,r,rfl,_⟩:=h
  rfl
 obtain⟨p,rv,r,rfl,hp,isr,sm,q⟩:=h
 have nd:=sc__law_other_row.nd
 obtain⟨c,ys,rfl,hc,isy⟩:=isr
 obtain⟨y1,z1,rfl,h1,w1⟩:=isy
 obtain⟨y2,z2,rfl,h2,w2⟩:=w1
 obtain⟨y3,z3,rfl,h3,w3⟩:=w2
 obtain⟨gv,z4,rfl,isg,w4⟩:=w3
 refine⟨_,(zac (zbz (pv 1) (zb0 (n:=4) rfl (zak (zah (i:=2) nd rfl (Or.inl rfl)) (zak (zah (i:=3) nd rfl (Or.inl rfl)) (zak (zah (i:=4) nd rfl (Or.inl rfl)) (zak (zah (i:=5) nd rfl (Or.inl rfl)) zbd)))))) (zac (zan (i:=6) nd rfl (Or.inl rfl) (zav zay (za5 (zaa zad (zaa (zhq zds zad) (zaa (zat zc2 (zhq zds (pv 3)) zad) zab)))) (zae O__law_take hr rfl (zaa (pv 0) (zaa zad zab))) (fun _ _=>rfl))) (zaf (zaq (zav zay (za5 (zaa (zar (zaa (zat zbl (pv 2) (pv 6)) (zaa (pv 3) (zaa (pv 4) (zaa (pv 5) zab))))) (zaa (zar (zaa (pv 2) (zaa (zat zbl (pv 3) (pv 6)) (zaa (pv 4) (zaa (pv 5) zab))))) (zaa (zar (zaa (pv 3) (zaa (pv 2) (zaa (pv 4) (zaa (pv 5) zab))))) (zaa (zar (zaa (pv 2) (zaa (pv 3) (zaa (zat zbl (pv 4) (pv 6)) (zaa (pv 5) zab))))) (zaa (zar (zaa (pv 2) (zaa (pv 3) (zaa (pv 4) (zaa (zae O__law_other_pairs hr rfl (zaa (pv 0) (zaa (pv 5) zab))) zab))))) (zaa (zar (zaa (pv 2) (zaa (pv 3) (zaa (pv 4) (zaa (zae O__law_other_pairs hr rfl (zaa (pv 0) (zaa (pv 5) zab))) zab))))) zab))))))) (zae O__law_take hr rfl (zaa (pv 0) (zaa zad zab))) (fun _ _=>rfl)))))),?_⟩
 cases w4
 cases h1
 cases h2
 cases h3
 obtain⟨s1,s2,s3,s4,s5⟩:=sm
 obtain⟨u,eu⟩:∃ u:Int,u=(r.1:Int):=⟨_,rfl⟩
 obtain⟨v,ev⟩:∃ v:Int,v=(r.2.1:Int):=⟨_,rfl⟩
 obtain⟨co,eco⟩:∃ co:Int,co=(r.2.2.1:Int):=⟨_,rfl⟩
 rw[← eu,← ev,← eco] at hc
 have gcl : Cl 2 435 (gainD r.2.2.2) := (Cl.tuple (b := 2) (m := 145) (by rw [List.length_map]; omega) (by decide) fun d hd => by
     obtain⟨p,hp,rfl⟩:=List.mem_map.mp hd
     exact zmw (s5 p hp))
 have gtp:tupD (gainD r.2.2.2)=true:=zk4 2 _ gcl.1
 have npot:∀ {J:Hp} {b:Addr},Pot J p->J b=none->b≠p:=fun pp hb z=>by
  obtain⟨xs,e⟩:=pp.lst
  rw[z,e] at hb;cases hb
 refine⟨_,rfl,c,_,rfl,SqT.of hc,rfl,_,_,rfl,_,_,rfl,_,_,rfl,_,_,rfl,rfl,?_⟩
 refine⟨_,rfl,_,rfl,_,rfl,_,_,rfl,rfl,(by show 3≤1000;decide),fun l0 J1 T1 f1 g1=>?_⟩
 have p1:=hp.same T1
 refine⟨_,rfl,p,3,rfl,p1,by decide,by decide,fun r1 J2 r10 r11 b2 p2=>?_⟩
 obtain⟨le,hle,bl⟩:∃ le:Int,atI [V.int 1,V.int (-1),V.int (-v - 1)] r1=some (.int le)∧le.natAbs≤100:=by
  have:r1=0∨r1=1∨r1=2:=by omega
  rcases this with rfl | rfl | rfl
  ·exact⟨_,rfl,by decide⟩
  ·exact⟨_,rfl,by decide⟩
  ·exact⟨_,rfl,by omega⟩
 refine⟨l0,_,_,_,rfl,rfl,SqL.of (b2 _ _ (npot hp f1) g1),hle,?_⟩
 have B2:But p H J2:=(Same.but T1).trans b2
 have isg2:Is K J2 (gainD r.2.2.2) gv:=Is.tk (zax B2 hp) _ gtp isg
 refine⟨_,rfl,_,rfl,_,_,rfl,rfl,_,rfl,_,rfl,_,rfl,(by show 4≤1000;decide),fun x1 K1 S1 f1 h1=>?_⟩
 refine⟨_,rfl,_,rfl,_,rfl,_,_,rfl,rfl,_,rfl,_,rfl,(by show 4≤1000;decide),fun x2 K2 S2 f2 h2=>?_⟩
 refine⟨_,rfl,_,rfl,_,rfl,_,rfl,(by show 4≤1000;decide),fun x3 K3 S3 f3 h3=>?_⟩
 refine⟨_,rfl,_,rfl,_,rfl,_,rfl,_,_,rfl,rfl,_,rfl,(by show 4≤1000;decide),fun x4 K4 S4 f4 h4=>?_⟩
 have V4:=S1.trans (S2.trans (S3.trans S4))
 have p4:=p2.same V4
 obtain⟨ga,gys,rfl,hga,hgys⟩:=isg2
 have isg4:Is K K4 (gainD r.2.2.2) (.ref ga):=Is.same V4 _ ⟨ga,gys,rfl,hga,hgys⟩
 refine⟨_,rfl,_,rfl,_,rfl,_,rfl,_,rfl,p,ga,_,rfl,p4,isg4,s4,s5,fun v1 K5 b5 p5 tv1=>⟨(by show 4≤1000;decide),fun x5 K6 S6 f6 h6=>?_⟩⟩
 have tk5:=zax b5 p4
 have p6:=p5.same S6
 have isg6:=Is.same S6 _ (Is.tk tk5 _ gtp isg4)
 refine⟨_,rfl,_,rfl,_,rfl,_,rfl,_,rfl,p,ga,_,rfl,p6,isg6,s4,s5,fun v2 K7 b7 p7 tv2=>⟨(by show 4≤1000;decide),fun x6 K8 S8 f8 h8=>⟨(by show 6≤1000;decide),fun lz K9 S9 f9 h9=>?_⟩⟩⟩
 have tk7:=zax b7 p6
 have p8:=p7.same S8
 have p9:=p8.same S9
 refine⟨_,rfl,p,6,rfl,p9,by decide,by decide,fun r2 KA r20 r21 bA pA=>?_⟩
 have tkA:=zax bA p9
 have tk6A:TupKeep K6 KA:=fun a us e=>tkA _ _ (S9 _ _ (S8 _ _ (tk7 _ _ e)))
 have tk4A:TupKeep K4 KA:=fun a us e=>tk6A _ _ (S6 _ _ (tk5 _ _ e))
 have isgA:Is K KA (gainD r.2.2.2) (.ref ga):=Is.tk tk4A _ gtp isg4
 have B9:But p H KA:=B2.trans ((Same.but V4).trans (b5.trans ((Same.but S6).trans (b7.trans ((Same.but (S8.trans S9)).trans bA)))))
 obtain⟨d1,id1,cd1⟩:=(TupV.tk (fun a us e=>tk6A _ _ (S6 _ _ e)) tv1).data (by decide)
 obtain⟨d2,id2,cd2⟩:=(TupV.tk (fun a us e=>tkA _ _ ((S8.trans S9) _ _ e)) tv2).data (by decide)
 obtain⟨v',hv',cv⟩:∃ v',atI [V.ref x1,V.ref x2,V.ref x3,V.ref x4,V.ref x5,V.ref x6] r2=some v'∧∃ d,Is K KA d v'∧Cl 3 1744 d:=by
  have:r2=0∨r2=1∨r2=2∨r2=3∨r2=4∨r2=5:=by omega
  rcases this with rfl | rfl | rfl | rfl | rfl | rfl
  ·exact⟨_,rfl,_,zfv (tk4A _ _ ((S2.trans (S3.trans S4)) _ _ h1)) isgA,zfw (by omega) (by omega) (by omega) gcl⟩
  ·exact⟨_,rfl,_,zfv (tk4A _ _ ((S3.trans S4) _ _ h2)) isgA,zfw (by omega) (by omega) (by omega) gcl⟩
  ·exact⟨_,rfl,_,zfv (tk4A _ _ (S4 _ _ h3)) isgA,zfw (by omega) (by omega) (by omega) gcl⟩
  ·exact⟨_,rfl,_,zfv (tk4A _ _ h4) isgA,zfw (by omega) (by omega) (by omega) gcl⟩
  ·exact⟨_,rfl,_,zfv (tk6A _ _ h6) id1,zfw (by omega) (by omega) (by omega) cd1⟩
  ·exact⟨_,rfl,_,zfv (tkA _ _ (S9 _ _ h8)) id2,zfw (by omega) (by omega) (by omega) cd2⟩
 exact⟨lz,_,_,_,rfl,rfl,SqL.of (bA _ _ (npot p8 f9) h9),hv',q _ _ B9 pA cv⟩
theorem zec {K:PySem.W.Frag} {H:Hp} {x:Addr} {kv lv:V} (h:H x=some (.tup [kv,lv])) (hk:TupV K H 0 0 121 kv) (hl:TupV K H 3 1744 313 lv):∃ dp,Is K H dp (.ref x)∧Cl 5 1092372 dp:=by
 obtain⟨d1,i1,c1⟩:=hk.data (by decide)
 obtain⟨d2,i2,c2⟩:=hl.data (by decide)
 refine⟨.tuple [d1,d2],⟨x,_,rfl,h,kv,_,rfl,i1,lv,[],rfl,i2,rfl⟩,Cl.tuple (k:=4) (b:=546185) (m:=2) (by show 2≤2;decide) (by decide) fun d hd=>?_⟩
 simp only [List.mem_cons,List.not_mem_nil,or_false] at hd
 rcases hd with rfl | rfl
 ·exact c1.up.up.up.le (by decide)
 ·exact c2
theorem zhn {K:PySem.W.Frag} {H:Hp} {s:St6} {tv:V} (sm:SixSm s) (h:Is K H (sixD s) tv):∃ (tt kt lt:Addr) (ys:List V),tv=.ref tt∧H tt=some (.tup [.ref kt,.ref lt])∧H kt=some (.tup (natV s.1))∧H lt=some (.tup ys)∧IsAll K H (s.2.map rowSD) ys∧TupV K H 0 0 121 (.ref kt)∧TupV K H 3 1744 313 (.ref lt):=by
 obtain⟨tt,vs,rfl,ht,kv,z1,rfl,ik,lv,z2,rfl,il,w⟩:=h
 cases w
 obtain⟨kt,kys,rfl,hk,iks⟩:=ik
 obtain⟨lt,ys,rfl,hl,iys⟩:=il
 have ek:=IsAll.of_ints (ns:=keepI s.1) iks
 rw[ek,← za8] at hk
 refine⟨tt,kt,lt,ys,rfl,ht,hk,hl,iys,⟨kt,_,rfl,hk,by rw[zai];have:=sm.1;omega,?_⟩,⟨lt,_,rfl,hl,by rw[iys.length,List.length_map];have:=sm.2.2.1;omega,?_⟩⟩
 ·rw[ek,← za8] at iks
  refine AllV.of iks fun d hd=>?_
  obtain⟨i,hi,rfl⟩:=List.mem_map.mp hd
  obtain⟨k,hk,rfl⟩:=List.mem_map.mp hi
  have:=sm.2.1 k hk
  exact Cl.int (by omega)
 ·refine AllV.of iys fun d hd=>?_
  obtain⟨r,hr,rfl⟩:=List.mem_map.mp hd
  exact (zgd (sm.2.2.2 r hr)).le (by decide)
def spSpo62 (K:PySem.W.Frag):Sp:=fun vs H Q _=>∃ (p:Addr) (wv tv:V) (n:Int) (ts:List Tie) (s:St6),vs=[.ref p,wv,tv]∧Pot H p∧Is K H (webD n (ones ts)) wv∧WebOk n ts∧n≤12∧Is K H (sixD s) tv∧SixSm s∧∀ x H',But p H H'->Pot H' p->(∃ dp,Is K H' dp (.ref x)∧Cl 5 1092372 dp)->Q (.ref x) H'
theorem zd4 (T:Bi mg) (D:DefOk K mg "_law_spoilt" s__law_spoilt ["pot","web","told"]) (O__law_take:Ok P w K mg base 8 "_law_take" ["pot","many"] spTake) (O__law_share:Ok P w K mg base 8 "_law_share" ["pot"] spShareL) (O_six_told:Ok P w K mg base 8 "six_told" ["web","d"] (spSix K)) (O__law_bent:Ok P w K mg base 8 "_law_bent" ["pot","row"] (spBent K)) (O__law_other_row:Ok P w K mg base 8 "_law_other_row" ["pot","row"] (spRow62 K)):Ok P w K mg base 9 "_law_spoilt" ["pot","web","told"] (spSpo62 K):=by
 refine zbb (k:=8) D sc__law_spoilt (fun vs H Q E h=>?_) (fun f cdv A outer s H vs Q E hr h=>?_)
 ·obtain⟨p,wv,tv,n,ts,s,rfl,_⟩:=h
  rfl
 obtain⟨p,wv,tv,n,ts,s6,rfl,hp,isw,ok,n12,ist,sm,q⟩:=h
 have nd:=sc__law_spoilt.nd
 have few60:=ok.few
 obtain⟨g0,gg,ws,rfl,hg0,hg,hall,hlw⟩:=za7 isw
 rw[za4] at hlw
 obtain⟨tt,kt,lt,ys,rfl,htt,hkt,hlt,hys,tk,tl⟩:=zhn sm ist
 have lys:ys.length≤156:=by rw[hys.length,List.length_map];exact sm.2.2.1
 have npot:∀ {J:Hp} {b:Addr},Pot J p->J b=none->b≠p:=fun pp hb z=>by
  obtain⟨xs,e⟩:=pp.lst
  rw[z,e] at hb;cases hb
 refine⟨_,(zac (zbz (pv 2) (zb0 (n:=2) rfl (zak (zah (i:=3) nd rfl (Or.inl rfl)) (zak (zah (i:=4) nd rfl (Or.inl rfl)) zbd)))) (zac (zan (i:=5) nd rfl (Or.inl rfl) (zae O__law_take hr rfl (zaa (pv 0) (zaa zad zab)))) (zac (zbj (zao zll (pv 5) zad (nomark _)) (zac (zan (i:=6) nd rfl (Or.inr rfl) (zae O__law_take hr rfl (zaa (pv 0) (zaa (zat zbl (zam zau rfl T.z_len (by decide +kernel) (zaa (zav zbc (pv 1) zad (fun _ _=>rfl)) zab)) zad) zab)))) (zac (zbj (zao zm8 (pv 6) (pv 3) (by with_unfolding_all rfl)) (zaf (zaq (zar (zaa (zas za1 rfl T.z_tuple (by decide +kernel) (zaa (zbv (N:=["pot","web","told","keep","ledger","way","number","other","at"]) (sc0:=defScope s__law_spoilt) (own:=["one"]) (fr:=["number"]) (js:=[6]) rfl (zbw (pv 3)) (fun _ _ _ _=>(zah (i:=0) (by show List.Nodup [("one":Str),("number":Str)];decide +kernel) rfl (Or.inl rfl))) (fun _ _ _ _=>(zct (zao zo9 (pv 0) (pv 1) (nomark _)))) (fun _ _ _ _=>(pv 0))) zab)) (zaa (pv 4) zab))))) zaw) (zaf (zaq (zar (zaa (zas za1 rfl T.z_tuple (by decide +kernel) (zaa (zam zdc rfl T.z_sorted (by decide +kernel) (zaa (zat zb1 (pv 3) (zar (zaa (pv 6) zab))) zab)) zab)) (zaa (pv 4) zab))))))) zaw) (zac (zbj (zao zbo (pv 5) zad (nomark _)) (zaf (zaq (zar (zaa (zav zay (za5 (zaa (zhr zp9 (pv 3) zbe (zhq zds zad)) (zaa (zat zb1 (pv 3) (za9 zbi (pv 3) zbe (zbk zad))) (zaa (zar zab) zab)))) (zae O__law_take hr rfl (zaa (pv 0) (zaa zad zab))) (fun _ _=>rfl)) (zaa (pv 4) zab))))) zaw) (zac (zbj (zao zbo (pv 5) zad (nomark _)) (zac (zan (i:=7) nd rfl (Or.inl rfl) (zae O_six_told hr rfl (zaa (pv 1) (zaa (zae O__law_share hr rfl (zaa (pv 0) zab)) zab)))) (zaf (zaq (zav zay (za5 (zaa (zar (zaa (pv 3) (zaa (zav zbc (pv 7) zad (fun _ _=>rfl)) zab))) (zaa (zar (zaa (zav zbc (pv 7) zad (fun _ _=>rfl)) (zaa (pv 4) zab))) (zaa (pv 7) zab)))) (zae O__law_take hr rfl (zaa (pv 0) (zaa zad zab))) (fun _ _=>rfl))))) zaw) (zac (zbj (PW.pt (zge (zao zbo (pv 5) zad (nomark _)) (zdt (zao zbo (zam zau rfl T.z_len (by decide +kernel) (zaa (pv 4) zab)) zad (nomark _))))) (zaf (zaq (zar (zaa (pv 3) (zaa (zae O__law_bent hr rfl (zaa (pv 0) (zaa (pv 4) zab))) zab))))) zaw) (zac (zan (i:=8) nd rfl (Or.inl rfl) (zae O__law_take hr rfl (zaa (pv 0) (zaa (zam zau rfl T.z_len (by decide +kernel) (zaa (pv 4) zab)) zab)))) (zaf (zaq (zar (zaa (pv 3) (zaa (zat zb1 (zat zb1 (za9 zbi (pv 4) zbe (zbk (pv 8))) (zar (zaa (zae O__law_other_row hr rfl (zaa (pv 0) (zaa (zav zbc (pv 4) (pv 8) (fun _ _=>rfl)) zab))) zab))) (za9 zbi (pv 4) (zbk (zat zbl (pv 8) zad)) zbe)) zab)))))))))))),?_⟩
 refine⟨_,rfl,tt,_,rfl,SqT.of htt,rfl,_,_,rfl,_,_,rfl,rfl,?_⟩
 refine⟨_,rfl,p,8,rfl,hp,by decide,by decide,fun wy J1 w0 w8 b1 p1=>?_⟩
 have tk1:=zax b1 hp
 refine⟨_,rfl,_,_,rfl,rfl,_,rfl,?_⟩
 have line:∀ a b:List V,a.length≤400->b.length≤400->a.length + b.length≤sizeLine:=fun a b h1 h2=>Nat.le_trans (show _≤1000 by omega) (by decide)
 have lk:=sm.1
 have fin:∀ {J:Hp} {x:Addr} {kv lv:V},But p H J->Pot J p->J x=some (.tup [kv,lv])->TupV K J 0 0 121 kv->TupV K J 3 1744 313 lv->Q (.ref x) J:=fun b pp h h1 h2=>q _ _ b pp (zec h h1 h2)
 have akt:AllV K H (Cl 0 0) (natV s6.1):=by
  obtain⟨t',y',e,h,_,a⟩:=tk
  cases e
  rw[hkt] at h
  cases h
  exact a
 by_cases c2:wy < 2
 ·rw[decide_eq_true c2]
  refine iteT ?_
  refine⟨_,rfl,_,rfl,g0,_,_,_,rfl,rfl,SqT.of (tk1 _ _ hg0),rfl,gg,_,rfl,.inr (SqT.of (tk1 _ _ hg)),_,_,rfl,rfl,p,_,rfl,p1,by omega,by omega,fun nu J2 n0 n1 b2 p2=>?_⟩
  have B2:=b1.trans b2
  have tk2:=zax B2 hp
  have hk2:=tk2 _ _ hkt
  refine⟨_,rfl,_,rfl,kt,_,rfl,.inr (SqT.of hk2),rfl,zc9 _,_,rfl,?_⟩
  have ln:(natV s6.1).length≤60:=by rw[zai];exact lk
  show if inV (V.int nu) (natV s6.1)=true then _ else _
  cases inV (V.int nu) (natV s6.1) with
  | true =>
   refine iteT ⟨_,rfl,kt,rfl,⟨_,SqT.of hk2⟩,?_⟩
   refine ze6 hk2 (fun σ'=>∃ o,σ'=[o,some (.int nu)]) (fun j=>if (fun k:Nat=>!decide ((k:Int)=nu)) (s6.1.getD j 0)=true then some (V.int ((s6.1.getD j 0:Nat):Int)) else none) (by omega) (by exact⟨none,rfl⟩) (fun j x σ' H' hx s2 sg C L hC hL=>?_) (fun lb J3 hL S3 hH=>?_)
   ·obtain⟨o,rfl⟩:=sg
    obtain⟨k,hk',rfl⟩:=zcj hx
    have ek:s6.1.getD j 0=k:=by rw[List.getD_eq_getElem?_getD,hk'];rfl
    rw[ek] at hC hL
    refine⟨_,rfl,_,rfl,rfl,_,rfl,?_⟩
    by_cases z:(k:Int)=nu
    ·refine iteFe (by rw[z,decide_eq_true rfl];rfl) (hL _ _ ⟨_,rfl⟩ (Same.refl _) (by rw[if_neg (by show ¬ (!decide ((k:Int)=nu))=true;rw[decide_eq_true z];decide)]))
    ·refine iteTe (by rw[decide_eq_false (show ¬ V.int (k:Int)=V.int nu from fun h=>by injection h with h;exact z h)];rfl) ⟨_,rfl,hC _ _ _ ⟨_,rfl⟩ (Same.refl _) (by rw[if_pos (by show (!decide ((k:Int)=nu))=true;rw[decide_eq_false z];rfl)])⟩
   rw[zai,zd9 (fun k:Nat=>!decide ((k:Int)=nu)) s6.1] at hH
   refine⟨lb,_,rfl,hH,fun x1 K1 S4 f4 h4=>⟨_,rfl,(by show 2≤1000;decide),fun x2 K2 S5 f5 h5=>?_⟩⟩
   have S35:=S3.trans (S4.trans S5)
   have B5:But p H K2:=B2.trans (Same.but S35)
   have tk5:=zax B5 hp
   refine fin B5 (p2.same S35) h5 ⟨x1,_,rfl,S5 _ _ h4,?_,(akt.tk tk5).sub fun y hy=>?_⟩ (tl.tk tk5)
   ·have:=List.length_filter_le (fun k:Nat=>!decide ((k:Int)=nu)) s6.1
    rw[zai];omega
   ·obtain⟨k,hk,rfl⟩:=List.mem_map.mp hy
    exact List.mem_map.mpr ⟨k,(List.mem_filter.mp hk).1,rfl⟩
  | false =>
   refine iteF ⟨_,rfl,_,rfl,(by show 1≤1000;decide),fun x1 K1 S1 f1 h1=>?_⟩
   refine⟨kt,x1,_,_,rfl,rfl,S1 _ _ hk2,h1,line _ _ (by omega) (by show 1≤400;decide),fun x2 K2 S2 h2=>?_⟩
   have e2:natV s6.1++[V.int nu]=(keepI s6.1++[nu]).map V.int:=by rw[List.map_append,za8];rfl
   rw[e2] at h2
   have lki:(keepI s6.1++[nu]).length≤61:=by unfold keepI;rw[List.length_append,List.length_map];show _ + 1≤_;omega
   refine⟨x2,keepI s6.1++[nu],rfl,h2,by omega,fun ms pm pw lz K3 S3 f3 h3=>⟨lz,_,rfl,h3,fun x3 K4 S4 f4 h4=>⟨_,rfl,(by show 2≤1000;decide),fun x4 K5 S5 f5 h5=>?_⟩⟩⟩
   have S15:=S1.trans (S2.trans (S3.trans (S4.trans S5)))
   have B5:But p H K5:=B2.trans (Same.but S15)
   have tk5:=zax B5 hp
   refine fin B5 (p2.same S15) h5 ⟨x3,_,rfl,S5 _ _ h4,?_,fun y hy=>?_⟩ (tl.tk tk5)
   ·rw[List.length_map];have:=pm.length_eq;omega
   ·obtain⟨i,hi,rfl⟩:=List.mem_map.mp hy
    refine⟨.int i,rfl,Cl.int ?_⟩
    rcases List.mem_append.mp (pm.mem_iff.mp hi) with z | z
    ·obtain⟨k,hk,rfl⟩:=List.mem_map.mp z
     have:=sm.2.1 k hk
     omega
    ·rw[List.mem_singleton.mp z];omega
 rw[decide_eq_false c2]
 refine iteF ⟨_,rfl,rfl,_,rfl,?_⟩
 by_cases c3:wy=2
 ·rw[decide_eq_true (show V.int wy=V.int 2 by rw[c3])]
  refine iteT ?_
  refine⟨_,rfl,_,rfl,rfl,kt,_,0,rfl,tk1 _ _ hkt,.inl ⟨rfl,rfl⟩,fun x1 K1 S1 f1 h1=>?_⟩
  refine⟨_,rfl,_,rfl,_,rfl,kt,_,rfl,S1 _ _ (tk1 _ _ hkt),fun x2 K2 S2 h2=>?_⟩
  refine⟨kt,x2,_,_,rfl,rfl,(S1.trans S2) _ _ (tk1 _ _ hkt),h2,line _ _ (by rw[zai];omega) (zbh _ _ _ (by rw[zai];omega)),fun x3 K3 S3 h3=>?_⟩
  refine⟨(by show 0≤1000;decide),fun x4 K4 S4 f4 h4=>⟨(by show 3≤1000;decide),fun lz K5 S5 f5 h5=>?_⟩⟩
  have U4:=S1.trans (S2.trans (S3.trans S4))
  have p5:=(p1.same U4).same S5
  refine⟨_,rfl,p,3,rfl,p5,by decide,by decide,fun r K6 r0 r1 b6 p6=>?_⟩
  have tk6:=zax b6 p5
  have B6:But p H K6:=b1.trans ((Same.but (U4.trans S5)).trans b6)
  have ak6:=akt.tk (zax B6 hp)
  have ln:(natV s6.1).length≤60:=by rw[zai];exact lk
  obtain⟨v,hv,tv⟩:∃ v,atI [V.ref x1,V.ref x3,V.ref x4] r=some v∧TupV K K6 0 0 121 v:=by
   have:r=0∨r=1∨r=2:=by omega
   rcases this with rfl | rfl | rfl
   ·exact⟨_,rfl,x1,_,rfl,tk6 _ _ ((S2.trans (S3.trans (S4.trans S5))) _ _ h1),by rw[List.length_reverse,List.drop_zero];omega,ak6.sub fun y hy=>by rw[List.drop_zero] at hy;exact List.mem_reverse.mp hy⟩
   ·exact⟨_,rfl,x3,_,rfl,tk6 _ _ ((S4.trans S5) _ _ h3),by rw[List.length_append];have:=zbh (natV s6.1) none (some 1) ln;omega,ak6.cat (ak6.cut _ _)⟩
   ·exact⟨_,rfl,x4,_,rfl,tk6 _ _ (S5 _ _ h4),Nat.zero_le _,fun y hy=>by cases hy⟩
  refine⟨lz,_,_,_,rfl,rfl,SqL.of (b6 _ _ (npot (p1.same U4) f5) h5),hv,_,rfl,(by show 2≤1000;decide),fun x5 K7 S7 f7 h7=>?_⟩
  have B7:But p H K7:=B6.trans (Same.but S7)
  exact fin B7 (p6.same S7) h7 (tv.tk fun a us e=>S7 _ _ e) (tl.tk (zax B7 hp))
 rw[decide_eq_false (show ¬ V.int wy=V.int 2 from fun h=>by injection h with h;omega)]
 refine iteF ⟨_,rfl,rfl,_,rfl,?_⟩
 by_cases c4:wy=3
 ·rw[decide_eq_true (show V.int wy=V.int 3 by rw[c4])]
  refine iteT ?_
  refine⟨_,rfl,_,rfl,p,rfl,p1,fun d J2 d1 b2 p2=>?_⟩
  have B2:=b1.trans b2
  have tk2:=zax B2 hp
  refine⟨n,ts,_,d,rfl,Is.tk tk2 _ (zme n (ones ts)) isw,ok,by omega,d1,fun ov J3 S3 few iso=>?_⟩
  obtain⟨ott,okt,olt,oys,rfl,ohtt,ohkt,ohlt,ohys,otk,otl⟩:=zhn (zp8 (d:=d) ok n12) iso
  have p3:=p2.same S3
  refine⟨_,rfl,_,rfl,ott,_,_,_,rfl,rfl,SqT.of ohtt,rfl,(by show 2≤1000;decide),fun x1 K1 S1 f1 h1=>?_⟩
  refine⟨_,rfl,ott,_,_,_,rfl,rfl,SqT.of (S1 _ _ ohtt),rfl,_,rfl,(by show 2≤1000;decide),fun x2 K2 S2 f2 h2=>?_⟩
  refine⟨_,rfl,(by show 3≤1000;decide),fun lz K4 S4 f4 h4=>?_⟩
  have U2:=S1.trans S2
  have p4:=(p3.same U2).same S4
  refine⟨_,rfl,p,3,rfl,p4,by decide,by decide,fun r K6 r0 r1 b6 p6=>?_⟩
  have tk6:=zax b6 p4
  have B6:But p H K6:=B2.trans ((Same.but (S3.trans (U2.trans S4))).trans b6)
  have tkH:=zax B6 hp
  have tkO:TupKeep J3 K6:=fun a us e=>tk6 _ _ ((U2.trans S4) _ _ e)
  obtain⟨v,hv,dv⟩:∃ v,atI [V.ref x1,V.ref x2,V.ref ott] r=some (.ref v)∧∃ dp,Is K K6 dp (.ref v)∧Cl 5 1092372 dp:=by
   have:r=0∨r=1∨r=2:=by omega
   rcases this with rfl | rfl | rfl
   ·exact⟨_,rfl,zec (tk6 _ _ ((S2.trans S4) _ _ h1)) (tk.tk tkH) (otl.tk tkO)⟩
   ·exact⟨_,rfl,zec (tk6 _ _ (S4 _ _ h2)) (otk.tk tkO) (tl.tk tkH)⟩
   ·exact⟨_,rfl,zec (tkO _ _ ohtt) (otk.tk tkO) (otl.tk tkO)⟩
  exact⟨lz,_,_,_,rfl,rfl,SqL.of (b6 _ _ (npot (p3.same U2) f4) h4),hv,q _ _ B6 p6 dv⟩
 rw[decide_eq_false (show ¬ V.int wy=V.int 3 from fun h=>by injection h with h;omega)]
 refine iteF ?_
 have alt:AllV K H (Cl 3 1744) ys:=by
  obtain⟨t',y',e,h,_,a⟩:=tl
  cases e
  rw[hlt] at h
  cases h
  exact a
 have hl1:=tk1 _ _ hlt
 apply brT (A:=True)
 case main =>
  intro tail
  by_cases c5:wy=4
  ·exact⟨_,rfl,rfl,_,rfl,iteTe (decide_eq_true (by rw[c5])) (tail trivial)⟩
  refine⟨_,rfl,rfl,_,rfl,iteFe (decide_eq_false fun h=>by injection h with h;omega) ⟨_,rfl,lt,_,rfl,.inr (SqT.of hl1),rfl,_,rfl,?_⟩⟩
  by_cases c6:ys.length=0
  ·rw[decide_eq_true (show V.int ((ys.length:Nat):Int)=V.int 0 by rw[c6];rfl)]
   exact iteT (tail trivial)
  rw[decide_eq_false (show ¬ V.int ((ys.length:Nat):Int)=V.int 0 from fun h=>by injection h with h;omega)]
  refine iteF ?_
  refine⟨_,rfl,_,rfl,lt,_,rfl,.inr (SqT.of hl1),p,_,rfl,p1,by omega,by omega,fun a0 J2 a00 a01 b2 p2=>?_⟩
  obtain⟨at_,rfl⟩:∃ k:Nat,a0=k:=⟨a0.toNat,by omega⟩
  have B2:=b1.trans b2
  have tk2:=zax B2 hp
  have hl2:=tk2 _ _ hlt
  have lsr:ys.length=s6.2.length:=by rw[hys.length,List.length_map]
  have hA:at_ < s6.2.length:=by omega
  obtain⟨x,hx,ix⟩:=hys.at_ (show (s6.2.map rowSD)[at_]?=some (rowSD s6.2[at_]) by rw[List.getElem?_map,List.getElem?_eq_getElem hA];rfl)
  have hat:atI ys (at_:Int)=some x:=za2 (Int.natCast_nonneg _) (by rw[Int.toNat_natCast];exact hx)
  have rsm:=sm.2.2.2 _ (List.getElem_mem hA)
  have rtp:tupD (rowSD s6.2[at_])=true:=zk4 3 _ (zgd rsm).1
  refine⟨_,rfl,_,rfl,_,rfl,_,rfl,lt,_,rfl,hl2,fun x1 K1 S1 h1=>?_⟩
  have p3:=p2.same S1
  refine⟨_,rfl,_,rfl,_,rfl,lt,_,_,_,rfl,rfl,SqT.of (S1 _ _ hl2),hat,p,_,s6.2[at_],rfl,p3,Is.same S1 _ (Is.tk tk2 _ rtp ix),rsm,fun v K2 b4 p4 dv=>⟨(by show 1≤1000;decide),fun x2 K3 S3 f3 h3=>?_⟩⟩
  have tk4:=zax b4 p3
  have hl3:=S3 _ _ (tk4 _ _ (S1 _ _ hl2))
  have c:=fun lo hi=>zbh ys lo hi lys
  refine⟨x1,x2,_,_,rfl,rfl,S3 _ _ (tk4 _ _ h1),h3,line _ _ (zbh _ _ _ (by omega)) (by show 1≤400;decide),fun x3 K4 S4 h4=>?_⟩
  refine⟨_,rfl,_,rfl,_,_,rfl,rfl,_,rfl,lt,_,rfl,S4 _ _ hl3,fun x4 K5 S5 h5=>?_⟩
  have l9:(cutV ys none (some (at_:Int))++[v]).length≤157:=by rw[List.length_append];exact Nat.add_le_add (c _ _) (Nat.le_refl 1)
  refine⟨x3,x4,_,_,rfl,rfl,S5 _ _ h4,h5,line _ _ (by omega) (zbh _ _ _ (by omega)),fun x5 K6 S6 h6=>⟨(by show 2≤1000;decide),fun x6 K7 S7 f7 h7=>?_⟩⟩
  have V7:=S3.trans (S4.trans (S5.trans (S6.trans S7)))
  have B7:But p H K7:=B2.trans ((Same.but S1).trans (b4.trans (Same.but V7)))
  have tk7:=zax B7 hp
  have al7:=alt.tk tk7
  obtain⟨dd,isd,cd⟩:=dv
  refine fin B7 (p4.same V7) h7 (tk.tk tk7) ⟨x5,_,rfl,S7 _ _ h6,by rw[List.length_append];have:=c (some ((at_:Int) + 1)) none;omega,((al7.cut _ _).cat (AllV.one (Is.same V7 _ isd) cd)).cat (al7.cut _ _)⟩
 case tail =>
  intro _
  refine⟨_,rfl,_,rfl,_,rfl,p,lt,ys,rfl,p1,hl1,lys,alt.tk tk1,fun v K1 b2 p2 tv=>⟨(by show 2≤1000;decide),fun x1 K2 S2 f2 h2=>?_⟩⟩
  have B2:But p H K2:=b1.trans (b2.trans (Same.but S2))
  exact fin B2 (p2.same S2) h2 (tk.tk (zax B2 hp)) (tv.tk fun a us e=>S2 _ _ e)
def spBs63:Sp:=fun vs H Q _=>∃ (p:Addr) (st n a b:Int),vs=[.ref p,.int st,.int n,.int a,.int b]∧Pot H p∧0≤st∧st < 8∧∀ k H',But p H H'->Pot H' p->Q (.bl k) H'
theorem zd5 (T:Bi mg) (D:DefOk K mg "_law_beside" s__law_beside ["pot","style","n","a","b"]) (O__law_take:Ok P w K mg base 1 "_law_take" ["pot","many"] spTake):Ok P w K mg base 2 "_law_beside" ["pot","style","n","a","b"] spBs63:=by
 refine zbb (k:=1) D sc__law_beside (fun vs H Q E h=>?_) (fun f cdv A outer s H vs Q E hr h=>?_)
 ·obtain⟨p,st,n,a,b,rfl,_⟩:=h
  rfl
 obtain⟨p,st,n,a,b,rfl,hp,s0,s8,q⟩:=h
 have nd:=sc__law_beside.nd
 have q0:∀ k,Q (.bl k) H:=fun k=>q k H But.refl hp
 refine⟨_,(zac (zan (i:=5) nd rfl (Or.inl rfl) (zat zc2 (pv 4) (pv 3))) (zac (zan (i:=6) nd rfl (Or.inl rfl) (zm2 (za3 zbo (pv 5) zad (nomark _)) (zcg (za3 zbo (pv 5) (zat zc2 (pv 2) zad) (nomark _))))) (zac (zbj (zao zbo (pv 1) zad (nomark _)) (zaf (zaq (zeo (za3 zbo (pv 5) zad (nomark _)) (zcg (za3 zm9 (zat zch (pv 4) zad) zad (nomark _)))))) zaw) (zac (zbj (PW.pt (zge (zao zbo (pv 1) zad (nomark _)) (zdt (zao zbo (pv 1) zad (nomark _))))) (zaf (zaq (zm2 (za3 zbo (pv 5) (pv 1) (nomark _)) (zcg (zeo (za3 zbo (pv 5) zad (nomark _)) (zcg (za3 zm9 (zat zch (pv 4) (pv 1)) zad (nomark _)))))))) zaw) (zac (zbj (zao zbo (pv 1) zad (nomark _)) (zaf (zaq (zm2 (pv 6) (zcg (za3 zbo (zae O__law_take hr rfl (zaa (pv 0) (zaa zad zab))) zad (nomark _)))))) zaw) (zac (zbj (zao zbo (pv 1) zad (nomark _)) (zaf (zaq (za3 zbo (pv 3) (zat zjg (zat zc2 (pv 4) zad) zad) (nomark _)))) zaw) (zac (zbj (zao zbo (pv 1) zad (nomark _)) (zaf (zaq (zm2 (za3 zbo (pv 5) zad (nomark _)) (zcg (zeo (za3 zll (pv 3) zad (nomark _)) (zeo (za3 zm9 (pv 4) (zat zc2 (pv 2) zad) (nomark _)) (zcg (za3 zbo (zat zch (pv 5) zad) zad (nomark _))))))))) zaw) (zac (zbj (zao zbo (pv 1) zad (nomark _)) (zaf (zaq (za3 zbo (zae O__law_take hr rfl (zaa (pv 0) (zaa zad zab))) zad (nomark _)))) zaw) (zaf (zaq (pv 6))))))))))),?_⟩
 refine⟨_,rfl,_,rfl,_,_,rfl,rfl,?_⟩
 refine⟨_,rfl,rfl,_,rfl,?_⟩
 have:st=0∨st=1∨st=2∨st=3∨st=4∨st=5∨st=6∨st=7:=by omega
 refine ite2 (fun c=>?_) (fun c=>⟨_,rfl,_,rfl,_,_,rfl,rfl,rfl,?_⟩)
 all_goals
  rcases this with rfl | rfl | rfl | rfl | rfl | rfl | rfl | rfl
  ·exact⟨_,rfl,rfl,_,rfl,iteF ⟨_,rfl,rfl,_,rfl,iteF ⟨_,rfl,rfl,_,rfl,iteF ⟨_,rfl,rfl,_,rfl,iteF ⟨_,rfl,rfl,_,rfl,iteF ⟨_,rfl,rfl,_,rfl,iteF ⟨_,rfl,rfl,_,rfl,iteF ⟨_,rfl,q0 _⟩⟩⟩⟩⟩⟩⟩⟩
  ·exact⟨_,rfl,rfl,_,rfl,iteT ⟨_,rfl,rfl,_,rfl,ite2 (fun _=>⟨_,rfl,_,_,rfl,rfl,(by show (0:Int) < 9;decide),_,_,rfl,rfl,q0 _⟩) (fun _=>q0 _)⟩⟩
  ·exact⟨_,rfl,rfl,_,rfl,iteF ⟨_,rfl,rfl,_,rfl,iteT ⟨_,rfl,_,rfl,rfl,_,rfl,ite2 (fun _=>q0 _) (fun _=>⟨_,rfl,rfl,_,rfl,ite2 (fun _=>⟨_,rfl,_,rfl,_,_,rfl,rfl,(by show (0:Int) < 2;decide),_,_,rfl,rfl,q0 _⟩) (fun _=>q0 _)⟩)⟩⟩⟩
  ·exact⟨_,rfl,rfl,_,rfl,iteF ⟨_,rfl,rfl,_,rfl,iteF ⟨_,rfl,rfl,_,rfl,iteT ⟨_,rfl,_,rfl,rfl,_,rfl,ite2 (fun _=>q0 _) (fun _=>⟨_,rfl,rfl,_,rfl,ite2 (fun _=>⟨_,rfl,_,rfl,_,_,rfl,rfl,(by show (0:Int) < 3;decide),_,_,rfl,rfl,q0 _⟩) (fun _=>q0 _)⟩)⟩⟩⟩⟩
  ·exact⟨_,rfl,rfl,_,rfl,iteF ⟨_,rfl,rfl,_,rfl,iteF ⟨_,rfl,rfl,_,rfl,iteF ⟨_,rfl,rfl,_,rfl,iteT ⟨_,rfl,_,rfl,ite2 (fun _=>q0 _) (fun _=>⟨_,rfl,p,_,rfl,hp,by decide,by decide,fun r H' _ _ b1 p1=>⟨rfl,q _ _ b1 p1⟩⟩)⟩⟩⟩⟩⟩
  ·exact⟨_,rfl,rfl,_,rfl,iteF ⟨_,rfl,rfl,_,rfl,iteF ⟨_,rfl,rfl,_,rfl,iteF ⟨_,rfl,rfl,_,rfl,iteF ⟨_,rfl,rfl,_,rfl,iteT ⟨_,rfl,_,rfl,_,_,rfl,rfl,_,_,rfl,rfl,⟨by decide,by decide⟩,rfl,q0 _⟩⟩⟩⟩⟩⟩
  ·exact⟨_,rfl,rfl,_,rfl,iteF ⟨_,rfl,rfl,_,rfl,iteF ⟨_,rfl,rfl,_,rfl,iteF ⟨_,rfl,rfl,_,rfl,iteF ⟨_,rfl,rfl,_,rfl,iteF ⟨_,rfl,rfl,_,rfl,iteT ⟨_,rfl,rfl,_,rfl,ite2 (fun _=>q0 _) (fun _=>⟨_,rfl,_,_,rfl,rfl,_,rfl,ite2 (fun _=>⟨_,rfl,_,rfl,_,_,rfl,rfl,_,_,rfl,rfl,_,rfl,ite2 (fun _=>⟨_,rfl,_,_,rfl,rfl,(by show (0:Int) < 2;decide),rfl,q0 _⟩) (fun _=>q0 _)⟩) (fun _=>q0 _)⟩)⟩⟩⟩⟩⟩⟩⟩
  ·exact⟨_,rfl,rfl,_,rfl,iteF ⟨_,rfl,rfl,_,rfl,iteF ⟨_,rfl,rfl,_,rfl,iteF ⟨_,rfl,rfl,_,rfl,iteF ⟨_,rfl,rfl,_,rfl,iteF ⟨_,rfl,rfl,_,rfl,iteF ⟨_,rfl,rfl,_,rfl,iteT ⟨_,rfl,p,_,rfl,hp,by decide,by decide,fun r H' _ _ b1 p1=>⟨rfl,q _ _ b1 p1⟩⟩⟩⟩⟩⟩⟩⟩⟩
def WInv63 (H:Hp) (p ln lt:Addr) (m n st:Int) (ms:List Int) (b a:Nat) (σ:L2.St) (H':Hp):Prop :=
 ∃ (t7 t8 t9 t10:Option V) (ys:List V) (ties:List Tie),σ=[some (.ref p),some (.int m),some (.int n),some (.int st),some (.ref ln),some (.ref lt),t7,t8,t9,t10] ∧
  H' ln=some (.lst (ms.map V.int))∧H' lt=some (.lst ys)∧TieL H' ys ties∧Pot H' p∧(∀ b o,b≠p->H b=some o->H' b=some o)∧Grown n.toNat ms b a ties∧(∀ t ∈ ties,t.2.2=1)
def spLong (K:PySem.W.Frag):Sp:=fun vs H Q _=>∃ p m,vs=[.ref p,.int m]∧Pot H p∧1≤m∧m≤24∧∀ v H' n ts,But p H H'->Pot H' p->WebOk n ts->n≤m->Is K H' (webD n (ones ts)) v->Q v H'
theorem znc {ts:List Tie} (h:∀ t ∈ ts,t.2.2=1):ones ts=ts:=by
 unfold ones
 conv=>rhs;rw[← List.map_id ts]
 refine List.map_congr_left fun t ht=>?_
 show (t.1,t.2.1,(1:Int))=t
 rw[← h t ht]
theorem zfh (T:Bi mg) (D:DefOk K mg "_law_long" s__law_long ["pot","most"]) (O__law_take:Ok P w K mg base 2 "_law_take" ["pot","many"] spTake) (O__law_order:Ok P w K mg base 2 "_law_order" ["pot","many"] spOrder)
  (O__law_beside:Ok P w K mg base 2 "_law_beside" ["pot","style","n","a","b"] spBs63):Ok P w K mg base 3 "_law_long" ["pot","most"] (spLong K):=by
 refine zbb (k:=2) D sc__law_long (fun vs H Q E h=>?_) (fun f cdv A outer s H vs Q E hr h=>?_)
 ·obtain⟨p,m,rfl,_⟩:=h
  rfl
 obtain⟨p,m,rfl,hp,hm0,hm1,q⟩:=h
 have nd:=sc__law_long.nd
 refine⟨_,(zac (zan (i:=2) nd rfl (Or.inl rfl) (zat zbl zad (zae O__law_take hr rfl (zaa (pv 0) (zaa (pv 1) zab))))) (zac (zan (i:=3) nd rfl (Or.inl rfl) (zae O__law_take hr rfl (zaa (pv 0) (zaa zad zab)))) (zac (zan (i:=4) nd rfl (Or.inl rfl) (zas (zdd rfl) rfl T.z_list (by decide +kernel) (zaa (zas zdo rfl T.z_range (by decide +kernel) (zaa (pv 2) zab)) zab))) (zac (zbj (zao zbo (zae O__law_take hr rfl (zaa (pv 0) (zaa zad zab))) zad (nomark _)) (zaf (zan (i:=4) nd rfl (Or.inl rfl) (zae O__law_order hr rfl (zaa (pv 0) (zaa (pv 2) zab))))) zaw) (zac (zan (i:=5) nd rfl (Or.inl rfl) (zhs zab)) (zac (zbn PassesOwn.never rfl (zhp rfl T.z_range (zaa zad (zaa (pv 2) zab))) (zah (i:=6) nd rfl (Or.inl rfl)) (zaf (zbn PassesOwn.never rfl (zbt rfl T.z_range (zaa (pv 6) zab)) (zah (i:=7) nd rfl (Or.inl rfl)) (zaf (zbj (PW.pt (zr5 (zdu (zae O__law_beside hr rfl (zaa (pv 0) (zaa (pv 3) (zaa (pv 2) (zaa (pv 7) (zaa (pv 6) zab))))))) (zq4 (zao zll (zam zau rfl T.z_len (by decide +kernel) (zaa (pv 5) zab)) zad (nomark _))))) (zac (zbz (zam zdy rfl T.z_sorted (by decide +kernel) (zaa (zhs (zaa (zav zay (pv 4) (pv 7) (fun _ _=>rfl)) (zaa (zav zay (pv 4) (pv 6) (fun _ _=>rfl)) zab))) zab)) (zr9 (n:=2) rfl (zak (zah (i:=8) nd rfl (Or.inl rfl)) (zak (zah (i:=9) nd rfl (Or.inl rfl)) zbd)))) (zaf (zbq (zd0 PySem.F.plainAttrs_list PySem.F.slot_list_append PySem.F.type_list_append zc5 (pv 5) (zaa (zqb (zaa (pv 8) (zaa (pv 9) (zaa zad zab)))) zab))))) zaw))))) (zaf (zaq (zqb (zaa (pv 2) (zaa (zas zdb rfl T.z_tuple (by decide +kernel) (zaa (zam zig rfl T.z_sorted (by decide +kernel) (zaa (pv 5) zab)) zab)) zab))))))))))),?_⟩
 refine⟨_,rfl,_,rfl,p,m,rfl,hp,by omega,by omega,fun r1 H1 r10 r11 b1 p1=>?_⟩
 refine⟨_,_,rfl,rfl,?_⟩
 refine⟨_,rfl,p,8,rfl,p1,by decide,by decide,fun st H2 st0 st1 b2 p2=>?_⟩
 have n1:1≤(1 + r1):=by omega
 have n24:(1 + r1)≤24:=by omega
 refine⟨_,rfl,_,rfl,fun rg hrg=>⟨rg,_,rfl,zag,by omega,by omega,fun lk hlk=>?_⟩⟩
 have SL:=(zal (o:=.rng 0 (1 + r1)) hrg).trans (zal (o:=.lst ((List.range (1 + r1).toNat).map fun i:Nat=>V.int (i:Int))) hlk)
 have pl:=p2.same SL
 have npot:∀ {J:Hp} {b:Addr},Pot J p->J b=none->b≠p:=fun pp hb z=>by
  obtain⟨xs,e⟩:=pp.lst
  rw[z,e] at hb;cases hb
 have nlk:lk≠p:=npot (p2.same (zal (o:=.rng 0 (1 + r1)) hrg)) hlk
 refine⟨_,rfl,p,2,rfl,pl,by decide,by decide,fun r2 J2 r20 r21 b3 p3=>⟨rfl,_,rfl,?_⟩⟩
 have bt3:But p H J2:=b1.trans (b2.trans ((Same.but SL).trans b3))
 apply brT2 (A:=fun (ln:Addr) (J:Hp)=>But p H J∧Pot J p∧H ln=none∧ln≠p∧∃ ms:List Int,J ln=some (.lst (ms.map V.int))∧ms.Perm ((List.range (1 + r1).toNat).map fun i:Nat=>(i:Int)))
 case main =>
  intro tail
  refine ite2 (fun c=>?_) (fun c=>?_)
  ·refine⟨_,rfl,_,rfl,p,(1 + r1),rfl,p3,by omega,by omega,fun ln H4 ms b4 p4 f4 n4 e4 pm=>?_⟩
   refine tail ln H4 ⟨bt3.trans b4,p4,?_,n4,ms,e4,pm⟩
   cases e:H ln with
   | none=>rfl
   | some u=>rw[bt3 _ _ n4 e] at f4;cases f4
  ·refine tail lk J2 ⟨bt3,p3,?_,nlk,(List.range (1 + r1).toNat).map (fun i:Nat=>(i:Int)),b3 _ _ nlk ?_,List.Perm.refl _⟩
   ·cases e:H lk with
    | none=>rfl
    | some u =>
     have:=(zal (o:=.rng 0 (1 + r1)) hrg) _ _ ((b1.trans b2) _ _ nlk e)
     rw[hlk] at this;cases this
   ·rw[zag,List.map_map];rfl
 case tail =>
 rintro ln H4 ⟨bt4,p4,fln,n4,ms,e4,pm⟩
 refine⟨(by show 0≤sizeLine;decide),fun lt hlt=>?_⟩
 have flt:H lt=none:=by
  by_cases z:lt=p
  ·obtain⟨a',b',e',_⟩:=p4;rw[z,e'] at hlt;cases hlt
  ·cases e:H lt with
   | none=>rfl
   | some u=>rw[bt4 _ _ z e] at hlt;cases hlt
 have nlt:lt≠p:=npot p4 hlt
 have nln:ln≠lt:=fun x=>by rw[← x,e4] at hlt;cases hlt
 have pm0:Perm0 (1 + r1).toNat ms:=Perm0.of pm
 refine⟨_,rfl,1,(1 + r1),rfl,⟨by omega,by omega,by omega,by omega⟩,?_⟩
 refine zbu (lo:=1) (n:=((1 + r1) - 1).toNat) (fun i σ H'=>WInv63 H p ln lt m (1 + r1) st ms (i + 1) 0 σ H') ?start ?turn ?fin
 case start =>
  refine⟨_,none,none,none,[],[],rfl,by rw[zap nln];exact e4,zag,.nil,?_,fun b o hb e=>?_,Grown.start.down,fun t h=>by cases h⟩
  ·obtain⟨a',b',e',z⟩:=p4
   exact⟨a',b',by rw[zap nlt.symm];exact e',z⟩
  ·rw[zap (fun x=>by rw[x,flt] at e;cases e)]
   exact bt4 _ _ hb e
 case turn =>
  rintro i σ H' hi ⟨t7,t8,t9,t10,ys,ties,rfl,g1,g2,g3,g4,g5,g6,g7⟩
  refine⟨_,rfl,_,rfl,by omega,by omega,?_⟩
  have ei:((1 + (i:Int)):Int).toNat=i + 1:=by omega
  rw[ei]
  refine zbu (n:=i + 1) (fun k σ H''=>(∃ t7,σ[6]?=some (some (.int (1 + (i:Int))))∧t7=())∧WInv63 H p ln lt m (1 + r1) st ms (i + 1) k σ H'') ?start2 ?turn2 ?fin2
  case start2=>exact⟨⟨(),rfl,rfl⟩,some (.int (1 + (i:Int))),t8,t9,t10,ys,ties,rfl,g1,g2,g3,g4,g5,g6,g7⟩
  case fin2 =>
   rintro σ H'' ⟨_,t7,t8,t9,t10,ys,ties,rfl,g1,g2,g3,g4,g5,g6,g7⟩
   exact⟨t7,t8,t9,t10,ys,ties,rfl,g1,g2,g3,g4,g5,g6.down,g7⟩
  case turn2 =>
   rintro k σ K1 hk ⟨⟨_,h7,_⟩,t7,t8,t9,t10,ys,ties,rfl,g1,g2,g3,g4,g5,g6,g7⟩
   have e7:t7=some (.int (1 + (i:Int))):=by simpa using h7
   subst e7
   have again : ∀ {u8 u9 u10 : Option V} {ys' : List V} {ts : List Tie} {J : Hp}, J ln = some (.lst (ms.map V.int)) → J lt = some (.lst ys') → TieL J ys' ts → Pot J p → (∀ b o, b ≠ p → H b = some o → J b = some o) → Grown (1 + r1).toNat ms (i + 1) (k + 1) ts → (∀ t ∈ ts, t.2.2 = 1) →
       (∃ t7,([some (.ref p),some (.int m),some (.int (1 + r1)),some (.int st),some (.ref ln),some (.ref lt),some (.int (1 + (i:Int))),u8,u9,u10]:L2.St)[6]?=some (some (.int (1 + (i:Int))))∧t7=())∧WInv63 H p ln lt m (1 + r1) st ms (i + 1) (k + 1) [some (.ref p),some (.int m),some (.int (1 + r1)),some (.int st),some (.ref ln),some (.ref lt),some (.int (1 + (i:Int))),u8,u9,u10] J :=
    fun a1 a2 a3 a4 a5 a6 a7=>⟨⟨(),rfl,rfl⟩,_,_,_,_,_,_,rfl,a1,a2,a3,a4,a5,a6,a7⟩
   refine⟨_,rfl,_,rfl,_,rfl,_,rfl,_,rfl,p,_,_,_,_,rfl,g4,st0,st1,fun kk K2 c2 d2=>⟨kk,rfl,?_⟩⟩
   have nlnp:ln≠p:=n4
   have l1:K2 ln=some (.lst (ms.map V.int)):=c2 _ _ nlnp g1
   have l2:K2 lt=some (.lst ys):=c2 _ _ nlt g2
   have tup2:∀ a xs,K1 a=some (.tup xs)->K2 a=some (.tup xs):=fun a xs e=>c2 _ _ (fun x=>by
    obtain⟨a',b',e',_⟩:=g4
    rw[x,e'] at e;cases e) e
   have l3:TieL K2 ys ties:=g3.keep tup2
   have l5:∀ b o,b≠p->H b=some o->K2 b=some o:=fun b o hb e=>c2 _ _ hb (g5 _ _ hb e)
   have ylen:ys.length=ties.length:=Paired.length g3
   cases kk with
   | false =>
    refine iteF (iteF ?_)
    exact again l1 l2 l3 d2 l5 g6.skip g7
   | true =>
    refine iteT ?_
    refine⟨_,rfl,lt,_,rfl,.inl (SqL.of l2),_,_,rfl,rfl,_,rfl,?_⟩
    refine ite2 (fun c=>?_) (fun c=>?_)
    case refine_2=>exact again l1 l2 l3 d2 l5 g6.skip g7
    have c':((ys.length:Nat):Int) < 60:=of_decide_eq_true c
    have hkn:k < (1 + r1).toNat:=by omega
    have at_:∀ j:Nat,j < (1 + r1).toNat->atI (ms.map V.int) (j:Int)=some (.int (ms.getD j 0)):=fun j hj=>by
     have hj':j < ms.length:=by rw[pm0.len];exact hj
     refine zoj ?_
     rw[List.getElem?_map,List.getElem?_eq_getElem hj']
     simp [List.getD,hj']
    have ak:atI (ms.map V.int) (0 + (k:Int))=some (.int (ms.getD k 0)):=by rw[Int.zero_add];exact at_ k hkn
    have ai:atI (ms.map V.int) (1 + (i:Int))=some (.int (ms.getD (i + 1) 0)):=by rw[show (1:Int) + (i:Int)=((i + 1:Nat):Int) by omega];exact at_ (i + 1) (by omega)
    refine⟨_,rfl,_,rfl,ln,_,_,_,rfl,rfl,SqL.of l1,ak,_,rfl,_,rfl,ln,_,_,_,rfl,rfl,SqL.of l1,ai,(by show 2≤sizeLine;decide),fun s1 hs1=>?_⟩
    refine⟨s1,[ms.getD k 0,ms.getD (i + 1) 0],rfl,SqL.of zag,(by show 2 < 64;decide),fun zs pz wz s2 hs2=>?_⟩
    obtain⟨x,y,rfl,hxy,hor⟩:=zla pz wz
    refine⟨s2,_,rfl,SqL.of zag,rfl,?_⟩
    refine⟨_,_,rfl,_,_,rfl,rfl,?_⟩
    have m1:∀ b o,K2 b=some o->b≠s1:=fun b o e=>zaj e hs1
    have m2:∀ b o,K2 b=some o->b≠s2:=fun b o e=>zaj (zal hs1 b o e) hs2
    have up:∀ b o,K2 b=some o->upd (upd K2 s1 (.lst [.int (ms.getD k 0),.int (ms.getD (i + 1) 0)])) s2 (.lst [.int x,.int y]) b=some o:=fun b o e=>by rw[zap (m2 b o e),zap (m1 b o e)];exact e
    refine⟨_,rfl,.inl ⟨rfl,_,SqL.of (up _ _ l2)⟩,_,rfl,_,rfl,(by show 3≤sizeLine;decide),fun tp htp=>?_⟩
    have up5:∀ b o,K2 b=some o->upd (upd (upd K2 s1 (.lst [.int (ms.getD k 0),.int (ms.getD (i + 1) 0)])) s2 (.lst [.int x,.int y])) tp (.tup [.int x,.int y,.int 1]) b=some o:=fun b o e=>by
     have e5:=up b o e
     rw[zap (zaj e5 htp)];exact e5
    refine⟨lt,_,_,rfl,rfl,up5 _ _ l2,?_,?_⟩
    ·exact Nat.lt_of_le_of_lt (by omega:ys.length≤1000) (by decide)
    have k5:∀ b o,b≠lt->K2 b=some o->upd (upd (upd (upd K2 s1 (.lst [.int (ms.getD k 0),.int (ms.getD (i + 1) 0)])) s2 (.lst [.int x,.int y])) tp (.tup [.int x,.int y,.int 1])) lt (.lst (ys++[.ref tp])) b=some o:=fun b o hb2 e=>by rw[zap hb2];exact up5 b o e
    have ntp:tp≠lt:=fun z=>by
     subst z
     have:=htp.symm.trans (up _ _ l2)
     cases this
    refine again (k5 _ _ nln l1) zag (TieL.snoc (TieL.keep l3 fun a xs e=>k5 _ _ ?_ e) ?_) ?_ (fun b o hb e=>k5 _ _ (fun z=>by rw[z,flt] at e;cases e) (l5 _ _ hb e))
     (g6.add (x:=x) (y:=y) (l:=1) pm0 hk (by omega) (by omega) (by decide) (by decide) hor hxy) (fun t ht=>?_)
    ·intro z
     rw[z,l2] at e;cases e
    ·rw[zap ntp,zag];rfl
    ·obtain⟨a',b',e',z⟩:=d2
     exact⟨a',b',k5 _ _ nlt.symm e',z⟩
    ·rcases List.mem_append.mp ht with z | z
     ·exact g7 t z
     ·rw[List.mem_singleton.mp z]
 case fin =>
  rintro σ H' ⟨t7,t8,t9,t10,ys,ties,rfl,g1,g2,g3,g4,g5,g6,g7⟩
  have ylen:ys.length=ties.length:=Paired.length g3
  have few:=g6.few
  refine⟨_,rfl,_,rfl,lt,ys,ties.map tieI,rfl,SqL.of g2,by omega,zep (fun y t ⟨a,e1,e2⟩=>⟨a,e1,SqT.of e2⟩) g3,fun k hk=>?_,fun qs pq wq l hl=>?_⟩
  ·obtain⟨t,_,rfl⟩:=List.mem_map.mp hk
   exact fun z=>by cases z
  obtain⟨ts,pt,tl,wt⟩:=zqu g3 pq wq
  refine⟨l,_,rfl,.inl ⟨SqL.of zag,fun l' hl'=>?_⟩⟩
  refine⟨(by show 2≤sizeLine;decide),fun v hv=>?_⟩
  have S1:Same H' (upd H' l (.lst (qs.map (·.1)))):=zal hl
  have S2:=S1.trans (zal (o:=.tup (qs.map (·.1))) hl')
  have S3:=S2.trans (zal (o:=.tup [.int (1 + r1),.ref l']) hv)
  have all1:∀ t ∈ ts,t.2.2=1:=fun t ht=>g7 t (pt.mem_iff.mp ht)
  refine q (.ref v) _ (1 + r1) ts (fun b o hb e=>S3 _ _ (g5 _ _ hb e)) ?_ ⟨by omega,by omega,zq2 wt ((pt.pairwise_iff (fun {a b} h z=>h ⟨z.1.symm,z.2.symm⟩)).mpr g6.nd),by have:=pt.length_eq;omega,fun t ht=>?_⟩ (by omega) ?_
  ·obtain⟨a',b',e',z⟩:=g4
   exact⟨a',b',S3 _ _ e',z⟩
  ·have:=g6.ok t (pt.mem_iff.mp ht)
   have e:(((1 + r1).toNat:Nat):Int)=(1 + r1):=by omega
   rw[e] at this
   exact this
  ·rw[znc all1]
   refine⟨v,_,rfl,zag,_,_,rfl,rfl,_,_,rfl,⟨l',qs.map (·.1),rfl,?_,?_⟩,rfl⟩
   ·exact (zal hv) _ _ zag
   ·exact TieL.is (tl.keep fun a xs e=>S3 _ _ e)
def spLaw (K:PySem.W.Frag):Sp:=fun vs H Q _=>∃ (a:Addr) (ns:List Int),vs=[.ref a]∧SqL K H a (ns.map V.int)∧ns.length≤63∧∀ H',Q (.bl true) H'
theorem zmf (s:St6):tupD (sixD s)=true:=by
 show (tupD (keepD s.1) && (tupD (.tuple (s.2.map rowSD)) && true))=true
 rw[zj7,show tupD (.tuple (s.2.map rowSD))=true from zj5 s.2];rfl
theorem zsf {f:Addr} {fd:FuncData} (T:Bi mg) (F:Fun K "law" "law" s_law f fd) (O__law_pot:Ok P w K mg base 9 "_law_pot" ["script","k"] (spPot K)) (O__law_long:Ok P w K mg base 9 "_law_long" ["pot","most"] (spLong K)) (O__law_share:Ok P w K mg base 9 "_law_share" ["pot"] spShareL) (O_six_told:Ok P w K mg base 9 "six_told" ["web","d"] (spSix K)) (O_six_right:Ok P w K mg base 9 "six_right" ["web","d","told"] (spSixJ K)) (O__law_spoilt:Ok P w K mg base 9 "_law_spoilt" ["pot","web","told"] (spSpo62 K)):FnOk P w K mg base CX0 10 f fd ["script"] (spLaw K):=by
 refine F.ok (k:=9) sc_law (fun vs H Q E h=>?_) (fun cdv A outer s H vs Q E hr h=>?_)
 ·obtain⟨a,ns,rfl,_⟩:=h
  rfl
 obtain⟨a,ns,rfl,hS,h63,q⟩:=h
 have nd:=sc_law.nd
 have units:(A.deeper (envOfC "law" (defScope s_law) s.heap.objs.size f cdv)).units + 6 < cLine:=by have:=hr.units;omega
 refine⟨_,(zac (zan (i:=1) nd rfl (Or.inl rfl) (zat znb (zas zdz rfl T.z_list (by decide +kernel) (zaa (pv 0) zab)) (zat zgh (za5 (zaa zad zab)) (zas zik rfl T.z_int (by decide +kernel) (zaa (za3 zra (pv 0) (za5 zab) (nomark _)) zab))))) (zac (zbn PassesOwn.never rfl (zbt rfl T.z_range (zaa (zam (zii rfl) rfl T.z_min (by decide +kernel) (zaa zad (zaa (zam zau rfl T.z_len (by decide +kernel) (zaa (pv 1) zab)) zab))) zab)) (zah (i:=2) nd rfl (Or.inl rfl)) (zac (zan (i:=3) nd rfl (Or.inl rfl) (zae O__law_pot hr rfl (zaa (pv 1) (zaa (pv 2) zab)))) (zac (zan (i:=4) nd rfl (Or.inl rfl) (zae O__law_long hr rfl (zaa (pv 3) (zaa (zav zay (za5 (zaa zad (zaa zad zab))) (zas zik rfl T.z_int (by decide +kernel) (zaa (za3 zbo (pv 2) zad (nomark _)) zab)) (fun _ _=>rfl)) zab)))) (zac (zan (i:=5) nd rfl (Or.inl rfl) (zae O__law_share hr rfl (zaa (pv 3) zab))) (zac (zan (i:=6) nd rfl (Or.inl rfl) (zae O_six_told hr rfl (zaa (pv 4) (zaa (pv 5) zab)))) (zac (zbj (zao zm7 (zae O_six_right hr rfl (zaa (pv 4) (zaa (pv 5) (zaa (pv 6) zab)))) zje (nomark _)) (zaf (zaq zje)) zaw) (zaf (zbn PassesOwn.never rfl (zbt rfl T.z_range (zaa zad zab)) (zah (i:=7) nd rfl (Or.inl rfl)) (zac (zan (i:=8) nd rfl (Or.inl rfl) (zae O__law_spoilt hr rfl (zaa (pv 3) (zaa (pv 4) (zaa (pv 6) zab))))) (zac (zan (i:=9) nd rfl (Or.inl rfl) (zam (zf5 hr) rfl T.z_repr (by decide +kernel) (zaa (pv 8) zab))) (zac (zan (i:=10) nd rfl (Or.inl rfl) (zae O_six_right hr rfl (zaa (pv 4) (zaa (pv 5) (zaa (pv 8) zab))))) (zaf (zbj (PW.pt (zge (zmv (zdu (zam (zde (n:="bool")) rfl T.z_isinstance (by decide +kernel) (zaa (pv 10) (zaa (zen (v:=.ty "bool") rfl T.z_bool (by decide +kernel) rfl) zab))))) (zge (zao zo9 (pv 10) (za3 zna (pv 8) (pv 6) (nomark _)) (nomark _)) (zdt (zao zo9 (zam (zf5 hr) rfl T.z_repr (by decide +kernel) (zaa (pv 8) zab)) (pv 9) (nomark _)))))) (zaf (zaq zje)) zaw))))))))))))) (zaf (zaq zje)))),?_⟩
 refine⟨_,rfl,a,_,rfl,.inl hS,fun l1 f1=>?_⟩
 have S1:=zal (H:=H) (o:=.lst (ns.map V.int)) f1
 refine⟨(by show 1≤1000;decide),fun l2 J2 S2 f2 e2=>⟨_,rfl,(by show 0≤1000;decide),fun l3 J3 S3 f3 e3=>?_⟩⟩
 have S13:=S1.trans (S2.trans S3)
 refine⟨a,l3,ns,rfl,rfl,S13.seq hS,e3,Nat.lt_of_le_of_lt (Nat.add_le_add (Nat.le_refl _) (show 1≤6 by decide)) units,_,rfl,l2,_,_,rfl,rfl,S3 _ _ e2,(by split <;> decide),(by split <;> decide),fun l4 J4 S4 f4 e4=>?_⟩
 have e1:J4 l1=some (.lst (ns.map V.int)):=S4 _ _ (S3 _ _ (S2 _ _ zag))
 obtain⟨cs,ecs,lcs⟩:∃ cs:List Int,ns.map V.int++List.replicate (if decide (ns=[])=true then (1:Int) else 0).toNat (V.int 369640000455110824971)=cs.map V.int∧cs.length≤63:=by
  by_cases z:ns=[]
  ·subst z
   exact⟨[369640000455110824971],rfl,by decide⟩
  ·rw[decide_eq_false z]
   exact⟨ns,by show ns.map V.int++[]=_;rw[List.append_nil],h63⟩
 refine⟨l1,l4,_,_,rfl,rfl,e1,e4,by have h:=congrArg List.length ecs;rw[List.length_append] at h;have h2:(cs.map V.int).length=cs.length:=List.length_map _;omega,fun l5 J5 S5 f5 e5=>?_⟩
 rw[ecs] at e5
 have hl:(cs.map V.int).length=cs.length:=List.length_map _
 refine⟨_,rfl,l5,_,rfl,.inl (SqL.of e5),_,_,rfl,_,rfl,?_,?_,?_⟩
 ·split <;> omega
 ·rw[hl];split <;> omega
 generalize hj:(if (((cs.map V.int).length:Nat):Int) < 3 then (((cs.map V.int).length:Nat):Int) else 3)=j
 have j12:j≤3:=by rw[← hj];split <;> omega
 refine zbu (n:=j.toNat) (fun i σ H'=>∃ x2 x3 x4 x5 x6 x7 x8 x9 x10:Option V,σ=[some (.ref a),some (.ref l5),x2,x3,x4,x5,x6,x7,x8,x9,x10]∧Same J5 H') ⟨none,none,none,none,none,none,none,none,none,rfl,Same.refl J5⟩ ?turn (fun σ H' _=>q H')
 rintro i σ H0 hi ⟨x2,x3,x4,x5,x6,x7,x8,x9,x10,rfl,s0⟩
 refine⟨_,rfl,_,rfl,l5,_,cs,rfl,SqL.of (s0 _ _ e5),by omega,by omega,fun l H1 s1 fl p1=>?_⟩
 have s01:Same J5 H1:=s0.trans s1
 have fl0:J5 l=none:=s0.free fl
 have npot:∀ {J:Hp} {b:Addr},Pot J l->J b=none->b≠l:=fun pp hb z=>by
  obtain⟨xs,e⟩:=pp.lst
  rw[z,e] at hb;cases hb
 refine⟨_,rfl,(by show 2≤1000;decide),fun lm H1a S1a f1a e1a=>⟨_,rfl,rfl,_,rfl,?_⟩⟩
 have p1a:=p1.same S1a
 obtain⟨m,hm,m1,m12⟩:∃ m:Int,atI [V.int 9,.int 12] (if decide (V.int (0 + (i:Int))=V.int 0)=true then (1:Int) else 0)=some (.int m)∧1≤m∧m≤12:=by
  split
  ·exact⟨12,rfl,by decide,by decide⟩
  ·exact⟨9,rfl,by decide,by decide⟩
 refine⟨lm,_,_,_,rfl,rfl,SqL.of e1a,hm,?_⟩
 refine⟨l,m,rfl,p1a,m1,by omega,fun wv H2 n ts b2 p2 ok n9' isw=>?_⟩
 have n12:n≤12:=by omega
 have n9:n≤24:=by omega
 have tup:tupD (webD n (ones ts))=true:=zme n (ones ts)
 refine⟨_,rfl,l,rfl,p2,fun d H3 d1 b3 p3=>?_⟩
 have isw3:Is K H3 (webD n (ones ts)) wv:=Is.tk (zax b3 p2) _ tup isw
 refine⟨_,rfl,_,rfl,n,ts,wv,d,rfl,isw3,ok,n9,d1,fun tv H4 S4' few ist=>?_⟩
 have isw4:=Is.same S4' _ isw3
 have p4:=p3.same S4'
 have sm:SixSm (sixV n ts d):=zp8 ok n12
 have awt:=(zr2 sm).1
 obtain⟨lay,dep,eqv⟩:=zi2 5 _ (zqp few)
 have B4:But l H1 H4:=(Same.but S1a).trans (b2.trans (b3.trans (Same.but S4')))
 refine⟨_,rfl,_,rfl,_,rfl,n,ts,wv,tv,d,_,rfl,isw4,ok,n9,d1,ist,awt,fun H5 S5'=>?_⟩
 rw[eqv]
 refine⟨_,_,rfl,rfl,_,rfl,iteF ?_⟩
 have isw5:=Is.same S5' _ isw4
 have ist5:=Is.same S5' _ ist
 have p5:=p4.same S5'
 refine⟨6,rfl,by decide,by decide,?_⟩
 refine zbu (n:=(6:Int).toNat) (lo:=0) (fun i2 σ J=>∃ x7 x8 x9 x10:Option V,σ=[some (.ref a),some (.ref l5),some (.int (0 + (i:Int))),some (.ref l),some wv,some (.int d),some tv,x7,x8,x9,x10]∧But l H5 J∧Pot J l) ⟨_,_,_,_,rfl,But.refl,p5⟩ (fun i2 σ J hi2 h=>?_) (fun σ J h=>?_)
 ·obtain⟨x7,x8,x9,x10,rfl,bb,pb⟩:=h
  have tkb:=zax bb p5
  have istb:Is K J (sixD (sixV n ts d)) tv:=Is.tk tkb _ (zmf _) ist5
  have iswb:Is K J (webD n (ones ts)) wv:=Is.tk tkb _ tup isw5
  refine⟨_,rfl,_,rfl,_,rfl,l,wv,tv,n,ts,_,rfl,pb,iswb,ok,n12,istb,sm,fun px K1 c1 pk1 hdp=>?_⟩
  obtain⟨dp,isp,clp⟩:=hdp
  have tk1:=zax c1 pb
  have iswk:=Is.tk tk1 _ tup iswb
  have istk:=Is.tk tk1 _ (zmf _) istb
  obtain⟨lay2,dep2,_⟩:=zi2 5 _ clp.1
  have d60:dp.depth≤60:=by omega
  refine⟨_,rfl,px,dp,rfl,isp,clp.2.1.1,clp.2.1.2.1,d60,clp.fits (by decide),?_⟩
  refine⟨_,rfl,_,rfl,_,rfl,n,ts,wv,.ref px,d,dp,rfl,iswk,ok,n9,d1,isp,clp.1,fun K2 T2=>?_⟩
  have isp2:=Is.same T2 _ isp
  have istk2:=Is.same T2 _ istk
  refine⟨_,rfl,_,_,_,rfl,TyOf.bl _,rfl,_,rfl,iteF ?_⟩
  refine⟨_,rfl,_,rfl,_,rfl,dp,sixD (sixV n ts d),isp2,istk2,lay2,lay,Nat.lt_of_le_of_lt (Nat.add_le_add (Nat.le_refl _) (Nat.le_trans (Nat.min_le_left _ _) dep2)) units,rfl,_,rfl,?_⟩
  rw[decide_eq_true rfl]
  refine iteF ⟨_,rfl,px,dp,rfl,isp2,clp.2.1.1,clp.2.1.2.1,d60,clp.fits (by decide),_,rfl,rfl,_,rfl,?_⟩
  rw[decide_eq_true rfl]
  exact iteF (⟨_,_,_,_,rfl,bb.trans (c1.trans (Same.but T2)),pk1.same T2⟩)
 ·obtain⟨x7,x8,x9,x10,rfl,bb,pb⟩:=h
  refine⟨_,_,_,_,_,_,_,_,_,rfl,fun b o e=>?_⟩
  have nb:=zaj e fl0
  exact bb _ _ nb (S5' _ _ (B4 _ _ nb (s01 _ _ e)))
end
end Me
namespace Me
open PySem PySem.Spec PyProof.Rows L2 L3
theorem zss {K:PySem.W.Frag} {h:Heap} {mg:Str->Option Value} {x:Str} {st:Stmt} {ps:List Str} {f:Addr} {od an:Option Addr} {sl:Array (Option Value)} {oc kV dc pm cd ct:Value} (X:K.In h) (G:h.Ns mainGlobals mg)
  (b:∀ (kV doc pm:Value) (an:Option Addr) (cdv ct:Value) (us:List Value),us.length=ps.length->bindArgs (PySem.W.fnOf x x (defArgs st) (defBody st) (defScope st) .none kV doc pm an cdv ct) ⟨us,[]⟩=pure (ps.zip us))
  (a:PySem.W.nsIn K mainGlobals x=some (some (.ref f))) (l:K.lookup f=some ⟨oc,od,.func (PySem.W.fnOf x x (defArgs st) (defBody st) (defScope st) .none kV dc pm an cd ct),sl⟩) (c:PySem.W.codeIn K cd x=true) (k:PySem.W.keepIn K (.ref f)=true):DefOk K mg x st ps:=by
 have F:=zqj (st:=st) l c k
 exact⟨f,_,F,F.binds b,PySem.W.mg_of X G a⟩
theorem dq {p:Program} {K:PySem.W.Frag} {h:Heap} {mg:Str->Option Value} {x:Str} {st:Stmt} {ps:List Str} (f c j u:Nat) (X:K.In h) (G:h.Ns mainGlobals mg)
  (b:∀ (kV doc pm:Value) (an:Option Addr) (cdv ct:Value) (us:List Value),us.length=ps.length->bindArgs (PySem.W.fnOf x x (defArgs st) (defBody st) (defScope st) .none kV doc pm an cdv ct) ⟨us,[]⟩=pure (ps.zip us))
  (a:PySem.W.nsIn K mainGlobals x=some (some (.ref f))) (l:K.lookup f=some ⟨.type "function",none,.func (PySem.W.fnOf x x (defArgs st) (defBody st) (defScope st) .none .none .none (Hx.mdV p ⟨0,0,0,j,u,0⟩) none (.ref c) .none),#[]⟩) (cc:PySem.W.codeIn K (.ref c) x=true) (k:PySem.W.keepIn K (.ref f)=true):DefOk K mg x st ps:=zss X G b a l cc k
theorem zj0 (kV doc pm:Value) (an:Option Addr) (cdv ct:Value) (us:List Value) (hl:us.length=(["thing"]:List Str).length):bindArgs (PySem.W.fnOf "is_whole" "is_whole" (defArgs s_is_whole) (defBody s_is_whole) (defScope s_is_whole) .none kV doc pm an cdv ct) ⟨us,[]⟩=pure (List.zip (["thing"]:List Str) us):=match us,hl with | [_],_=>rfl
theorem zd8 (kV doc pm:Value) (an:Option Addr) (cdv ct:Value) (us:List Value) (hl:us.length=(["thing"]:List Str).length):bindArgs (PySem.W.fnOf "is_all_wholes" "is_all_wholes" (defArgs s_is_all_wholes) (defBody s_is_all_wholes) (defScope s_is_all_wholes) .none kV doc pm an cdv ct) ⟨us,[]⟩=pure (List.zip (["thing"]:List Str) us):=match us,hl with | [_],_=>rfl
theorem zj1 (kV doc pm:Value) (an:Option Addr) (cdv ct:Value) (us:List Value) (hl:us.length=(["web"]:List Str).length):bindArgs (PySem.W.fnOf "is_plain" "is_plain" (defArgs s_is_plain) (defBody s_is_plain) (defScope s_is_plain) .none kV doc pm an cdv ct) ⟨us,[]⟩=pure (List.zip (["web"]:List Str) us):=match us,hl with | [_],_=>rfl
theorem zpy (kV doc pm:Value) (an:Option Addr) (cdv ct:Value) (us:List Value) (hl:us.length=(["web"]:List Str).length):bindArgs (PySem.W.fnOf "whole" "whole" (defArgs s_whole) (defBody s_whole) (defScope s_whole) .none kV doc pm an cdv ct) ⟨us,[]⟩=pure (List.zip (["web"]:List Str) us):=match us,hl with | [_],_=>rfl
theorem zfp (kV doc pm:Value) (an:Option Addr) (cdv ct:Value) (us:List Value) (hl:us.length=(["web","a","b"]:List Str).length):bindArgs (PySem.W.fnOf "tie_between" "tie_between" (defArgs s_tie_between) (defBody s_tie_between) (defScope s_tie_between) .none kV doc pm an cdv ct) ⟨us,[]⟩=pure (List.zip (["web","a","b"]:List Str) us):=match us,hl with | [_,_,_],_=>rfl
theorem zg5 (kV doc pm:Value) (an:Option Addr) (cdv ct:Value) (us:List Value) (hl:us.length=(["web","places"]:List Str).length):bindArgs (PySem.W.fnOf "ties_along" "ties_along" (defArgs s_ties_along) (defBody s_ties_along) (defScope s_ties_along) .none kV doc pm an cdv ct) ⟨us,[]⟩=pure (List.zip (["web","places"]:List Str) us):=match us,hl with | [_,_],_=>rfl
theorem zfo (kV doc pm:Value) (an:Option Addr) (cdv ct:Value) (us:List Value) (hl:us.length=(["web"]:List Str).length):bindArgs (PySem.W.fnOf "tie_weights" "tie_weights" (defArgs s_tie_weights) (defBody s_tie_weights) (defScope s_tie_weights) .none kV doc pm an cdv ct) ⟨us,[]⟩=pure (List.zip (["web"]:List Str) us):=match us,hl with | [_],_=>rfl
theorem zix (kV doc pm:Value) (an:Option Addr) (cdv ct:Value) (us:List Value) (hl:us.length=(["cost","length","weight"]:List Str).length):bindArgs (PySem.W.fnOf "cost_with" "cost_with" (defArgs s_cost_with) (defBody s_cost_with) (defScope s_cost_with) .none kV doc pm an cdv ct) ⟨us,[]⟩=pure (List.zip (["cost","length","weight"]:List Str) us):=match us,hl with | [_,_,_],_=>rfl
theorem ze8 (kV doc pm:Value) (an:Option Addr) (cdv ct:Value) (us:List Value) (hl:us.length=(["web","keep","root"]:List Str).length):bindArgs (PySem.W.fnOf "reached_from" "reached_from" (defArgs s_reached_from) (defBody s_reached_from) (defScope s_reached_from) .none kV doc pm an cdv ct) ⟨us,[]⟩=pure (List.zip (["web","keep","root"]:List Str) us):=match us,hl with | [_,_,_],_=>rfl
theorem ziw (kV doc pm:Value) (an:Option Addr) (cdv ct:Value) (us:List Value) (hl:us.length=(["web","keep","root"]:List Str).length):bindArgs (PySem.W.fnOf "fars_from" "fars_from" (defArgs s_fars_from) (defBody s_fars_from) (defScope s_fars_from) .none kV doc pm an cdv ct) ⟨us,[]⟩=pure (List.zip (["web","keep","root"]:List Str) us):=match us,hl with | [_,_,_],_=>rfl
theorem zir (kV doc pm:Value) (an:Option Addr) (cdv ct:Value) (us:List Value) (hl:us.length=(["web","keep","root"]:List Str).length):bindArgs (PySem.W.fnOf "tree_from" "tree_from" (defArgs s_tree_from) (defBody s_tree_from) (defScope s_tree_from) .none kV doc pm an cdv ct) ⟨us,[]⟩=pure (List.zip (["web","keep","root"]:List Str) us):=match us,hl with | [_,_,_],_=>rfl
theorem zl2 (kV doc pm:Value) (an:Option Addr) (cdv ct:Value) (us:List Value) (hl:us.length=(["web","keep","a","b"]:List Str).length):bindArgs (PySem.W.fnOf "the_way" "the_way" (defArgs s_the_way) (defBody s_the_way) (defScope s_the_way) .none kV doc pm an cdv ct) ⟨us,[]⟩=pure (List.zip (["web","keep","a","b"]:List Str) us):=match us,hl with | [_,_,_,_],_=>rfl
theorem zg8 (kV doc pm:Value) (an:Option Addr) (cdv ct:Value) (us:List Value) (hl:us.length=(["web"]:List Str).length):bindArgs (PySem.W.fnOf "need_plain" "need_plain" (defArgs s_need_plain) (defBody s_need_plain) (defScope s_need_plain) .none kV doc pm an cdv ct) ⟨us,[]⟩=pure (List.zip (["web"]:List Str) us):=match us,hl with | [_],_=>rfl
theorem zg6 (kV doc pm:Value) (an:Option Addr) (cdv ct:Value) (us:List Value) (hl:us.length=(["web","keep","place"]:List Str).length):bindArgs (PySem.W.fnOf "neighbours" "neighbours" (defArgs s_neighbours) (defBody s_neighbours) (defScope s_neighbours) .none kV doc pm an cdv ct) ⟨us,[]⟩=pure (List.zip (["web","keep","place"]:List Str) us):=match us,hl with | [_,_,_],_=>rfl
theorem zg7 (kV doc pm:Value) (an:Option Addr) (cdv ct:Value) (us:List Value) (hl:us.length=(["d"]:List Str).length):bindArgs (PySem.W.fnOf "need_share" "need_share" (defArgs s_need_share) (defBody s_need_share) (defScope s_need_share) .none kV doc pm an cdv ct) ⟨us,[]⟩=pure (List.zip (["d"]:List Str) us):=match us,hl with | [_],_=>rfl
theorem zdf (kV doc pm:Value) (an:Option Addr) (cdv ct:Value) (us:List Value) (hl:us.length=(["web","place","guarded"]:List Str).length):bindArgs (PySem.W.fnOf "bare_neighbours" "bare_neighbours" (defArgs s_bare_neighbours) (defBody s_bare_neighbours) (defScope s_bare_neighbours) .none kV doc pm an cdv ct) ⟨us,[]⟩=pure (List.zip (["web","place","guarded"]:List Str) us):=match us,hl with | [_,_,_],_=>rfl
theorem ziu (kV doc pm:Value) (an:Option Addr) (cdv ct:Value) (us:List Value) (hl:us.length=(["web","d"]:List Str).length):bindArgs (PySem.W.fnOf "guards_by" "guards_by" (defArgs s_guards_by) (defBody s_guards_by) (defScope s_guards_by) .none kV doc pm an cdv ct) ⟨us,[]⟩=pure (List.zip (["web","d"]:List Str) us):=match us,hl with | [_,_],_=>rfl
theorem zfq (kV doc pm:Value) (an:Option Addr) (cdv ct:Value) (us:List Value) (hl:us.length=(["told"]:List Str).length):bindArgs (PySem.W.fnOf "all_guarded" "all_guarded" (defArgs s_all_guarded) (defBody s_all_guarded) (defScope s_all_guarded) .none kV doc pm an cdv ct) ⟨us,[]⟩=pure (List.zip (["told"]:List Str) us):=match us,hl with | [_],_=>rfl
theorem ziy (kV doc pm:Value) (an:Option Addr) (cdv ct:Value) (us:List Value) (hl:us.length=(["web","told"]:List Str).length):bindArgs (PySem.W.fnOf "bare_ties" "bare_ties" (defArgs s_bare_ties) (defBody s_bare_ties) (defScope s_bare_ties) .none kV doc pm an cdv ct) ⟨us,[]⟩=pure (List.zip (["web","told"]:List Str) us):=match us,hl with | [_,_],_=>rfl
theorem zd7 (kV doc pm:Value) (an:Option Addr) (cdv ct:Value) (us:List Value) (hl:us.length=(["web","guards"]:List Str).length):bindArgs (PySem.W.fnOf "kept_at_first" "kept_at_first" (defArgs s_kept_at_first) (defBody s_kept_at_first) (defScope s_kept_at_first) .none kV doc pm an cdv ct) ⟨us,[]⟩=pure (List.zip (["web","guards"]:List Str) us):=match us,hl with | [_,_],_=>rfl
theorem zit (kV doc pm:Value) (an:Option Addr) (cdv ct:Value) (us:List Value) (hl:us.length=(["near","kept"]:List Str).length):bindArgs (PySem.W.fnOf "is_wanted" "is_wanted" (defArgs s_is_wanted) (defBody s_is_wanted) (defScope s_is_wanted) .none kV doc pm an cdv ct) ⟨us,[]⟩=pure (List.zip (["near","kept"]:List Str) us):=match us,hl with | [_,_],_=>rfl
theorem ze9 (kV doc pm:Value) (an:Option Addr) (cdv ct:Value) (us:List Value) (hl:us.length=(["web","keep","u"]:List Str).length):bindArgs (PySem.W.fnOf "first_wanted" "first_wanted" (defArgs s_first_wanted) (defBody s_first_wanted) (defScope s_first_wanted) .none kV doc pm an cdv ct) ⟨us,[]⟩=pure (List.zip (["web","keep","u"]:List Str) us):=match us,hl with | [_,_,_],_=>rfl
theorem zg9 (kV doc pm:Value) (an:Option Addr) (cdv ct:Value) (us:List Value) (hl:us.length=(["web","way"]:List Str).length):bindArgs (PySem.W.fnOf "fars_along" "fars_along" (defArgs s_fars_along) (defBody s_fars_along) (defScope s_fars_along) .none kV doc pm an cdv ct) ⟨us,[]⟩=pure (List.zip (["web","way"]:List Str) us):=match us,hl with | [_,_],_=>rfl
theorem zl3 (kV doc pm:Value) (an:Option Addr) (cdv ct:Value) (us:List Value) (hl:us.length=(["fars","heap","other"]:List Str).length):bindArgs (PySem.W.fnOf "nearest" "nearest" (defArgs s_nearest) (defBody s_nearest) (defScope s_nearest) .none kV doc pm an cdv ct) ⟨us,[]⟩=pure (List.zip (["fars","heap","other"]:List Str) us):=match us,hl with | [_,_,_],_=>rfl
theorem ziv (kV doc pm:Value) (an:Option Addr) (cdv ct:Value) (us:List Value) (hl:us.length=(["web","keep","guards","way"]:List Str).length):bindArgs (PySem.W.fnOf "gained_by" "gained_by" (defArgs s_gained_by) (defBody s_gained_by) (defScope s_gained_by) .none kV doc pm an cdv ct) ⟨us,[]⟩=pure (List.zip (["web","keep","guards","way"]:List Str) us):=match us,hl with | [_,_,_,_],_=>rfl
theorem zjz (kV doc pm:Value) (an:Option Addr) (cdv ct:Value) (us:List Value) (hl:us.length=(["web","d"]:List Str).length):bindArgs (PySem.W.fnOf "six_told" "six_told" (defArgs s_six_told) (defBody s_six_told) (defScope s_six_told) .none kV doc pm an cdv ct) ⟨us,[]⟩=pure (List.zip (["web","d"]:List Str) us):=match us,hl with | [_,_],_=>rfl
theorem zis (kV doc pm:Value) (an:Option Addr) (cdv ct:Value) (us:List Value) (hl:us.length=(["web","d","told"]:List Str).length):bindArgs (PySem.W.fnOf "six_right" "six_right" (defArgs s_six_right) (defBody s_six_right) (defScope s_six_right) .none kV doc pm an cdv ct) ⟨us,[]⟩=pure (List.zip (["web","d","told"]:List Str) us):=match us,hl with | [_,_,_],_=>rfl
theorem zj2 (kV doc pm:Value) (an:Option Addr) (cdv ct:Value) (us:List Value) (hl:us.length=(["script","k"]:List Str).length):bindArgs (PySem.W.fnOf "_law_pot" "_law_pot" (defArgs s__law_pot) (defBody s__law_pot) (defScope s__law_pot) .none kV doc pm an cdv ct) ⟨us,[]⟩=pure (List.zip (["script","k"]:List Str) us):=match us,hl with | [_,_],_=>rfl
theorem ziz (kV doc pm:Value) (an:Option Addr) (cdv ct:Value) (us:List Value) (hl:us.length=(["pot","many"]:List Str).length):bindArgs (PySem.W.fnOf "_law_take" "_law_take" (defArgs s__law_take) (defBody s__law_take) (defScope s__law_take) .none kV doc pm an cdv ct) ⟨us,[]⟩=pure (List.zip (["pot","many"]:List Str) us):=match us,hl with | [_,_],_=>rfl
theorem zhb (kV doc pm:Value) (an:Option Addr) (cdv ct:Value) (us:List Value) (hl:us.length=(["pot","many"]:List Str).length):bindArgs (PySem.W.fnOf "_law_order" "_law_order" (defArgs s__law_order) (defBody s__law_order) (defScope s__law_order) .none kV doc pm an cdv ct) ⟨us,[]⟩=pure (List.zip (["pot","many"]:List Str) us):=match us,hl with | [_,_],_=>rfl
theorem zfs (kV doc pm:Value) (an:Option Addr) (cdv ct:Value) (us:List Value) (hl:us.length=(["pot","style","n","a","b"]:List Str).length):bindArgs (PySem.W.fnOf "_law_beside" "_law_beside" (defArgs s__law_beside) (defBody s__law_beside) (defScope s__law_beside) .none kV doc pm an cdv ct) ⟨us,[]⟩=pure (List.zip (["pot","style","n","a","b"]:List Str) us):=match us,hl with | [_,_,_,_,_],_=>rfl
theorem zi0 (kV doc pm:Value) (an:Option Addr) (cdv ct:Value) (us:List Value) (hl:us.length=(["pot","most"]:List Str).length):bindArgs (PySem.W.fnOf "_law_long" "_law_long" (defArgs s__law_long) (defBody s__law_long) (defScope s__law_long) .none kV doc pm an cdv ct) ⟨us,[]⟩=pure (List.zip (["pot","most"]:List Str) us):=match us,hl with | [_,_],_=>rfl
theorem zha (kV doc pm:Value) (an:Option Addr) (cdv ct:Value) (us:List Value) (hl:us.length=(["pot"]:List Str).length):bindArgs (PySem.W.fnOf "_law_share" "_law_share" (defArgs s__law_share) (defBody s__law_share) (defScope s__law_share) .none kV doc pm an cdv ct) ⟨us,[]⟩=pure (List.zip (["pot"]:List Str) us):=match us,hl with | [_],_=>rfl
theorem zi1 (kV doc pm:Value) (an:Option Addr) (cdv ct:Value) (us:List Value) (hl:us.length=(["pot","row"]:List Str).length):bindArgs (PySem.W.fnOf "_law_bent" "_law_bent" (defArgs s__law_bent) (defBody s__law_bent) (defScope s__law_bent) .none kV doc pm an cdv ct) ⟨us,[]⟩=pure (List.zip (["pot","row"]:List Str) us):=match us,hl with | [_,_],_=>rfl
theorem zcz (kV doc pm:Value) (an:Option Addr) (cdv ct:Value) (us:List Value) (hl:us.length=(["pot","gained"]:List Str).length):bindArgs (PySem.W.fnOf "_law_other_pairs" "_law_other_pairs" (defArgs s__law_other_pairs) (defBody s__law_other_pairs) (defScope s__law_other_pairs) .none kV doc pm an cdv ct) ⟨us,[]⟩=pure (List.zip (["pot","gained"]:List Str) us):=match us,hl with | [_,_],_=>rfl
theorem zdq (kV doc pm:Value) (an:Option Addr) (cdv ct:Value) (us:List Value) (hl:us.length=(["pot","row"]:List Str).length):bindArgs (PySem.W.fnOf "_law_other_row" "_law_other_row" (defArgs s__law_other_row) (defBody s__law_other_row) (defScope s__law_other_row) .none kV doc pm an cdv ct) ⟨us,[]⟩=pure (List.zip (["pot","row"]:List Str) us):=match us,hl with | [_,_],_=>rfl
theorem zfr (kV doc pm:Value) (an:Option Addr) (cdv ct:Value) (us:List Value) (hl:us.length=(["pot","web","told"]:List Str).length):bindArgs (PySem.W.fnOf "_law_spoilt" "_law_spoilt" (defArgs s__law_spoilt) (defBody s__law_spoilt) (defScope s__law_spoilt) .none kV doc pm an cdv ct) ⟨us,[]⟩=pure (List.zip (["pot","web","told"]:List Str) us):=match us,hl with | [_,_,_],_=>rfl
theorem zrh {P:Program} {w:World} {K:PySem.W.Frag} {mg:Str->Option Value} {base:Heap} {f:Addr} {fd:FuncData} (T:Bi mg)
  (D_is_whole:DefOk K mg "is_whole" s_is_whole ["thing"])
  (D_is_all_wholes:DefOk K mg "is_all_wholes" s_is_all_wholes ["thing"])
  (D_is_plain:DefOk K mg "is_plain" s_is_plain ["web"])
  (D_whole:DefOk K mg "whole" s_whole ["web"])
  (D_tie_between:DefOk K mg "tie_between" s_tie_between ["web","a","b"])
  (D_ties_along:DefOk K mg "ties_along" s_ties_along ["web","places"])
  (D_tie_weights:DefOk K mg "tie_weights" s_tie_weights ["web"])
  (D_cost_with:DefOk K mg "cost_with" s_cost_with ["cost","length","weight"])
  (D_reached_from:DefOk K mg "reached_from" s_reached_from ["web","keep","root"])
  (D_fars_from:DefOk K mg "fars_from" s_fars_from ["web","keep","root"])
  (D_tree_from:DefOk K mg "tree_from" s_tree_from ["web","keep","root"])
  (D_the_way:DefOk K mg "the_way" s_the_way ["web","keep","a","b"])
  (D_need_plain:DefOk K mg "need_plain" s_need_plain ["web"])
  (D_neighbours:DefOk K mg "neighbours" s_neighbours ["web","keep","place"])
  (D_need_share:DefOk K mg "need_share" s_need_share ["d"])
  (D_bare_neighbours:DefOk K mg "bare_neighbours" s_bare_neighbours ["web","place","guarded"])
  (D_guards_by:DefOk K mg "guards_by" s_guards_by ["web","d"])
  (D_all_guarded:DefOk K mg "all_guarded" s_all_guarded ["told"])
  (D_bare_ties:DefOk K mg "bare_ties" s_bare_ties ["web","told"])
  (D_kept_at_first:DefOk K mg "kept_at_first" s_kept_at_first ["web","guards"])
  (D_is_wanted:DefOk K mg "is_wanted" s_is_wanted ["near","kept"])
  (D_first_wanted:DefOk K mg "first_wanted" s_first_wanted ["web","keep","u"])
  (D_fars_along:DefOk K mg "fars_along" s_fars_along ["web","way"])
  (D_nearest:DefOk K mg "nearest" s_nearest ["fars","heap","other"])
  (D_gained_by:DefOk K mg "gained_by" s_gained_by ["web","keep","guards","way"])
  (D_six_told:DefOk K mg "six_told" s_six_told ["web","d"])
  (D_six_right:DefOk K mg "six_right" s_six_right ["web","d","told"])
  (D__law_pot:DefOk K mg "_law_pot" s__law_pot ["script","k"])
  (D__law_take:DefOk K mg "_law_take" s__law_take ["pot","many"])
  (D__law_order:DefOk K mg "_law_order" s__law_order ["pot","many"])
  (D__law_beside:DefOk K mg "_law_beside" s__law_beside ["pot","style","n","a","b"])
  (D__law_long:DefOk K mg "_law_long" s__law_long ["pot","most"])
  (D__law_share:DefOk K mg "_law_share" s__law_share ["pot"])
  (D__law_bent:DefOk K mg "_law_bent" s__law_bent ["pot","row"])
  (D__law_other_pairs:DefOk K mg "_law_other_pairs" s__law_other_pairs ["pot","gained"])
  (D__law_other_row:DefOk K mg "_law_other_row" s__law_other_row ["pot","row"])
  (D__law_spoilt:DefOk K mg "_law_spoilt" s__law_spoilt ["pot","web","told"])
  (F:Fun K "law" "law" s_law f fd):FnOk P w K mg base CX0 10 f fd ["script"] (spLaw K):=by
 have O__law_take:=zh6 (P:=P) (w:=w) (base:=base) T D__law_take
 have O__law_pot:=zjl (P:=P) (w:=w) (base:=base) T D__law_pot
 have O__law_order:=zgo T D__law_order O__law_take
 have O_whole:=zpa (P:=P) (w:=w) (base:=base) T D_whole
 have O_is_whole:=zjj (P:=P) (w:=w) (base:=base) T D_is_whole
 have O_is_plain:=zjk (P:=P) (w:=w) (base:=base) T D_is_plain
 have O_need_plain:=zgm T D_need_plain O_is_plain
 have O_tie_weights:=zfe (P:=P) (w:=w) (base:=base) T D_tie_weights
 have O_cost_with:=zhz (P:=P) (w:=w) (base:=base) T D_cost_with
 have O_reached_fromC:=zd1 T D_reached_from O_tie_weights O_cost_with
 have O_reached_from:Ok P w K mg base 2 "reached_from" ["web","keep","root"] (spReached K):=O_reached_fromC.imp zmt
 have O_reached_fromB:Ok P w K mg base 2 "reached_from" ["web","keep","root"] (spReachedB K):=O_reached_fromC.imp zmu
 have O_fars_from:=zhy T D_fars_from O_reached_from
 have O_tree_from:=zgi T D_tree_from O_reached_fromB
 have O_need_share:=zgl T D_need_share O_is_whole
 have O_neighbours:=zgk (P:=P) (w:=w) (base:=base) T D_neighbours
 have O_bare_neighbours:=zc3 T D_bare_neighbours O_neighbours O_whole
 have O_guards_by:=zhw T D_guards_by O_need_plain O_need_share O_bare_neighbours
 have O_all_guarded:=zfg (P:=P) (w:=w) (base:=base) T D_all_guarded
 have O_tie_between:=zff (P:=P) (w:=w) (base:=base) T D_tie_between
 have O_ties_along:=zfd T D_ties_along O_tie_between
 have O_the_wayB:=zjh T D_the_way O_tree_from
 have O_the_way:Ok P w K mg base 4 "the_way" ["web","keep","a","b"] (spWayM K):=O_the_wayB.imp zsy
 have O_bare_ties:=zh0 T D_bare_ties O_all_guarded O_whole
 have O_kept_at_first:=zd3 T D_kept_at_first O_bare_ties (O_tie_between.mono (by decide))
 have O_is_wanted:=zhv (P:=P) (w:=w) (K:=K) (base:=base) T D_is_wanted
 have O_first_wanted:=zet T D_first_wanted (O_fars_from.mono (by decide)) (O_whole.mono (by decide)) (O_is_wanted.mono (by decide))
 have O_fars_along:=zgn (P:=P) (w:=w) (base:=base) T D_fars_along
 have O_nearest:=zln (P:=P) (w:=w) (K:=K) (base:=base) T D_nearest
 have O_gained_by:=zhx T D_gained_by (O_fars_along.mono (by decide)) (O_fars_from.mono (by decide)) (O_nearest.mono (by decide))
 have O_six_told:=zji T D_six_told (O_guards_by.mono (by decide)) (O_kept_at_first.mono (by decide)) (O_first_wanted.mono (by decide)) (O_the_way.mono (by decide)) (O_whole.mono (by decide)) (O_ties_along.mono (by decide)) (O_gained_by.mono (by decide))
 have O_aw0:=ztb (P:=P) (w:=w) (base:=base) D_is_all_wholes
 have O_aw1:=zta T D_is_all_wholes (O_aw0.mono (by decide)) O_is_whole
 have O_aw2:=zsw (j:=1) T D_is_all_wholes O_aw1 (O_is_whole.mono (by decide))
 have O_aw3:=zsw (j:=2) T D_is_all_wholes O_aw2 (O_is_whole.mono (by decide))
 have O_aw4:=zsw (j:=3) T D_is_all_wholes O_aw3 (O_is_whole.mono (by decide))
 have O_aw5:=zsw (j:=4) T D_is_all_wholes O_aw4 (O_is_whole.mono (by decide))
 have O_aw6:=zsw (j:=5) T D_is_all_wholes O_aw5 (O_is_whole.mono (by decide))
 have O_six_right:=zgj T D_six_right (O_six_told.mono (by decide)) (O_aw6.mono (by decide))
 have O__law_beside:=zd5 T D__law_beside O__law_take
 have O__law_long:=zfh (K:=K) T D__law_long (O__law_take.mono (by decide)) O__law_order O__law_beside
 have O__law_share:=zeu T D__law_share O__law_take
 have O__law_bent:=zfi T D__law_bent O__law_take
 have O__law_other_pairs:=zci T D__law_other_pairs O__law_take
 have O__law_other_row:=zcu T D__law_other_row (O__law_take.mono (by decide)) O__law_other_pairs
 have O__law_spoilt:=zd4 T D__law_spoilt (O__law_take.mono (by decide)) (O__law_share.mono (by decide)) (O_six_told.mono (by decide)) (O__law_bent.mono (by decide)) (O__law_other_row.mono (by decide))
 exact zsf T F (O__law_pot.mono (by decide)) (O__law_long.mono (by decide)) (O__law_share.mono (by decide)) (O_six_told.mono (by decide)) (O_six_right.mono (by decide)) (O__law_spoilt.mono (by decide))
theorem walk {l:PySem.W.OpenLaw} {q:Program} {loose:List Str} {XP:(Str->Option Value)->Heap->Prop} {YP:World->Heap->Prop} {d:DefRec} {K:Params->PySem.W.Frag} (hn:l.most=some 63) (hdf:d.params.defaults=[])
  (hY:∀ (w:World) (h:Heap),YP w h->(K w.params).In h)
  (F:∀ (w:World) (mg:Str->Option Value) (fa:Addr) (h:Heap),(K w.params).In h->h.Ns mainGlobals mg->mg d.name=some (.ref fa) ->
   ∃ fd:FuncData,(∀ (s:Shared) (u:Value),BindsTo s fd ⟨[u],[]⟩ [("script",u)])∧∀ base:Heap,(K w.params).In base->base.Ns mainGlobals mg->FnOk l.prog w (K w.params) mg base CX0 10 fa fd ["script"] (spLaw (K w.params))) :
  PySem.W.WalkO q loose XP YP l.row.toRowW d [] (fun f vs=>PySem.call f vs) :=
 L2.zqr (n:=63) (k:=10) (x:="script") (CX:=fun _=>CX0) (sp:=fun w=>spLaw (K w.params)) hn (by decide) hdf ⟨rfl,by decide,by decide,rfl⟩ hY F (fun _ _ a ns hl _ hS=>⟨a,ns,rfl,hS,hl,fun _=>rfl⟩) fun _ _ _ _ _ z=>z
end Me
namespace Hy
open PySem PySem.W Hx
def cs:List Ch:=[⟨0,15,187,0,187,0⟩,⟨1,15,189,0,187,0⟩,⟨2,28,207,0,187,24⟩,⟨3,40,223,0,187,24⟩,⟨4,52,239,4,239,0⟩,⟨5,52,241,4,239,0⟩,⟨6,59,248,4,239,0⟩,⟨7,64,254,7,254,0⟩,⟨8,64,256,7,254,0⟩,⟨9,69,262,7,254,0⟩,⟨10,76,269,7,254,0⟩,⟨11,83,281,11,281,0⟩,⟨12,83,283,11,281,0⟩,⟨13,88,289,11,281,0⟩,⟨14,95,299,11,281,0⟩,⟨15,102,308,11,281,0⟩,⟨16,109,328,11,281,0⟩,⟨17,114,334,11,281,0⟩,⟨18,121,345,11,281,0⟩,⟨19,128,357,19,357,0⟩,⟨20,128,359,19,357,0⟩,⟨21,135,366,21,366,0⟩,⟨22,135,368,21,366,0⟩,⟨23,140,374,23,374,0⟩,⟨24,140,376,23,374,0⟩,⟨25,147,383,23,374,0⟩,⟨26,152,389,23,374,0⟩,⟨27,159,401,23,374,0⟩,⟨28,166,411,23,374,0⟩,⟨29,171,417,29,417,0⟩,⟨30,171,419,29,417,0⟩,⟨31,176,425,29,417,0⟩,⟨32,183,433,29,417,0⟩,⟨33,190,445,29,417,0⟩,⟨34,195,451,29,417,0⟩,⟨35,200,457,29,417,0⟩,⟨36,205,463,29,417,0⟩,⟨37,210,469,29,417,0⟩,⟨38,217,478,38,478,0⟩,⟨39,217,480,38,478,0⟩,⟨40,224,490,38,478,0⟩,⟨41,231,499,38,478,0⟩,⟨42,238,510,38,478,0⟩,⟨43,245,523,38,478,0⟩,⟨44,252,539,38,478,0⟩,⟨45,259,547,38,478,0⟩,⟨46,266,558,38,478,0⟩,⟨47,273,570,38,478,0⟩,⟨48,280,583,38,478,0⟩,⟨49,285,589,38,478,0⟩]
end Hy
lay_quick Hx.PieceT Hx.PreT Hx.BlockT Hx.LookA Hx.LookB Hx.LookC PySem.Challenge.pw_thinways_k62_six_more_judged
namespace Hy
open PySem PySem.W Hx
theorem pre:PreT PySem.Challenge.pw_thinways_k62_six_more_judged boots boot_drawn boot_heap boot_toks cs ⟨0,15,187⟩:=by
 rw[PySem.W.Fast.te16428918119715843241,PySem.W.Fast.te11096847620671964602];delta PySem.W.Fast.tw16428918119715843241;intro w;kernel_rfl
theorem pc0:PieceT PySem.Challenge.pw_thinways_k62_six_more_judged boots boot_drawn cs ⟨0,15,187⟩ ⟨2,28,207⟩ 196:=by
 rw[PySem.W.Fast.te4643275101561185336,PySem.W.Fast.te11096847620671964602];delta PySem.W.Fast.tw4643275101561185336;intro w;kernel_rfl
theorem pc1:PieceT PySem.Challenge.pw_thinways_k62_six_more_judged boots boot_drawn cs ⟨2,28,207⟩ ⟨3,40,223⟩ 214:=by
 rw[PySem.W.Fast.te4643275101561185336,PySem.W.Fast.te11096847620671964602];delta PySem.W.Fast.tw4643275101561185336;intro w;kernel_rfl
theorem pc2:PieceT PySem.Challenge.pw_thinways_k62_six_more_judged boots boot_drawn cs ⟨3,40,223⟩ ⟨12,83,283⟩ 385:=by
 rw[PySem.W.Fast.te4643275101561185336,PySem.W.Fast.te11096847620671964602];delta PySem.W.Fast.tw4643275101561185336;intro w;kernel_rfl
theorem pc3:PieceT PySem.Challenge.pw_thinways_k62_six_more_judged boots boot_drawn cs ⟨12,83,283⟩ ⟨27,159,401⟩ 396:=by
 rw[PySem.W.Fast.te4643275101561185336,PySem.W.Fast.te11096847620671964602];delta PySem.W.Fast.tw4643275101561185336;intro w;kernel_rfl
theorem pc4:PieceT PySem.Challenge.pw_thinways_k62_six_more_judged boots boot_drawn cs ⟨27,159,401⟩ ⟨42,238,510⟩ 398:=by
 rw[PySem.W.Fast.te4643275101561185336,PySem.W.Fast.te11096847620671964602];delta PySem.W.Fast.tw4643275101561185336;intro w;kernel_rfl
theorem pc5:PieceT PySem.Challenge.pw_thinways_k62_six_more_judged boots boot_drawn cs ⟨42,238,510⟩ ⟨50,292,606⟩ 271:=by
 rw[PySem.W.Fast.te4643275101561185336,PySem.W.Fast.te11096847620671964602];delta PySem.W.Fast.tw4643275101561185336;intro w;kernel_rfl
theorem blk:BlockT PySem.Challenge.pw_thinways_k62_six_more_judged :=by
 rw[PySem.W.Fast.te421534021395069552,PySem.W.Fast.te11096847620671964602];delta PySem.W.Fast.tw421534021395069552;intro w s;kernel_rfl
theorem run (w:World) (os:OsState):topRun treeTable PySem.Challenge.pw_thinways_k62_six_more_judged w 11 ann0 (12 + (1 + (196 + (214 + (385 + (396 + (398 + (271 + 2)))))))) ⟨boot_heap w.params,Array.mk [],boot_drawn,boot_toks,os⟩ (topStub PySem.Challenge.pw_thinways_k62_six_more_judged)=some (stT PySem.Challenge.pw_thinways_k62_six_more_judged boots boot_drawn cs ⟨50,292,606⟩ w os).abs:=zq0 pre blk (chain pc0 (by decide) (chain pc1 (by decide) (chain pc2 (by decide) (chain pc3 (by decide) (chain pc4 (by decide) (chain pc5 (by decide) (zob (by kernel_rfl))))))))
theorem size (w:World):((boot_heap w.params).isNs mainGlobals && (Array.mk []:Array GenState).size == 0,(boot_heap w.params).objs.size,(boot_heap w.params).nsMap mainGlobals "__annotations__")=(true,11,ann0):=by kernel_rfl
theorem lkA:LookA PySem.Challenge.pw_thinways_k62_six_more_judged boots boot_drawn boot_heap cs ⟨50,292,606⟩:=by
 rw[PySem.W.Fast.te7818774390570169022,PySem.W.Fast.te11096847620671964602];delta PySem.W.Fast.tw7818774390570169022;intro w;kernel_rfl
theorem lkB:LookB PySem.Challenge.pw_thinways_k62_six_more_judged boots boot_drawn cs ⟨50,292,606⟩ [49] (OpenRow.toRowW (PySem.Challenge.rw_thinways_k62_six_more_judged).row).records:=by
 rw[PySem.W.Fast.te13889730532244352606,PySem.W.Fast.te11096847620671964602];delta PySem.W.Fast.tw13889730532244352606;intro w;kernel_rfl
theorem lkC:LookC PySem.Challenge.pw_thinways_k62_six_more_judged boots cs ⟨50,292,606⟩ [3,23,24,36,37,48,49,57,58,62,63,67,68,74,75,81,82,86,87,93,94,100,101,107,108,112,113,119,120,126,127,133,134,138,139,145,146,150,151,157,158,164,165,169,170,174,175,181,182,188,189,193,194,198,199,203,204,208,209,215,216,222,223,229,230,236,237,243,244,250,251,257,258,264,265,271,272,278,279,283,284,290,291]:=by
 rw[PySem.W.Fast.te6241646928739474683,PySem.W.Fast.te11096847620671964602];delta PySem.W.Fast.tw6241646928739474683;intro w;kernel_rfl
noncomputable abbrev K:=Kf PySem.Challenge.pw_thinways_k62_six_more_judged boots cs
theorem Kas (P:Params):[3,23,24,36,37,48,49,57,58,62,63,67,68,74,75,81,82,86,87,93,94,100,101,107,108,112,113,119,120,126,127,133,134,138,139,145,146,150,151,157,158,164,165,169,170,174,175,181,182,188,189,193,194,198,199,203,204,208,209,215,216,222,223,229,230,236,237,243,244,250,251,257,258,264,265,271,272,278,279,283,284,290,291]=(K P).map (·.1):=by kernel_rfl
noncomputable abbrev H:Hook:=kHook K [3,23,24,36,37,48,49,57,58,62,63,67,68,74,75,81,82,86,87,93,94,100,101,107,108,112,113,119,120,126,127,133,134,138,139,145,146,150,151,157,158,164,165,169,170,174,175,181,182,188,189,193,194,198,199,203,204,208,209,215,216,222,223,229,230,236,237,243,244,250,251,257,258,264,265,271,272,278,279,283,284,290,291] Kas
theorem opn:opening PySem.Challenge.pw_thinways_k62_six_more_judged=plainProg (PySem.Challenge.pw_thinways_k62_six_more_judged).main.scope.names:=by kernel_rfl
theorem fnc (s:Shared):fenceModules? PySem.Challenge.pw_thinways_k62_six_more_judged s=some s:=by kernel_rfl
theorem left:LeftO PySem.Challenge.pw_thinways_k62_six_more_judged (qv PySem.Challenge.pw_thinways_k62_six_more_judged [49]) (lz PySem.Challenge.pw_thinways_k62_six_more_judged [49] 50) (fun s=>xlAt (qv PySem.Challenge.pw_thinways_k62_six_more_judged [49]) [] s && recOk (OpenRow.toRowW (PySem.Challenge.rw_thinways_k62_six_more_judged).row).records s) (Hook.obs H) (Hook.val H) 4350 :=
 zrf (p:=PySem.Challenge.pw_thinways_k62_six_more_judged) (cs:=cs) (is:=[49]) (as:=[3,23,24,36,37,48,49,57,58,62,63,67,68,74,75,81,82,86,87,93,94,100,101,107,108,112,113,119,120,126,127,133,134,138,139,145,146,150,151,157,158,164,165,169,170,174,175,181,182,188,189,193,194,198,199,203,204,208,209,215,216,222,223,229,230,236,237,243,244,250,251,257,258,264,265,271,272,278,279,283,284,290,291]) (rc:=(OpenRow.toRowW (PySem.Challenge.rw_thinways_k62_six_more_judged).row).records) (c:=⟨50,292,606⟩) (M:=12 + (1 + (196 + (214 + (385 + (396 + (398 + (271 + 2)))))))) (N:=4350) (e:=Kas) opn (by decide) fnc size run (by decide) lkA lkB lkC
end Hy
namespace Hy
open PySem PySem.W PyProof.Rows L2 L3 Hx Me
theorem all {w:World} {h:Heap} {mg:Str->Option Value} {fa:Addr} (X:(K w.params).In h) (G:h.Ns mainGlobals mg) (hfa:mg "law"=some (.ref fa)) :
  ∃ fd:FuncData,(∀ (s:Shared) (v:Value),BindsTo s fd ⟨[v],[]⟩ [("script",v)])∧∀ base:Heap,(K w.params).In base->base.Ns mainGlobals mg->FnOk (PySem.Challenge.rw_thinways_k62_six_more_judged).prog w (K w.params) mg base CX0 10 fa fd ["script"] (spLaw (K w.params)):=by
 have T:Bi mg:=⟨PySem.W.mg_none_of X G (show PySem.W.nsIn (K w.params) mainGlobals "len"=some none by kernel_rfl),PySem.W.mg_none_of X G (show PySem.W.nsIn (K w.params) mainGlobals "range"=some none by kernel_rfl),PySem.W.mg_none_of X G (show PySem.W.nsIn (K w.params) mainGlobals "zip"=some none by kernel_rfl),PySem.W.mg_none_of X G (show PySem.W.nsIn (K w.params) mainGlobals "all"=some none by kernel_rfl),PySem.W.mg_none_of X G (show PySem.W.nsIn (K w.params) mainGlobals "sorted"=some none by kernel_rfl),PySem.W.mg_none_of X G (show PySem.W.nsIn (K w.params) mainGlobals "isinstance"=some none by kernel_rfl),PySem.W.mg_none_of X G (show PySem.W.nsIn (K w.params) mainGlobals "min"=some none by kernel_rfl),PySem.W.mg_none_of X G (show PySem.W.nsIn (K w.params) mainGlobals "max"=some none by kernel_rfl),PySem.W.mg_none_of X G (show PySem.W.nsIn (K w.params) mainGlobals "tuple"=some none by kernel_rfl),PySem.W.mg_none_of X G (show PySem.W.nsIn (K w.params) mainGlobals "list"=some none by kernel_rfl),PySem.W.mg_none_of X G (show PySem.W.nsIn (K w.params) mainGlobals "int"=some none by kernel_rfl),PySem.W.mg_none_of X G (show PySem.W.nsIn (K w.params) mainGlobals "bool"=some none by kernel_rfl),PySem.W.mg_none_of X G (show PySem.W.nsIn (K w.params) mainGlobals "str"=some none by kernel_rfl),PySem.W.mg_none_of X G (show PySem.W.nsIn (K w.params) mainGlobals "enumerate"=some none by kernel_rfl),PySem.W.mg_none_of X G (show PySem.W.nsIn (K w.params) mainGlobals "sum"=some none by kernel_rfl),PySem.W.mg_none_of X G (show PySem.W.nsIn (K w.params) mainGlobals "abs"=some none by kernel_rfl),PySem.W.mg_none_of X G (show PySem.W.nsIn (K w.params) mainGlobals "set"=some none by kernel_rfl),PySem.W.mg_none_of X G (show PySem.W.nsIn (K w.params) mainGlobals "reversed"=some none by kernel_rfl),PySem.W.mg_none_of X G (show PySem.W.nsIn (K w.params) mainGlobals "any"=some none by kernel_rfl),PySem.W.mg_none_of X G (show PySem.W.nsIn (K w.params) mainGlobals "repr"=some none by kernel_rfl),PySem.W.mg_none_of X G (show PySem.W.nsIn (K w.params) mainGlobals "dict"=some none by kernel_rfl)⟩
 have D_is_whole:=dq (p:=PySem.Challenge.pw_thinways_k62_six_more_judged) (ps:=["thing"]) 58 57 4 239 X G zj0 (by kernel_rfl) (by kernel_rfl) (by kernel_rfl) (by kernel_rfl)
 have D_is_all_wholes:=dq (p:=PySem.Challenge.pw_thinways_k62_six_more_judged) (ps:=["thing"]) 63 62 4 239 X G zd8 (by kernel_rfl) (by kernel_rfl) (by kernel_rfl) (by kernel_rfl)
 have D_is_plain:=dq (p:=PySem.Challenge.pw_thinways_k62_six_more_judged) (ps:=["web"]) 68 67 7 254 X G zj1 (by kernel_rfl) (by kernel_rfl) (by kernel_rfl) (by kernel_rfl)
 have D_whole:=dq (p:=PySem.Challenge.pw_thinways_k62_six_more_judged) (ps:=["web"]) 75 74 7 254 X G zpy (by kernel_rfl) (by kernel_rfl) (by kernel_rfl) (by kernel_rfl)
 have D_tie_between:=dq (p:=PySem.Challenge.pw_thinways_k62_six_more_judged) (ps:=["web","a","b"]) 82 81 7 254 X G zfp (by kernel_rfl) (by kernel_rfl) (by kernel_rfl) (by kernel_rfl)
 have D_ties_along:=dq (p:=PySem.Challenge.pw_thinways_k62_six_more_judged) (ps:=["web","places"]) 87 86 11 281 X G zg5 (by kernel_rfl) (by kernel_rfl) (by kernel_rfl) (by kernel_rfl)
 have D_tie_weights:=dq (p:=PySem.Challenge.pw_thinways_k62_six_more_judged) (ps:=["web"]) 94 93 11 281 X G zfo (by kernel_rfl) (by kernel_rfl) (by kernel_rfl) (by kernel_rfl)
 have D_cost_with:=dq (p:=PySem.Challenge.pw_thinways_k62_six_more_judged) (ps:=["cost","length","weight"]) 101 100 11 281 X G zix (by kernel_rfl) (by kernel_rfl) (by kernel_rfl) (by kernel_rfl)
 have D_reached_from:=dq (p:=PySem.Challenge.pw_thinways_k62_six_more_judged) (ps:=["web","keep","root"]) 108 107 11 281 X G ze8 (by kernel_rfl) (by kernel_rfl) (by kernel_rfl) (by kernel_rfl)
 have D_fars_from:=dq (p:=PySem.Challenge.pw_thinways_k62_six_more_judged) (ps:=["web","keep","root"]) 113 112 11 281 X G ziw (by kernel_rfl) (by kernel_rfl) (by kernel_rfl) (by kernel_rfl)
 have D_tree_from:=dq (p:=PySem.Challenge.pw_thinways_k62_six_more_judged) (ps:=["web","keep","root"]) 120 119 11 281 X G zir (by kernel_rfl) (by kernel_rfl) (by kernel_rfl) (by kernel_rfl)
 have D_the_way:=dq (p:=PySem.Challenge.pw_thinways_k62_six_more_judged) (ps:=["web","keep","a","b"]) 127 126 11 281 X G zl2 (by kernel_rfl) (by kernel_rfl) (by kernel_rfl) (by kernel_rfl)
 have D_need_plain:=dq (p:=PySem.Challenge.pw_thinways_k62_six_more_judged) (ps:=["web"]) 134 133 19 357 X G zg8 (by kernel_rfl) (by kernel_rfl) (by kernel_rfl) (by kernel_rfl)
 have D_neighbours:=dq (p:=PySem.Challenge.pw_thinways_k62_six_more_judged) (ps:=["web","keep","place"]) 139 138 21 366 X G zg6 (by kernel_rfl) (by kernel_rfl) (by kernel_rfl) (by kernel_rfl)
 have D_need_share:=dq (p:=PySem.Challenge.pw_thinways_k62_six_more_judged) (ps:=["d"]) 146 145 23 374 X G zg7 (by kernel_rfl) (by kernel_rfl) (by kernel_rfl) (by kernel_rfl)
 have D_bare_neighbours:=dq (p:=PySem.Challenge.pw_thinways_k62_six_more_judged) (ps:=["web","place","guarded"]) 151 150 23 374 X G zdf (by kernel_rfl) (by kernel_rfl) (by kernel_rfl) (by kernel_rfl)
 have D_guards_by:=dq (p:=PySem.Challenge.pw_thinways_k62_six_more_judged) (ps:=["web","d"]) 158 157 23 374 X G ziu (by kernel_rfl) (by kernel_rfl) (by kernel_rfl) (by kernel_rfl)
 have D_all_guarded:=dq (p:=PySem.Challenge.pw_thinways_k62_six_more_judged) (ps:=["told"]) 165 164 23 374 X G zfq (by kernel_rfl) (by kernel_rfl) (by kernel_rfl) (by kernel_rfl)
 have D_bare_ties:=dq (p:=PySem.Challenge.pw_thinways_k62_six_more_judged) (ps:=["web","told"]) 170 169 23 374 X G ziy (by kernel_rfl) (by kernel_rfl) (by kernel_rfl) (by kernel_rfl)
 have D_kept_at_first:=dq (p:=PySem.Challenge.pw_thinways_k62_six_more_judged) (ps:=["web","guards"]) 175 174 29 417 X G zd7 (by kernel_rfl) (by kernel_rfl) (by kernel_rfl) (by kernel_rfl)
 have D_is_wanted:=dq (p:=PySem.Challenge.pw_thinways_k62_six_more_judged) (ps:=["near","kept"]) 182 181 29 417 X G zit (by kernel_rfl) (by kernel_rfl) (by kernel_rfl) (by kernel_rfl)
 have D_first_wanted:=dq (p:=PySem.Challenge.pw_thinways_k62_six_more_judged) (ps:=["web","keep","u"]) 189 188 29 417 X G ze9 (by kernel_rfl) (by kernel_rfl) (by kernel_rfl) (by kernel_rfl)
 have D_fars_along:=dq (p:=PySem.Challenge.pw_thinways_k62_six_more_judged) (ps:=["web","way"]) 194 193 29 417 X G zg9 (by kernel_rfl) (by kernel_rfl) (by kernel_rfl) (by kernel_rfl)
 have D_nearest:=dq (p:=PySem.Challenge.pw_thinways_k62_six_more_judged) (ps:=["fars","heap","other"]) 199 198 29 417 X G zl3 (by kernel_rfl) (by kernel_rfl) (by kernel_rfl) (by kernel_rfl)
 have D_gained_by:=dq (p:=PySem.Challenge.pw_thinways_k62_six_more_judged) (ps:=["web","keep","guards","way"]) 204 203 29 417 X G ziv (by kernel_rfl) (by kernel_rfl) (by kernel_rfl) (by kernel_rfl)
 have D_six_told:=dq (p:=PySem.Challenge.pw_thinways_k62_six_more_judged) (ps:=["web","d"]) 209 208 29 417 X G zjz (by kernel_rfl) (by kernel_rfl) (by kernel_rfl) (by kernel_rfl)
 have D_six_right:=dq (p:=PySem.Challenge.pw_thinways_k62_six_more_judged) (ps:=["web","d","told"]) 216 215 29 417 X G zis (by kernel_rfl) (by kernel_rfl) (by kernel_rfl) (by kernel_rfl)
 have D__law_pot:=dq (p:=PySem.Challenge.pw_thinways_k62_six_more_judged) (ps:=["script","k"]) 223 222 38 478 X G zj2 (by kernel_rfl) (by kernel_rfl) (by kernel_rfl) (by kernel_rfl)
 have D__law_take:=dq (p:=PySem.Challenge.pw_thinways_k62_six_more_judged) (ps:=["pot","many"]) 230 229 38 478 X G ziz (by kernel_rfl) (by kernel_rfl) (by kernel_rfl) (by kernel_rfl)
 have D__law_order:=dq (p:=PySem.Challenge.pw_thinways_k62_six_more_judged) (ps:=["pot","many"]) 237 236 38 478 X G zhb (by kernel_rfl) (by kernel_rfl) (by kernel_rfl) (by kernel_rfl)
 have D__law_beside:=dq (p:=PySem.Challenge.pw_thinways_k62_six_more_judged) (ps:=["pot","style","n","a","b"]) 244 243 38 478 X G zfs (by kernel_rfl) (by kernel_rfl) (by kernel_rfl) (by kernel_rfl)
 have D__law_long:=dq (p:=PySem.Challenge.pw_thinways_k62_six_more_judged) (ps:=["pot","most"]) 251 250 38 478 X G zi0 (by kernel_rfl) (by kernel_rfl) (by kernel_rfl) (by kernel_rfl)
 have D__law_share:=dq (p:=PySem.Challenge.pw_thinways_k62_six_more_judged) (ps:=["pot"]) 258 257 38 478 X G zha (by kernel_rfl) (by kernel_rfl) (by kernel_rfl) (by kernel_rfl)
 have D__law_bent:=dq (p:=PySem.Challenge.pw_thinways_k62_six_more_judged) (ps:=["pot","row"]) 265 264 38 478 X G zi1 (by kernel_rfl) (by kernel_rfl) (by kernel_rfl) (by kernel_rfl)
 have D__law_other_pairs:=dq (p:=PySem.Challenge.pw_thinways_k62_six_more_judged) (ps:=["pot","gained"]) 272 271 38 478 X G zcz (by kernel_rfl) (by kernel_rfl) (by kernel_rfl) (by kernel_rfl)
 have D__law_other_row:=dq (p:=PySem.Challenge.pw_thinways_k62_six_more_judged) (ps:=["pot","row"]) 279 278 38 478 X G zdq (by kernel_rfl) (by kernel_rfl) (by kernel_rfl) (by kernel_rfl)
 have D__law_spoilt:=dq (p:=PySem.Challenge.pw_thinways_k62_six_more_judged) (ps:=["pot","web","told"]) 284 283 38 478 X G zfr (by kernel_rfl) (by kernel_rfl) (by kernel_rfl) (by kernel_rfl)
 have e:=hfa.symm.trans (PySem.W.mg_of X G (show PySem.W.nsIn (K w.params) mainGlobals "law"=some (some (.ref 291)) by kernel_rfl))
 cases e
 have F:=zqj (x:="law") (qual:="law") (st:=s_law) (K:=K w.params) (f:=291) (oc:=.type "function") (od:=none) (an:=none) (osl:=#[]) (kV:=.none) (doc:=.none) (pm:=Hx.mdV PySem.Challenge.pw_thinways_k62_six_more_judged ⟨0,0,0,38,478,0⟩) (cdv:=.ref 290) (ct:=.none) (by kernel_rfl) (by kernel_rfl) (by kernel_rfl)
 exact⟨_,fun s v=>.of_eq rfl,fun base _ _=>zrh (P:=(PySem.Challenge.rw_thinways_k62_six_more_judged).prog) (w:=w) (base:=base) T D_is_whole D_is_all_wholes D_is_plain D_whole D_tie_between D_ties_along D_tie_weights D_cost_with D_reached_from D_fars_from D_tree_from D_the_way D_need_plain D_neighbours D_need_share D_bare_neighbours D_guards_by D_all_guarded D_bare_ties D_kept_at_first D_is_wanted D_first_wanted D_fars_along D_nearest D_gained_by D_six_told D_six_right D__law_pot D__law_take D__law_order D__law_beside D__law_long D__law_share D__law_bent D__law_other_pairs D__law_other_row D__law_spoilt F⟩
end Hy
open PySem PySem.W PyProof.Rows
set_option maxRecDepth 100000 in
set_option maxHeartbeats 0 in
theorem PySem.Challenge.cw_thinways_k62_six_more_judged_holds : PySem.Challenge.rw_thinways_k62_six_more_judged.Holds := by
 w_on;o_law
 refine holds_open (q:=(Hx.qv PySem.Challenge.pw_thinways_k62_six_more_judged [49])) (loose:=Hx.lz PySem.Challenge.pw_thinways_k62_six_more_judged [49] 50) (Xt:=fun s=>xlAt (Hx.qv PySem.Challenge.pw_thinways_k62_six_more_judged [49]) [] s && recOk (OpenRow.toRowW (PySem.Challenge.rw_thinways_k62_six_more_judged).row).records s) (XP:=XL (Hx.qv PySem.Challenge.pw_thinways_k62_six_more_judged [49]) []) (Yf:=Hook.obs Hy.H) (Ya:=Hook.val Hy.H) (YP:=Hook.says Hy.H) (N:=4350) Hy.left (Hook.of Hy.H) (Hook.keeps Hy.H) (fun s e=>xl_of s (Bool.and_eq_true_iff.mp e).1) XL.keeps (by rfl) (by rfl) (by rfl) (fun s e=>recFacts_of (Bool.and_eq_true_iff.mp e).2) (by rfl) (by first | assumption | decide +kernel) (by decide +kernel) ⟨rfl,rfl,rfl,rfl,rfl,by decide +kernel⟩ ?hw ?hc
 case hw=>w_witness2
 case hc =>
  refine Me.walk (l:=PySem.Challenge.rw_thinways_k62_six_more_judged) rfl rfl (fun w h Y=>PySem.W.kIn_of Y) fun w mg fa h KX G hmg=>Hy.all KX G hmg
