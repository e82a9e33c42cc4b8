import PyProof.Rows.All
import Wide.All
import OpenK.AllK
import Wide.FinOn
import Lean
import PyProof.EqAt
import PyProof.EqKinds
import PyProof.TupleCall
import KE.KSortTup
import PyProof.ZipIter
import PyProof.TupleIter
import PyProof.WalksMore
import PyProof.Rows.TupIter
import PyProof.EnumIter
import PyProof.EnumFor
import PyProof.EnumStmt
import PyProof.ReprRoads
import PyProof.Rows.SeqMore
import PyProof.ListMulRoad
import PyProof.FactsAll.tuple_2
import PyProof.FactsAll.tuple_3
import PyProof.Rows.Tup
import PyProof.ListRange
import PyProof.TupleOfSeq
import PyProof.SumAny
import PyProof.ConsumeS
import PyProof.Rows.CallKwBuiltin
import KE.KLam
import KE.KSortKey
import PyProof.AutoSeq1
import KE.KListMore
import PyProof.FactsAll.subtypes_4
import PyProof.SetRoads
import PyProof.Rows.SetFrom
import PyProof.WalkInts
import PyProof.DictDisplay
import PyProof.ReprBulk
import PyProof.Conv_int_bool
import KE.KIntText
import PyProof.StrLawsChain
import PyProof.Rows.StrNews2
import Wide.Txt
import PyProof.DictWalks
import PySem.Challenge.RW_thinways_k41_trees_spoilt
set_option Elab.async false
set_option linter.all false
set_option maxRecDepth 100000
namespace L2
open PySem PySem.Spec PyProof.Rows
/-- a key: an int or a str -/
abbrev Key:=Sum Int Str
def keyIs:Key->Value->Bool
 | .inl k,v=>Value.isInt k v
 | .inr x,v=>Value.isStrOf x v
def keyH (w:World):Key->Int
 | .inl k=>hashInt k
 | .inr x=>hashStr w x
theorem keyIs_shape:∀ {k:Key} {v:Value},keyIs k v=true->(∃ i t,k=Sum.inl i∧v=Value.int i t)∨(∃ x t,k=Sum.inr x∧v=Value.str x t)
 | .inl i,v,h=>by
  obtain⟨t,e⟩:=Value.isInt_shape (k:=i) (v:=v) h
  exact .inl ⟨i,t,rfl,e⟩
 | .inr x,v,h=>by
  obtain⟨t,e⟩:=Value.isStrOf_shape (x:=x) (v:=v) h
  exact .inr ⟨x,t,rfl,e⟩
theorem key_ll (a b:Int):decide ((Sum.inl a:Key)=Sum.inl b)=(a == b):=by
 by_cases e:a=b
 ·subst e;simp
 ·have h:¬ (Sum.inl a:Key)=Sum.inl b:=fun q=>e (Sum.inl.inj q)
  rw[decide_eq_false h]
  exact (beq_eq_false_iff_ne.mpr e).symm
theorem key_rr (a b:Str):decide ((Sum.inr a:Key)=Sum.inr b)=decide (a=b):=by
 by_cases e:a=b
 ·subst e;simp
 ·have h:¬ (Sum.inr a:Key)=Sum.inr b:=fun q=>e (Sum.inr.inj q)
  rw[decide_eq_false h,decide_eq_false e]
theorem key_lr (a:Int) (b:Str):decide ((Sum.inl a:Key)=Sum.inr b)=false:=decide_eq_false (fun q=>nomatch q)
theorem key_rl (a:Str) (b:Int):decide ((Sum.inr a:Key)=Sum.inl b)=false:=decide_eq_false (fun q=>nomatch q)
def mixKind (prog:Program) (w:World):PySem.KeyKind prog w Key where
 is:=keyIs
 hash:=keyH w
 inj:=fun v a b ha hb=>by
  rcases keyIs_shape ha with ⟨i,t,rfl,rfl⟩ | ⟨x,t,rfl,rfl⟩
  ·rcases keyIs_shape hb with ⟨j,u,rfl,e⟩ | ⟨y,u,rfl,e⟩
   ·injection e with e1 _;rw[e1]
   ·exact nomatch e
  ·rcases keyIs_shape hb with ⟨j,u,rfl,e⟩ | ⟨y,u,rfl,e⟩
   ·exact nomatch e
   ·injection e with e1 _;rw[e1]
 byValue:=fun k v h=>by
  rcases keyIs_shape h with ⟨i,t,rfl,rfl⟩ | ⟨x,t,rfl,rfl⟩ <;> rfl
 pyHash:=fun hv h=>by
  rcases keyIs_shape hv with ⟨i,t,rfl,rfl⟩ | ⟨x,t,rfl,rfl⟩
  ·exact wpAny_pyHash_int h
  ·exact wpAny_pyHash_str h
 eqBool:=fun hu hv h=>by
  rcases keyIs_shape hu with ⟨i,t,rfl,rfl⟩ | ⟨x,t,rfl,rfl⟩
  ·rcases keyIs_shape hv with ⟨j,u,rfl,rfl⟩ | ⟨y,u,rfl,rfl⟩
   ·rw[key_ll] at h;exact wpAny_eqBool_int h
   ·rw[key_lr] at h;exact SeqAt.EqAt.int_str i t y u _ _ _ _ h
  ·rcases keyIs_shape hv with ⟨j,u,rfl,rfl⟩ | ⟨y,u,rfl,rfl⟩
   ·rw[key_rl] at h;exact SeqAt.EqAt.str_int x t j u _ _ _ _ h
   ·rw[key_rr] at h;exact wpAny_eqBool_str h
 «strs»:=fun k x t v h=>by
  rcases keyIs_shape h with ⟨i,u,rfl,e⟩ | ⟨y,u,rfl,e⟩
  ·exact nomatch e
  ·injection e with e1 _
   subst e1
   cases v <;> rfl
end L2
namespace L2
open PySem PySem.Spec PyProof.Rows
/-- a value, without the heap -/
inductive V where
 | non | bl (b:Bool) | int (i:Int) | str (x:Str) | byt (b:Array UInt8) | flt (b:UInt64) | ref (a:Addr) | ty (n:String)
 deriving DecidableEq
def RelV:V->Value->Prop
 | .non,u=>u=Value.none
 | .bl b,u=>u=Value.bool b
 | .int i,u=>∃ t,u=Value.int i t
 | .str x,u=>∃ t,u=Value.str x t
 | .byt b,u=>∃ t,u=Value.bytes b t
 | .flt b,u=>∃ t,u=Value.float b t
 | .ref a,u=>u=Value.ref a
 | .ty n,u=>u=Value.type n
abbrev Vals:List V->List Value->Prop:=Paired RelV
theorem Vals.length {xs:List V} {us:List Value} (r:Vals xs us):xs.length=us.length:=Paired.length r
theorem Vals.get:∀ {xs:List V} {us:List Value} {i:Nat} {x:V},Vals xs us->xs[i]?=some x->∃ u,us[i]?=some u∧RelV x u
 | _,_,_,_,.nil,e=>by simp at e
 | _,_,0,_,.cons r _,e=>by simp at e;subst e;exact⟨_,rfl,r⟩
 | _,_,i + 1,x,.cons _ t,e=>by
  obtain⟨u,h1,h2⟩:=Vals.get (i:=i) (x:=x) t (by simpa using e)
  exact⟨u,by simpa using h1,h2⟩
theorem Vals.set {x:V} {u:Value} (r:RelV x u):∀ {xs:List V} {us:List Value} (i:Nat),Vals xs us->Vals (xs.set i x) (us.set i u)
 | _,_,_,.nil=>.nil
 | _,_,0,.cons _ t=>.cons r t
 | _,_,i + 1,.cons q t=>.cons q (Vals.set r i t)
theorem Vals.append:∀ {xs ys:List V} {us ws:List Value},Vals xs us->Vals ys ws->Vals (xs++ys) (us++ws)
 | _,_,_,_,.nil,s=>s
 | _,_,_,_,.cons r t,s=>.cons r (Vals.append t s)
theorem Vals.take:∀ {xs:List V} {us:List Value} (n:Nat),Vals xs us->Vals (xs.take n) (us.take n)
 | _,_,0,_=>.nil
 | _,_,_ + 1,.nil=>.nil
 | _,_,n + 1,.cons r t=>.cons r (Vals.take n t)
theorem Vals.drop:∀ {xs:List V} {us:List Value} (n:Nat),Vals xs us->Vals (xs.drop n) (us.drop n)
 | _,_,0,r=>r
 | _,_,_ + 1,.nil=>.nil
 | _,_,n + 1,.cons _ t=>Vals.drop n t
def RelO:Option V->Option Value->Prop
 | some v,some u=>RelV v u
 | none,none=>True
 | _,_=>False
def KV {κ:Type}:List (κ × V)->List (κ × Value)->Prop:=Paired fun (p:κ × V) (q:κ × Value)=>p.1=q.1∧RelV p.2 q.2
/-- a key of a dict (00_mix): an int or a text -/
def kV:Key->V
 | .inl i=>.int i
 | .inr x=>.str x
/-- what stands at a tracked address -/
inductive HO where
  /-- a list -/
 | lst (xs:List V)
  /-- a tuple (never changes) -/
 | tup (xs:List V)
  /-- a dict whose keys are ints and texts; one whose keys are tuples of ints and texts (the empty one is both) -/
 | dK (kvs:List (Key × V)) | dT (kvs:List (List Key × V))
  /-- a set of ints: its members, its size -/
 | set (S:Int->Bool) (n:Nat)
  /-- an instance of the class at C, its dict at dx, its attributes -/
 | ins (C dx:Addr) (fs:List (Str × V))
  /-- the dict of the instance at x -/
 | own (x:Addr)
  /-- the dict of an exception -/
 | xd (fs:List (Str × V))
  /-- a bound method, f of x -/
 | met (f x:Addr)
  /-- a range object lo, lo + 1, .. below hi -/
 | rng (lo hi:Int)
  /-- a thing that is known to the object (the script; a dict while a loop walks it): read, never written while it is so -/
 | frz (o:Obj) (u:HO)
  /-- a code object's table -/
 | tbl (ps:Array Value)
  /-- any other thing, by what is true of its one object (a def of one's own: SetO a S n := HO.ext fun h => ..) -/
 | ext (φ:Heap->Prop)
abbrev Hp:=Addr->Option HO
def upd (H:Hp) (a:Addr) (o:HO):Hp:=fun b=>if b=a then some o else H b
theorem upd_same {H:Hp} {a:Addr} {o:HO}:upd H a o a=some o:=by unfold upd;rw[if_pos rfl]
theorem upd_ne {H:Hp} {a b:Addr} {o:HO} (h:b≠a):upd H a o b=H b:=by unfold upd;rw[if_neg h]
theorem ne_of_none {H:Hp} {a b:Addr} {o:HO} (h:H a=some o) (h':H b=none):a≠b:=by
 intro e;subst e;rw[h] at h';cases h'
section
variable (P:Program) (w:World)
/-- a tuple with no dict of its own -/
def TupN (h:Heap) (a:Addr) (items:Array Value):Prop:=∃ o,h.get? a=some o∧o.cls=.type "tuple"∧(∃ n,o.data=.seq items n)∧o.dict=none
theorem TupN.tup {h:Heap} {a:Addr} {items:Array Value} (x:TupN h a items):IsTup h a items:=let ⟨o,e,c,d,_⟩:=x;⟨o,e,c,d⟩
theorem TupN.new (h:Heap) (items:Array Value):TupN (h.push { cls:=.type "tuple",data:=.seq items }) h.objs.size items:=⟨_,Heap.get?_push_size _ rfl,rfl,⟨_,rfl⟩,rfl⟩
def ObjOk (H:Hp) (h:Heap) (a:Addr):HO->Prop
 | .lst xs=>xs.length≤sizeLine∧∃ (its:List Value) (n:Nat),Vals xs its∧h.get? a=some { cls:=.type "list",data:=.seq its.toArray n }
 | .tup xs=>xs.length≤sizeLine∧∃ its:List Value,Vals xs its∧TupN h a its.toArray
 | .dK kvs=>kvs.length≤sizeLine∧(a == sysModules)=false∧∃ vs,KV kvs vs∧h.DictOf (mixKind P w) a vs
 | .dT kvs => kvs.length ≤ sizeLine ∧ (a == sysModules) = false ∧ ∃ xs : List (List Key × Addr × Value),
     Paired (fun (p:List Key × V) (q:List Key × Addr × Value)=>p.1=q.1∧H q.2.1=some (.tup (p.1.map kV))∧RelV p.2 q.2.2) kvs xs ∧
     ∃ o es ep,h.get? a=some o∧o.ExactDict∧o.data=.dict es ep∧es.toList=xs.map (entryOfKey (tupleKind (mixKind P w)))∧(xs.map (·.1)).Nodup
 | .set S n=>h.SetOf (intKind P w) a S n
 | .ins C dx fs => H dx = some (.own a) ∧ fs.length ≤ 1000 ∧ dx ≠ a ∧ h.get? a = some (PySem.W.instObj C dx) ∧
     ∃ mA,h.Ns1 dx mA∧(∀ f,RelO (fs.lookup f) (mA f))∧PySem.Within mA (fs.map (·.1))
 | .own _=>∃ o,h.get? a=some o
 | .xd fs=>∃ mA,h.Ns1 a mA∧∀ f,RelO (fs.lookup f) (mA f)
 | .rng lo hi=>∃ t u v,h.get? a=some { cls:=.type "range",data:=.fields #[.int lo t,.int hi u,.int 1 v] }
 | .frz o u=>h.get? a=some o∧ObjOk H h a u
 | .tbl ps=>h.get? a=some { cls:=.none,data:=.fields ps }
 | .met f x=>h.get? a=some (PySem.W.methodObj (.ref f) (.ref x))
 | .ext φ=>φ h∧(∃ o,h.get? a=some o)∧∀ h1 h2:Heap,φ h1->(∀ o,h1.get? a=some o->h2.get? a=some o)->φ h2
/-- the abstract heap is held -/
def HOk (H:Hp) (h:Heap):Prop:=∀ a o,H a=some o->ObjOk P w H h a o
end
section
variable {P:Program} {w:World} {H H':Hp} {h h':Heap} {a:Addr} {o:HO}
theorem ObjOk.lt (x:ObjOk P w H h a o):a < h.objs.size:=by
 cases o with
 | lst xs=>obtain⟨_,_,_,_,e⟩:=x;exact Heap.lt_size e
 | tup xs=>obtain⟨_,_,_,p⟩:=x;exact p.tup.lt
 | dK kvs=>obtain⟨_,_,_,_,o,_,_,e,_⟩:=x;exact Heap.lt_size e
 | dT kvs=>obtain⟨_,_,_,_,o,_,_,e,_⟩:=x;exact Heap.lt_size e
 | set S n=>obtain⟨o,_,_,_,e,_⟩:=x;exact Heap.lt_size e
 | ins C dx fs=>obtain⟨_,_,_,e,_⟩:=x;exact Heap.lt_size e
 | own y=>obtain⟨_,e⟩:=x;exact Heap.lt_size e
 | xd fs=>obtain⟨_,⟨_,_,_,e,_⟩,_⟩:=x;exact Heap.lt_size e
 | rng lo hi=>obtain⟨_,_,_,e⟩:=x;exact Heap.lt_size e
 | frz ob u=>obtain⟨e,_⟩:=x;exact Heap.lt_size e
 | tbl ps=>exact Heap.lt_size (show h.get? a=some _ from x)
 | met f y=>exact Heap.lt_size (show h.get? a=some _ from x)
 | ext φ=>obtain⟨_,⟨_,e⟩,_⟩:=x;exact Heap.lt_size e
theorem Paired.mapP {α β:Type} {F G:α->β->Prop}:∀ {l₁:List α} {l₂:List β},Paired F l₁ l₂->(∀ a b,F a b->G a b)->Paired G l₁ l₂
 | _,_,.nil,_=>.nil
 | _,_,.cons r t,f=>.cons (f _ _ r) (Paired.mapP t f)
/-- what an object's description leans on: its own object, its own dict, the tuples -/
theorem ObjOk.stay (x:ObjOk P w H h a o) (k:∀ b u,(b=a∨H b=some (.own a))->h.get? b=some u->h'.get? b=some u)
  (ho:∀ b,H b=some (.own a)->H' b=some (.own a)) (ht:∀ b xs,H b=some (.tup xs)->H' b=some (.tup xs)):ObjOk P w H' h' a o:=by
 induction o with
 | lst xs=>obtain⟨z,its,n,r,e⟩:=x;exact⟨z,its,n,r,k _ _ (.inl rfl) e⟩
 | tup xs=>obtain⟨z,its,r,ob,e,c⟩:=x;exact⟨z,its,r,ob,k _ _ (.inl rfl) e,c⟩
 | dK kvs=>obtain⟨z,y,vs,r,ob,es,ep,e,c⟩:=x;exact⟨z,y,vs,r,ob,es,ep,k _ _ (.inl rfl) e,c⟩
 | dT kvs =>
  obtain⟨z,y,xs,r,ob,es,ep,e,c⟩:=x
  exact⟨z,y,xs,Paired.mapP r fun p q z=>⟨z.1,ht _ _ z.2.1,z.2.2⟩,ob,es,ep,k _ _ (.inl rfl) e,c⟩
 | set S n=>obtain⟨ob,es,ep,t,e,c⟩:=x;exact⟨ob,es,ep,t,k _ _ (.inl rfl) e,c⟩
 | ins C dx fs =>
  obtain⟨d,z,ne,e,mA,⟨od,es,ep,e2,c⟩,r⟩:=x
  exact⟨ho _ d,z,ne,k _ _ (.inl rfl) e,mA,⟨od,es,ep,k _ _ (.inr d) e2,c⟩,r⟩
 | own y=>obtain⟨ob,e⟩:=x;exact⟨ob,k _ _ (.inl rfl) e⟩
 | xd fs=>obtain⟨mA,⟨od,es,ep,e,c⟩,r⟩:=x;exact⟨mA,⟨od,es,ep,k _ _ (.inl rfl) e,c⟩,r⟩
 | rng lo hi=>obtain⟨t,u,v,e⟩:=x;exact⟨t,u,v,k _ _ (.inl rfl) e⟩
 | frz ob u ih=>obtain⟨e,q⟩:=x;exact⟨k _ _ (.inl rfl) e,ih q⟩
 | tbl ps =>
  have e:h.get? a=some { cls:=.none,data:=.fields ps }:=x
  show h'.get? a=some { cls:=.none,data:=.fields ps }
  exact k a _ (.inl rfl) e
 | met f y =>
  have e:h.get? a=some (PySem.W.methodObj (.ref f) (.ref y)):=x
  show h'.get? a=some (PySem.W.methodObj (.ref f) (.ref y))
  exact k a _ (.inl rfl) e
 | ext φ=>obtain⟨p,⟨o,e⟩,st⟩:=x;exact⟨st _ _ p fun o q=>k _ _ (.inl rfl) q,⟨o,k _ _ (.inl rfl) e⟩,st⟩
theorem HOk.lt (x:HOk P w H h) (e:H a=some o):a < h.objs.size:=(x a o e).lt
theorem HOk.fresh (x:HOk P w H h) (e:h.objs.size≤a):H a=none:=by
 cases q:H a with
 | none=>rfl
 | some u=>exact absurd (Nat.lt_of_lt_of_le (x.lt q) e) (Nat.lt_irrefl _)
/-- every object of the heap is kept -/
theorem HOk.kept (x:HOk P w H h) (k:∀ b u,h.get? b=some u->h'.get? b=some u):HOk P w H h':=fun a o e =>
 (x a o e).stay (fun b u _ q=>k b u q) (fun _ q=>q) fun _ _ q=>q
/-- a new object is laid and tracked -/
theorem HOk.laid (x:HOk P w H h) (k:∀ b u,h.get? b=some u->h'.get? b=some u) (hp:h.objs.size≤a) (new:ObjOk P w (upd H a o) h' a o):HOk P w (upd H a o) h':=fun b u e=>by
 have hn:=x.fresh hp
 by_cases hb:b=a
 ·subst hb;rw[upd_same] at e;cases e;exact new
 ·rw[upd_ne hb] at e
  exact (x b u e).stay (fun c v _ q=>k c v q) (fun c q=>by rw[upd_ne (ne_of_none q hn)];exact q) fun c xs q=>by rw[upd_ne (ne_of_none q hn)];exact q
end
/-- what may be read as u: it is u, or a known u -/
def Rd (H:Hp) (a:Addr) (u:HO):Prop:=H a=some u∨∃ o,H a=some (.frz o u)
theorem Rd.of {H:Hp} {a:Addr} {u:HO} (h:H a=some u):Rd H a u:=.inl h
theorem Rd.ok {P:Program} {w:World} {H:Hp} {h:Heap} {a:Addr} {u:HO} (r:Rd H a u) (x:HOk P w H h):ObjOk P w H h a u:=by
 rcases r with r | ⟨o,r⟩
 ·exact x a u r
 ·obtain⟨_,q⟩:=x a _ r
  exact q
/-- what may be written -/
def Mut:Option HO->Prop
 | some (.lst _)=>True
 | some (.dK _)=>True
 | some (.dT _)=>True
 | some (.set _ _)=>True
 | some (.ins _ _ _)=>True
 | some (.ext _)=>True
 | _=>False
section
variable {P:Program} {w:World} {H:Hp} {h h':Heap} {x e:Addr} {o':HO}
/-- the object at e is changed: x itself, or the dict of the instance x -/
theorem HOk.write (ok:HOk P w H h) (mu:Mut (H x)) (he:e=x∨H e=some (.own x)) (k:∀ b u,b≠e->h.get? b=some u->h'.get? b=some u) (heo:∃ u,h'.get? e=some u)
  (new:ObjOk P w (upd H x o') h' x o'):HOk P w (upd H x o') h':=fun b u q=>by
 have nown:∀ c y,H c=some (.own y)->c≠x:=fun c y r z=>by subst z;rw[r] at mu;exact mu
 have ntup:∀ c xs,H c=some (.tup xs)->c≠x:=fun c xs r z=>by subst z;rw[r] at mu;exact mu
 by_cases hb:b=x
 ·subst hb;rw[upd_same] at q;cases q;exact new
 ·rw[upd_ne hb] at q
  by_cases hbe:b=e
  ·have q':H b=some (.own x):=by
    rcases he with z | z
    ·exact absurd (hbe.trans z) hb
    ·rw[hbe];exact z
   rw[q] at q';cases q'
   obtain⟨v,hv⟩:=heo
   exact⟨v,by rw[hbe];exact hv⟩
  ·refine (ok b u q).stay (fun c v hc r=>k c v ?_ r) (fun c r=>by rw[upd_ne (nown c b r)];exact r) fun c xs r=>by rw[upd_ne (ntup c xs r)];exact r
   rcases hc with rfl | hc
   ·exact hbe
   ·rintro rfl
    rcases he with z | z
    ·exact nown c b hc z
    ·rw[hc] at z;cases z;exact hb rfl
end
structure Un (fs ex:List Addr) (H H':Hp) (h h':Heap):Prop where
 keep:∀ b o,h.get? b=some o->H b=none->b ∉ fs->b ∉ ex->h'.get? b=some o
 slot:∀ b o,h.get? b=some o->H b=none->b ∈ fs->b ∉ ex->∃ sl,h'.get? b=some { o with slots:=sl }
 free:∀ b o,h.get? b=some o->H b=none->b ∉ ex->H' b=none
 there:∀ b o,h.get? b=some o->b ∉ ex->∃ o',h'.get? b=some o'
 tups:∀ b xs,H b=some (.tup xs)->H' b=some (.tup xs)
 frzs:∀ b o u,H b=some (.frz o u)->H' b=some (.frz o u)
 tbls:∀ b ps,H b=some (.tbl ps)->∃ more,H' b=some (.tbl (ps++more))
section
variable {fs fs' ex ex':List Addr} {H H1 H2:Hp} {h h1 h2 h':Heap} {a x e:Addr} {o:HO}
theorem Un.any (u:Un fs ex H H1 h h1) {b:Addr} {ob:Obj} (q:h.get? b=some ob) (n:H b=none) (hx:b ∉ ex):∃ sl,h1.get? b=some { ob with slots:=sl }:=by
 by_cases hb:b ∈ fs
 ·exact u.slot b ob q n hb hx
 ·exact⟨ob.slots,u.keep b ob q n hb hx⟩
theorem Un.trans (a:Un fs ex H H1 h h1) (b:Un fs ex H1 H2 h1 h2):Un fs ex H H2 h h2 where
 keep:=fun c ob q n hc hx=>b.keep c ob (a.keep c ob q n hc hx) (a.free c ob q n hx) hc hx
 slot:=fun c ob q n hc hx=>by
  obtain⟨sl,e1⟩:=a.slot c ob q n hc hx
  obtain⟨sl',e2⟩:=b.slot c _ e1 (a.free c ob q n hx) hc hx
  exact⟨sl',e2⟩
 free:=fun c ob q n hx=>by
  obtain⟨o',e1⟩:=a.there c ob q hx
  exact b.free c o' e1 (a.free c ob q n hx) hx
 there:=fun c ob q hx=>by
  obtain⟨o',e1⟩:=a.there c ob q hx
  exact b.there c o' e1 hx
 tups:=fun c xs q=>b.tups c xs (a.tups c xs q)
 frzs:=fun c ob xs q=>b.frzs c ob xs (a.frzs c ob xs q)
 tbls:=fun c ps q=>by
  obtain⟨m1,e1⟩:=a.tbls c ps q
  obtain⟨m2,e2⟩:=b.tbls c _ e1
  exact⟨m1++m2,by rw[e2,Array.append_assoc]⟩
theorem Un.kept (k:∀ b u,h.get? b=some u->h'.get? b=some u):Un fs ex H H h h' :=
 ⟨fun b ob q _ _ _=>k b ob q,fun b ob q _ _ _=>⟨ob.slots,k b ob q⟩,fun _ _ _ n _=>n,fun b ob q _=>⟨ob,k b ob q⟩,fun _ _ q=>q,fun _ _ _ q=>q,fun _ ps q=>⟨#[],by rw[q];simp⟩⟩
theorem Un.refl:Un fs ex H H h h:=Un.kept fun _ _ q=>q
theorem Un.laid (k:∀ b u,h.get? b=some u->h'.get? b=some u) (hp:h.objs.size≤a) (hn:H a=none):Un fs ex H (upd H a o) h h' where
 keep:=fun b u q _ _ _=>k b u q
 slot:=fun b u q _ _ _=>⟨u.slots,k b u q⟩
 free:=fun b u q n _=>by rw[upd_ne (Nat.ne_of_lt (Nat.lt_of_lt_of_le (Heap.lt_size q) hp))];exact n
 there:=fun b u q _=>⟨u,k b u q⟩
 tups:=fun b xs q=>by rw[upd_ne (ne_of_none q hn)];exact q
 frzs:=fun b u xs q=>by rw[upd_ne (ne_of_none q hn)];exact q
 tbls:=fun b ps q=>⟨#[],by rw[upd_ne (ne_of_none q hn),q];simp⟩
theorem Un.write (mu:Mut (H x)) (he:e=x∨H e=some (.own x)) (k:∀ b u,b≠e->h.get? b=some u->h'.get? b=some u) (heo:∃ u,h'.get? e=some u):Un fs ex H (upd H x o) h h':=by
 have hx:∀ b,H b=none->b≠x:=fun b n z=>by subst z;rw[n] at mu;exact mu
 have hb:∀ b,H b=none->b≠e:=fun b n z=>by
  subst z
  rcases he with r | r
  ·exact hx b n r
  ·rw[n] at r;cases r
 have hm:∀ b u,H b=some u->¬ Mut (some u)->b≠x:=fun b u q nm z=>by subst z;rw[q] at mu;exact nm mu
 refine⟨fun b u q n _ _=>k b u (hb b n) q,fun b u q n _ _=>⟨u.slots,k b u (hb b n) q⟩,fun b u q n _=>by rw[upd_ne (hx b n)];exact n,fun b u q _=>?_,
  fun b xs q=>by rw[upd_ne (hm b _ q fun z=>z)];exact q,fun b u xs q=>by rw[upd_ne (hm b _ q fun z=>z)];exact q,fun b ps q=>⟨#[],by rw[upd_ne (hm b _ q fun z=>z),q];simp⟩⟩
 by_cases hbe:b=e
 ·subst hbe;exact heo
 ·exact⟨u,k b u hbe q⟩
theorem Un.mono (u:Un fs ex H H1 h h1) (hs:∀ b ∈ fs,b ∈ fs') (hx:∀ b ∈ ex,b ∈ ex'):Un fs' ex' H H1 h h1 :=
 ⟨fun b ob q n hb he=>u.keep b ob q n (fun z=>hb (hs b z)) fun z=>he (hx b z),fun _ _ q n _ he=>u.any q n fun z=>he (hx _ z),fun b ob q n he=>u.free b ob q n fun z=>he (hx b z),fun b ob q he=>u.there b ob q fun z=>he (hx b z),u.tups,u.frzs,u.tbls⟩
end
def trk (h:Heap) (H:Hp):List Addr:=(List.range h.objs.size).filter fun a=>(H a).isSome
def hidT (h:Heap) (H:Hp):Heap:=PySem.W.hideAll h (trk h H)
theorem hidT_size (h:Heap) (H:Hp):(hidT h H).objs.size=h.objs.size:=PySem.W.hideAll_size _ _
theorem hidT_get {h:Heap} {H:Hp} {b:Addr} {o:Obj} (e:h.get? b=some o) (n:H b=none):(hidT h H).get? b=some o :=
 PySem.W.hideAll_get _ e fun hm=>by
  have q:(H b).isSome=true:=(List.mem_filter.mp hm).2
  rw[n] at q;simp at q
theorem of_hidT {h:Heap} {H:Hp} {b:Addr} {o:Obj} (e:(hidT h H).get? b=some o):h.get? b=some o∧H b=none:=by
 have e':h.get? b=some o:=PySem.W.of_hideAll (trk h H) e
 refine⟨e',?_⟩
 cases q:H b with
 | none=>rfl
 | some x =>
  have hm:b ∈ trk h H:=List.mem_filter.mpr ⟨List.mem_range.mpr (Heap.lt_size e'),by simp [q]⟩
  have z:(hidT h H).get? b=none:=PySem.W.hideAll_none (trk h H) hm
  rw[z] at e;cases e
def allNews (g h:Heap) (L:Addr):List (Addr × Obj):=(List.range h.objs.size).filterMap fun a=>if a=L∨(g.get? a).isSome=true then none else (h.get? a).map fun o=>(a,o)
def rest (g h:Heap) (L d:Addr):List (Addr × Obj):=(allNews g h L).filter fun p=>decide (p.1≠d)
end L2
namespace L2
open PySem PySem.Spec PyProof.Rows
/-- the module's facts, over the base: the heap at the law's entry without what is tracked there -/
structure Mod (K:PySem.W.Frag) (mg:Str->Option Value) (base:Heap):Prop where
 kin:K.In base
 glob:base.Ns mainGlobals mg
 blt:∃ mb,base.Ns builtinsNs mb∧∀ x:Str,x≠"__name__"->mb x=bootBuiltins x
 nolimit:base.NoLimit
/-- the context: a def's body (or a comprehension's block) running. base: fixed through the whole law; s₀, H₀: the entry; outer: the frames whose slots others may change (a def's callers); stack: all frames that run;
   ex: iterators that were made ahead of the entry and are walked here (a comprehension's); fn: the names whose cells were made at the entry (a def: all; a comprehension's block: its own); calm: not within an except suite; pn: pins that every state bears; xe: what is wanted of an exception that leaves the code -/
structure Cx where
 prog:Program
 w:World
 K:PySem.W.Frag
 mg:Str->Option Value
 base:Heap
 A:Around
 N:List Str
 s₀:Shared
 H₀:Hp
 env:Env
 outer:List Env
 stack:List Env
 ex:List Addr
 fn:Str->Bool
 calm:Bool
 pn:List (Addr × Obj)
 xe:Value->Shared->Prop
/-- the callers' frames -/
def frs (l:List Env):List Addr:=l.filterMap (·.frame)
abbrev Cx.fs (X:Cx):List Addr:=frs X.outer
def Vis (sc:Scope) (x:Str):Prop:=sc.names.lookup x=some .local∨sc.names.lookup x=some .cell∨sc.names.lookup x=some .free
def Loc (sc:Scope) (x:Str):Prop:=sc.names.lookup x=some .local∨sc.names.lookup x=some .cell
def Look (env:Env) (h:Heap) (m:Str->Option Value) (x:Str) (u:Value):Prop :=
 (env.kindOf x=some .local∧m x=some u)∨((env.kindOf x=some .cell∨env.kindOf x=some .free)∧∃ c,env.cells.lookup x=some c∧h.IsCell c (some u))
structure Cx.Ok (X:Cx):Prop where
 mod:Mod X.K X.mg X.base
 kind:X.env.scope.kind=.function
 glob:X.env.globals=mainGlobals
 blt:X.env.builtins=builtinsNs
 above:X.s₀.heap.objs.size≤X.env.locals
 inj:∀ x y c,X.env.cells.lookup x=some c->X.env.cells.lookup y=some c->x=y
 has:∀ x,(X.env.kindOf x=some .cell∨X.env.kindOf x=some .free)->∃ c,X.env.cells.lookup x=some c
 cab:∀ x c,X.fn x=true->X.env.cells.lookup x=some c->X.s₀.heap.objs.size≤c
 hd:X.calm=true->X.A.handled=none
 frames:X.A.frames=some X.stack
 stk:X.stack=X.outer∨(X.stack=X.env::X.outer∧X.env.frame=some X.env.locals)
 exf:∀ b ∈ X.ex,b≠X.env.locals∧∀ x c,X.env.cells.lookup x=some c->c≠b
 bs:∀ b o,X.base.get? b=some o->X.s₀.heap.get? b=some o∧X.H₀ b=none
 bsz:X.base.objs.size≤X.s₀.heap.objs.size
 noex:∀ b o,X.base.get? b=some o->b ∉ X.ex
 exfs:∀ b ∈ X.ex,b ∉ X.fs
 funs:X.s₀.heap.FunFrames X.base X.outer
 frf:∀ b ∈ X.fs,X.H₀ b=none
structure Inv (X:Cx) (pins:List (Addr × Obj)) (σ:List (Option V)) (H:Hp) (s:Shared):Prop where
 ok:X.Ok
 os:s.os=X.s₀.os
 bare:AllBare s.gens
 base:Un X.fs X.ex X.H₀ H X.s₀.heap s.heap
 loc:∃ m,s.heap.Ns X.env.locals m∧∀ (i:Nat) (x:Str) (v:V),X.N[i]?=some x->σ[i]?=some (some v)->Vis X.env.scope x->∃ u,RelV v u∧Look X.env s.heap m x u
 cell:∀ x c,X.env.cells.lookup x=some c->∃ v,s.heap.IsCell c v
 free:H X.env.locals=none
 freeC:∀ x c,X.env.cells.lookup x=some c->H c=none
 pin:∀ p ∈ X.pn++pins,s.heap.get? p.1=some p.2∧H p.1=none∧p.1≠X.env.locals∧p.1 ∉ X.fs∧∀ v,p.2.data≠.cell v
 hok:HOk X.prog X.w H s.heap
 len:σ.length=X.N.length
section
variable {X:Cx} {pins:List (Addr × Obj)} {σ:List (Option V)} {H H':Hp} {s:Shared} {h':Heap}
theorem Cx.Ok.nofr (ok:X.Ok) {b:Addr} {o:Obj} (e:X.base.get? b=some o):b ∉ X.fs:=fun hb=>by
 have:=(ok.funs.mem hb).1
 rw[e] at this;cases this
theorem Inv.bs (I:Inv X pins σ H s):∀ b o,X.base.get? b=some o->s.heap.get? b=some o∧H b=none:=fun b o e =>
 ⟨I.base.keep b o (I.ok.bs b o e).1 (I.ok.bs b o e).2 (I.ok.nofr e) (I.ok.noex b o e),I.base.free b o (I.ok.bs b o e).1 (I.ok.bs b o e).2 (I.ok.noex b o e)⟩
theorem Inv.bk (I:Inv X pins σ H s):∀ b o,X.base.get? b=some o->s.heap.get? b=some o:=fun b o e=>(I.bs b o e).1
theorem Inv.mod (I:Inv X pins σ H s):Mod X.K X.mg X.base:=I.ok.mod
theorem Inv.kIn (I:Inv X pins σ H s):X.K.In s.heap:=I.ok.mod.kin.keeps I.bk
theorem Inv.nolimit (I:Inv X pins σ H s):s.heap.NoLimit:=I.ok.mod.nolimit.keeps I.bk
/-- the frame over the base: for OpenK's rules (K.In X.base is I.mod.kin) -/
theorem Inv.fr (I:Inv X pins σ H s):∃ m,Fr X.base X.env.locals s.heap m :=
 let ⟨m,hn,_⟩:=I.loc
 ⟨m,hn,I.bk,Nat.le_trans I.ok.bsz I.ok.above⟩
theorem Inv.lt (I:Inv X pins σ H s):X.env.locals < s.heap.objs.size:=let ⟨_,hn,_⟩:=I.loc;hn.lt
theorem Inv.sz (I:Inv X pins σ H s):X.s₀.heap.objs.size≤s.heap.objs.size:=Nat.le_trans I.ok.above (Nat.le_of_lt I.lt)
theorem Inv.nofs (I:Inv X pins σ H s) {a:Addr} (h:s.heap.objs.size≤a):a ∉ X.fs:=fun hb=>by
 obtain⟨_,o,ho,_⟩:=I.ok.funs.mem hb
 exact absurd (Nat.lt_of_lt_of_le (Heap.lt_size ho) (Nat.le_trans I.sz h)) (Nat.lt_irrefl _)
theorem Inv.cne (I:Inv X pins σ H s):∀ x c,X.env.cells.lookup x=some c->c≠X.env.locals:=fun x c e z=>by
 obtain⟨v,o,ho,hd⟩:=I.cell x c e
 obtain⟨m,⟨o',es,ep,ho',hd',_⟩,_⟩:=I.loc
 rw[z,ho'] at ho;cases ho;rw[hd'] at hd;cases hd
theorem Inv.funs (I:Inv X pins σ H s):s.heap.FunFrames X.base X.outer:=by
 have all:∀ (l:List Env),(∀ b ∈ frs l,b ∈ X.fs)->X.s₀.heap.FunFrames X.base l->s.heap.FunFrames X.base l:=by
  intro l
  induction l with
  | nil=>intro _ _;trivial
  | cons env r ih =>
   intro hs hl
   obtain⟨hk,⟨L,o,hf,hn,ho,hd⟩,hr⟩:=hl
   have hL:L ∈ X.fs:=hs L (by unfold frs;rw[List.filterMap_cons,hf];exact List.mem_cons_self)
   obtain⟨sl,e⟩:=I.base.slot L o ho (I.ok.frf L hL) hL fun z=>I.ok.exfs L z hL
   exact⟨hk,⟨L,_,hf,hn,e,hd⟩,ih (fun b hb=>hs b (by unfold frs;rw[List.filterMap_cons,hf];exact List.mem_cons_of_mem _ hb)) hr⟩
 exact all X.outer (fun _ hb=>hb) I.ok.funs
/-- the frames that run, for a call -/
theorem Inv.stack (I:Inv X pins σ H s):s.heap.FunFrames X.base X.stack:=by
 rcases I.ok.stk with e | ⟨e,hf⟩
 ·rw[e];exact I.funs
 ·rw[e]
  obtain⟨m,hn,_⟩:=I.loc
  refine .cons (by rw[I.ok.kind];decide) hf hn ?_ I.funs
  exact Heap.get?_none_of_le (Nat.le_trans I.ok.bsz I.ok.above)
theorem Inv.stkSub (I:Inv X pins σ H s):∀ b ∈ frs X.stack,b ∈ X.env.locals::X.fs:=fun b hb=>by
 rcases I.ok.stk with e | ⟨e,hf⟩
 ·rw[e] at hb;exact List.mem_cons_of_mem _ hb
 ·rw[e] at hb
  unfold frs at hb
  rw[List.filterMap_cons,hf] at hb
  exact hb
theorem Inv.stkFree (I:Inv X pins σ H s):∀ b ∈ frs X.stack,H b=none:=fun b hb=>by
 rcases List.mem_cons.mp (I.stkSub b hb) with e | hb
 ·rw[e];exact I.free
 ·obtain⟨_,o,ho,_⟩:=I.ok.funs.mem hb
  exact I.base.free b o ho (I.ok.frf b hb) fun z=>I.ok.exfs b z hb
/-- THE STEP: the untracked objects but the frame and the records at ch are kept (the callers' frames up to slots), the frame's map is kept, the new abstract heap is held -/
theorem Inv.step {g':Array GenState} {t':Nat} {d':Drawn} {ch:List Addr} (I:Inv X pins σ H s)
  (hch:∀ b ∈ ch,(b ∈ X.ex∨X.s₀.heap.objs.size≤b)∧b≠X.env.locals∧(∀ x c,X.env.cells.lookup x=some c->c≠b)∧∀ p ∈ X.pn++pins,p.1≠b)
  (keep:∀ b o,b≠X.env.locals->b ∉ X.fs->b ∉ ch->s.heap.get? b=some o->H b=none->h'.get? b=some o)
  (slot:∀ b o,b≠X.env.locals->b ∈ X.fs->b ∉ ch->s.heap.get? b=some o->H b=none->∃ sl,h'.get? b=some { o with slots:=sl }) (free:∀ b o,b ∉ ch->s.heap.get? b=some o->H b=none->H' b=none)
  (there:∀ b o,b ∉ ch->s.heap.get? b=some o->∃ o',h'.get? b=some o')
  (tups:∀ b xs,H b=some (.tup xs)->H' b=some (.tup xs)) (frzs:∀ b o u,H b=some (.frz o u)->H' b=some (.frz o u)) (tbls:∀ b ps,H b=some (.tbl ps)->∃ more,H' b=some (.tbl (ps++more)))
  (ns:∀ m,s.heap.Ns X.env.locals m->h'.Ns X.env.locals m) (hok:HOk X.prog X.w H' h') (hg:AllBare g') :
  Inv X pins σ H' { s with heap:=h',gens:=g',drawn:=d',toks:=t' }:=by
 have neL:∀ b o,X.s₀.heap.get? b=some o->b≠X.env.locals:=fun b o e=>Nat.ne_of_lt (Nat.lt_of_lt_of_le (Heap.lt_size e) I.ok.above)
 have neC:∀ b o,X.s₀.heap.get? b=some o->b ∉ X.ex->b ∉ ch:=fun b o e hx hb=>by
  rcases (hch b hb).1 with z | z
  ·exact hx z
  ·exact absurd (Nat.lt_of_lt_of_le (Heap.lt_size e) z) (Nat.lt_irrefl _)
 have cellK:∀ x c,X.env.cells.lookup x=some c->∀ v,s.heap.IsCell c v->h'.IsCell c v:=fun x c e v ⟨o,ho,hd⟩=>by
  have nch:c ∉ ch:=fun z=>(hch c z).2.2.1 x c e rfl
  by_cases hc:c ∈ X.fs
  ·obtain⟨sl,q⟩:=slot c o (I.cne x c e) hc nch ho (I.freeC x c e)
   exact⟨_,q,hd⟩
  ·exact⟨o,keep c o (I.cne x c e) hc nch ho (I.freeC x c e),hd⟩
 refine⟨I.ok,I.os,hg,⟨fun b o e n hb hx=>?_,fun b o e n hb hx=>?_,fun b o e n hx=>?_,fun b o e hx=>?_,fun b xs e=>tups b xs (I.base.tups b xs e),fun b o xs e=>frzs b o xs (I.base.frzs b o xs e),fun b ps e=>?_⟩,?_,fun x c e=>?_,?_,fun x c e=>?_,fun p hp=>?_,hok,I.len⟩
 ·exact keep b o (neL b o e) hb (neC b o e hx) (I.base.keep b o e n hb hx) (I.base.free b o e n hx)
 ·obtain⟨sl,e1⟩:=I.base.slot b o e n hb hx
  obtain⟨sl',e2⟩:=slot b _ (neL b o e) hb (neC b o e hx) e1 (I.base.free b o e n hx)
  exact⟨sl',e2⟩
 ·obtain⟨o',e1⟩:=I.base.there b o e hx
  exact free b o' (neC b o e hx) e1 (I.base.free b o e n hx)
 ·obtain⟨o',e1⟩:=I.base.there b o e hx
  exact there b o' (neC b o e hx) e1
 ·obtain⟨m1,e1⟩:=I.base.tbls b ps e
  obtain⟨m2,e2⟩:=tbls b _ e1
  exact⟨m1++m2,by rw[e2,Array.append_assoc]⟩
 ·obtain⟨m,hn,hl⟩:=I.loc
  refine⟨m,ns m hn,fun i x v e1 e2 e3=>?_⟩
  obtain⟨u,r,l⟩:=hl i x v e1 e2 e3
  refine⟨u,r,?_⟩
  rcases l with l | ⟨k,c,e,z⟩
  ·exact .inl l
  ·exact .inr ⟨k,c,e,cellK x c e _ z⟩
 ·obtain⟨v,z⟩:=I.cell x c e
  exact⟨v,cellK x c e v z⟩
 ·obtain⟨m,⟨o,_,_,ho,_⟩,_⟩:=I.loc
  exact free _ o (fun z=>(hch _ z).2.1 rfl) ho I.free
 ·obtain⟨v,o,ho,hd⟩:=I.cell x c e
  exact free c o (fun z=>(hch c z).2.2.1 x c e rfl) ho (I.freeC x c e)
 ·obtain⟨e,n,ne,nf,d⟩:=I.pin p hp
  have nch:p.1 ∉ ch:=fun z=>(hch p.1 z).2.2.2 p hp rfl
  exact⟨keep p.1 p.2 ne nf nch e n,free p.1 p.2 nch e n,ne,nf,d⟩
/-- .. where the frame's own object is kept too -/
theorem Inv.un {t':Nat} (I:Inv X pins σ H s) (u:Un X.fs [] H H' s.heap h') (hok:HOk X.prog X.w H' h'):Inv X pins σ H' { s with heap:=h',toks:=t' }:=by
 obtain⟨m,⟨o,es,ep,ho,r⟩,_⟩:=id I.loc
 obtain⟨sl,hL⟩:=u.any ho I.free (by simp)
 exact I.step (g':=s.gens) (d':=s.drawn) (ch:=[]) (fun _ z=>nomatch z) (fun b o _ hb _ e n=>u.keep b o e n hb (by simp)) (fun b o _ hb _ e n=>u.slot b o e n hb (by simp)) (fun b o _ e n=>u.free b o e n (by simp)) (fun b o _ e=>u.there b o e (by simp)) u.tups u.frzs u.tbls (fun m' hm=>by
  obtain⟨o',es',ep',ho',r'⟩:=hm
  rw[ho] at ho';cases ho'
  exact⟨_,es',ep',hL,r'⟩) hok I.bare
/-- behind a call (or a comprehension's block): the slots of this frame may have changed too, the records at ch may have turned -/
theorem Inv.call {g':Array GenState} {t':Nat} {d':Drawn} {ch:List Addr} (I:Inv X pins σ H s) (u:Un (frs X.stack) ch H H' s.heap h') (hok:HOk X.prog X.w H' h') (hg:AllBare g')
  (hch:∀ b ∈ ch,(b ∈ X.ex∨X.s₀.heap.objs.size≤b)∧b≠X.env.locals∧(∀ x c,X.env.cells.lookup x=some c->c≠b)∧∀ p ∈ X.pn++pins,p.1≠b) :
  Inv X pins σ H' { s with heap:=h',gens:=g',drawn:=d',toks:=t' }:=by
 obtain⟨m,⟨o,es,ep,ho,r⟩,_⟩:=id I.loc
 obtain⟨sl,hL⟩:=u.any ho I.free fun z=>(hch _ z).2.1 rfl
 exact I.step (ch:=ch) hch (fun b o hL hb hc e n=>u.keep b o e n (fun z=>(List.mem_cons.mp (I.stkSub b z)).elim hL hb) hc) (fun b o _ _ hc e n=>u.any e n hc) (fun b o hc e n=>u.free b o e n hc) (fun b o hc e=>u.there b o e hc) u.tups u.frzs u.tbls (fun m' hm=>by
  obtain⟨o',es',ep',ho',r'⟩:=hm
  rw[ho] at ho';cases ho'
  exact⟨_,es',ep',hL,r'⟩) hok hg
/-- an untracked record of ours (an iterator) has turned -/
theorem Inv.turned {t':Nat} {it:Addr} (I:Inv X pins σ H s) (k:∀ b o,b≠it->s.heap.get? b=some o->h'.get? b=some o) (hn:H it=none) (hL:it≠X.env.locals)
  (h1:it ∈ X.ex∨X.s₀.heap.objs.size≤it) (h2:∀ x c,X.env.cells.lookup x=some c->c≠it) (h3:∀ p ∈ X.pn++pins,p.1≠it):Inv X pins σ H { s with heap:=h',toks:=t' }:=by
 have nit:∀ b u,H b=some u->b≠it:=fun b u e z=>by rw[z,hn] at e;cases e
 refine I.step (g':=s.gens) (d':=s.drawn) (ch:=[it]) (fun b hb=>?_) (fun b o _ _ hc e _=>k b o (fun z=>hc (by simp [z])) e) (fun b o _ _ hc e _=>⟨o.slots,k b o (fun z=>hc (by simp [z])) e⟩) (fun _ _ _ _ n=>n)
  (fun b o hc e=>⟨o,k b o (fun z=>hc (by simp [z])) e⟩) (fun _ _ e=>e) (fun _ _ _ e=>e) (fun b ps e=>⟨#[],by rw[e];simp⟩) (fun m hm=>?_) (fun b u e=>?_) I.bare
 ·have e:b=it:=by simpa using hb
  subst e
  exact⟨h1,hL,h2,h3⟩
 ·obtain⟨o,es,ep,ho,r⟩:=hm
  exact⟨o,es,ep,k _ o (Ne.symm hL) ho,r⟩
 ·refine (I.hok b u e).stay (fun c v hc q=>k c v ?_ q) (fun _ q=>q) fun _ _ q=>q
  rcases hc with z | z
  ·rw[z];exact nit b u e
  ·exact nit c _ z
theorem Inv.tok (I:Inv X pins σ H s) (t:Nat):Inv X pins σ H { s with toks:=t }:=I.un (h':=s.heap) (t':=t) Un.refl I.hok
/-- all objects kept -/
theorem Inv.kept {t':Nat} (I:Inv X pins σ H s) (k:∀ b u,s.heap.get? b=some u->h'.get? b=some u):Inv X pins σ H { s with heap:=h',toks:=t' }:=I.un (Un.kept k) (I.hok.kept k)
/-- a new object laid and tracked -/
theorem Inv.laid {a:Addr} {o:HO} {t':Nat} (I:Inv X pins σ H s) (k:∀ b u,s.heap.get? b=some u->h'.get? b=some u) (hp:s.heap.objs.size≤a) (new:ObjOk X.prog X.w (upd H a o) h' a o) :
  Inv X pins σ (upd H a o) { s with heap:=h',toks:=t' }:=I.un (Un.laid k hp (I.hok.fresh hp)) (I.hok.laid k hp new)
/-- an object written -/
theorem Inv.write {x e:Addr} {o:HO} {t':Nat} (I:Inv X pins σ H s) (mu:Mut (H x)) (he:e=x∨H e=some (.own x)) (k:∀ b u,b≠e->s.heap.get? b=some u->h'.get? b=some u) (heo:∃ u,h'.get? e=some u)
  (new:ObjOk X.prog X.w (upd H x o) h' x o):Inv X pins σ (upd H x o) { s with heap:=h',toks:=t' }:=I.un (Un.write mu he k heo) (I.hok.write mu he k heo new)
theorem Inv.pins_of {pins':List (Addr × Obj)} (I:Inv X pins σ H s) (h:∀ p ∈ pins',s.heap.get? p.1=some p.2∧H p.1=none∧p.1≠X.env.locals∧p.1 ∉ X.fs∧∀ v,p.2.data≠.cell v):Inv X pins' σ H s :=
 ⟨I.ok,I.os,I.bare,I.base,I.loc,I.cell,I.free,I.freeC,fun p hp=>(List.mem_append.mp hp).elim (fun z=>I.pin p (List.mem_append_left _ z)) (h p),I.hok,I.len⟩
theorem nodup_ix {N:List Str} (hN:N.Nodup) {i j:Nat} {x:Str} (a:N[i]?=some x) (b:N[j]?=some x):i=j:=by
 obtain⟨h1,e1⟩:=List.getElem?_eq_some_iff.mp a
 obtain⟨h2,e2⟩:=List.getElem?_eq_some_iff.mp b
 exact (List.getElem_inj hN).mp (e1.trans e2.symm)
/-- a name is stored; what changed -/
theorem store_ok2 {M:Model} {A:Around} {E:Value->Shared->Prop} {i:Nat} {x:Str} {v:V} {u:Value} {Q:Unit->Shared->Prop} (I:Inv X pins σ H s) (hN:X.N.Nodup) (hi:X.N[i]?=some x) (hx:Loc X.env.scope x) (r:RelV v u)
  (h:∀ s',Inv X pins (σ.set i (some v)) H s'->(∃ a,Heap.SameBut a s.heap s'.heap∧(a=X.env.locals∨X.env.cells.lookup x=some a))->Q () s') (hf:X.fn x=true∨X.env.scope.names.lookup x=some .local:=by first | exact .inl rfl | exact .inr rfl | assumption):wpAny M A (storeName X.env x u) Q E s:=by
 obtain⟨m,hn,hl⟩:=id I.loc
 have hcls:(X.env.scope.kind == .class || (X.env.scope.kind == .module && X.env.locals != X.env.globals))=false:=by rw[I.ok.kind];rfl
 have hiσ:i < σ.length:=by rw[I.len];exact (List.getElem?_eq_some_iff.mp hi).1
 have cne:=I.cne
 have tracked:∀ {a:Addr} {h':Heap},(∃ o,s.heap.get? a=some o∧H a=none)->Heap.SameBut a s.heap h'->HOk X.prog X.w H h':=fun {a h'} ha hs b ob e=>by
  obtain⟨_,_,hfree⟩:=ha
  refine (I.hok b ob e).stay (fun c w' hc q=>(hs.2 c ?_).trans q) (fun _ q=>q) fun _ _ q=>q
  rintro rfl
  rcases hc with rfl | hc
  ·rw[hfree] at e;cases e
  ·rw[hfree] at hc;cases hc
 rcases hx with hk | hk
 ·refine wpAny_storeName_local hk hn (fun h' hn' hs=>?_) hcls
  obtain⟨oL,_,_,hoL,_⟩:=id hn
  refine h _ ⟨I.ok,I.os,I.bare,⟨fun b o e n hb hx=>?_,fun b o e n hb hx=>?_,I.base.free,fun b o e hx=>?_,I.base.tups,I.base.frzs,I.base.tbls⟩,⟨_,hn',fun j y v' e1 e2 e3=>?_⟩,fun y c e=>?_,I.free,I.freeC,fun p hp=>?_,tracked ⟨oL,hoL,I.free⟩ hs,by simpa using I.len⟩ ⟨_,hs,.inl rfl⟩
  ·exact (hs.2 b (Nat.ne_of_lt (Nat.lt_of_lt_of_le (Heap.lt_size e) I.ok.above))).trans (I.base.keep b o e n hb hx)
  ·obtain⟨sl,e1⟩:=I.base.slot b o e n hb hx
   exact⟨sl,(hs.2 b (Nat.ne_of_lt (Nat.lt_of_lt_of_le (Heap.lt_size e) I.ok.above))).trans e1⟩
  ·obtain⟨o',e1⟩:=I.base.there b o e hx
   exact⟨o',(hs.2 b (Nat.ne_of_lt (Nat.lt_of_lt_of_le (Heap.lt_size e) I.ok.above))).trans e1⟩
  ·by_cases hj:j=i
   ·subst hj
    rw[hi] at e1;cases e1
    rw[List.getElem?_set_self hiσ] at e2
    cases e2
    exact⟨u,r,.inl ⟨hk,by simp⟩⟩
   ·rw[List.getElem?_set_ne (Ne.symm hj)] at e2
    obtain⟨u',r',q⟩:=hl j y v' e1 e2 e3
    refine⟨u',r',?_⟩
    rcases q with ⟨k,e⟩ | ⟨k,c,e,z⟩
    ·refine .inl ⟨k,?_⟩
     have:y≠x:=fun e=>hj (nodup_ix hN e1 (e ▸ hi))
     simp [this,e]
    ·exact .inr ⟨k,c,e,z.sameBut hs (cne y c e)⟩
  ·obtain⟨w',z⟩:=I.cell y c e
   exact⟨w',z.sameBut hs (cne y c e)⟩
  ·obtain⟨e,n,ne,nf,d⟩:=I.pin p hp
   exact⟨(hs.2 p.1 ne).trans e,n,ne,nf,d⟩
 ·have hfn:X.fn x=true:=by
   rcases hf with z | z
   ·exact z
   ·rw[z] at hk;cases hk
  obtain⟨c,hc⟩:=I.ok.has x (.inl hk)
  obtain⟨w',z⟩:=I.cell x c hc
  refine wpAny_storeName_cell I.ok.kind hk hc z (fun h' hc' hs=>?_)
  obtain⟨oc,hoc,hocd⟩:=id z
  refine h { s with heap:=h' } ⟨I.ok,I.os,I.bare,⟨fun b o e n hb hx=>?_,fun b o e n hb hx=>?_,I.base.free,fun b o e hx=>?_,I.base.tups,I.base.frzs,I.base.tbls⟩,⟨m,hn.sameBut hs (Ne.symm (cne x c hc)),fun j y v' e1 e2 e3=>?_⟩,fun y c' e=>?_,I.free,I.freeC,fun p hp=>?_,tracked ⟨oc,hoc,I.freeC x c hc⟩ hs,by simpa using I.len⟩ ⟨c,hs,.inr hc⟩
  ·exact (hs.2 b (Nat.ne_of_lt (Nat.lt_of_lt_of_le (Heap.lt_size e) (I.ok.cab x c hfn hc)))).trans (I.base.keep b o e n hb hx)
  ·obtain⟨sl,e1⟩:=I.base.slot b o e n hb hx
   exact⟨sl,(hs.2 b (Nat.ne_of_lt (Nat.lt_of_lt_of_le (Heap.lt_size e) (I.ok.cab x c hfn hc)))).trans e1⟩
  ·obtain⟨o',e1⟩:=I.base.there b o e hx
   exact⟨o',(hs.2 b (Nat.ne_of_lt (Nat.lt_of_lt_of_le (Heap.lt_size e) (I.ok.cab x c hfn hc)))).trans e1⟩
  ·by_cases hj:j=i
   ·subst hj
    rw[hi] at e1;cases e1
    rw[List.getElem?_set_self hiσ] at e2
    cases e2
    exact⟨u,r,.inr ⟨.inl hk,c,hc,hc'⟩⟩
   ·rw[List.getElem?_set_ne (Ne.symm hj)] at e2
    obtain⟨u',r',q⟩:=hl j y v' e1 e2 e3
    refine⟨u',r',?_⟩
    rcases q with q | ⟨k,c',e,z'⟩
    ·exact .inl q
    ·refine .inr ⟨k,c',e,z'.sameBut hs ?_⟩
     rintro rfl
     exact hj (nodup_ix hN e1 (I.ok.inj _ _ _ e hc ▸ hi))
  ·by_cases hcc:c'=c
   ·subst hcc;exact⟨_,hc'⟩
   ·obtain⟨w2,z2⟩:=I.cell y c' e
    exact⟨w2,z2.sameBut hs hcc⟩
  ·obtain⟨e,n,ne,nf,d⟩:=I.pin p hp
   refine⟨(hs.2 p.1 ?_).trans e,n,ne,nf,d⟩
   intro q
   rw[q,hoc] at e
   have q':oc=p.2:=Option.some.inj e
   exact d w' (by rw[← q'];exact hocd)
theorem store_ok {M:Model} {A:Around} {E:Value->Shared->Prop} {i:Nat} {x:Str} {v:V} {u:Value} {Q:Unit->Shared->Prop} (I:Inv X pins σ H s) (hN:X.N.Nodup) (hi:X.N[i]?=some x) (hx:Loc X.env.scope x) (r:RelV v u)
  (h:∀ s',Inv X pins (σ.set i (some v)) H s'->Q () s') (hf:X.fn x=true∨X.env.scope.names.lookup x=some .local:=by first | exact .inl rfl | exact .inr rfl | assumption):wpAny M A (storeName X.env x u) Q E s :=
 store_ok2 I hN hi hx r (fun s' I' _=>h s' I') hf
/-- behind a call or a block, the state as it is -/
theorem Inv.call' {s':Shared} {ch:List Addr} (I:Inv X pins σ H s) (ho:s'.os=s.os) (u:Un (frs X.stack) ch H H' s.heap s'.heap) (hok:HOk X.prog X.w H' s'.heap) (hg:AllBare s'.gens)
  (hch:∀ b ∈ ch,(b ∈ X.ex∨X.s₀.heap.objs.size≤b)∧b≠X.env.locals∧(∀ x c,X.env.cells.lookup x=some c->c≠b)∧∀ p ∈ X.pn++pins,p.1≠b):Inv X pins σ H' s':=by
 obtain⟨h',g',d',t',o'⟩:=s'
 have e:o'=s.os:=ho
 subst e
 exact I.call (g':=g') (t':=t') (d':=d') u hok hg hch
end
/-- an exception: its class, its own dict's address (where it has one), the abstract heap behind it -/
abbrev XK:=Value->Option Addr->Hp->Prop
abbrev St:=List (Option V)
abbrev VK:=V->Hp->Prop
/-- an expression's reading; a test's; an argument list's -/
abbrev TE:=St->Hp->VK->Prop
abbrev TT:=St->Hp->(Bool->Hp->Prop)->Prop
abbrev TA:=St->Hp->(List V->Hp->Prop)->Prop
/-- what is wanted behind a statement -/
structure Ends where
 nx:St->Hp->Prop
 rt:VK
 bk:St->Hp->Prop:=fun _ _=>False
 ct:St->Hp->Prop:=fun _ _=>False
abbrev TS:=Ends->St->Hp->Prop
def EP (X:Cx) (pins:List (Addr × Obj)) (σ:St) (Q:VK) (u:Value) (s':Shared):Prop:=∃ v H',Inv X pins σ H' s'∧RelV v u∧Q v H'
def TP (X:Cx) (pins:List (Addr × Obj)) (σ:St) (Q:Bool->Hp->Prop) (b:Bool) (s':Shared):Prop:=∃ H',Inv X pins σ H' s'∧Q b H'
def AP (X:Cx) (pins:List (Addr × Obj)) (σ:St) (Q:List V->Hp->Prop) (us:List Value) (s':Shared):Prop:=∃ vs H',Inv X pins σ H' s'∧Vals vs us∧Q vs H'
def SP (X:Cx) (pins:List (Addr × Obj)) (D:Ends) (f:Flow) (s':Shared):Prop :=
 match f with
 | .next=>∃ σ' H',Inv X pins σ' H' s'∧D.nx σ' H'
 | .brk=>∃ σ' H',Inv X pins σ' H' s'∧D.bk σ' H'
 | .cont=>∃ σ' H',Inv X pins σ' H' s'∧D.ct σ' H'
 | .ret u=>∃ v σ' H',Inv X pins σ' H' s'∧RelV v u∧D.rt v H'
def PE (X:Cx) (e:Expr) (t:TE):Prop :=
 ∀ (pins:List (Addr × Obj)) (s:Shared) (σ:St) (H:Hp) (Q:VK),Inv X pins σ H s->t σ H Q->wpAny (model X.prog X.w) X.A (eval e X.env) (EP X pins σ Q) X.xe s
def PT (X:Cx) (e:Expr) (t:TT):Prop :=
 ∀ (pins:List (Addr × Obj)) (s:Shared) (σ:St) (H:Hp) (Q:Bool->Hp->Prop),Inv X pins σ H s->t σ H Q->wpAny (model X.prog X.w) X.A (isTrue e X.env (eval e X.env)) (TP X pins σ Q) X.xe s
/-- a test whatever its 'whole' is (and, or) -/
def PW (X:Cx) (e:Expr) (t:TT):Prop :=
 ∀ (whole:Sem Value) (pins:List (Addr × Obj)) (s:Shared) (σ:St) (H:Hp) (Q:Bool->Hp->Prop),Inv X pins σ H s->t σ H Q->wpAny (model X.prog X.w) X.A (isTrue e X.env whole) (TP X pins σ Q) X.xe s
theorem PW.pt {X:Cx} {e:Expr} {t:TT} (h:PW X e t):PT X e t:=h _
/-- an argument list (no star), from the left -/
def PA (X:Cx) (es:List Expr) (t:TA):Prop :=
 ∀ (pos:Pos) (pins:List (Addr × Obj)) (s:Shared) (σ:St) (H:Hp) (Q:List V->Hp->Prop),Inv X pins σ H s->t σ H Q->wpAny (model X.prog X.w) X.A (spliced (backTo pos (starEach es X.env))) (AP X pins σ Q) X.xe s
def PS (X:Cx) (st:Stmt) (t:TS):Prop :=
 ∀ (pins:List (Addr × Obj)) (s:Shared) (σ:St) (H:Hp) (D:Ends),Inv X pins σ H s->t D σ H->wpAny (model X.prog X.w) X.A (exec st X.env) (SP X pins D) X.xe s
def PSs (X:Cx) (st:List Stmt) (t:TS):Prop :=
 ∀ (pins:List (Addr × Obj)) (s:Shared) (σ:St) (H:Hp) (D:Ends),Inv X pins σ H s->t D σ H->wpAny (model X.prog X.w) X.A (execs st X.env) (SP X pins D) X.xe s
/-- weaken the end -/
theorem thn {α:Type} {t:Sem α} {Q Q':α->Shared->Prop} {M:Model} {A:Around} {E:Value->Shared->Prop} {s:Shared} (h:wpAny M A t Q E s) (hQ:∀ a s,Q a s->Q' a s):wpAny M A t Q' E s:=wpAny_mono h hQ fun _ _ x=>x
end L2
namespace L2
open PySem PySem.Spec PyProof.Rows
section
variable {X:Cx}
def tVar (i:Nat):TE:=fun σ H Q=>∃ v,σ[i]?=some (some v)∧Q v H
def tC (v:V):TE:=fun _ H Q=>Q v H
theorem pe_var {i:Nat} {x:Str} {pos:Pos} (hN:X.N[i]?=some x) (hv:Vis X.env.scope x) (hd:(x == ("__debug__":Str))=false:=by decide) (hcd:(x == ("__classdict__":Str))=false:=by decide):PE X (.Name x pos) (tVar i):=by
 intro pins s σ H Q I h
 obtain⟨v,e,h⟩:=h
 obtain⟨m,hn,hl⟩:=I.loc
 obtain⟨u,r,l⟩:=hl i x v hN e hv
 have fin:EP X pins σ Q u s:=⟨v,H,I,r,h⟩
 rcases l with ⟨hk,hm⟩ | ⟨hk,c,hc,hcell⟩
 ·exact wpAny_Name (wpAny_loadName_local I.ok.kind hk hn hm fin) hd
 ·rcases hk with hk | hk
  ·exact wpAny_Name (wpAny_loadName_cell I.ok.kind hk hc hcell fin) hd
  ·exact wpAny_Name (wpAny_loadName_free I.ok.kind hk hc hcell fin hcd) hd
theorem pe_int {i j pos}:PE X (.Constant (.int i) j pos) (tC (.int i)):=fun _ _ _ H _ I h=>wpAny_Constant_int ⟨.int i,H,I.tok _,⟨_,rfl⟩,h⟩
theorem pe_bl {b j pos}:PE X (.Constant (.bool b) j pos) (tC (.bl b)):=fun _ _ _ H _ I h=>Constant_bool ⟨.bl b,H,I,rfl,h⟩
theorem pe_non {j pos}:PE X (.Constant .none j pos) (tC .non):=fun _ _ _ H _ I h=>Constant_none ⟨.non,H,I,rfl,h⟩
theorem pe_str {x j pos}:PE X (.Constant (.str x) j pos) (tC (.str x)):=fun _ _ _ H _ I h=>Calls.Constant_str ⟨.str x,H,I.tok _,⟨_,rfl⟩,h⟩
/-- a global name of the def -/
def Gl (X:Cx) (x:Str):Prop:=X.env.kindOf x=some .globalImplicit
theorem ld_glob {E:Value->Shared->Prop} {pins:List (Addr × Obj)} {s:Shared} {σ:St} {H:Hp} {x:Str} {u:Value} {pos:Pos} {Q:Value->Shared->Prop} (I:Inv X pins σ H s) (hg:Gl X x) (hm:X.mg x=some u) (h:Q u s)
  (hd:(x == ("__debug__":Str))=false:=by decide):wpAny (model X.prog X.w) X.A (eval (.Name x pos) X.env) Q E s :=
 Calls.Name_function_global I.ok.kind hg (Calls.loadGlobal_global (by rw[I.ok.glob];exact I.mod.glob.keeps I.bk) hm h) hd
theorem ld_blt {E:Value->Shared->Prop} {pins:List (Addr × Obj)} {s:Shared} {σ:St} {H:Hp} {x:Str} {u:Value} {pos:Pos} {Q:Value->Shared->Prop} (I:Inv X pins σ H s) (hg:Gl X x) (hm:X.mg x=none) (hv:bootBuiltins x=some u) (h:Q u s)
  (hn:x≠"__name__":=by decide) (hd:(x == ("__debug__":Str))=false:=by decide):wpAny (model X.prog X.w) X.A (eval (.Name x pos) X.env) Q E s:=by
 obtain⟨mb,h1,h2⟩:=I.mod.blt
 exact Calls.Name_function_global I.ok.kind hg (Calls.loadGlobal_builtin (by rw[I.ok.glob];exact I.mod.glob.keeps I.bk) hm (by rw[I.ok.blt];exact h1.keeps I.bk) ((h2 x hn).trans hv) h) hd
theorem pe_bltn {x:Str} {v:V} {u:Value} {pos:Pos} (hg:Gl X x) (hm:X.mg x=none) (hv:bootBuiltins x=some u) (r:RelV v u) (hn:x≠"__name__":=by decide) (hd:(x == ("__debug__":Str))=false:=by decide):PE X (.Name x pos) (tC v) :=
 fun _ _ _ H _ I h=>ld_blt I hg hm hv ⟨v,H,I,r,h⟩ hn hd
variable {a b:Expr} {ta tb:TE} {pos:Pos}
/-- a comparison as a value, as a test -/
def tB (t:TE):TT:=fun σ H Q=>t σ H fun x H1=>∃ c,x=.bl c∧Q c H1
/-- an expression whose value is a bool, as a test -/
theorem pt_val {e:Expr} {t:TE} (h:PE X e t) (he:∀ whole,isTrue e X.env whole=(do let v ← whole;standAt e.pos;holding [v] (truthy v)):=by intro _;rfl):PT X e (tB t):=by
 intro pins s σ H Q I hw
 refine isTrue_plain (thn (h pins s σ H _ I hw) fun v s1 ⟨x,H1,I1,r1,q1⟩=>?_) (he _)
 obtain⟨d,rfl,q⟩:=q1
 cases r1
 exact wpAny_truthy_bool ⟨H1,I1,q⟩
variable {tA tB':TT} {rest:List Expr}
def tAnd (t u:TT):TT:=fun σ H Q=>t σ H fun c H1=>if c=true then u σ H1 Q else Q false H1
def tOr (t u:TT):TT:=fun σ H Q=>t σ H fun c H1=>if c=true then Q true H1 else u σ H1 Q
def tNot (t:TT):TT:=fun σ H Q=>t σ H fun c H1=>Q (!c) H1
theorem pw_and1 (ha:PT X a tA):PW X (.BoolOp .And [a] pos) tA:=by
 intro wh pins s σ H Q I h
 refine isTrue_and (thn (ha pins s σ H Q I h) fun c s1 e=>?_)
 cases c with
 | true=>exact isTrue_and_nil e
 | false=>exact e
theorem pw_or1 (ha:PT X a tA):PW X (.BoolOp .Or [a] pos) tA:=by
 intro wh pins s σ H Q I h
 refine isTrue_or (thn (ha pins s σ H Q I h) fun c s1 e=>?_)
 cases c with
 | false=>exact isTrue_or_nil e
 | true=>exact e
theorem pw_and (ha:PT X a tA) (hb:PW X (.BoolOp .And (b::rest) pos) tB'):PW X (.BoolOp .And (a::b::rest) pos) (tAnd tA tB'):=by
 intro wh pins s σ H Q I h
 refine isTrue_and (thn (ha pins s σ H _ I h) fun c s1 ⟨H1,I1,q1⟩=>?_)
 cases c with
 | true=>exact hb wh pins s1 σ H1 Q I1 q1
 | false=>exact⟨H1,I1,q1⟩
theorem pw_or (ha:PT X a tA) (hb:PW X (.BoolOp .Or (b::rest) pos) tB'):PW X (.BoolOp .Or (a::b::rest) pos) (tOr tA tB'):=by
 intro wh pins s σ H Q I h
 refine isTrue_or (thn (ha pins s σ H _ I h) fun c s1 ⟨H1,I1,q1⟩=>?_)
 cases c with
 | true=>exact⟨H1,I1,q1⟩
 | false=>exact hb wh pins s1 σ H1 Q I1 q1
theorem pt_not (ha:PT X a tA):PT X (.UnaryOp .Not a pos) (tNot tA):=by
 intro pins s σ H Q I h
 exact isTrue_not (ha pins s σ H (fun c H1=>Q (!c) H1) I h)
/-- .. as values (bools) -/
def tAndV (ta tb:TE):TE:=fun σ H Q=>ta σ H fun x H1=>∃ c,x=.bl c∧if c=true then tb σ H1 Q else Q (.bl false) H1
def tOrV (ta tb:TE):TE:=fun σ H Q=>ta σ H fun x H1=>∃ c,x=.bl c∧if c=true then Q (.bl true) H1 else tb σ H1 Q
def tNotV (ta:TE):TE:=fun σ H Q=>ta σ H fun x H1=>∃ c,x=.bl c∧Q (.bl (!c)) H1
theorem pe_one {op} {t:TE} (h:PE X a t):PE X (.BoolOp op [a] pos) t:=fun pins s σ H Q I hw=>BoolOp_one (h pins s σ H Q I hw)
theorem pe_and (ha:PE X a ta) (hb:PE X (.BoolOp .And (b::rest) pos) tb):PE X (.BoolOp .And (a::b::rest) pos) (tAndV ta tb):=by
 intro pins s σ H Q I h
 refine BoolOp_and (thn (ha pins s σ H _ I h) fun v s1 ⟨x,H1,I1,r1,q1⟩=>?_)
 obtain⟨c,rfl,q1⟩:=q1
 cases r1
 refine wpAny_truthy_bool ?_
 cases c with
 | true=>exact hb pins s1 σ H1 Q I1 q1
 | false=>exact⟨.bl false,H1,I1,rfl,q1⟩
theorem pe_or (ha:PE X a ta) (hb:PE X (.BoolOp .Or (b::rest) pos) tb):PE X (.BoolOp .Or (a::b::rest) pos) (tOrV ta tb):=by
 intro pins s σ H Q I h
 refine BoolOp_or (thn (ha pins s σ H _ I h) fun v s1 ⟨x,H1,I1,r1,q1⟩=>?_)
 obtain⟨c,rfl,q1⟩:=q1
 cases r1
 refine wpAny_truthy_bool ?_
 cases c with
 | false=>exact hb pins s1 σ H1 Q I1 q1
 | true=>exact⟨.bl true,H1,I1,rfl,q1⟩
theorem pe_not (ha:PE X a ta):PE X (.UnaryOp .Not a pos) (tNotV ta):=by
 intro pins s σ H Q I h
 refine UnaryOp_ (thn (ha pins s σ H _ I h) fun v s1 ⟨x,H1,I1,r1,q1⟩=>?_)
 obtain⟨c,rfl,q1⟩:=q1
 cases r1
 exact not_of (wpAny_truthy_bool ⟨.bl (!c),H1,I1,rfl,q1⟩)
/-- a if t else b -/
def tIf (t:TT) (ta tb:TE):TE:=fun σ H Q=>t σ H fun c H1=>if c=true then ta σ H1 Q else tb σ H1 Q
theorem pe_ifExp {c:Expr} (hc:PT X c tA) (ha:PE X a ta) (hb:PE X b tb):PE X (.IfExp c a b pos) (tIf tA ta tb):=by
 intro pins s σ H Q I h
 refine wpAny_IfExp (thn (hc pins s σ H _ I h) fun d s1 ⟨H1,I1,q1⟩=>?_)
 cases d with
 | true=>exact ha pins s1 σ H1 Q I1 q1
 | false=>exact hb pins s1 σ H1 Q I1 q1
end
end L2
namespace L2
open PySem PySem.Spec PyProof.Rows
def SqL (K:PySem.W.Frag) (H:Hp) (a:Addr) (xs:List V):Prop :=
 Rd H a (.lst xs) ∨
  ∃ (o:Obj) (its:Array Value) (n:Nat),K.lookup a=some o∧o.cls=.type "list"∧o.dict=none∧o.data=.seq its n∧its.size≤sizeLine∧Vals xs its.toList
def SqT (K:PySem.W.Frag) (H:Hp) (a:Addr) (xs:List V):Prop :=
 Rd H a (.tup xs) ∨
  ∃ (o:Obj) (its:Array Value) (n:Nat),K.lookup a=some o∧o.cls=.type "tuple"∧o.data=.seq its n∧its.size≤sizeLine∧Vals xs its.toList
def absV:Value->Option V
 | .none=>some .non
 | .bool b=>some (.bl b)
 | .int i _=>some (.int i)
 | .str x _=>some (.str x)
 | .bytes b _=>some (.byt b)
 | .float b _=>some (.flt b)
 | .ref a=>some (.ref a)
 | .type n=>some (.ty n)
 | _=>none
theorem RelV.abs {x:V} {u:Value} (r:RelV x u):absV u=some x:=by
 cases x with
 | non=>cases r;rfl
 | bl _=>cases r;rfl
 | int _=>obtain⟨t,rfl⟩:=r;rfl
 | str _=>obtain⟨t,rfl⟩:=r;rfl
 | byt _=>obtain⟨t,rfl⟩:=r;rfl
 | flt _=>obtain⟨t,rfl⟩:=r;rfl
 | ref _=>cases r;rfl
 | ty _=>cases r;rfl
theorem RelV.inj {x y:V} {u:Value} (r:RelV x u) (q:RelV y u):x=y:=Option.some.inj (r.abs.symm.trans q.abs)
theorem Vals.inj:∀ {xs ys:List V} {us:List Value},Vals xs us->Vals ys us->xs=ys
 | _,_,_,.nil,.nil=>rfl
 | _,_,_,.cons r t,.cons r' t'=>by rw[r.inj r',Vals.inj t t']
section
variable {X:Cx} {pins:List (Addr × Obj)} {σ:St} {H:Hp} {s:Shared} {a:Addr} {xs ys:List V}
theorem SqL.of {K:PySem.W.Frag} (h:H a=some (.lst xs)):SqL K H a xs:=.inl (.inl h)
theorem SqT.of {K:PySem.W.Frag} (h:H a=some (.tup xs)):SqT K H a xs:=.inl (.inl h)
theorem Inv.list (I:Inv X pins σ H s) (h:SqL X.K H a xs):∃ its:List Value,Vals xs its∧PlainL s.heap a its.toArray∧xs.length≤sizeLine:=by
 rcases h with h | ⟨o,its,n,hk,hc,hd,hs,hz,r⟩
 ·obtain⟨z,its,n,r,e⟩:=h.ok I.hok
  exact⟨its,r,⟨_,n,e,rfl,rfl,rfl⟩,z⟩
 ·refine⟨its.toList,r,⟨o,n,I.kIn a o hk,hc,hd,by simpa using hs⟩,?_⟩
  have e:=r.length
  simp only [Array.length_toList] at e
  omega
theorem Inv.tuple (I:Inv X pins σ H s) (h:SqT X.K H a xs):∃ its:List Value,Vals xs its∧IsTup s.heap a its.toArray∧xs.length≤sizeLine:=by
 rcases h with h | ⟨o,its,n,hk,hc,hs,hz,r⟩
 ·obtain⟨z,its,r,p⟩:=h.ok I.hok
  exact⟨its,r,p.tup,z⟩
 ·refine⟨its.toList,r,⟨o,I.kIn a o hk,hc,n,by simpa using hs⟩,?_⟩
  have e:=r.length
  simp only [Array.length_toList] at e
  omega
theorem Inv.list_inj (I:Inv X pins σ H s) (h:SqL X.K H a xs) (h':SqL X.K H a ys):xs=ys:=by
 obtain⟨its,r,⟨o,n,e,_,_,d⟩,_⟩:=I.list h
 obtain⟨its',r',⟨o',n',e',_,_,d'⟩,_⟩:=I.list h'
 rw[e] at e';cases e'
 rw[d] at d'
 injection d' with d1 _
 have:its=its':=by simpa using congrArg Array.toList d1
 subst this
 exact r.inj r'
theorem Inv.tuple_inj (I:Inv X pins σ H s) (h:SqT X.K H a xs) (h':SqT X.K H a ys):xs=ys:=by
 obtain⟨its,r,⟨o,e,_,n,d⟩,_⟩:=I.tuple h
 obtain⟨its',r',⟨o',e',_,n',d'⟩,_⟩:=I.tuple h'
 rw[e] at e';cases e'
 rw[d] at d'
 injection d' with d1 _
 have:its=its':=by simpa using congrArg Array.toList d1
 subst this
 exact r.inj r'
end
abbrev Cx.wish (X:Cx) (E:Value->Shared->Prop):Cx:={ X with xe:=E }
/-- no exception leaves -/
abbrev Cx.nox (X:Cx):Cx:=X.wish fun _ _=>False
theorem Cx.Ok.wish {X:Cx} (ok:X.Ok) (E:Value->Shared->Prop):(X.wish E).Ok :=
 ⟨ok.mod,ok.kind,ok.glob,ok.blt,ok.above,ok.inj,ok.has,ok.cab,ok.hd,ok.frames,ok.stk,ok.exf,ok.bs,ok.bsz,ok.noex,ok.exfs,ok.funs,ok.frf⟩
theorem Cx.Ok.unwish {X:Cx} {E:Value->Shared->Prop} (ok:(X.wish E).Ok):X.Ok :=
 ⟨ok.mod,ok.kind,ok.glob,ok.blt,ok.above,ok.inj,ok.has,ok.cab,ok.hd,ok.frames,ok.stk,ok.exf,ok.bs,ok.bsz,ok.noex,ok.exfs,ok.funs,ok.frf⟩
section
variable {X:Cx} {pins:List (Addr × Obj)} {σ:St} {H:Hp} {s:Shared} {E:Value->Shared->Prop}
theorem Inv.wish (I:Inv X pins σ H s) (E:Value->Shared->Prop):Inv (X.wish E) pins σ H s:=⟨I.ok.wish E,I.os,I.bare,I.base,I.loc,I.cell,I.free,I.freeC,I.pin,I.hok,I.len⟩
theorem Inv.unwish (I:Inv (X.wish E) pins σ H s):Inv X pins σ H s:=⟨I.ok.unwish,I.os,I.bare,I.base,I.loc,I.cell,I.free,I.freeC,I.pin,I.hok,I.len⟩
theorem SP.unwish {D:Ends} {f:Flow} {s':Shared} (h:SP (X.wish E) pins D f s'):SP X pins D f s':=by
 cases f with
 | next=>obtain⟨σ',H',I,q⟩:=h;exact⟨σ',H',I.unwish,q⟩
 | brk=>obtain⟨σ',H',I,q⟩:=h;exact⟨σ',H',I.unwish,q⟩
 | cont=>obtain⟨σ',H',I,q⟩:=h;exact⟨σ',H',I.unwish,q⟩
 | ret u=>obtain⟨v,σ',H',I,r,q⟩:=h;exact⟨v,σ',H',I.unwish,r,q⟩
theorem PE.nox {e:Expr} {t:TE} (h:PE X.nox e t):PE X e t:=fun pins s σ H Q I hw =>
 wpAny_mono (h pins s σ H Q (I.wish _) hw) (fun _ _ ⟨v,H',I',r,q⟩=>⟨v,H',I'.unwish,r,q⟩) fun _ _ z=>False.elim z
theorem PT.nox {e:Expr} {t:TT} (h:PT X.nox e t):PT X e t:=fun pins s σ H Q I hw =>
 wpAny_mono (h pins s σ H Q (I.wish _) hw) (fun _ _ ⟨H',I',q⟩=>⟨H',I'.unwish,q⟩) fun _ _ z=>False.elim z
theorem PSs.nox {st:List Stmt} {t:TS} (h:PSs X.nox st t):PSs X st t:=fun pins s σ H D I hw =>
 wpAny_mono (h pins s σ H D (I.wish _) hw) (fun _ _ q=>q.unwish) fun _ _ z=>False.elim z
end
section
variable {X:Cx} {st:Stmt} {rest:List Stmt} {t u:TS} {e:Expr} {te:TE} {pos:Pos}
def tNext:TS:=fun D σ H=>D.nx σ H
def tSeq (t u:TS):TS:=fun D σ H=>t { D with nx:=u D } σ H
theorem pss_nil:PSs X [] tNext:=fun _ _ σ H _ I h=>wpAny_execs_nil ⟨σ,H,I,h⟩
theorem pss_cons (h1:PS X st t) (h2:PSs X rest u):PSs X (st::rest) (tSeq t u):=by
 intro pins s σ H D I h
 refine wpAny_execs_cons (thn (h1 pins s σ H { D with nx:=u D } I h) fun f s1 q=>?_)
 cases f with
 | next =>
  obtain⟨σ',H',I',q⟩:=q
  exact h2 pins s1 σ' H' D I' q
 | ret v=>exact q
 | brk=>exact q
 | cont=>exact q
theorem pss_one (h1:PS X st t):PSs X [st] t:=by
 intro pins s σ H D I h
 refine wpAny_execs_cons (thn (h1 pins s σ H D I h) fun f s1 q=>?_)
 cases f with
 | next=>exact wpAny_execs_nil q
 | ret v=>exact q
 | brk=>exact q
 | cont=>exact q
/-- in a def's body nothing is shown -/
theorem Inv.quiet {pins:List (Addr × Obj)} {σ:St} {H:Hp} {s:Shared} (I:Inv X pins σ H s):interactive X.env=false:=by simp [interactive,I.ok.kind]
/-- an expression whose value is dropped -/
def tDrop (te:TE):TS:=fun D σ H=>te σ H fun _ H1=>D.nx σ H1
theorem ps_expr (he:PE X e te) (hs:swapsWith e none pos.line X.env=pure false:=by rfl):PS X (.Expr e pos) (tDrop te):=by
 intro pins s σ H D I h
 exact wpAny_Expr_any (thn (he pins s σ H _ I h) fun v s1 ⟨x,H1,I1,r1,q1⟩=>⟨σ,H1,I1,q1⟩) I.quiet hs
def tRet (te:TE):TS:=fun D σ H=>te σ H D.rt
theorem ps_ret (he:PE X e te):PS X (.Return (some e) pos) (tRet te):=by
 intro pins s σ H D I h
 exact wpAny_Return_some (thn (he pins s σ H _ I h) fun v s1 ⟨x,H1,I1,r1,q1⟩=>⟨x,σ,H1,I1,r1,q1⟩)
def tIfS (c:TT) (t u:TS):TS:=fun D σ H=>c σ H fun b H1=>if b=true then t D σ H1 else u D σ H1
theorem ps_if {c:Expr} {a b:List Stmt} {tc:TT} (hc:PT X c tc) (ha:PSs X a t) (hb:PSs X b u):PS X (.If c a b pos) (tIfS tc t u):=by
 intro pins s σ H D I h
 refine wpAny_If (thn (hc pins s σ H _ I h) fun d s1 ⟨H1,I1,q1⟩=>?_)
 cases d with
 | true=>exact ha pins s1 σ H1 D I1 q1
 | false=>exact hb pins s1 σ H1 D I1 q1
/-- code that the proof never comes to -/
def tNever:TS:=fun _ _ _=>False
theorem ps_never:PS X st tNever:=fun _ _ _ _ _ _ h=>h.elim
end
abbrev TG:=V->St->Hp->(St->Hp->Prop)->Prop
abbrev TGs:=List V->St->Hp->(St->Hp->Prop)->Prop
def PG (X:Cx) (target:Expr) (t:TG):Prop :=
 ∀ (pins:List (Addr × Obj)) (s:Shared) (σ:St) (H:Hp) (v:V) (u:Value) (Q:St->Hp->Prop),Inv X pins σ H s->RelV v u->t v σ H Q ->
  wpAny (model X.prog X.w) X.A (assign target X.env u) (fun _ s'=>∃ σ' H',Inv X pins σ' H' s'∧Q σ' H') X.xe s
/-- several targets, one after another -/
def PGs (X:Cx) (ts:List Expr) (t:TGs):Prop :=
 ∀ (pins:List (Addr × Obj)) (s:Shared) (σ:St) (H:Hp) (vs:List V) (us:List Value) (Q:St->Hp->Prop),Inv X pins σ H s->Vals vs us->t vs σ H Q ->
  wpAny (model X.prog X.w) X.A (assignInOrder ((assignEach ts X.env).map (·.2)) us) (fun _ s'=>∃ σ' H',Inv X pins σ' H' s'∧Q σ' H') X.xe s
/-- o[i] = v, by values -/
abbrev TSet:=V->V->V->Hp->(Hp->Prop)->Prop
def PSet (X:Cx) (t:TSet):Prop :=
 ∀ (pins:List (Addr × Obj)) (s:Shared) (σ:St) (H:Hp) (o i v:V) (ov iv u:Value) (Q:Hp->Prop),Inv X pins σ H s->RelV o ov->RelV i iv->RelV v u->t o i v H Q ->
  wpAny (model X.prog X.w) X.A (setItem ov iv u) (fun _ s'=>∃ H',Inv X pins σ H' s'∧Q H') X.xe s
section
variable {X:Cx} {pos:Pos}
def gName (i:Nat):TG:=fun v σ H Q=>Q (σ.set i (some v)) H
theorem pg_name {i:Nat} {x:Str} (hN:X.N.Nodup) (hi:X.N[i]?=some x) (hx:Loc X.env.scope x) (hf:X.fn x=true∨X.env.scope.names.lookup x=some .local:=by first | exact .inl rfl | exact .inr rfl | assumption):PG X (.Name x pos) (gName i):=by
 intro pins s σ H v u Q I r h
 exact wpAny_assign_Name (store_ok I hN hi hx r (fun s' I'=>⟨_,H,I',h⟩) hf)
def gNil:TGs:=fun vs σ H Q=>vs=[]∧Q σ H
def gCons (t:TG) (u:TGs):TGs:=fun vs σ H Q=>∃ v r,vs=v::r∧t v σ H fun σ' H'=>u r σ' H' Q
theorem pgs_nil:PGs X [] gNil:=by
 intro pins s σ H vs us Q I r h
 obtain⟨e,h⟩:=h
 subst e
 cases r
 exact assignInOrder_nil ⟨σ,H,I,h⟩
theorem pgs_cons {e:Expr} {es:List Expr} {t:TG} {u:TGs} (h1:PG X e t) (h2:PGs X es u)
  (hs:(assignEach (e::es) X.env).map (·.2)=assign e X.env::(assignEach es X.env).map (·.2):=by rfl):PGs X (e::es) (gCons t u):=by
 intro pins s σ H vs us Q I r h
 obtain⟨v,vr,e1,h⟩:=h
 subst e1
 cases r with
 | cons r rr =>
  rw[hs]
  refine assignInOrder_cons (thn (h1 pins s σ H _ _ _ I r h) fun _ s1 ⟨σ1,H1,I1,q1⟩=>?_)
  exact h2 pins s1 σ1 H1 _ _ Q I1 rr q1
/-- (a, b, ..) = a tuple of that length -/
def gTup (K:PySem.W.Frag) (n:Nat) (t:TGs):TG:=fun v σ H Q=>∃ a xs,v=.ref a∧SqT K H a xs∧xs.length=n∧t xs σ H Q
theorem pg_tup {es:List Expr} {k:Nat} {t:TGs} {n:Nat} (hc:X.calm=true) (h:PGs X es t)
  (hn:(assignEach es X.env).length=n:=by rfl) (hst:(assignEach es X.env).findIdx? (·.1)=none:=by rfl):PG X (.Tuple es k pos) (gTup X.K n t):=by
 intro pins s σ H v u Q I r hw
 obtain⟨a,xs,e1,hq,hl,hw⟩:=hw
 subst e1
 cases r
 obtain⟨its,rv,ht,hz⟩:=I.tuple hq
 refine assign_Tuple_tuple (I.ok.hd hc) ht (by simp [hn,← hl,rv.length]) hst fun h' hx=>?_
 have I1:Inv X pins σ H { s with heap:=h' }:=I.kept (t':=s.toks) fun b o e=>hx b o (Nat.ne_of_lt (Heap.lt_size e)) e
 exact h pins _ σ H xs _ Q I1 (by simpa using rv) hw
/-- o[i] = .. -/
def gSub (to ti:TE) (t:TSet):TG:=fun v σ H Q=>to σ H fun o H1=>ti σ H1 fun i H2=>t o i v H2 fun H3=>Q σ H3
theorem pg_sub {o i:Expr} {to ti:TE} {t:TSet} (ho:PE X o to) (hi:PE X i ti) (hs:PSet X t)
  (ha:∀ v,assign (.Subscript o i pos) X.env v=(do
   let ov ← holding [v] (eval o X.env)
   let iv ← holding [v,ov] (eval i X.env)
   standAt pos
   holding [v,ov,iv] (setItem ov iv v)
   release [v,ov,iv] []):=by intro _;rfl):PG X (.Subscript o i pos) (gSub to ti t):=by
 intro pins s σ H v u Q I r h
 rw[ha]
 refine wpAny_bind (wpAny_holding (thn (ho pins s σ H _ I h) fun ov s1 ⟨x,H1,I1,r1,q1⟩=>?_))
 refine wpAny_bind (wpAny_holding (thn (hi pins s1 σ H1 _ I1 q1) fun iv s2 ⟨y,H2,I2,r2,q2⟩=>?_))
 refine wpAny_bind (wpAny_standAt (wpAny_bind (wpAny_holding (thn (hs pins s2 σ H2 x y v ov iv u _ I2 r1 r2 r q2) fun _ s3 ⟨H3,I3,q3⟩=>?_))))
 exact wpAny_release ⟨σ,H3,I3,q3⟩
/-- target = value -/
def tAsg (te:TE) (g:TG):TS:=fun D σ H=>te σ H fun x H1=>g x σ H1 D.nx
theorem ps_asg {tg e:Expr} {te:TE} {g:TG} (he:PE X e te) (hg:PG X tg g) (hs:swapsWithSole [tg] e pos.line X.env=pure false:=by rfl) (hw:swappedStores [tg] e X.env=pure none:=by rfl)
  (h1:(assignEach [tg] X.env).map (·.2)=[assign tg X.env]:=by rfl):PS X (.Assign [tg] e pos) (tAsg te g):=by
 intro pins s σ H D I h
 refine wpAny_Assign_stores (thn (he pins s σ H _ I h) fun v s1 ⟨x,H1,I1,r1,q1⟩=>?_) hs hw
 rw[h1]
 exact thn (hg pins s1 σ H1 x v _ I1 r1 q1) fun _ s2 q=>q
/-- name = value -/
theorem ps_set {i:Nat} {x:Str} {e:Expr} {te:TE} {pos':Pos} (hN:X.N.Nodup) (hi:X.N[i]?=some x) (hx:Loc X.env.scope x) (he:PE X e te) (hs:swapsWith e (some (.Name x pos')) pos.line X.env=pure false:=by rfl) (hf:X.fn x=true∨X.env.scope.names.lookup x=some .local:=by first | exact .inl rfl | exact .inr rfl | assumption) :
  PS X (.Assign [.Name x pos'] e pos) (tAsg te (gName i)):=by
 intro pins s σ H D I h
 refine wpAny_Assign_Name (thn (he pins s σ H _ I h) fun v s1 ⟨y,H1,I1,r1,q1⟩=>?_) hs
 exact store_ok I1 hN hi hx r1 (fun s2 I2=>⟨_,H1,I2,q1⟩) hf
end
section
variable {X:Cx} {pos:Pos}
/-- the invariant W with its measure -/
def tWhile (c:TT) (tb:TS):TS:=fun D σ H=>∃ W:Nat->St->Hp->Prop,(∃ m,W m σ H)∧∀ m σ H,W m σ H ->
 c σ H fun b H1=>if b=true then ∃ N:St->Hp->Prop,(∀ σ' H',N σ' H'->∃ m',m' < m∧W m' σ' H')∧tb { D with nx:=N,ct:=N,bk:=D.nx } σ H1 else D.nx σ H1
theorem ps_while {c:Expr} {body:List Stmt} {tc:TT} {tb:TS} (hp:PassesOwn (model X.prog X.w) X.A X.env X.xe) (hc:PT X c tc) (hb:PSs X body tb):PS X (.While c body [] pos) (tWhile tc tb):=by
 intro pins s σ H D I h
 obtain⟨W,⟨m0,w0⟩,turn⟩:=h
 refine wpAny_While (codeAny_whileLoop (fun n s'=>∃ σ' H',Inv X pins σ' H' s'∧W n σ' H') ?_ m0 ⟨σ,H,I,w0⟩)
 rintro n s1 ⟨σ1,H1,I1,w1⟩
 refine wpAny_passesOwn hp (thn (hc pins s1 σ1 H1 _ I1 (turn n σ1 H1 w1)) fun b s2 ⟨H2,I2,q2⟩=>?_)
 cases b with
 | true =>
  obtain⟨N,hN,q2⟩:=q2
  rw[if_pos rfl]
  refine wpAny_passesOwn hp (thn (hb pins s2 σ1 H2 _ I2 q2) fun f s3 q3=>?_)
  cases f with
  | next =>
   obtain⟨σ3,H3,I3,n3⟩:=q3
   obtain⟨m',hm,w3⟩:=hN σ3 H3 n3
   exact⟨m',hm,σ3,H3,I3,w3⟩
  | cont =>
   obtain⟨σ3,H3,I3,n3⟩:=q3
   obtain⟨m',hm,w3⟩:=hN σ3 H3 n3
   exact⟨m',hm,σ3,H3,I3,w3⟩
  | brk=>exact q3
  | ret v=>exact q3
 | false =>
  rw[if_neg Bool.false_ne_true]
  exact wpAny_execs_nil ⟨σ1,H2,I2,q2⟩
end
/-- at turn i: it yields x (the heap may grow), or it stops -/
structure It where
 go:Nat->Hp->Prop
 yld:Nat->Hp->V->Hp->Prop
 stop:Nat->Hp->Prop
/-- the iterator's own objects may turn: they are not the frame's, not pinned, younger than the entry (or a comprehension's own) -/
def FpOk (X:Cx) (pins:List (Addr × Obj)) (H:Hp) (b:Addr):Prop :=
 H b=none∧b≠X.env.locals∧b ∉ X.fs∧(b ∈ X.ex∨X.s₀.heap.objs.size≤b)∧(∀ x c,X.env.cells.lookup x=some c->c≠b)∧∀ p ∈ X.pn++pins,p.1≠b
theorem Inv.fpOk {X:Cx} {pins:List (Addr × Obj)} {σ:St} {H H':Hp} {s:Shared} {b:Addr} (I:Inv X pins σ H s) (hb:s.heap.objs.size≤b) (hn:H' b=none):FpOk X pins H' b:=by
 refine⟨hn,Nat.ne_of_gt (Nat.lt_of_lt_of_le I.lt hb),I.nofs hb,.inr (Nat.le_trans I.sz hb),fun x c e z=>?_,fun p hp z=>?_⟩
 ·obtain⟨v,q⟩:=I.cell x c e
  exact absurd (Nat.lt_of_lt_of_le q.lt (by rw[z];exact hb)) (Nat.lt_irrefl _)
 ·exact absurd (Nat.lt_of_lt_of_le (Heap.lt_size (I.pin p hp).1) (by rw[z];exact hb)) (Nat.lt_irrefl _)
structure Turn (P:Program) (w:World) (K:PySem.W.Frag) (tg:Expr) (J:It) (fp:List Addr) (it:Addr) (tn:Nat->Heap->Prop):Prop where
 mem:it ∈ fp
 obj:∀ i h,tn i h->∀ b ∈ fp,∃ o,h.get? b=some o∧∀ v,o.data≠.cell v
 keep:∀ i h h',tn i h->(∀ b ∈ fp,∀ o,h.get? b=some o->h'.get? b=some o)->tn i h'
 item:∀ (X:Cx),X.prog=P->X.w=w->X.K=K->X.calm=true->∀ (i:Nat) (pins:List (Addr × Obj)) (s:Shared) (σ:St) (H:Hp) (E:Value->Shared->Prop),Inv X pins σ H s->(∀ b ∈ fp,FpOk X pins H b)->tn i s.heap->J.go i H ->
  wpAny (model P w) X.A (pyNext (.ref it)) (fun r s1=>∃ u,r=some u ∧
   wpAny (model P w) X.A (letOwnedTupleGo tg (.ref it) u) (fun _ s2=>∃ x H',Inv X pins σ H' s2∧RelV x u∧J.yld i H x H'∧tn (i + 1) s2.heap∧∀ b ∈ fp,H' b=none) E s1) E s
 done:∀ (X:Cx),X.prog=P->X.w=w->X.K=K->X.calm=true->∀ (i:Nat) (pins:List (Addr × Obj)) (s:Shared) (σ:St) (H:Hp) (E:Value->Shared->Prop),Inv X pins σ H s->(∀ b ∈ fp,FpOk X pins H b)->tn i s.heap->J.stop i H ->
  wpAny (model P w) X.A (pyNext (.ref it)) (fun r s1=>r=none∧Inv X pins σ H s1) E s
 self:∀ (A:Around) (i:Nat) (s:Shared) (Q:Value->Shared->Prop) (E:Value->Shared->Prop),tn i s.heap->Q (.ref it) s->wpAny (model P w) A (pyIter (.ref it)) Q E s
abbrev TI:=St->Hp->(It->Hp->Prop)->Prop
/-- an iterator has come -/
def PIE (X:Cx) (pins:List (Addr × Obj)) (σ:St) (tg:Expr) (R:It->Hp->Prop) (itv:Value) (s2:Shared):Prop :=
 ∃ (it:Addr) (fp:List Addr) (tn:Nat->Heap->Prop) (J:It) (H':Hp),itv=.ref it∧Inv X pins σ H' s2∧Turn X.prog X.w X.K tg J fp it tn∧tn 0 s2.heap∧(∀ b ∈ fp,FpOk X pins H' b)∧R J H'
def PI (X:Cx) (tg iter:Expr) (wi:TI):Prop :=
 ∀ (pins:List (Addr × Obj)) (s:Shared) (σ:St) (H:Hp) (R:It->Hp->Prop),Inv X pins σ H s->wi σ H R ->
  wpAny (model X.prog X.w) X.A (eval iter X.env) (fun v s1=>wpAny (model X.prog X.w) X.A (pyIter v) (PIE X pins σ tg R) X.xe s1) X.xe s
/-- the step ahead of the store is nothing for an iterator that keeps no tuple -/
theorem go_of {M:Model} {A:Around} {E:Value->Shared->Prop} {s:Shared} {tg:Expr} {it:Addr} {u:Value} {o:Obj} {n:String} {vs:Array Value} {Q:Unit->Shared->Prop} (ho:s.heap.get? it=some o) (hc:o.cls=.type n) (hd:o.data=.fields vs)
  (hn:["enumerate","zip","dict_itemiterator","dict_reverseitemiterator","odict_iterator","itertools.zip_longest","itertools.pairwise"].contains n=false) (hQ:Q () s):wpAny M A (letOwnedTupleGo tg (.ref it) u) Q E s:=by
 unfold letOwnedTupleGo
 cases tg <;> first
  | exact wpAny_pure hQ
  | (cases u <;> first
      | exact wpAny_pure hQ
      | (refine wpAny_bind (wpAny_load ho ?_)
         rw[hc,hd]
         show wpAny M A (if (["enumerate","zip","dict_itemiterator","dict_reverseitemiterator","odict_iterator","itertools.zip_longest","itertools.pairwise"].contains n && vs[0]? == some (rawInt _))=true then _ else _) Q E s
         rw[if_neg (by intro h;rw[hn,Bool.false_and] at h;cases h)]
         exact wpAny_pure hQ))
/-- the list at a, as it stands at each turn (a loop may append to it) -/
def Itl (K:PySem.W.Frag) (a:Addr):It :=
 ⟨fun i H=>∃ xs x,SqL K H a xs∧xs[i]?=some x,fun i H x H'=>H'=H∧∀ xs,SqL K H a xs->xs[i]?=some x,fun i H=>∃ xs,SqL K H a xs∧xs.length≤i⟩
def Itt (K:PySem.W.Frag) (a:Addr):It :=
 ⟨fun i H=>∃ xs x,SqT K H a xs∧xs[i]?=some x,fun i H x H'=>H'=H∧∀ xs,SqT K H a xs->xs[i]?=some x,fun i H=>∃ xs,SqT K H a xs∧xs.length≤i⟩
/-- lo, lo + 1, .. (n of them) -/
def Itr (lo:Int) (n:Nat):It:=⟨fun i _=>i < n,fun i H x H'=>H'=H∧x=.int (lo + i),fun i _=>n≤i⟩
theorem turn_list {P:Program} {w:World} {K:PySem.W.Frag} {tg:Expr} (a it:Addr):Turn P w K tg (Itl K a) [it] it (fun i h=>h.IsListIter it a i) where
 mem:=by simp
 obj:=fun i h st b hb=>by
  have e:b=it:=by simpa using hb
  subst e
  obtain⟨o,e,c,d⟩:=st
  exact⟨o,e,fun v z=>by rw[d] at z;cases z⟩
 keep:=fun i h h' st k=>st.at fun o e=>k it (by simp) o e
 item:=by
  intro X hP hw hK hc i pins s σ H E I hf st hg
  subst hP hw hK
  obtain⟨xs,x,hq,hx⟩:=hg
  obtain⟨its,rv,p,hz⟩:=I.list hq
  obtain⟨u,hu,ru⟩:=rv.get hx
  obtain⟨f0,f1,f2,f3,f4,f5⟩:=hf it (by simp)
  refine wpAny_pyNext_list_item st p.isList (x:=u) (by simpa using hu) fun h' st' sb=>?_
  have I1:Inv X pins σ H { s with heap:=h' }:=I.turned (t':=s.toks) (fun b o hb e=>(sb.2 b hb).trans e) f0 f1 f3 f4 f5
  obtain⟨o,e,c,d⟩:=id st'
  exact⟨u,rfl,go_of (s:={ s with heap:=h' }) e c d (by decide) ⟨x,H,I1,ru,⟨rfl,fun ys hy=>by rw[I.list_inj hy hq];exact hx⟩,st',fun b hb=>(hf b hb).1⟩⟩
 done:=by
  intro X hP hw hK hc i pins s σ H E I hf st hg
  subst hP hw hK
  obtain⟨xs,hq,hx⟩:=hg
  obtain⟨its,rv,p,hz⟩:=I.list hq
  obtain⟨f0,f1,f2,f3,f4,f5⟩:=hf it (by simp)
  have hl:=rv.length
  exact wpAny_pyNext_list_end (I.ok.hd hc) st p.isList (by simp;omega) fun h' eb=>⟨rfl,I.turned (t':=s.toks) (fun b o hb e=>eb b o hb e) f0 f1 f3 f4 f5⟩
 self:=fun _ _ _ _ _ st h=>wpAny_pyIter_listiter st h
theorem turn_tuple {P:Program} {w:World} {K:PySem.W.Frag} {tg:Expr} (a it:Addr):Turn P w K tg (Itt K a) [it] it (fun i h=>h.IsTupleIter it a i) where
 mem:=by simp
 obj:=fun i h st b hb=>by
  have e:b=it:=by simpa using hb
  subst e
  obtain⟨o,e,c,d⟩:=st
  exact⟨o,e,fun v z=>by rw[d] at z;cases z⟩
 keep:=fun i h h' st k=>st.at fun o e=>k it (by simp) o e
 item:=by
  intro X hP hw hK hc i pins s σ H E I hf st hg
  subst hP hw hK
  obtain⟨xs,x,hq,hx⟩:=hg
  obtain⟨its,rv,p,hz⟩:=I.tuple hq
  obtain⟨u,hu,ru⟩:=rv.get hx
  obtain⟨f0,f1,f2,f3,f4,f5⟩:=hf it (by simp)
  refine wpAny_pyNext_tuple_item st (show s.heap.IsTuple a its.toArray from p) (x:=u) (by simpa using hu) fun h' st' sb=>?_
  have I1:Inv X pins σ H { s with heap:=h' }:=I.turned (t':=s.toks) (fun b o hb e=>(sb.2 b hb).trans e) f0 f1 f3 f4 f5
  obtain⟨o,e,c,d⟩:=id st'
  exact⟨u,rfl,go_of (s:={ s with heap:=h' }) e c d (by decide) ⟨x,H,I1,ru,⟨rfl,fun ys hy=>by rw[I.tuple_inj hy hq];exact hx⟩,st',fun b hb=>(hf b hb).1⟩⟩
 done:=by
  intro X hP hw hK hc i pins s σ H E I hf st hg
  subst hP hw hK
  obtain⟨xs,hq,hx⟩:=hg
  obtain⟨its,rv,p,hz⟩:=I.tuple hq
  obtain⟨f0,f1,f2,f3,f4,f5⟩:=hf it (by simp)
  have hl:=rv.length
  exact wpAny_pyNext_tuple_end (I.ok.hd hc) st (show s.heap.IsTuple a its.toArray from p) (by simp;omega) fun h' eb=>⟨rfl,I.turned (t':=s.toks) (fun b o hb e=>eb b o hb e) f0 f1 f3 f4 f5⟩
 self:=fun _ _ _ _ _ st h=>wpAny_pyIter_tupleiter st h
theorem turn_range {P:Program} {w:World} {K:PySem.W.Frag} {tg:Expr} (it:Addr) (lo:Int) (n:Nat):Turn P w K tg (Itr lo n) [it] it (fun i h=>IsRangeIter h it (lo + (i:Nat) * 1) ((n:Int) - (i:Nat)) 1) where
 mem:=by simp
 obj:=fun i h st b hb=>by
  have e:b=it:=by simpa using hb
  subst e
  exact⟨_,st,fun v z=>by
   have z':Data.fields _=Data.cell v:=z
   cases z'⟩
 keep:=fun i h h' st k=>k it (by simp) _ st
 item:=by
  intro X hP hw hK hc i pins s σ H E I hf st hg
  subst hP hw hK
  obtain⟨f0,f1,f2,f3,f4,f5⟩:=hf it (by simp)
  have W:=Walks.range (prog:=X.prog) (w:=X.w) (I.ok.hd hc) it lo 1 n
  refine W.item i s _ _ hg st fun v h' tk hv st' kk=>?_
  obtain⟨t,rfl⟩:=hv
  have I1:Inv X pins σ H { s with heap:=h',toks:=tk }:=I.turned (fun b o hb e=>kk b o (by simpa using hb) e) f0 f1 f3 f4 f5
  refine⟨_,rfl,go_of (s:={ s with heap:=h',toks:=tk }) (n:="range_iterator") st' rfl rfl (by decide) ⟨.int (lo + i),H,I1,⟨t,?_⟩,⟨rfl,rfl⟩,st',fun b hb=>(hf b hb).1⟩⟩
  rw[Int.mul_one]
 done:=by
  intro X hP hw hK hc i pins s σ H E I hf st hg
  subst hP hw hK
  obtain⟨f0,f1,f2,f3,f4,f5⟩:=hf it (by simp)
  exact wpAny_pyNext_range_end (I.ok.hd hc) st (by have:n≤i:=hg;omega) fun h' eb=>⟨rfl,I.turned (t':=s.toks) (fun b o hb e=>eb b o hb e) f0 f1 f3 f4 f5⟩
 self:=fun _ _ _ _ _ st h=>wpAny_pyIter_rangeiter st h
end L2
namespace L2
open PySem PySem.Spec PyProof.Rows
section
variable {X:Cx} {tg:Expr}
def iList (K:PySem.W.Frag) (tl:TE):TI:=fun σ H R=>tl σ H fun x H1=>∃ a,x=.ref a∧(∃ xs,SqL K H1 a xs)∧R (Itl K a) H1
def iTup (K:PySem.W.Frag) (tl:TE):TI:=fun σ H R=>tl σ H fun x H1=>∃ a,x=.ref a∧(∃ xs,SqT K H1 a xs)∧R (Itt K a) H1
theorem pi_list {l:Expr} {tl:TE} (hl:PE X l tl):PI X tg l (iList X.K tl):=by
 intro pins s σ H R I h
 refine thn (hl pins s σ H _ I h) fun v s1 ⟨x,H1,I1,r1,q1⟩=>?_
 obtain⟨a,e,⟨xs,hq⟩,q⟩:=q1
 subst e
 cases r1
 obtain⟨its,rv,p,hz⟩:=I1.list hq
 refine wpAny_pyIter_list p.isList ?_
 refine⟨s1.heap.objs.size,[s1.heap.objs.size],_,_,H1,rfl,I1.kept (t':=s1.toks) fun b o e=>Heap.get?_push_of_some _ e,turn_list a _,⟨_,Heap.get?_push_size _ rfl,rfl,rfl⟩,fun b hb=>?_,q⟩
 have e:b=s1.heap.objs.size:=by simpa using hb
 subst e
 exact I1.fpOk (Nat.le_refl _) (I1.hok.fresh (Nat.le_refl _))
theorem pi_tup {l:Expr} {tl:TE} (hl:PE X l tl):PI X tg l (iTup X.K tl):=by
 intro pins s σ H R I h
 refine thn (hl pins s σ H _ I h) fun v s1 ⟨x,H1,I1,r1,q1⟩=>?_
 obtain⟨a,e,⟨xs,hq⟩,q⟩:=q1
 subst e
 cases r1
 obtain⟨its,rv,p,hz⟩:=I1.tuple hq
 refine wpAny_pyIter_tuple (show s1.heap.IsTuple a its.toArray from p) ?_
 refine⟨s1.heap.objs.size,[s1.heap.objs.size],_,_,H1,rfl,I1.kept (t':=s1.toks) fun b o e=>Heap.get?_push_of_some _ e,turn_tuple a _,⟨_,Heap.get?_push_size _ rfl,rfl,rfl⟩,fun b hb=>?_,q⟩
 have e:b=s1.heap.objs.size:=by simpa using hb
 subst e
 exact I1.fpOk (Nat.le_refl _) (I1.hok.fresh (Nat.le_refl _))
/-- a range object just made, walked -/
theorem range_it {pins:List (Addr × Obj)} {σ:St} {H:Hp} {s:Shared} {R:It->Hp->Prop} {E:Value->Shared->Prop} {lo hi:Int} {t u v:Tok} {tk:Nat} (I:Inv X pins σ H s) (h1:-(2 ^ 62)≤lo) (h2:lo < 2 ^ 62) (h3:-(2 ^ 62)≤hi) (h4:hi < 2 ^ 62)
  (q:R (Itr lo (hi - lo).toNat) H):wpAny (model X.prog X.w) X.A (pyIter (.ref s.heap.objs.size)) (PIE X pins σ tg R) E { s with heap:=s.heap.push { cls:=.type "range",data:=.fields #[.int lo t,.int hi u,.int 1 v] },toks:=tk }:=by
 refine wpAny_pyIter_range (IsRange.new ..) (small_one h1 h2 h3 h4) ?_
 have I1:Inv X pins σ H { s with heap:=s.heap.push { cls:=.type "range",data:=.fields #[.int lo t,.int hi u,.int 1 v] },toks:=tk }:=I.kept fun b o e=>Heap.get?_push_of_some _ e
 refine⟨(s.heap.push { cls:=.type "range",data:=.fields #[.int lo t,.int hi u,.int 1 v] }).objs.size,[(s.heap.push { cls:=.type "range",data:=.fields #[.int lo t,.int hi u,.int 1 v] }).objs.size],_,_,H,rfl,
  I1.kept (t':=tk) fun b o e=>Heap.get?_push_of_some _ e,turn_range _ lo (hi - lo).toNat,?_,fun b hb=>?_,q⟩
 ·have e1:lo + ((0:Nat):Int) * 1=lo:=by simp
  have e2:(((hi - lo).toNat:Nat):Int) - ((0:Nat):Int)=Builtin.Range.rangeSize lo hi 1:=by rw[rangeSize_one];split <;> omega
  show IsRangeIter _ _ (lo + ((0:Nat):Int) * 1) ((((hi - lo).toNat:Nat):Int) - ((0:Nat):Int)) 1
  rw[e1,e2]
  exact Heap.get?_push_size _ rfl
 ·have e:b=(s.heap.push { cls:=.type "range",data:=.fields #[.int lo t,.int hi u,.int 1 v] }).objs.size:=by simpa using hb
  subst e
  exact I1.fpOk (Nat.le_refl _) (I1.hok.fresh (Nat.le_refl _))
def iRng1 (ta:TA):TI:=fun σ H R=>ta σ H fun vs H1=>∃ j:Int,vs=[.int j]∧-(2 ^ 62)≤j∧j < 2 ^ 62∧R (Itr 0 j.toNat) H1
theorem pi_range1 {a:Expr} {ta:TA} {p pos:Pos} (hg:Gl X "range") (hm:X.mg "range"=none) (ha:PA X [a] ta) (hs:starEach [a] X.env=[(false,eval a X.env)]:=by rfl):PI X tg (.Call (.Name "range" p) [a] [] pos) (iRng1 ta):=by
 intro pins s σ H R I h
 refine Call_ (ld_blt I hg hm boot_range (PyProof.Rows.callWith_type1 (thn (ha pos pins s σ H _ I h) fun us s1 ⟨vs,H1,I1,r1,q1⟩=>?_) hs rfl))
 obtain⟨j,e,q1,q2,q⟩:=q1
 subst e
 cases r1 with
 | cons r rr =>
  cases rr
  obtain⟨t,rfl⟩:=r
  exact call_range_1 (range_it I1 (by omega) (by omega) q1 q2 (by simpa using q))
/-- W: the invariant by the turn and a measure; N: what the body is to reach -/
def tFor (wi:TI) (g:TG) (tb:TS):TS:=fun D σ H=>wi σ H fun J H1=>∃ W:Nat->Nat->St->Hp->Prop,(∃ m,W 0 m σ H1)∧∀ i m σ H,W i m σ H ->
 (J.stop i H∧D.nx σ H)∨(J.go i H∧∃ N:St->Hp->Prop,(∀ σ' H',N σ' H'->∃ m',m' < m∧W (i + 1) m' σ' H')∧∀ x H',J.yld i H x H'->g x σ H' fun σ2 H2=>tb { D with nx:=N,ct:=N,bk:=D.nx } σ2 H2)
/-- the records at fp as they stand -/
def pinsAt (fp:List Addr) (h:Heap):List (Addr × Obj):=fp.filterMap fun b=>(h.get? b).map fun o=>(b,o)
theorem mem_pinsAt {fp:List Addr} {h:Heap} {b:Addr} {o:Obj} (hb:b ∈ fp) (e:h.get? b=some o):(b,o) ∈ pinsAt fp h:=List.mem_filterMap.mpr ⟨b,hb,by rw[e];rfl⟩
theorem of_pinsAt {fp:List Addr} {h:Heap} {p:Addr × Obj} (hp:p ∈ pinsAt fp h):p.1 ∈ fp∧h.get? p.1=some p.2:=by
 obtain⟨b,hb,e⟩:=List.mem_filterMap.mp hp
 cases q:h.get? b with
 | none=>rw[q] at e;cases e
 | some o =>
  rw[q] at e
  have e':(b,o)=p:=Option.some.inj e
  subst e'
  exact⟨hb,q⟩
theorem Inv.pinned {pins:List (Addr × Obj)} {σ:St} {H:Hp} {s:Shared} {fp:List Addr} (I:Inv X pins σ H s) (hf:∀ b ∈ fp,FpOk X pins H b) (ho:∀ b ∈ fp,∃ o,s.heap.get? b=some o∧∀ v,o.data≠.cell v):Inv X (pins++pinsAt fp s.heap) σ H s :=
 I.pins_of fun p hp=>(List.mem_append.mp hp).elim (fun z=>I.pin p (List.mem_append_right _ z)) fun z=>by
  obtain⟨hb,e⟩:=of_pinsAt z
  obtain⟨f0,f1,f2,_⟩:=hf p.1 hb
  obtain⟨o,e',d⟩:=ho p.1 hb
  rw[e] at e';cases e'
  exact⟨e,f0,f1,f2,d⟩
theorem Inv.unpinned {pins pl:List (Addr × Obj)} {σ:St} {H:Hp} {s:Shared} (I:Inv X (pins++pl) σ H s):Inv X pins σ H s:=I.pins_of fun p hp=>I.pin p (List.mem_append_right _ (List.mem_append_left _ hp))
theorem ps_for {iter:Expr} {body:List Stmt} {wi:TI} {g:TG} {tb:TS} {pos:Pos} (hp:PassesOwn (model X.prog X.w) X.A X.env X.xe) (hc:X.calm=true) (hi:PI X tg iter wi) (hg:PG X tg g) (hb:PSs X body tb)
  (hs:∀ x,foldedSetIterable iter X.env x=pure x:=by intro _;rfl):PS X (.For tg iter body [] pos) (tFor wi g tb):=by
 intro pins s σ H D I h
 refine wpAny_For (thn (hi pins s σ H _ I h) fun v s1 h1=>thn h1 fun itv s2 h2=>?_) hs
 obtain⟨it,fp,tn,J,H2,e,I2,T,st2,f2,W,⟨m0,w0⟩,turn⟩:=h2
 subst e
  -- what stays true of the iterator's objects through the loop
 have stat:∀ {H':Hp},(∀ b ∈ fp,H' b=none)->∀ b ∈ fp,FpOk X pins H' b:=fun hn b hb=>⟨hn b hb,(f2 b hb).2⟩
 refine codeAny_forLoop_any (fun n s'=>∃ i σ' H',Inv X pins σ' H' s'∧tn i s'.heap∧(∀ b ∈ fp,H' b=none)∧W i n σ' H') ?_ m0 ⟨0,σ,H2,I2,st2,fun b hb=>(f2 b hb).1,w0⟩
 rintro n s3 ⟨i,σ3,H3,I3,st3,fr3,w3⟩
 rcases turn i n σ3 H3 w3 with ⟨stop,qn⟩ | ⟨go,N,hN,step⟩
 ·refine wpAny_passesOwn hp (thn (T.done X rfl rfl rfl hc i pins s3 σ3 H3 X.xe I3 (stat fr3) st3 stop) fun r s4 ⟨hr,I4⟩=>?_)
  subst hr
  exact wpAny_execs_nil ⟨σ3,H3,I4,qn⟩
 ·refine wpAny_passesOwn hp (thn (T.item X rfl rfl rfl hc i pins s3 σ3 H3 X.xe I3 (stat fr3) st3 go) fun r s4 ⟨u,hr,h4⟩=>?_)
  subst hr
  refine wpAny_passesOwn hp (thn h4 fun _ s5 ⟨x,H5,I5,r5,y5,st5,fr5⟩=>?_)
  have I5':=I5.pinned (stat fr5) (T.obj _ _ st5)
  refine wpAny_passesOwn hp (thn (hg _ s5 σ3 H5 x u _ I5' r5 (step x H5 y5)) fun _ s6 ⟨σ6,H6,I6,q6⟩=>?_)
  refine wpAny_passesOwn hp (thn (hb _ s6 σ6 H6 _ I6 q6) fun f s7 q7=>?_)
  have again:∀ {σ7:St} {H7:Hp},Inv X (pins++pinsAt fp s5.heap) σ7 H7 s7->N σ7 H7->∃ m,m < n∧∃ i σ' H',Inv X pins σ' H' s7∧tn i s7.heap∧(∀ b ∈ fp,H' b=none)∧W i m σ' H':=fun {σ7 H7} I7 n7=>by
   obtain⟨m',hm,w7⟩:=hN σ7 H7 n7
   refine⟨m',hm,i + 1,σ7,H7,I7.unpinned,T.keep _ _ _ st5 fun b hb o e=>(I7.pin (b,o) (List.mem_append_right _ (List.mem_append_right _ (mem_pinsAt hb e)))).1,fun b hb=>?_,w7⟩
   obtain⟨o,e,d⟩:=T.obj _ _ st5 b hb
   exact (I7.pin (b,o) (List.mem_append_right _ (List.mem_append_right _ (mem_pinsAt hb e)))).2.1
  cases f with
  | next=>obtain⟨σ7,H7,I7,n7⟩:=q7;exact again I7 n7
  | cont=>obtain⟨σ7,H7,I7,n7⟩:=q7;exact again I7 n7
  | brk=>obtain⟨σ7,H7,I7,q7⟩:=q7;exact⟨σ7,H7,I7.unpinned,q7⟩
  | ret v=>obtain⟨x7,σ7,H7,I7,r7,q7⟩:=q7;exact⟨x7,σ7,H7,I7.unpinned,r7,q7⟩
end
/-- over a list that the body leaves as it is -/
theorem for_list {K:PySem.W.Frag} {a:Addr} {xs:List V} {g:TG} {tb:TS} {D:Ends} {σ:St} {H:Hp} (Pv:Nat->St->Hp->Prop) (h0:Pv 0 σ H) (hl:∀ i σ H,i≤xs.length->Pv i σ H->SqL K H a xs)
  (hs:∀ i x σ H,xs[i]?=some x->Pv i σ H->g x σ H fun σ2 H2=>tb { D with nx:=Pv (i + 1),ct:=Pv (i + 1),bk:=D.nx } σ2 H2) (hd:∀ σ H,Pv xs.length σ H->D.nx σ H) :
  ∃ W:Nat->Nat->St->Hp->Prop,(∃ m,W 0 m σ H)∧∀ i m σ H,W i m σ H ->
   ((Itl K a).stop i H∧D.nx σ H)∨((Itl K a).go i H∧∃ N:St->Hp->Prop,(∀ σ' H',N σ' H'->∃ m',m' < m∧W (i + 1) m' σ' H')∧∀ x H',(Itl K a).yld i H x H'->g x σ H' fun σ2 H2=>tb { D with nx:=N,ct:=N,bk:=D.nx } σ2 H2):=by
 refine⟨fun i m σ H=>m=xs.length - i∧i≤xs.length∧Pv i σ H,⟨xs.length,by simp,Nat.zero_le _,h0⟩,?_⟩
 rintro i m σ H ⟨rfl,hi,p⟩
 have q:=hl i σ H hi p
 by_cases hlt:i < xs.length
 ·refine .inr ⟨⟨xs,xs[i],q,by simp [hlt]⟩,Pv (i + 1),fun σ' H' p'=>⟨xs.length - (i + 1),by omega,rfl,hlt,p'⟩,fun x H' y=>?_⟩
  obtain⟨e,y⟩:=y
  subst e
  exact hs i x σ _ (y xs q) p
 ·have e:i=xs.length:=by omega
  subst e
  exact .inl ⟨⟨xs,q,Nat.le_refl _⟩,hd σ H p⟩
theorem for_tup {K:PySem.W.Frag} {a:Addr} {xs:List V} {g:TG} {tb:TS} {D:Ends} {σ:St} {H:Hp} (Pv:Nat->St->Hp->Prop) (h0:Pv 0 σ H) (hl:∀ i σ H,i≤xs.length->Pv i σ H->SqT K H a xs)
  (hs:∀ i x σ H,xs[i]?=some x->Pv i σ H->g x σ H fun σ2 H2=>tb { D with nx:=Pv (i + 1),ct:=Pv (i + 1),bk:=D.nx } σ2 H2) (hd:∀ σ H,Pv xs.length σ H->D.nx σ H) :
  ∃ W:Nat->Nat->St->Hp->Prop,(∃ m,W 0 m σ H)∧∀ i m σ H,W i m σ H ->
   ((Itt K a).stop i H∧D.nx σ H)∨((Itt K a).go i H∧∃ N:St->Hp->Prop,(∀ σ' H',N σ' H'->∃ m',m' < m∧W (i + 1) m' σ' H')∧∀ x H',(Itt K a).yld i H x H'->g x σ H' fun σ2 H2=>tb { D with nx:=N,ct:=N,bk:=D.nx } σ2 H2):=by
 refine⟨fun i m σ H=>m=xs.length - i∧i≤xs.length∧Pv i σ H,⟨xs.length,by simp,Nat.zero_le _,h0⟩,?_⟩
 rintro i m σ H ⟨rfl,hi,p⟩
 have q:=hl i σ H hi p
 by_cases hlt:i < xs.length
 ·refine .inr ⟨⟨xs,xs[i],q,by simp [hlt]⟩,Pv (i + 1),fun σ' H' p'=>⟨xs.length - (i + 1),by omega,rfl,hlt,p'⟩,fun x H' y=>?_⟩
  obtain⟨e,y⟩:=y
  subst e
  exact hs i x σ _ (y xs q) p
 ·have e:i=xs.length:=by omega
  subst e
  exact .inl ⟨⟨xs,q,Nat.le_refl _⟩,hd σ H p⟩
theorem for_range {lo:Int} {n:Nat} {g:TG} {tb:TS} {D:Ends} {σ:St} {H:Hp} (Pv:Nat->St->Hp->Prop) (h0:Pv 0 σ H)
  (hs:∀ i σ H,i < n->Pv i σ H->g (.int (lo + i)) σ H fun σ2 H2=>tb { D with nx:=Pv (i + 1),ct:=Pv (i + 1),bk:=D.nx } σ2 H2) (hd:∀ σ H,Pv n σ H->D.nx σ H) :
  ∃ W:Nat->Nat->St->Hp->Prop,(∃ m,W 0 m σ H)∧∀ i m σ H,W i m σ H ->
   ((Itr lo n).stop i H∧D.nx σ H)∨((Itr lo n).go i H∧∃ N:St->Hp->Prop,(∀ σ' H',N σ' H'->∃ m',m' < m∧W (i + 1) m' σ' H')∧∀ x H',(Itr lo n).yld i H x H'->g x σ H' fun σ2 H2=>tb { D with nx:=N,ct:=N,bk:=D.nx } σ2 H2):=by
 refine⟨fun i m σ H=>m=n - i∧i≤n∧Pv i σ H,⟨n,by simp,Nat.zero_le _,h0⟩,?_⟩
 rintro i m σ H ⟨rfl,hi,p⟩
 by_cases hlt:i < n
 ·refine .inr ⟨hlt,Pv (i + 1),fun σ' H' p'=>⟨n - (i + 1),by omega,rfl,hlt,p'⟩,fun x H' y=>?_⟩
  obtain⟨e,y⟩:=y
  subst e y
  exact hs i σ _ hlt p
 ·have e:i=n:=by omega
  subst e
  exact .inl ⟨Nat.le_refl _,hd σ H p⟩
end L2
namespace L2
open PySem PySem.Spec PyProof.Rows
abbrev R2:=V->V->Hp->VK->Prop
/-- a two-place operation on values: f is binaryOp op, inplaceOp op or compareOp op -/
def OpR (X:Cx) (f:Value->Value->Sem Value) (r:R2):Prop :=
 ∀ (pins:List (Addr × Obj)) (s:Shared) (σ:St) (H:Hp) (x y:V) (v u:Value) (Q:VK),Inv X pins σ H s->RelV x v->RelV y u->r x y H Q ->
  wpAny (model X.prog X.w) X.A (f v u) (EP X pins σ Q) X.xe s
/-- a one-place operation -/
def UnR (X:Cx) (f:Value->Sem Value) (r:V->Hp->VK->Prop):Prop :=
 ∀ (pins:List (Addr × Obj)) (s:Shared) (σ:St) (H:Hp) (x:V) (v:Value) (Q:VK),Inv X pins σ H s->RelV x v->r x H Q ->
  wpAny (model X.prog X.w) X.A (f v) (EP X pins σ Q) X.xe s
/-- a call of a value that is known (a builtin, a type) with values -/
def CallR (X:Cx) (f:Value) (r:List V->Hp->VK->Prop):Prop :=
 ∀ (pins:List (Addr × Obj)) (s:Shared) (σ:St) (H:Hp) (xs:List V) (us:List Value) (Q:VK),Inv X pins σ H s->Vals xs us->r xs H Q ->
  wpAny (model X.prog X.w) X.A (call f us) (EP X pins σ Q) X.xe s
def tOp (r:R2) (ta tb:TE):TE:=fun σ H Q=>ta σ H fun x H1=>tb σ H1 fun y H2=>r x y H2 Q
def tUn (r:V->Hp->VK->Prop) (ta:TE):TE:=fun σ H Q=>ta σ H fun x H1=>r x H1 Q
/-- ints in, under C, and a value out -/
def rI (C:Int->Int->Prop) (g:Int->Int->V):R2:=fun x y H Q=>∃ i j,x=.int i∧y=.int j∧C i j∧Q (g i j) H
def rI0 (g:Int->Int->V):R2:=fun x y H Q=>∃ i j,x=.int i∧y=.int j∧Q (g i j) H
def rU (g:Int->V):V->Hp->VK->Prop:=fun x H Q=>∃ i,x=.int i∧Q (g i) H
section
variable {X:Cx} {a b c:Expr} {ta tb tc:TE} {pos:Pos}
theorem binT (ha:PE X a ta) (hb:PE X b tb) {pins:List (Addr × Obj)} {s:Shared} {σ:St} {H:Hp} {R:V->V->Hp->Prop} (I:Inv X pins σ H s)
  (h:ta σ H fun x H1=>tb σ H1 fun y H2=>R x y H2) {Q:Value->Shared->Prop} {f:Value->Value->Sem Value}
  (hf:∀ v u s2 x y H2,Inv X pins σ H2 s2->RelV x v->RelV y u->R x y H2->wpAny (model X.prog X.w) X.A (f v u) Q X.xe s2) :
  wpAny (model X.prog X.w) X.A (eval a X.env) (fun v s₁=>wpAny (model X.prog X.w) X.A (eval b X.env) (fun u s₂=>wpAny (model X.prog X.w) X.A (f v u) Q X.xe s₂) X.xe s₁) X.xe s:=by
 refine thn (ha pins s σ H _ I h) fun v s1 ⟨x,H1,I1,r1,q1⟩=>?_
 refine thn (hb pins s1 σ H1 _ I1 q1) fun u s2 ⟨y,H2,I2,r2,q2⟩=>?_
 exact hf v u s2 x y H2 I2 r1 r2 q2
theorem pe_op {op:Operator} {r:R2} (ho:OpR X (binaryOp op) r) (ha:PE X a ta) (hb:PE X b tb):PE X (.BinOp a op b pos) (tOp r ta tb):=by
 intro pins s σ H Q I h
 exact wpAny_BinOp (binT ha hb I h fun v u s2 x y H2 I2 rx ry q=>ho pins s2 σ H2 x y v u Q I2 rx ry q)
theorem pe_un {op:UnaryOp} {r:V->Hp->VK->Prop} (ho:UnR X (unaryOp op) r) (ha:PE X a ta):PE X (.UnaryOp op a pos) (tUn r ta):=by
 intro pins s σ H Q I h
 exact UnaryOp_ (thn (ha pins s σ H _ I h) fun v s1 ⟨x,H1,I1,r1,q1⟩=>ho pins s1 σ H1 x v Q I1 r1 q1)
theorem opI {f:Value->Value->Sem Value} {C:Int->Int->Prop} {g:Int->Int->Int}
  (rule:∀ (i j:Int) (t u:Tok) (s:Shared) (Q:Value->Shared->Prop) (E:Value->Shared->Prop),C i j->Q (.int (g i j) s.toks) { s with toks:=s.toks + 1 }->wpAny (model X.prog X.w) X.A (f (.int i t) (.int j u)) Q E s) :
  OpR X f (rI C fun i j=>.int (g i j)):=by
 intro pins s σ H x y v u Q I rx ry h
 obtain⟨i,j,rfl,rfl,hc,q⟩:=h
 obtain⟨t,rfl⟩:=rx
 obtain⟨t',rfl⟩:=ry
 exact rule i j t t' s _ _ hc ⟨.int (g i j),H,I.tok _,⟨_,rfl⟩,q⟩
theorem opI0 {f:Value->Value->Sem Value} {g:Int->Int->Int}
  (rule:∀ (i j:Int) (t u:Tok) (s:Shared) (Q:Value->Shared->Prop) (E:Value->Shared->Prop),Q (.int (g i j) s.toks) { s with toks:=s.toks + 1 }->wpAny (model X.prog X.w) X.A (f (.int i t) (.int j u)) Q E s) :
  OpR X f (rI0 fun i j=>.int (g i j)):=by
 intro pins s σ H x y v u Q I rx ry h
 obtain⟨i,j,rfl,rfl,q⟩:=h
 obtain⟨t,rfl⟩:=rx
 obtain⟨t',rfl⟩:=ry
 exact rule i j t t' s _ _ ⟨.int (g i j),H,I.tok _,⟨_,rfl⟩,q⟩
theorem opB0 {f:Value->Value->Sem Value} {g:Int->Int->Bool}
  (rule:∀ (i j:Int) (t u:Tok) (s:Shared) (Q:Value->Shared->Prop) (E:Value->Shared->Prop),Q (.bool (g i j)) s->wpAny (model X.prog X.w) X.A (f (.int i t) (.int j u)) Q E s) :
  OpR X f (rI0 fun i j=>.bl (g i j)):=by
 intro pins s σ H x y v u Q I rx ry h
 obtain⟨i,j,rfl,rfl,q⟩:=h
 obtain⟨t,rfl⟩:=rx
 obtain⟨t',rfl⟩:=ry
 exact rule i j t t' s _ _ ⟨.bl (g i j),H,I,rfl,q⟩
def CDiv (i j:Int):Prop:=0 < j∧j < 1073741824
def CPow (i j:Int):Prop:=0≤j∧j≤1000000∧i.natAbs < 2 ^ 64
def CMul (i j:Int):Prop:=(-(2 ^ 64) < i∧i < 2 ^ 64)∨(-(2 ^ 64) < j∧j < 2 ^ 64)
theorem CMul.ok {i j:Int} (h:CMul i j):IntMulOk i j:=by
 rcases h with ⟨h1,h2⟩ | ⟨h1,h2⟩
 ·exact .of_left (intBits_le_64 h1 h2)
 ·exact .of_right (intBits_le_64 h1 h2)
theorem op_add:OpR X (binaryOp .Add) (rI0 fun i j=>.int (i + j)):=opI0 fun _ _ _ _ _ _ _ q=>add_int q
theorem op_sub:OpR X (binaryOp .Sub) (rI0 fun i j=>.int (i - j)):=opI0 fun _ _ _ _ _ _ _ q=>sub_int q
theorem op_mul:OpR X (binaryOp .Mult) (rI CMul fun i j=>.int (i * j)):=opI fun _ _ _ _ _ _ _ hc q=>mul_int q hc.ok
/-- // by a positive divisor -/
theorem op_fdiv:OpR X (binaryOp .FloorDiv) (rI CDiv fun i j=>.int (i / j)):=opI fun i j _ _ _ _ _ hc q=>by
 have h1:(0:Int) < j:=hc.1
 have h2:j < 1073741824:=hc.2
 exact floordiv_int (by omega) (by rw[Int.fdiv_eq_ediv_of_nonneg i (by omega)];exact q) (.inl (PyProof.noPylong_small (by omega)))
/-- % by a positive divisor of any size -/
theorem op_mod:OpR X (binaryOp .Mod) (rI (fun _ j=>0 < j) fun i j=>.int (i % j)):=opI fun i j _ _ _ _ _ hc q=>by
 have h1:(0:Int) < j:=hc
 exact mod_int' (by omega) (by rw[Int.fmod_eq_emod_of_nonneg i (by omega)];exact q)
theorem op_pow:OpR X (binaryOp .Pow) (rI CPow fun i j=>.int (i ^ j.toNat)):=opI fun _ _ _ _ _ _ _ hc q=>pow_int_small hc.1 hc.2.1 hc.2.2 q
theorem unI {f:Value->Sem Value} {g:Int->Int}
  (rule:∀ (i:Int) (t:Tok) (s:Shared) (Q:Value->Shared->Prop) (E:Value->Shared->Prop),Q (.int (g i) s.toks) { s with toks:=s.toks + 1 }->wpAny (model X.prog X.w) X.A (f (.int i t)) Q E s) :
  UnR X f (rU fun i=>.int (g i)):=by
 intro pins s σ H x v Q I rx h
 obtain⟨i,rfl,q⟩:=h
 obtain⟨t,rfl⟩:=rx
 exact rule i t s _ _ ⟨.int (g i),H,I.tok _,⟨_,rfl⟩,q⟩
theorem un_neg:UnR X (unaryOp .USub) (rU fun i=>.int (-i)):=unI fun _ _ _ _ _ q=>neg_int q
end
/-- the scalars that == tells apart as data does -/
def scal:V->V->Bool
 | .non,.non=>true | .non,.int _=>true | .int _,.non=>true | .non,.bl _=>true | .bl _,.non=>true | .non,.str _=>true | .str _,.non=>true
 | .int _,.int _=>true | .bl _,.bl _=>true | .str _,.str _=>true | .byt _,.byt _=>true
 | .int _,.str _=>true | .str _,.int _=>true | .bl _,.str _=>true | .str _,.bl _=>true
 | _,_=>false
def rEq:R2:=fun x y H Q=>scal x y=true∧Q (.bl (decide (x=y))) H
def rNe:R2:=fun x y H Q=>scal x y=true∧Q (.bl (!decide (x=y))) H
theorem dec_int {i j:Int}:decide (V.int i=V.int j)=(i == j):=by
 rw[Bool.eq_iff_iff]
 simp
theorem dec_bl {i j:Bool}:decide (V.bl i=V.bl j)=(i == j):=by
 rw[Bool.eq_iff_iff]
 simp
theorem dec_str {i j:Str}:decide (V.str i=V.str j)=(i == j):=by
 rw[Bool.eq_iff_iff]
 simp
theorem dec_byt {i j:Array UInt8}:decide (V.byt i=V.byt j)=(i.toList == j.toList):=by
 rw[Bool.eq_iff_iff]
 cases i
 cases j
 simp
section
variable {X:Cx} {a b c:Expr} {ta tb tc:TE} {pos:Pos}
theorem fin_bl {pins:List (Addr × Obj)} {σ:St} {H:Hp} {s:Shared} {Q:VK} {k k':Bool} (I:Inv X pins σ H s) (q:Q (.bl k) H) (e:k=k'):EP X pins σ Q (.bool k') s:=by
 subst e
 exact⟨.bl k,H,I,rfl,q⟩
theorem op_eq:OpR X (compareOp .Eq) rEq:=by
 intro pins s σ H x y v u Q I rx ry h
 obtain⟨hs,q⟩:=h
 cases x with
 | non =>
  cases rx
  cases y with
  | non=>cases ry;exact PySem.EqNone.eq_none_none (fin_bl I q (by simp))
  | bl j=>cases ry;exact PySem.EqNone.eq_none_bool (fin_bl I q (by simp))
  | int j=>obtain⟨t',rfl⟩:=ry;exact PySem.EqNone.eq_none_int (fin_bl I q (by simp))
  | str j=>obtain⟨t',rfl⟩:=ry;exact PySem.EqNone.eq_none_str (fin_bl I q (by simp))
  | _=>exact absurd (show false=true from hs) Bool.false_ne_true
 | bl i =>
  cases rx
  cases y with
  | non=>cases ry;exact PySem.EqNone.eq_bool_none (fin_bl I q (by simp))
  | bl j=>cases ry;exact eq_bool (fin_bl I q dec_bl)
  | str j=>obtain⟨t',rfl⟩:=ry;exact PySem.EqMixed.eq_bool_str (fin_bl I q (by simp))
  | _=>exact absurd (show false=true from hs) Bool.false_ne_true
 | int i =>
  obtain⟨t,rfl⟩:=rx
  cases y with
  | non=>cases ry;exact PySem.EqNone.eq_int_none (fin_bl I q (by simp))
  | int j=>obtain⟨t',rfl⟩:=ry;exact eq_int (fin_bl I q dec_int)
  | str j=>obtain⟨t',rfl⟩:=ry;exact PySem.EqMixed.eq_int_str (fin_bl I q (by simp))
  | _=>exact absurd (show false=true from hs) Bool.false_ne_true
 | str i =>
  obtain⟨t,rfl⟩:=rx
  cases y with
  | non=>cases ry;exact PySem.EqNone.eq_str_none (fin_bl I q (by simp))
  | bl j=>cases ry;exact PySem.EqMixed.eq_str_bool (fin_bl I q (by simp))
  | int j=>obtain⟨t',rfl⟩:=ry;exact PySem.EqMixed.eq_str_int (fin_bl I q (by simp))
  | str j=>obtain⟨t',rfl⟩:=ry;exact eq_str (fin_bl I q dec_str)
  | _=>exact absurd (show false=true from hs) Bool.false_ne_true
 | byt i =>
  obtain⟨t,rfl⟩:=rx
  cases y with
  | byt j=>obtain⟨t',rfl⟩:=ry;exact PySem.W.eq_bytes (fin_bl I q dec_byt)
  | _=>exact absurd (show false=true from hs) Bool.false_ne_true
 | _=>cases y <;> exact absurd (show false=true from hs) Bool.false_ne_true
theorem op_ne:OpR X (compareOp .NotEq) rNe:=by
 intro pins s σ H x y v u Q I rx ry h
 obtain⟨hs,q⟩:=h
 cases x with
 | non =>
  cases rx
  cases y with
  | non=>cases ry;exact PySem.EqNone.ne_none_none (fin_bl I q (by simp))
  | bl j=>cases ry;exact PySem.EqNone.ne_none_bool (fin_bl I q (by simp))
  | int j=>obtain⟨t',rfl⟩:=ry;exact PySem.EqNone.ne_none_int (fin_bl I q (by simp))
  | str j=>obtain⟨t',rfl⟩:=ry;exact PySem.EqNone.ne_none_str (fin_bl I q (by simp))
  | _=>exact absurd (show false=true from hs) Bool.false_ne_true
 | bl i =>
  cases rx
  cases y with
  | non=>cases ry;exact PySem.EqNone.ne_bool_none (fin_bl I q (by simp))
  | bl j=>cases ry;exact ne_bool (fin_bl I q (congrArg not dec_bl))
  | str j=>obtain⟨t',rfl⟩:=ry;exact PySem.EqMixed.ne_bool_str (fin_bl I q (by simp))
  | _=>exact absurd (show false=true from hs) Bool.false_ne_true
 | int i =>
  obtain⟨t,rfl⟩:=rx
  cases y with
  | non=>cases ry;exact PySem.EqNone.ne_int_none (fin_bl I q (by simp))
  | int j=>obtain⟨t',rfl⟩:=ry;exact ne_int (fin_bl I q (congrArg not dec_int))
  | str j=>obtain⟨t',rfl⟩:=ry;exact PySem.EqMixed.ne_int_str (fin_bl I q (by simp))
  | _=>exact absurd (show false=true from hs) Bool.false_ne_true
 | str i =>
  obtain⟨t,rfl⟩:=rx
  cases y with
  | non=>cases ry;exact PySem.EqNone.ne_str_none (fin_bl I q (by simp))
  | bl j=>cases ry;exact PySem.EqMixed.ne_str_bool (fin_bl I q (by simp))
  | int j=>obtain⟨t',rfl⟩:=ry;exact PySem.EqMixed.ne_str_int (fin_bl I q (by simp))
  | str j=>obtain⟨t',rfl⟩:=ry;exact ne_str (fin_bl I q (congrArg not dec_str))
  | _=>exact absurd (show false=true from hs) Bool.false_ne_true
 | byt i =>
  obtain⟨t,rfl⟩:=rx
  cases y with
  | byt j=>obtain⟨t',rfl⟩:=ry;exact PySem.W.ne_bytes (fin_bl I q (congrArg not dec_byt))
  | _=>exact absurd (show false=true from hs) Bool.false_ne_true
 | _=>cases y <;> exact absurd (show false=true from hs) Bool.false_ne_true
theorem op_lt:OpR X (compareOp .Lt) (rI0 fun i j=>.bl (decide (i < j))):=opB0 fun _ _ _ _ _ _ _ q=>lt_int q
theorem op_le:OpR X (compareOp .LtE) (rI0 fun i j=>.bl (decide (i≤j))):=opB0 fun _ _ _ _ _ _ _ q=>le_int q
theorem op_gt:OpR X (compareOp .Gt) (rI0 fun i j=>.bl (decide (j < i))):=opB0 fun _ _ _ _ _ _ _ q=>gt_int q
theorem op_ge:OpR X (compareOp .GtE) (rI0 fun i j=>.bl (decide (j≤i))):=opB0 fun _ _ _ _ _ _ _ q=>ge_int q
/-- is None, is not None: the right side a value none -/
theorem op_isN:OpR X (compareOp .Is) (fun x y H Q=>y=.non∧Q (.bl (decide (x=.non))) H):=by
 intro pins s σ H x y v u Q I rx ry h
 obtain⟨rfl,q⟩:=h
 cases ry
 refine is_none_gen (fin_bl I q ?_)
 cases x <;> first
  | (cases rx;rfl)
  | (obtain⟨t,rfl⟩:=rx;rfl)
theorem op_notN:OpR X (compareOp .IsNot) (fun x y H Q=>y=.non∧Q (.bl (!decide (x=.non))) H):=by
 intro pins s σ H x y v u Q I rx ry h
 obtain⟨rfl,q⟩:=h
 cases ry
 refine isnot_none_gen (fin_bl I q ?_)
 cases x <;> first
  | (cases rx;rfl)
  | (obtain⟨t,rfl⟩:=rx;rfl)
/-- two rules for one operation: by cases -/
theorem OpR.or {f:Value->Value->Sem Value} {r r':R2} (h:OpR X f r) (h':OpR X f r'):OpR X f (fun x y H Q=>r x y H Q∨r' x y H Q):=by
 intro pins s σ H x y v u Q I rx ry q
 rcases q with q | q
 ·exact h pins s σ H x y v u Q I rx ry q
 ·exact h' pins s σ H x y v u Q I rx ry q
theorem nomark (b:Expr) {op:CmpOp} (h:op≠.In:=by decide) (h2:op≠.NotIn:=by decide):behindInMarks op b=false:=by
 have e1:(op == CmpOp.In)=false:=by cases op <;> first | rfl | exact absurd rfl h
 have e2:(op == CmpOp.NotIn)=false:=by cases op <;> first | rfl | exact absurd rfl h2
 cases b <;> simp [behindInMarks,e1,e2]
/-- a comparison as a value; hm: nomark b, or (for in, not in) by with_unfolding_all rfl -/
theorem pe_cmpR {op:CmpOp} {r:R2} (ho:OpR X (compareOp op) r) (ha:PE X a ta) (hb:PE X b tb) (hm:behindInMarks op b=false):PE X (.Compare a [op] [b] pos) (tOp r ta tb):=by
 intro pins s σ H Q I h
 exact wpAny_Compare1 (binT ha hb I h fun v u s2 x y H2 I2 rx ry q=>ho pins s2 σ H2 x y v u Q I2 rx ry q) hm
/-- a reading of a value as a test -/
def tTest (t:TE):TT:=fun σ H Q=>t σ H fun x H'=>∃ k,x=.bl k∧Q k H'
theorem pt_cmpR {op:CmpOp} {r:R2} (ho:OpR X (compareOp op) r) (ha:PE X a ta) (hb:PE X b tb) (hm:behindInMarks op b=false):PT X (.Compare a [op] [b] pos) (tTest (tOp r ta tb)):=by
 intro pins s σ H Q I h
 refine wpAny_isTrue_Compare1 (thn (ha pins s σ H _ I h) fun v s1 ⟨x,H1,I1,r1,q1⟩=>thn (hb pins s1 σ H1 _ I1 q1) fun u s2 ⟨y,H2,I2,r2,q2⟩ =>
  thn (ho pins s2 σ H2 x y v u _ I2 r1 r2 q2) fun c s3 ⟨z,H3,I3,r3,k,e,q3⟩=>?_) hm
 subst e
 cases r3
 exact wpAny_truthy_bool ⟨H3,I3,q3⟩
/-- a op1 b op2 c -/
def tChain (r r':R2) (ta tb tc:TE):TE:=fun σ H Q=>ta σ H fun x H1=>tb σ H1 fun y H2=>r x y H2 fun z H3=>∃ k,z=.bl k ∧
 (if k=true then tc σ H3 fun w' H4=>r' y w' H4 Q else Q (.bl false) H3)
theorem pe_chain {op op':CmpOp} {r r':R2} (ho:OpR X (compareOp op) r) (ho':OpR X (compareOp op') r') (ha:PE X a ta) (hb:PE X b tb) (hc:PE X c tc)
  (hm:lastMarks [op,op'] [b,c]=false:=by with_unfolding_all rfl):PE X (.Compare a [op,op'] [b,c] pos) (tChain r r' ta tb tc):=by
 intro pins s σ H Q I h
 refine Compare_chain (thn (ha pins s σ H _ I h) fun v s1 ⟨x,H1,I1,r1,q1⟩=>chain_link (thn (hb pins s1 σ H1 _ I1 q1) fun u s2 ⟨y,H2,I2,r2,q2⟩ =>
  thn (ho pins s2 σ H2 x y v u _ I2 r1 r2 q2) fun d s3 ⟨z,H3,I3,r3,k,e,q3⟩=>?_)) hm
 subst e
 cases r3
 refine wpAny_truthy_bool ?_
 cases k with
 | false=>exact ite_ff ⟨.bl false,H3,I3,rfl,q3⟩
 | true=>exact ite_tt (chain_last (thn (hc pins s3 σ H3 _ I3 q3) fun w' s4 ⟨z',H4,I4,r4,q4⟩=>ho' pins s4 σ H4 y z' u w' Q I4 r2 r4 q4))
theorem pt_chain {op op':CmpOp} {r r':R2} (ho:OpR X (compareOp op) r) (ho':OpR X (compareOp op') r') (ha:PE X a ta) (hb:PE X b tb) (hc:PE X c tc)
  (hm:lastMarks [op,op'] [b,c]=false:=by with_unfolding_all rfl):PT X (.Compare a [op,op'] [b,c] pos) (tTest (tChain r r' ta tb tc)):=by
 intro pins s σ H Q I h
 refine isTrue_chain (thn (ha pins s σ H _ I h) fun v s1 ⟨x,H1,I1,r1,q1⟩=>test_link (thn (hb pins s1 σ H1 _ I1 q1) fun u s2 ⟨y,H2,I2,r2,q2⟩ =>
  thn (ho pins s2 σ H2 x y v u _ I2 r1 r2 q2) fun d s3 ⟨z,H3,I3,r3,k,e,q3⟩=>?_)) hm
 subst e
 cases r3
 refine wpAny_truthy_bool ?_
 cases k with
 | false =>
  obtain⟨k',e',q'⟩:=q3
  cases e'
  exact ite_ff ⟨H3,I3,q'⟩
 | true =>
  refine ite_tt (test_last (thn (hc pins s3 σ H3 _ I3 q3) fun w' s4 ⟨z',H4,I4,r4,q4⟩=>thn (ho' pins s4 σ H4 y z' u w' _ I4 r2 r4 q4) fun d' s5 ⟨z2,H5,I5,r5,k2,e2,q5⟩=>?_))
  subst e2
  cases r5
  exact wpAny_truthy_bool ⟨H5,I5,q5⟩
theorem line63:(sizeLine:Nat) < 2 ^ 63:=by rw[sizeLine_eq];decide
theorem vals1 {x:V} {us:List Value} (r:Vals [x] us):∃ u,us=[u]∧RelV x u:=by
 cases r with
 | cons r1 r2=>cases r2;exact⟨_,rfl,r1⟩
theorem vals2 {x y:V} {us:List Value} (r:Vals [x,y] us):∃ u w',us=[u,w']∧RelV x u∧RelV y w':=by
 cases r with
 | cons r1 r2 =>
  cases r2 with
  | cons r3 r4=>cases r4;exact⟨_,_,rfl,r1,r3⟩
theorem call_abs:CallR X (.builtin "abs") (fun xs H Q=>∃ i,xs=[.int i]∧Q (.int (if i < 0 then -i else i)) H):=by
 intro pins s σ H xs us Q I r h
 obtain⟨i,rfl,q⟩:=h
 obtain⟨u,rfl,t,rfl⟩:=vals1 r
 exact call_abs_int fun u tk=>⟨.int (if i < 0 then -i else i),H,I.tok _,⟨_,rfl⟩,q⟩
theorem call_max2 (hc:X.calm=true):CallR X (.builtin "max") (fun xs H Q=>∃ i j,xs=[.int i,.int j]∧Q (.int (if j > i then j else i)) H):=by
 intro pins s σ H xs us Q I r h
 obtain⟨i,j,rfl,q⟩:=h
 obtain⟨u,w',rfl,⟨t,rfl⟩,⟨t',rfl⟩⟩:=vals2 r
 refine max_two_ints (I.ok.hd hc) fun h' tk k=>⟨_,H,I.kept k,?_,q⟩
 by_cases hj:j > i
 ·rw[if_pos hj,if_pos hj];exact⟨_,rfl⟩
 ·rw[if_neg hj,if_neg hj];exact⟨_,rfl⟩
theorem call_min2 (hc:X.calm=true):CallR X (.builtin "min") (fun xs H Q=>∃ i j,xs=[.int i,.int j]∧Q (.int (if j < i then j else i)) H):=by
 intro pins s σ H xs us Q I r h
 obtain⟨i,j,rfl,q⟩:=h
 obtain⟨u,w',rfl,⟨t,rfl⟩,⟨t',rfl⟩⟩:=vals2 r
 refine min_two_ints (I.ok.hd hc) fun h' tk k=>⟨_,H,I.kept k,?_,q⟩
 by_cases hj:j < i
 ·rw[if_pos hj,if_pos hj];exact⟨_,rfl⟩
 ·rw[if_neg hj,if_neg hj];exact⟨_,rfl⟩
end
end L2
namespace L2
open PySem PySem.Spec PyProof.Rows
structure ObjM (h:Heap) (x dx C:Addr) (mA:Str->Option Value):Prop where
 obj:h.get? x=some (PySem.W.instObj C dx)
 ns:h.Ns1 dx mA
 ne:dx≠x
theorem lookIn_ns {h:Heap} {dx:Addr} {mA:Str->Option Value} (n:h.Ns1 dx mA):∃ od,h.get? dx=some od∧∀ name,PySem.W.lookIn name od=some (mA name):=by
 obtain⟨o,es,ep,ho,hd,hk,_,hm⟩:=n
 refine⟨o,ho,fun name=>?_⟩
 have e:=hm name
 unfold nsFind findBy at e
 rw[← Array.find?_toList] at e
 unfold PySem.W.lookIn
 rw[hd]
 dsimp only
 split
 ·rename_i y q
  rw[q] at e
  exact congrArg some e
 ·rename_i q
  rw[q] at e
  have a:es.toList.any (·.refKey)=false:=by
   rw[List.any_eq_false]
   intro y hy
   obtain⟨z,t,hkey⟩:=hk y (Array.mem_toList_iff.mp hy)
   simp [DictEntry.refKey,hkey]
  have a':¬ es.toList.any (·.refKey)=true:=by rw[a];exact Bool.false_ne_true
  rw[if_neg a']
  exact congrArg some e
theorem ObjM.look {h:Heap} {x dx C:Addr} {mA:Str->Option Value} (I:ObjM h x dx C mA):∃ od,PySem.W.InstAt h x (PySem.W.instObj C dx) C (some od)∧∀ name,PySem.W.lookIn name od=some (mA name) :=
 let ⟨od,ho,hl⟩:=lookIn_ns I.ns
 ⟨od,⟨I.obj,rfl,rfl,ho⟩,hl⟩
section
variable {prog:Program} {w:World} {A:Around} {E:Value->Shared->Prop} {s:Shared} {K:PySem.W.Frag} {x dx C f:Addr} {mA:Str->Option Value} {name:Str} {v:Value}
end
section
variable {P:Program} {w:World} {H H':Hp} {h h':Heap} {a C dx:Addr} {fs fs':List (Str × V)}
theorem ins_get (hok:HOk P w H h) (e:H a=some (.ins C dx fs)):∃ mA,ObjM h a dx C mA∧(∀ f,RelO (fs.lookup f) (mA f))∧PySem.Within mA (fs.map (·.1))∧fs.length≤1000∧H dx=some (.own a):=by
 obtain⟨d,z,ne,ob,mA,n,r,q⟩:=(show ObjOk P w H h a (.ins C dx fs) from hok a _ e)
 exact⟨mA,⟨ob,n,ne⟩,r,q,z,d⟩
end
structure Cls (K:PySem.W.Frag) (C:Addr):Prop where
 pg:PySem.W.plainGet K C Str.empty=true
 hd:PySem.W.hasDictIn K C=true
 po:PySem.W.plainOver K C=true
 sa:PySem.W.findIn K (.ref C) "__setattr__"=some (some (.builtin "object.__setattr__"))
theorem Cls.get {K:PySem.W.Frag} {C:Addr} (c:Cls K C) (f:Str):PySem.W.plainGet K C f=true:=c.pg
/-- a constant of the class -/
structure Con (K:PySem.W.Frag) (C:Addr) (f:Str) (v:V) (u:Value):Prop where
 at_:PySem.W.findIn K (.ref C) f=some (some u)
 rel:RelV v u
 get:PySem.W.specialIn K u "__get__"=some none
 cp:PySem.W.copiedNames.contains f=false
section
variable {X:Cx} {pins:List (Addr × Obj)} {σ:St} {H:Hp} {s:Shared} {a C dx:Addr} {fs:List (Str × V)} {f:Str} {v:V} {A:Around} {E:Value->Shared->Prop}
/-- a new instance, tracked, without attributes -/
theorem Inv.made (I:Inv X pins σ H s):Inv X pins σ (upd (upd H s.heap.objs.size (.own (s.heap.objs.size + 1))) (s.heap.objs.size + 1) (.ins C s.heap.objs.size []))
  { s with heap:=(s.heap.push PySem.W.emptyDict).push (PySem.W.instObj C s.heap.objs.size) }:=by
 have e1:(s.heap.push PySem.W.emptyDict).get? s.heap.objs.size=some PySem.W.emptyDict:=Heap.get?_push_size s.heap rfl
 have e2:((s.heap.push PySem.W.emptyDict).push (PySem.W.instObj C s.heap.objs.size)).get? (s.heap.objs.size + 1)=some (PySem.W.instObj C s.heap.objs.size):=by
  have:=Heap.get?_push_size (s.heap.push PySem.W.emptyDict) (o:=PySem.W.instObj C s.heap.objs.size) rfl
  rwa [Heap.size_push] at this
 have e3:(s.heap.push PySem.W.emptyDict).Ns s.heap.objs.size (fun _=>none):=⟨PySem.W.emptyDict,#[],_,e1,rfl,(fun e he=>absurd he (by simp)),fun _=>rfl⟩
 have I1:=I.laid (a:=s.heap.objs.size) (o:=.own (s.heap.objs.size + 1)) (h':=s.heap.push PySem.W.emptyDict) (t':=s.toks) (fun b u q=>Heap.get?_push_of_some _ q) (Nat.le_refl _) ⟨_,e1⟩
 refine I1.laid (a:=s.heap.objs.size + 1) (o:=.ins C s.heap.objs.size []) (t':=s.toks) (fun b u q=>Heap.get?_push_of_some _ q) (Nat.le_of_eq (Heap.size_push _ _)) ?_
 have ne:s.heap.objs.size≠s.heap.objs.size + 1:=Nat.ne_of_lt (Nat.lt_succ_self _)
 refine⟨by rw[upd_ne ne,upd_same],Nat.zero_le _,ne,e2,fun _=>none,(Heap.Ns1.of_empty e3).at fun o q=>Heap.get?_push_of_some _ q,fun _=>True.intro,fun y hy=>absurd rfl hy⟩
end
section
variable {X:Cx} {o e value:Expr} {f:Str} {pos pos' tpos:Pos} {ta tv:TE}
end
section
variable {X:Cx} {pins:List (Addr × Obj)} {σ:St} {H:Hp} {s:Shared} {A:Around} {E:Value->Shared->Prop} {Q:Value->Shared->Prop} {c:Value} {b:Bool}
/-- the type of a value, as the fragment's deciders take it; for an instance its class -/
inductive TyOf (K:PySem.W.Frag) (H:Hp):V->Value->Prop where
 | non:TyOf K H .non (.type "NoneType")
 | bl (x:Bool):TyOf K H (.bl x) (.type "bool")
 | int (i:Int):TyOf K H (.int i) (.type "int")
 | str (x:Str):TyOf K H (.str x) (.type "str")
 | flt (x:UInt64):TyOf K H (.flt x) (.type "float")
 | lst {a:Addr} {xs:List V} (e:H a=some (.lst xs)):TyOf K H (.ref a) (.type "list")
 | frz {a:Addr} {o:Obj} {xs:List V} (e:H a=some (.frz o (.lst xs))):TyOf K H (.ref a) (.type "list")
 | tup {a:Addr} {xs:List V} (e:H a=some (.tup xs)):TyOf K H (.ref a) (.type "tuple")
 | dK {a:Addr} {kvs:List (Key × V)} (e:H a=some (.dK kvs)):TyOf K H (.ref a) (.type "dict")
 | dT {a:Addr} {kvs:List (List Key × V)} (e:H a=some (.dT kvs)):TyOf K H (.ref a) (.type "dict")
 | ins {a C dx : Addr} {fs : List (Str × V)} (e : H a = some (.ins C dx fs)) (cl : Cls K C) (ha : PySem.W.findIn K (.ref C) "__class__" = some (some (.builtin "object.__class__")))
     (hn:PySem.W.specialIn K (.builtin "object.__class__") "__get__"=some (some (.builtin "getset_descriptor.__get__"))) (htk:PySem.W.takesIn K (.builtin "object.__class__")=some true)
     (hm:PySem.W.mroIn K C (.type "object")=some true):TyOf K H (.ref a) (.ref C)
/-- isinstance(x, c) for one class c, a built-in or an own one: kitOne's answer -/
theorem isinst_ok {x:V} {u t:Value} (I:Inv X pins σ H s) (rx:RelV x u) (ty:TyOf X.K H x t) (e:PySem.W.kitOne X.K t c=some b) (h:∀ tk,Q (.bool b) { s with toks:=tk }) :
  wpAny (model X.prog X.w) A (call (.builtin "isinstance") [u,c]) Q E s:=by
 cases ty with
 | non=>cases (show u=Value.none from rx);exact PySem.W.kia_one PySem.W.kitx_none I.kIn True.intro e (fun z=>nomatch z) h
 | bl y=>cases (show u=Value.bool y from rx);exact PySem.W.kia_one PySem.W.kitx_bool I.kIn True.intro e (fun z=>nomatch z) h
 | int i=>obtain⟨t,q⟩:=(show ∃ t,u=Value.int i t from rx);cases q;exact PySem.W.kia_one PySem.W.kitx_int I.kIn True.intro e (fun z=>nomatch z) h
 | str y=>obtain⟨t,q⟩:=(show ∃ t,u=Value.str y t from rx);cases q;exact PySem.W.kia_one PySem.W.kitx_str I.kIn True.intro e (fun z=>nomatch z) h
 | flt y=>obtain⟨t,q⟩:=(show ∃ t,u=Value.float y t from rx);cases q;exact PySem.W.kia_one PySem.W.kitx_float I.kIn True.intro e (fun z=>nomatch z) h
 | @lst a xs ea =>
  cases (show u=Value.ref a from rx)
  obtain⟨_,_,n,_,h1⟩:=(show ObjOk X.prog X.w H s.heap a (.lst xs) from I.hok a _ ea)
  exact PySem.W.kia_one PySem.W.kitx_list I.kIn ⟨_,h1,rfl⟩ e (fun z=>nomatch z) h
 | @frz a ob xs ea =>
  cases (show u=Value.ref a from rx)
  obtain⟨_,_,_,n,_,h1⟩:=(show ObjOk X.prog X.w H s.heap a (.frz ob (.lst xs)) from I.hok a _ ea)
  exact PySem.W.kia_one PySem.W.kitx_list I.kIn ⟨_,h1,rfl⟩ e (fun z=>nomatch z) h
 | @tup a xs ea =>
  cases (show u=Value.ref a from rx)
  obtain⟨_,_,_,p⟩:=(show ObjOk X.prog X.w H s.heap a (.tup xs) from I.hok a _ ea)
  obtain⟨o,h1,h2,_⟩:=p
  exact PySem.W.kia_one PySem.W.kitx_tuple I.kIn ⟨o,h1,h2⟩ e (fun z=>nomatch z) h
 | @dK a kvs ea =>
  cases (show u=Value.ref a from rx)
  obtain⟨_,_,vs,_,p⟩:=(show ObjOk X.prog X.w H s.heap a (.dK kvs) from I.hok a _ ea)
  obtain⟨o,es,ep,h1,h2,_⟩:=p
  exact PySem.W.kia_one PySem.W.kitx_dict I.kIn ⟨o,h1,h2.1⟩ e (fun z=>nomatch z) h
 | @dT a kvs ea =>
  cases (show u=Value.ref a from rx)
  obtain⟨_,_,xs,_,o,es,ep,h1,h2,_⟩:=(show ObjOk X.prog X.w H s.heap a (.dT kvs) from I.hok a _ ea)
  exact PySem.W.kia_one PySem.W.kitx_dict I.kIn ⟨o,h1,h2.1⟩ e (fun z=>nomatch z) h
 | @ins a C dx fs ea cl ha hn htk hm =>
  cases (show u=Value.ref a from rx)
  obtain⟨mA,O,_⟩:=ins_get I.hok ea
  obtain⟨od,J,_⟩:=O.look
  exact PySem.W.kia_one (PySem.W.kitx_own (cl.get _) cl.hd ha hn htk hm) I.kIn J e (fun z=>nomatch z) h
end
end L2
namespace L2
open PySem PySem.Spec PyProof.Rows
structure Room (k:Nat) (A:Around):Prop where
 hd:A.handled=none
 dp:A.depth + 3 * k + 5 < recursionLimit
 un:A.units + 16 * k + 200 < cLine
 gd:A.guards=some []
theorem Room.mono {j k:Nat} {A:Around} (r:Room k A) (h:j≤k):Room j A:=⟨r.hd,by have:=r.dp;omega,by have:=r.un;omega,r.gd⟩
theorem Room.deeper {k:Nat} {A:Around} (r:Room (k + 1) A) (env:Env):Room k (A.deeper env) :=
 ⟨r.hd,by have:=r.dp;show A.depth + 1 + 3 * k + 5 < _;omega,by have:=r.un;show A.units + 3 + 16 * k + 200 < _;omega,r.gd⟩
theorem Room.in1 {k:Nat} {A:Around} (r:Room (k + 1) A):Room k A.in1 :=
 ⟨r.hd,by have:=r.dp;show A.depth + 3 * k + 5 < _;omega,by have:=r.un;show A.units + 1 + 16 * k + 200 < _;omega,r.gd⟩
theorem Room.depth {k:Nat} {A:Around} (r:Room k A):A.depth < recursionLimit:=by have:=r.dp;omega
theorem Room.units {k:Nat} {A:Around} (r:Room k A):A.units + 64 < cLine:=by have:=r.un;omega
def tNil:TA:=fun _ H Q=>Q [] H
def tCons (ta:TE) (tr:TA):TA:=fun σ H Q=>ta σ H fun x H1=>tr σ H1 fun xs H2=>Q (x::xs) H2
section
variable {X:Cx} {e:Expr} {es:List Expr} {te:TE} {t:TA} {pos:Pos}
theorem pa_nil:PA X [] tNil:=fun _ _ _ _ H Q I h=>Calls.spliced_nil ⟨[],H,I,.nil,h⟩
theorem pa_cons (ha:PE X e te) (hr:PA X es t) (hs:starEach (e::es) X.env=(false,eval e X.env)::starEach es X.env:=by rfl):PA X (e::es) (tCons te t):=by
 intro pos pins s σ H Q I h
 rw[hs]
 show wpAny _ _ (spliced ((false,eval e X.env)::backTo pos (starEach es X.env))) _ _ s
 refine Calls.spliced_cons (thn (ha pins s σ H _ I h) fun u s1 ⟨x,H1,I1,r1,q1⟩=>?_)
 exact thn (hr pos pins s1 σ H1 _ I1 q1) fun us s2 ⟨xs,H2,I2,r2,q2⟩=>⟨x::xs,H2,I2,.cons r1 r2,q2⟩
/-- a tuple, a list of written items -/
def tTup (t:TA):TE:=fun σ H Q=>t σ H fun xs H1=>xs.length≤sizeLine∧∀ p,H1 p=none->Q (.ref p) (upd H1 p (.tup xs))
def tLst (t:TA):TE:=fun σ H Q=>t σ H fun xs H1=>xs.length≤sizeLine∧∀ p,H1 p=none->Q (.ref p) (upd H1 p (.lst xs))
theorem pe_tup {x1} (h:PA X es t):PE X (.Tuple es x1 pos) (tTup t):=by
 intro pins s σ H Q I hq
 refine wpAny_Tuple_spliced (thn (h pos pins s σ H _ I hq) fun us s1 ⟨xs,H1,I1,r,z,q⟩=>⟨by rw[← r.length];exact z,?_⟩)
 have hf:H1 s1.heap.objs.size=none:=I1.hok.fresh (Nat.le_refl _)
 refine⟨.ref s1.heap.objs.size,upd H1 s1.heap.objs.size (.tup xs),I1.laid (t':=s1.toks) (fun b u e=>Heap.get?_push_of_some _ e) (Nat.le_refl _) ?_,rfl,q _ hf⟩
 exact⟨z,us,r,⟨_,Heap.get?_push_size _ rfl,rfl,⟨_,rfl⟩,rfl⟩⟩
theorem pe_lst (h:PA X es t):PE X (.List es pos) (tLst t):=by
 intro pins s σ H Q I hq
 refine wpAny_List_spliced (thn (h pos pins s σ H _ I hq) fun us s1 ⟨xs,H1,I1,r,z,q⟩=>⟨by rw[← r.length];exact z,?_⟩)
 have hf:H1 s1.heap.objs.size=none:=I1.hok.fresh (Nat.le_refl _)
 refine⟨.ref s1.heap.objs.size,upd H1 s1.heap.objs.size (.lst xs),I1.laid (t':=s1.toks) (fun b u e=>Heap.get?_push_of_some _ e) (Nat.le_refl _) ?_,rfl,q _ hf⟩
 exact⟨z,us,0,r,Heap.get?_push_size _ rfl⟩
end
/-- a def's promise: the bound arguments in the parameters' order, the heap, the wanted end, the wanted exception -/
abbrev Sp:=List V->Hp->VK->XK->Prop
/-- how an exception lies behind a call (file 08 gives it): the callers' frames, abstract heap and state ahead of the call, the wish, the exception, the state -/
abbrev CXT:=List Env->Hp->Shared->XK->Value->Shared->Prop
/-- the state at a call -/
structure Env0 (P:Program) (w:World) (K:PySem.W.Frag) (mg:Str->Option Value) (base:Heap) (A:Around) (outer:List Env) (s:Shared) (H:Hp):Prop where
 frames:A.frames=some outer
 mod:Mod K mg base
 bs:∀ b o,base.get? b=some o->s.heap.get? b=some o∧H b=none
 bsz:base.objs.size≤s.heap.objs.size
 funs:s.heap.FunFrames base outer
 frf:∀ b ∈ frs outer,H b=none
 hok:HOk P w H s.heap
 bare:AllBare s.gens
/-- a call's end -/
def CE (outer:List Env) (P:Program) (w:World) (H:Hp) (s:Shared) (Q:VK) (u:Value) (s':Shared):Prop :=
 ∃ v H',s'.os=s.os∧AllBare s'.gens∧Un (frs outer) [] H H' s.heap s'.heap∧HOk P w H' s'.heap∧RelV v u∧Q v H'
def CR (CX:CXT) (outer:List Env) (P:Program) (w:World) (H:Hp) (s:Shared) (Q:VK) (E:XK) (r:Result) (s':Shared):Prop :=
 match r with
 | .ok (.ret u)=>CE outer P w H s Q u s'
 | .ok _=>False
 | .error e=>CX outer H s E e s'
structure FnOk (P:Program) (w:World) (K:PySem.W.Frag) (mg:Str->Option Value) (base:Heap) (CX:CXT) (k:Nat) (f:Addr) (fd:FuncData) (ps:List Str) (sp:Sp):Prop where
 len:∀ vs H Q E,sp vs H Q E->vs.length=ps.length
 run:∀ (A:Around) (outer:List Env) (s:Shared) (H:Hp) (args:Args) (us:List Value) (vs:List V) (Q:VK) (E:XK),Room k A->Env0 P w K mg base A outer s H->BindsTo s fd args (ps.zip us)->Vals vs us->sp vs H Q E ->
  codeAny (model P w) A (.call (.ref f) args) (CR CX outer P w H s Q E) s
theorem FnOk.mono {P:Program} {w:World} {K:PySem.W.Frag} {mg:Str->Option Value} {base:Heap} {CX:CXT} {j k:Nat} {f:Addr} {fd:FuncData} {ps:List Str} {sp:Sp} (F:FnOk P w K mg base CX j f fd ps sp) (h:j≤k) :
  FnOk P w K mg base CX k f fd ps sp:=⟨F.len,fun A outer s H args us vs Q E hr=>F.run A outer s H args us vs Q E (hr.mono h)⟩
/-- a weaker promise -/
theorem FnOk.imp {P:Program} {w:World} {K:PySem.W.Frag} {mg:Str->Option Value} {base:Heap} {CX:CXT} {k:Nat} {f:Addr} {fd:FuncData} {ps:List Str} {sp sp':Sp} (F:FnOk P w K mg base CX k f fd ps sp)
  (h:∀ vs H Q E,sp' vs H Q E->sp vs H Q E):FnOk P w K mg base CX k f fd ps sp' :=
 ⟨fun vs H Q E q=>F.len vs H Q E (h _ _ _ _ q),fun A outer s H args us vs Q E hr he hb hv hs=>F.run A outer s H args us vs Q E hr he hb hv (h _ _ _ _ hs)⟩
theorem Env0.in1 {P:Program} {w:World} {K:PySem.W.Frag} {mg:Str->Option Value} {base:Heap} {A:Around} {outer:List Env} {s:Shared} {H:Hp} (e:Env0 P w K mg base A outer s H) :
  Env0 P w K mg base A.in1 outer s H:=⟨e.frames,e.mod,e.bs,e.bsz,e.funs,e.frf,e.hok,e.bare⟩
section
variable {X:Cx} {pins:List (Addr × Obj)} {σ:St} {H:Hp} {s s':Shared}
/-- from a body: what a callee wants -/
theorem Inv.env0 (I:Inv X pins σ H s):Env0 X.prog X.w X.K X.mg X.base X.A X.stack s H :=
 ⟨I.ok.frames,I.ok.mod,I.bs,Nat.le_trans I.ok.bsz I.sz,I.stack,I.stkFree,I.hok,I.bare⟩
/-- behind a call -/
theorem Inv.after {Q:VK} {u:Value} (I:Inv X pins σ H s) (h:CE X.stack X.prog X.w H s Q u s'):EP X pins σ Q u s':=by
 obtain⟨v,H',os,bare,un,hok,r,q⟩:=h
 obtain⟨hh,g,d,t,os'⟩:=s'
 obtain rfl:os'=s.os:=os
 exact⟨v,H',I.call (h':=hh) (g':=g) (d':=d) (t':=t) (ch:=[]) un hok bare (fun b z=>absurd z (by simp)),r,q⟩
end
/-- f(..): the written arguments, then the defaults dvs; E: what is wanted of an exception -/
def tCall (sp:Sp) (dvs:List V) (E:XK) (t:TA):TE:=fun σ H Q=>t σ H fun vs H1=>sp (vs++dvs) H1 Q E
/-- how the parameters are bound: us the positional arguments, kw the keywords' values by name, ds the defaults that fill up -/
def Binds (K:PySem.W.Frag) (fd:FuncData) (ps:List Str) (ds:List Value):Prop :=
 ∀ (s:Shared) (us:List Value),K.In s.heap->(us++ds).length=ps.length->BindsTo s fd ⟨us,[]⟩ (ps.zip (us++ds))
/-- every parameter is given -/
theorem Binds.all {K:PySem.W.Frag} {fd:FuncData} {ps:List Str} (h:∀ us:List Value,us.length=ps.length->bindArgs fd ⟨us,[]⟩=pure (ps.zip us)):Binds K fd ps []:=fun s us _ hl=>by
 rw[List.append_nil] at hl ⊢
 exact .of_eq (h us hl)
/-- an exception of a callee reaches what this body wants of exceptions -/
def Passes (CX:CXT) (X:Cx) (E:XK):Prop:=∀ (pins:List (Addr × Obj)) (σ:St) (H:Hp) (s:Shared) (e:Value) (s':Shared),Inv X pins σ H s->CX X.stack H s E e s'->X.xe e s'
section
variable {X:Cx} {CX:CXT} {k:Nat} {f C:Addr} {fd:FuncData} {ps:List Str} {sp:Sp} {dvs:List V} {ds:List Value} {E:XK} {x m:Str} {p pos apos:Pos} {e o:Expr} {es:List Expr} {ta:TE} {t:TA}
/-- the callee runs -/
theorem run_fn {pins:List (Addr × Obj)} {σ:St} {H:Hp} {s:Shared} {Q:VK} {us:List Value} {vs:List V} (F:FnOk X.prog X.w X.K X.mg X.base CX k f fd ps sp) (hr:Room k X.A) (hb:Binds X.K fd ps ds) (hd:Vals dvs ds) (hx:Passes CX X E)
  (I:Inv X pins σ H s) (r:Vals vs us) (h:sp (vs++dvs) H Q E):wpAny (model X.prog X.w) X.A (call (.ref f) us) (EP X pins σ Q) X.xe s:=by
 have r2:Vals (vs++dvs) (us++ds):=r.append hd
 have hl:(us++ds).length=ps.length:=by rw[← r2.length];exact F.len _ _ _ _ h
 refine wpAny_call (codeAny_mono (F.run X.A X.stack s H ⟨us,[]⟩ (us++ds) (vs++dvs) Q E hr I.env0 (hb s us I.kIn hl) r2 h) fun r s' hq=>?_)
 cases r with
 | error e=>exact hx pins σ H s e s' I hq
 | ok fl =>
  cases fl with
  | ret u=>exact I.after hq
  | next=>exact False.elim hq
  | brk=>exact False.elim hq
  | cont=>exact False.elim hq
theorem pe_call (F:FnOk X.prog X.w X.K X.mg X.base CX k f fd ps sp) (hr:Room k X.A) (hg:Gl X x) (hm:X.mg x=some (.ref f)) (hk:PySem.W.keepIn X.K (.ref f)=true) (hb:Binds X.K fd ps ds) (hd:Vals dvs ds) (hx:Passes CX X E)
  (ha:PA X (e::es) t) (hdb:(x == ("__debug__":Str))=false:=by decide) (he:starEach (e::es) X.env=(false,eval e X.env)::starEach es X.env:=by rfl) (hpl:(backTo pos (starEach es X.env)).any (·.1)=false:=by rfl) :
  PE X (.Call (.Name x p) (e::es) [] pos) (tCall sp dvs E t):=by
 intro pins s σ H Q I h
 refine wpAny_Call_Name_kw (ld_glob I hg hm ?_ hdb)
 refine PySem.W.callWith_K (h₀:=X.base) I.ok.mod.kin hk (thn (ha pos pins s σ H _ I h) fun us s1 ⟨vs,H1,I1,r,q⟩=>⟨I1.kIn,?_⟩) he hpl
 exact run_fn F hr hb hd hx I1 r q
/-- what a class must have to be made -/
structure Mk (K:PySem.W.Frag) (C f:Addr):Prop where
 makes:PySem.W.makesIn K C=true
 init:PySem.W.findIn K (.ref C) "__init__"=some (some (.ref f))
 fn:PySem.W.isFn K (.ref f)=true
 kp:PySem.W.keepIn K (.ref C)=true
end
section
variable {X:Cx} {CX:CXT} {k:Nat} {f C:Addr} {fd:FuncData} {ps ks:List Str} {sp:Sp} {E:XK} {x m:Str} {p pos apos kpos:Pos} {e o:Expr} {es:List Expr} {kws:List Keyword} {te ta:TE} {t tk:TA} {nm:Option Str}
variable {g:List Value->List Value->List Value} {gV:List V->List V->List V}
end
/-- names: the parameters first -/
structure FnScope (N P:List Str) (sc:Scope):Prop where
 kind:sc.kind=.function
 co:sc.isCoroutine=false
 gen:sc.isGenerator=false
 nd:N.Nodup
 pre:N.take P.length=P
 par:∀ x ∈ P,sc.names.lookup x=some .local∨sc.names.lookup x=some .cell
 nofree:∀ y ∈ sc.names,y.2≠.free
theorem bindL_out {kindOf:Str->Option NameKind} {x:Str}:∀ {binds:List (Str × Value)} {m:Str->Option Value},(∀ v,(x,v) ∉ binds)->bindL kindOf binds m x=m x
 | [],_,_=>rfl
 | (n,v)::r,m,h=>by
  unfold bindL
  rw[bindL_out fun w hw=>h w (List.mem_cons_of_mem _ hw)]
  split
  ·have:x≠n:=by rintro rfl;exact h v List.mem_cons_self
   simp [this]
  ·rfl
theorem bindC_out {kindOf:Str->Option NameKind} {x:Str}:∀ {binds:List (Str × Value)} {m:Str->Option Value},(∀ v,(x,v) ∉ binds)->bindC kindOf binds m x=m x
 | [],_,_=>rfl
 | (n,v)::r,m,h=>by
  unfold bindC
  rw[bindC_out fun w hw=>h w (List.mem_cons_of_mem _ hw)]
  split
  ·rfl
  ·have:x≠n:=by rintro rfl;exact h v List.mem_cons_self
   simp [this]
theorem bindL_get {kindOf:Str->Option NameKind} {x:Str} {v:Value}:∀ {P:List Str} {vs:List Value} {i:Nat} {m:Str->Option Value},P.Nodup->P[i]?=some x->vs[i]?=some v->kindOf x=some .local ->
  bindL kindOf (P.zip vs) m x=some v
 | [],_,_,_,_,h,_,_=>by simp at h
 | _::_,[],_,_,_,_,h,_=>by simp at h
 | p::P,w::vs,0,m,nd,h1,h2,hk=>by
  simp at h1 h2;subst h1;subst h2
  show bindL kindOf ((p,w)::P.zip vs) m p=_
  unfold bindL
  rw[bindL_out fun v hv=>(List.nodup_cons.mp nd).1 (List.of_mem_zip hv).1,if_pos hk]
  simp
 | p::P,w::vs,i + 1,m,nd,h1,h2,hk=>by
  show bindL kindOf ((p,w)::P.zip vs) m x=_
  unfold bindL
  exact bindL_get (i:=i) (List.nodup_cons.mp nd).2 (by simpa using h1) (by simpa using h2) hk
theorem bindC_get {kindOf:Str->Option NameKind} {x:Str} {v:Value}:∀ {P:List Str} {vs:List Value} {i:Nat} {m:Str->Option Value},P.Nodup->P[i]?=some x->vs[i]?=some v->kindOf x≠some .local ->
  bindC kindOf (P.zip vs) m x=some v
 | [],_,_,_,_,h,_,_=>by simp at h
 | _::_,[],_,_,_,_,h,_=>by simp at h
 | p::P,w::vs,0,m,nd,h1,h2,hk=>by
  simp at h1 h2;subst h1;subst h2
  show bindC kindOf ((p,w)::P.zip vs) m p=_
  unfold bindC
  rw[bindC_out fun v hv=>(List.nodup_cons.mp nd).1 (List.of_mem_zip hv).1,if_neg hk]
  simp
 | p::P,w::vs,i + 1,m,nd,h1,h2,hk=>by
  show bindC kindOf ((p,w)::P.zip vs) m x=_
  unfold bindC
  exact bindC_get (i:=i) (List.nodup_cons.mp nd).2 (by simpa using h1) (by simpa using h2) hk
/-- the names' values at the entry -/
def start (N:List Str) (vs:List V):St:=vs.map some++List.replicate (N.length - vs.length) none
/-- the context of a def's body, at its entry; an exception leaves the frame, then lies as CX says -/
def cxOf (CX:CXT) (P:Program) (w:World) (K:PySem.W.Frag) (mg:Str->Option Value) (base:Heap) (N:List Str) (qual:Str) (scope:Scope) (f:Addr) (cd:Value) (A:Around) (outer:List Env) (s:Shared) (H:Hp) (E:XK):Cx where
 prog:=P
 w:=w
 K:=K
 mg:=mg
 base:=base
 A:=A.deeper (envOfC qual scope s.heap.objs.size f cd)
 N:=N
 s₀:=s
 H₀:=H
 env:=envOfC qual scope s.heap.objs.size f cd
 outer:=outer
 stack:=envOfC qual scope s.heap.objs.size f cd::outer
 ex:=[]
 calm:=true
 fn:=fun _=>true
 pn:=[]
 xe:=fun e s'=>wpAny (model P w) (A.deeper (envOfC qual scope s.heap.objs.size f cd)) (leaving (envOfC qual scope s.heap.objs.size f cd) e) (fun _ s''=>CX outer H s E e s'') (fun e' s''=>CX outer H s E e' s'') s'
theorem cell_has {sc:Scope} {n:Nat} {x:Str} (h:sc.names.lookup x=some .cell):∃ c,(cellsFrom n sc.names []).lookup x=some c:=by
 have q:=PySem.W.cellsFrom_some sc.names n [] (.inl h)
 exact Option.isSome_iff_exists.mp q
theorem inv_start {CX:CXT} {P:Program} {w:World} {K:PySem.W.Frag} {mg:Str->Option Value} {base:Heap} {N ps:List Str} {qual:Str} {scope:Scope} {f:Addr} {cd:Value} {A:Around} {outer:List Env} {s s1:Shared} {H:Hp} {E:XK} {us:List Value} {vs:List V}
  (S:FnScope N ps scope) (hd:A.handled=none) (e0:Env0 P w K mg base A outer s H) (hl:vs.length=ps.length) (r:Vals vs us)
  (x:InCallC s s.heap.objs.size (bindL (envOfC qual scope s.heap.objs.size f cd).kindOf (ps.zip us) fun _=>none) (cellsFrom (s.heap.objs.size + 1) scope.names []) (bindC (envOfC qual scope s.heap.objs.size f cd).kindOf (ps.zip us) fun _=>none) s1) :
  Inv (cxOf CX P w K mg base N qual scope f cd A outer s H E) [] (start N vs) H s1:=by
 have hpl:ps.length≤N.length:=by have:=congrArg List.length S.pre;rw[List.length_take] at this;omega
 obtain⟨h1,tk,rfl,hk⟩:=x.done
 have noA:∀ b:Addr,b ∉ (cxOf CX P w K mg base N qual scope f cd A outer s H E).ex:=fun b z=>absurd (show b ∈ ([]:List Addr) from z) (by simp)
 refine⟨⟨e0.mod,S.kind,rfl,rfl,Nat.le_refl _,fun y z c h1 h2=>?_,fun y hy=>?_,fun y c _ h=>?_,fun _=>hd,Around.frames_deeper e0.frames,.inr ⟨rfl,rfl⟩,fun b z=>absurd z (noA b),e0.bs,e0.bsz,fun b _ _=>noA b,fun b z=>absurd z (noA b),e0.funs,e0.frf⟩,
  rfl,e0.bare,Un.kept hk,⟨_,x.toInCall.ns,fun i y v h1 h2 h3=>?_⟩,fun y c h=>⟨_,x.cell y c h⟩,e0.hok.fresh (Nat.le_refl _),fun y c h=>?_,fun p hp=>absurd (show p ∈ ([]:List (Addr × Obj)) from hp) (by simp),e0.hok.kept hk,?_⟩
 ·exact name_of_addr x.apart (PySem.mem_of_lookup h1) (PySem.mem_of_lookup h2)
 ·have hy:scope.names.lookup y=some .cell∨scope.names.lookup y=some .free:=hy
  rcases hy with hy | hy
  ·exact cell_has hy
  ·exact absurd rfl (S.nofree _ (PySem.mem_of_lookup hy))
 ·exact Nat.le_of_lt (x.above y c (PySem.mem_of_lookup h))
 ·have hi:i < vs.length:=by
   unfold start at h2
   by_cases hi:i < vs.length
   ·exact hi
   ·rw[List.getElem?_append_right (by simpa using hi)] at h2
    rw[List.getElem?_replicate] at h2
    split at h2 <;> cases h2
  have ha:vs[i]?=some v:=by
   unfold start at h2
   rw[List.getElem?_append_left (by simpa using hi),List.getElem?_map] at h2
   cases e:vs[i]? with
   | none=>rw[e] at h2;cases h2
   | some a=>rw[e] at h2;cases h2;rfl
  obtain⟨u,hu,rv⟩:=r.get ha
  have hp:ps[i]?=some y:=by
   rw[← S.pre,List.getElem?_take_of_lt (by omega)];exact h1
  have ndP:ps.Nodup:=by rw[← S.pre];exact S.nd.sublist (List.take_sublist _ _)
  refine⟨u,rv,?_⟩
  rcases S.par y (List.mem_of_getElem? hp) with k | k
  ·exact .inl ⟨k,bindL_get ndP hp hu k⟩
  ·obtain⟨c,e⟩:=cell_has (n:=s.heap.objs.size + 1) k
   refine .inr ⟨.inl k,c,e,?_⟩
   have q:=x.cell y c e
   rw[bindC_get ndP hp hu (by show scope.names.lookup y≠_;rw[k];decide)] at q
   exact q
 ·exact e0.hok.fresh (Nat.le_of_lt (x.above y c (PySem.mem_of_lookup h)))
 ·unfold start
  show _=N.length
  rw[List.length_append,List.length_map,List.length_replicate]
  omega
/-- THE RULE: a def (or a method) of the text, by its body. The body's reading t is chosen for each entry; it is run at the parameters' values -/
theorem fn_of {CX:CXT} {P:Program} {w:World} {K:PySem.W.Frag} {mg:Str->Option Value} {base:Heap} {k:Nat} {f:Addr} {name qual:Str} {params:Arguments} {body:List Stmt} {scope:Scope} {dV kV doc pm cdv ct oc:Value} {an od:Option Addr}
  {osl:Array (Option Value)} {N ps:List Str} {sp:Sp} (lk:K.lookup f=some ⟨oc,od,.func (PySem.W.fnOf name qual params body scope dV kV doc pm an cdv ct),osl⟩) (hcd:PySem.W.codeIn K cdv qual=true) (S:FnScope N ps scope)
  (len:∀ vs H Q E,sp vs H Q E->vs.length=ps.length)
  (hbody:∀ (A:Around) (outer:List Env) (s:Shared) (H:Hp) (vs:List V) (Q:VK) (E:XK),Room k (A.deeper (envOfC qual scope s.heap.objs.size f cdv))->sp vs H Q E ->
   ∃ t,PSs (cxOf CX P w K mg base N qual scope f cdv A outer s H E) body t∧t { nx:=fun _ H'=>Q .non H',rt:=Q } (start N vs) H) :
  FnOk P w K mg base CX (k + 1) f (PySem.W.fnOf name qual params body scope dV kV doc pm an cdv ct) ps sp:=by
 refine⟨len,fun A outer s H args us vs Q E hr e0 hb r hsp=>?_⟩
 have hl:=len _ _ _ _ hsp
 have KX:K.In s.heap:=e0.mod.kin.keeps fun b o e=>(e0.bs b o e).1
 have lim:s.heap.NoLimit:=e0.mod.nolimit.keeps fun b o e=>(e0.bs b o e).1
 have hkind:∀ y ∈ ps.zip us,scope.names.lookup y.1=some .local∨(scope.names.lookup y.1=some .cell∧((cellsFrom (s.heap.objs.size + 1) scope.names []).lookup y.1).isSome=true):=fun ⟨n,v⟩ hy=>by
  rcases S.par n (List.of_mem_zip hy).1 with q | q
  ·exact .inl q
  ·exact .inr ⟨q,PySem.W.cellsFrom_some _ _ _ (.inl q)⟩
 refine codeAny_call_function hr.depth (KX _ _ lk) rfl S.co S.gen rfl (PySem.W.codeRec_of KX hcd) (hb _ _ _ _ ?_)
 refine wpAny_newFunctionEnv_cells S.kind hkind fun env he s1 x=>?_
 subst he
 refine⟨lim.keeps x.toInCall.keep,codeAny_func ?_⟩
 obtain⟨t,ht,hq⟩:=hbody A outer s H vs Q E (hr.deeper _) hsp
 have I:Inv (cxOf CX P w K mg base N qual scope f cdv A outer s H E) [] (start N vs) H s1:=inv_start S hr.hd e0 hl r x
 refine wpAny_mono (ht [] s1 (start N vs) H _ I hq) (fun fl s' hs=>?_) fun e s' hs=>hs
 have fin:∀ {σ':St} {H':Hp} {v:V} {u:Value},Inv (cxOf CX P w K mg base N qual scope f cdv A outer s H E) [] σ' H' s'->RelV v u->Q v H'->CE outer P w H s Q u s' :=
  fun {σ' H' v u} J rv q=>⟨v,H',J.os,J.bare,J.base,J.hok,rv,q⟩
 cases fl with
 | ret u =>
  obtain⟨v,σ',H',J,rv,q⟩:=hs
  exact fin J rv q
 | next =>
  obtain⟨σ',H',J,q⟩:=hs
  exact fin (v:=V.non) (u:=Value.none) J rfl q
 | brk =>
  obtain⟨_,_,_,q⟩:=hs
  exact False.elim q
 | cont =>
  obtain⟨_,_,_,q⟩:=hs
  exact False.elim q
end L2
namespace L2
open PySem PySem.Spec PyProof.Rows
section
variable {X:Cx} {x:Str} {p pos:Pos} {e:Expr} {es:List Expr} {t:TA} {id T:String} {r:List V->Hp->VK->Prop}
def tCB (r:List V->Hp->VK->Prop) (t:TA):TE:=fun σ H Q=>t σ H fun vs H1=>r vs H1 Q
/-- f(e, ..), f a built-in function -/
theorem pe_callB (hc:CallR X (.builtin id) r) (hg:Gl X x) (hm:X.mg x=none) (hv:bootBuiltins x=some (.builtin id)) (ha:PA X (e::es) t) (hn:x≠"__name__":=by decide) (hdb:(x == ("__debug__":Str))=false:=by decide)
  (he:starEach (e::es) X.env=(false,eval e X.env)::starEach es X.env:=by rfl) (hpl:(backTo pos (starEach es X.env)).any (·.1)=false:=by rfl):PE X (.Call (.Name x p) (e::es) [] pos) (tCB r t):=by
 intro pins s σ H Q I h
 refine wpAny_Call_Name_kw (ld_blt I hg hm hv ?_ hn hdb)
 exact PyProof.Rows.callWith_builtin1 (thn (ha pos pins s σ H _ I h) fun us s1 ⟨vs,H1,I1,r1,q1⟩=>hc pins s1 σ H1 vs us Q I1 r1 q1) he hpl
/-- T(e, ..), T a built-in type -/
theorem pe_callTy (hc:CallR X (.type T) r) (hg:Gl X x) (hm:X.mg x=none) (hv:bootBuiltins x=some (.type T)) (ha:PA X (e::es) t) (hn:x≠"__name__":=by decide) (hdb:(x == ("__debug__":Str))=false:=by decide)
  (he:starEach (e::es) X.env=(false,eval e X.env)::starEach es X.env:=by rfl) (hpl:(backTo pos (starEach es X.env)).any (·.1)=false:=by rfl):PE X (.Call (.Name x p) (e::es) [] pos) (tCB r t):=by
 intro pins s σ H Q I h
 refine wpAny_Call_Name_kw (ld_blt I hg hm hv ?_ hn hdb)
 exact PyProof.Rows.callWith_type1 (thn (ha pos pins s σ H _ I h) fun us s1 ⟨vs,H1,I1,r1,q1⟩=>hc pins s1 σ H1 vs us Q I1 r1 q1) he hpl
end
end L2
namespace HT
open PySem PyProof.Rows
/-- t < u of tuples of ints -/
def lexLt:List Int->List Int->Bool
 | [],[]=>false
 | [],_::_=>true
 | _::_,[]=>false
 | x::xs,y::ys=>if x=y then lexLt xs ys else decide (x < y)
section
open PySem.SeqAt
open PySem.AutoSeq1 (wpAny_loadPart')
open PySem.MeetsSeq PySem.MeetsSeq2 PySem.MeetsSeq3
end
section
variable {prog:Program} {w:World} {A:Around} {E:Value->Shared->Prop} {s:Shared}
/-- t + u, t not empty -/
theorem cat_tup {t b:Addr} {vs ws:List Value} {Q:Value->Shared->Prop} (ht:IsTup s.heap t vs.toArray) (hb:IsTup s.heap b ws.toArray) (hv:vs≠[])
  (h1:ws=[]->Q (.ref t) s) (h2:ws≠[]->Q (.ref s.heap.objs.size) { s with heap:=s.heap.push { cls:=.type "tuple",data:=.seq (vs++ws).toArray } })
  (hsz:vs.length + ws.length≤sizeLine):wpAny (model prog w) A (binaryOp .Add (.ref t) (.ref b)) Q E s:=by
 obtain⟨⟨cls,dd,data,sl⟩,ho,hc,n,hd⟩:=id ht
 obtain⟨⟨cls2,dd2,data2,sl2⟩,ho2,hc2,n2,hd2⟩:=id hb
 simp only at hc hd hc2 hd2
 subst hc hd hc2 hd2
 have e:vs.toArray++ws.toArray=(vs++ws).toArray:=by simp
 by_cases hw:ws=[]
 ·exact concat_meets ⟨_,ho,rfl⟩ ⟨_,ho2,rfl⟩ noFill_tuple_add seq_tuple_add PySem.F.slot_tuple_add PySem.F.entry_tuple_add (PySem.F.args_tuple_add_2 _ _)
   (tuple_addW1 t b vs.toArray ws.toArray n n2 dd dd2 sl sl2 (by simpa using hv) (by simp [hw])) ⟨ho,ho2,h1 hw⟩
 ·refine concat_meets ⟨_,ho,rfl⟩ ⟨_,ho2,rfl⟩ noFill_tuple_add seq_tuple_add PySem.F.slot_tuple_add PySem.F.entry_tuple_add (PySem.F.args_tuple_add_2 _ _)
   (tuple_addW2 t b vs.toArray ws.toArray n n2 dd dd2 sl sl2 (by simpa using hv) (by simpa using hw) (by rw[List.size_toArray,List.size_toArray];exact hsz)) ⟨ho,ho2,?_⟩
  rw[e]
  exact h2 hw
/-- a slice's bound as a place among n (d where it is left out) -/
def sIx (n d:Nat):Option Int->Nat
 | none=>d
 | some v=>if v < 0 then (v + (n:Int)).toNat else min v.toNat n
theorem sIx_le (n d:Nat) (hd:d≤n) (o:Option Int):sIx n d o≤n:=by
 cases o with
 | none=>exact hd
 | some v =>
  show (if v < 0 then (v + (n:Int)).toNat else min v.toNat n)≤n
  by_cases hv:v < 0
  ·rw[if_pos hv];omega
  ·rw[if_neg hv];exact Nat.min_le_right _ _
theorem clip_eq (v:Int) (n d:Nat):(if v < 0 then max (v + (n:Int)) 0 else min v (n:Int))=((sIx n d (some v):Nat):Int):=by
 show (if v < 0 then max (v + (n:Int)) 0 else min v (n:Int))=(((if v < 0 then (v + (n:Int)).toNat else min v.toNat n):Nat):Int)
 by_cases hv:v < 0
 ·simp only [if_pos hv];omega
 ·simp only [if_neg hv];omega
theorem adjust_gen (lo hi:Option Int) (n:Nat):Builtin.Slice.sliceAdjust lo hi 1 (n:Int)=(((sIx n 0 lo:Nat):Int),((sIx n n hi:Nat):Int)):=by
 have h1:¬ ((1:Int) < 0):=by omega
 unfold Builtin.Slice.sliceAdjust
 simp only [h1,if_false]
 refine Prod.ext ?_ ?_
 ·cases lo with
  | none=>rfl
  | some v=>exact clip_eq v n 0
 ·cases hi with
  | none=>rfl
  | some v=>exact clip_eq v n n
theorem places_gen (i j:Nat):Builtin.Slice.slicePlaces (i:Int) (j:Int) 1=j - i:=by
 unfold Builtin.Slice.slicePlaces
 have h1:(1:Int) > 0:=by omega
 simp only [h1,if_true,Int.ediv_one]
 split <;> omega
theorem slicePart_ {v:Value} {o:Option Int} {Q:Option Int->Shared->Prop} (p:IsPart v o) (h:Q o s):wpAny (model prog w) A (Builtin.Slice.slicePartIndex v) Q E s:=by
 cases p with
 | none=>exact slicePart_none h
 | int i t=>exact slicePart_int h
theorem sliceApplied_gen {sl:Addr} {vl vu:Value} {lo hi:Option Int} {n:Nat} {Q:Int × Int × Nat->Shared->Prop} (hs:s.heap.IsSliceOf sl vl vu .none) (pl:IsPart vl lo) (pu:IsPart vu hi)
  (h:Q (((sIx n 0 lo:Nat):Int),1,sIx n n hi - sIx n 0 lo) s):wpAny (model prog w) A (Builtin.Slice.sliceApplied (.ref sl) (pure (n:Int))) Q E s:=by
 obtain⟨os,hos,hcs,hds⟩:=id hs
 unfold Builtin.Slice.sliceApplied Builtin.Slice.sliceFields
 refine wpAny_bind (wpAny_bind (wpAny_field hos hds (x:=vl) rfl (wpAny_bind (wpAny_field hos hds (x:=vu) rfl (wpAny_bind (wpAny_field hos hds (x:=.none) rfl (wpAny_pure ?_)))))))
 refine wpAny_bind (slicePart_none ?_)
 show wpAny _ _ (if ((1:Int) == 0)=true then _ else _) _ _ s
 rw[if_neg (by decide)]
 refine wpAny_bind (slicePart_ pl (wpAny_bind (slicePart_ pu (wpAny_bind (wpAny_pure ?_)))))
 show wpAny _ _ (match Builtin.Slice.sliceAdjust lo hi 1 (n:Int) with | (lo,hi)=>pure (lo,(1:Int),Builtin.Slice.slicePlaces lo hi 1)) _ _ s
 rw[adjust_gen lo hi n]
 show wpAny _ _ (pure (((sIx n 0 lo:Nat):Int),(1:Int),Builtin.Slice.slicePlaces ((sIx n 0 lo:Nat):Int) ((sIx n n hi:Nat):Int) 1)) _ _ s
 rw[places_gen]
 exact wpAny_pure h
theorem pick_gen (xs:Array Value) (i k:Nat):((List.range k).filterMap fun (m:Nat)=>xs[((i:Int) + (m:Int) * 1).toNat]?).toArray=((xs.toList.drop i).take k).toArray:=by
 have e:(fun (m:Nat)=>xs[((i:Int) + (m:Int) * 1).toNat]?)=fun m=>xs[i + m]?:=by
  funext m
  have:((i:Int) + (m:Int) * 1).toNat=i + m:=by omega
  rw[this]
 rw[e]
 have:=pick_run xs i k
 rw[List.filterMap_map] at this
 have e2:((fun x=>xs[x]?) ∘ fun x=>i + x)=fun m=>xs[i + m]?:=rfl
 rw[e2] at this
 rw[this]
theorem getItem_tuple_cut {t sl:Addr} {items:Array Value} {vl vu:Value} {lo hi:Option Int} {Q:Value->Shared->Prop} (ht:IsTup s.heap t items) (hs:s.heap.IsSliceOf sl vl vu .none) (pl:IsPart vl lo) (pu:IsPart vu hi)
  (hw:¬ (sIx items.size 0 lo=0∧sIx items.size items.size hi=items.size))
  (h:Q (.ref s.heap.objs.size) { s with heap:=s.heap.push { cls:=.type "tuple",data:=.seq ((items.toList.drop (sIx items.size 0 lo)).take (sIx items.size items.size hi - sIx items.size 0 lo)).toArray } })
  (hsz:items.size≤sizeLine):wpAny (model prog w) A (getItem (.ref t) (.ref sl)) Q E s:=by
 have htake:sizeOk (.seq ((items.toList.drop (sIx items.size 0 lo)).take (sIx items.size items.size hi - sIx items.size 0 lo)).toArray):=by
  show ((items.toList.drop (sIx items.size 0 lo)).take (sIx items.size items.size hi - sIx items.size 0 lo)).toArray.size≤sizeLine
  rw[List.size_toArray,List.length_take,List.length_drop,Array.length_toList]
  omega
 have hj:sIx items.size items.size hi≤items.size:=sIx_le _ _ (Nat.le_refl _) hi
 obtain⟨os,hos,hcs,hds⟩:=id hs
 have hTs:s.TypeIs (.ref sl) "slice":=⟨os,hos,hcs⟩
 unfold getItem
 try with_reducible refine wpAny_holding ?_
 first | refine wpAny_bind (wpAny_pure ?_) | skip
 refine wpAny_bind (wpAny_sequenceKey ht.typeIs (by decide) ?_)
 refine wpAny_bind (wpAny_callSpecial?_slot (name:=Str.ofString "__getitem__") ht.typeIs PyProof.Rows.slot_tuple_getitem
  (wpAny_call_entry PyProof.Rows.slot_tuple_getitem ht.typeIs entry_tuple_getitem ?_ (args_tuple_getitem _ _)))
 show wpAny _ _ (Builtin.Tuple.tupleItemsOf (.ref t) >>= _) _ _ s
 refine wpAny_bind (tupleItemsOf_ ht ?_)
 refine wpAny_bind (wpAny_typeOf hTs ?_)
 rw[if_pos (by decide)]
 refine wpAny_bind (sliceApplied_gen hs pl pu ?_)
 have hno:¬ ((((sIx items.size 0 lo:Nat):Int) == 0 && (1:Int) == 1 && (sIx items.size items.size hi - sIx items.size 0 lo) == items.size)=true):=by
  intro q
  rw[Bool.and_eq_true,Bool.and_eq_true] at q
  have q1:((sIx items.size 0 lo:Nat):Int)=0:=eq_of_beq q.1.1
  have q2:sIx items.size items.size hi - sIx items.size 0 lo=items.size:=eq_of_beq q.2
  exact hw ⟨by omega,by omega⟩
 show wpAny _ _ (if (((sIx items.size 0 lo:Nat):Int) == 0 && (1:Int) == 1 && (sIx items.size items.size hi - sIx items.size 0 lo) == items.size)=true then _ else _) _ _ s
 rw[if_neg hno,pick_gen]
 first
  | exact wpAny_bind (m:=Builtin.Tuple.tupleExact _) (wpAny_newObj_type (wpAny_pure ⟨_,rfl,wpAny_pure h⟩) htake)
  | exact wpAny_bind (m:=Builtin.Tuple.tupleExact _) (wpAny_newObj_type (wpAny_bind (wpAny_pure (wpAny_pure ⟨_,rfl,wpAny_pure h⟩))) htake)
  | exact wpAny_bind (wpAny_bind (m:=Builtin.Tuple.tupleExact _) (wpAny_newObj_type (wpAny_pure (wpAny_pure ⟨_,rfl,wpAny_pure h⟩)) htake))
  | exact wpAny_bind (wpAny_bind (m:=Builtin.Tuple.tupleExact _) (wpAny_newObj_type (wpAny_pure ⟨_,rfl,wpAny_pure h⟩) htake))
end
end HT
namespace L2
open PySem PySem.Spec PyProof.Rows
abbrev TO:=St->Hp->(Option Int->Hp->Prop)->Prop
/-- a slice's part (left out, or an int) -/
def PO (X:Cx) (e:Option Expr) (t:TO):Prop :=
 ∀ (pins:List (Addr × Obj)) (s:Shared) (σ:St) (H:Hp) (Q:Option Int->Hp->Prop),Inv X pins σ H s->t σ H Q ->
  wpAny (model X.prog X.w) X.A (evalPart e X.env) (fun u s'=>∃ o H',Inv X pins σ H' s'∧IsPart u o∧Q o H') X.xe s
def tNoPart:TO:=fun _ H Q=>Q none H
def tPart (t:TE):TO:=fun σ H Q=>t σ H fun x H1=>∃ i,x=.int i∧Q (some i) H1
theorem intsAre_of {ns:List Int}:∀ {us:List Value},Vals (ns.map V.int) us->IntsAre us ns:=by
 induction ns with
 | nil=>intro us r;rw[List.map_nil] at r;cases r;exact .nil
 | cons n ns ih =>
  intro us r
  rw[List.map_cons] at r
  cases r with
  | cons r1 r2 =>
   obtain⟨t,e⟩:=r1
   subst e
   exact .cons n t (ih r2)
section
variable {X:Cx} {e:Expr} {te:TE} {lo hi:Option Expr} {tl th:TO} {pos p2:Pos}
theorem po_none:PO X none tNoPart:=by
 intro pins s σ H Q I h
 rw[evalPart_none]
 exact wpAny_pure ⟨none,H,I,.none,h⟩
theorem po_some (h:PE X e te):PO X (some e) (tPart te):=by
 intro pins s σ H Q I hw
 rw[evalPart_some]
 refine thn (h pins s σ H _ I hw) fun u s1 ⟨x,H1,I1,r1,q1⟩=>?_
 obtain⟨i,rfl,q⟩:=q1
 obtain⟨t,rfl⟩:=r1
 exact⟨some i,H1,I1,.int i t,q⟩
/-- what a slice of a value is, by values: the slice object stands at sl -/
def SlR (X:Cx) (r:V->Option Int->Option Int->Hp->VK->Prop):Prop :=
 ∀ (pins:List (Addr × Obj)) (s:Shared) (σ:St) (H:Hp) (x:V) (v vl vu:Value) (lo hi:Option Int) (sl:Addr) (Q:VK),Inv X pins σ H s->RelV x v->s.heap.IsSliceOf sl vl vu .none->IsPart vl lo->IsPart vu hi->r x lo hi H Q ->
  ∃ T id,typeLookup (.type T) "__getitem__"=pure (some (.builtin id))∧s.TypeIs v T∧wpAny (model X.prog X.w) X.A (getItem v (.ref sl)) (EP X pins σ Q) X.xe s
theorem SlR.or {r r':V->Option Int->Option Int->Hp->VK->Prop} (h:SlR X r) (h':SlR X r'):SlR X (fun x lo hi H Q=>r x lo hi H Q∨r' x lo hi H Q):=by
 intro pins s σ H x v vl vu lo hi sl Q I rx hs pl pu q
 rcases q with q | q
 ·exact h pins s σ H x v vl vu lo hi sl Q I rx hs pl pu q
 ·exact h' pins s σ H x v vl vu lo hi sl Q I rx hs pl pu q
def tSl (r:V->Option Int->Option Int->Hp->VK->Prop) (te:TE) (tl th:TO):TE:=fun σ H Q=>te σ H fun x H1=>tl σ H1 fun l H2=>th σ H2 fun u H3=>r x l u H3 Q
/-- a[lo:hi], any a -/
theorem pe_slice {r:V->Option Int->Option Int->Hp->VK->Prop} (hr:SlR X r) (he:PE X e te) (hl:PO X lo tl) (hu:PO X hi th):PE X (.Subscript e (.Slice lo hi none p2) pos) (tSl r te tl th):=by
 intro pins s σ H Q I h
 refine Subscript_ (thn (he pins s σ H _ I h) fun v s1 ⟨x,H1,I1,r1,q1⟩=>?_)
 refine wpAny_Slice (thn (hl pins s1 σ H1 _ I1 q1) fun vl s2 ⟨l,H2,I2,pl,q2⟩=>thn (hu pins s2 σ H2 _ I2 q2) fun vu s3 ⟨u,H3,I3,pu,q3⟩=>?_)
 rw[evalPart_none]
 refine wpAny_pure ?_
 have I4:Inv X pins σ H3 { s3 with heap:=s3.heap.push { cls:=.type "slice",data:=.fields #[vl,vu,.none] } }:=I3.kept (t':=s3.toks) fun b ob q=>Heap.get?_push_of_some _ q
 obtain⟨T,id,hT,ht,hg⟩:=hr pins { s3 with heap:=s3.heap.push { cls:=.type "slice",data:=.fields #[vl,vu,.none] } } σ H3 x v vl vu l u s3.heap.objs.size Q I4 r1 (Heap.IsSliceOf.new ..) pl pu q3
 show wpAny (model X.prog X.w) X.A (subscriptTail e (.Slice lo hi none p2) v (.ref s3.heap.objs.size)) (EP X pins σ Q) X.xe { s3 with heap:=s3.heap.push { cls:=.type "slice",data:=.fields #[vl,vu,.none] } }
 exact tail_any (ops:=[.ref s3.heap.objs.size,v]) ht hT hg (by with_unfolding_all rfl)
/-- the items of xs[lo:hi] -/
def cutV (xs:List V) (lo hi:Option Int):List V:=(xs.drop (HT.sIx xs.length 0 lo)).take (HT.sIx xs.length xs.length hi - HT.sIx xs.length 0 lo)
theorem cutV_length (xs:List V) (lo hi:Option Int):(cutV xs lo hi).length≤xs.length:=by
 unfold cutV
 rw[List.length_take,List.length_drop]
 omega
/-- t[lo:hi], not the whole of it (the whole would be t itself) -/
def rSlT (K:PySem.W.Frag):V->Option Int->Option Int->Hp->VK->Prop:=fun x lo hi H Q=>∃ a xs,x=.ref a∧SqT K H a xs ∧
 ¬ (HT.sIx xs.length 0 lo=0∧HT.sIx xs.length xs.length hi=xs.length)∧∀ p,H p=none->Q (.ref p) (upd H p (.tup (cutV xs lo hi)))
theorem sl_tup:SlR X (rSlT X.K):=by
 intro pins s σ H x v vl vu lo hi sl Q I rx hs pl pu h
 obtain⟨a,xs,rfl,hx,hw,q⟩:=h
 cases rx
 obtain⟨its,r,ht,hz⟩:=I.tuple hx
 have hlen:its.toArray.size=xs.length:=by rw[List.size_toArray];exact r.length.symm
 refine⟨"tuple",_,PyProof.Rows.slot_tuple_getitem.lookup,ht.typeIs,?_⟩
 refine HT.getItem_tuple_cut ht hs pl pu (by rw[hlen];exact hw) ?_ (by rw[hlen];exact hz)
 rw[hlen]
 refine⟨.ref s.heap.objs.size,_,I.laid (t':=s.toks) (o:=.tup (cutV xs lo hi)) (fun b ob q=>Heap.get?_push_of_some _ q) (Nat.le_refl _) ?_,rfl,q _ (I.hok.fresh (Nat.le_refl _))⟩
 exact⟨Nat.le_trans (cutV_length xs lo hi) hz,_,(r.drop (HT.sIx xs.length 0 lo)).take (HT.sIx xs.length xs.length hi - HT.sIx xs.length 0 lo),TupN.new _ _⟩
/-- t + u, t not empty: u empty gives t itself -/
def rCatT (K:PySem.W.Frag):R2:=fun x y H Q=>∃ a b xs ys,x=.ref a∧y=.ref b∧SqT K H a xs∧SqT K H b ys∧xs≠[]∧xs.length + ys.length≤sizeLine ∧
 (ys=[]->Q (.ref a) H)∧(ys≠[]->∀ p,H p=none->Q (.ref p) (upd H p (.tup (xs++ys))))
theorem Vals.nil_iff {xs:List V} {us:List Value} (r:Vals xs us):us=[]↔xs=[]:=by
 cases r with
 | nil=>simp
 | cons _ _=>simp
theorem op_catT:OpR X (binaryOp .Add) (rCatT X.K):=by
 intro pins s σ H x y v u Q I rx ry h
 obtain⟨a,b,xs,ys,rfl,rfl,ha,hb,hx,hz,q1,q2⟩:=h
 cases rx
 cases ry
 obtain⟨its,r1,p1,_⟩:=I.tuple ha
 obtain⟨its2,r2,p2,_⟩:=I.tuple hb
 refine HT.cat_tup p1 p2 (fun z=>hx (r1.nil_iff.mp z)) (fun z=>⟨.ref a,H,I,rfl,q1 (r2.nil_iff.mp z)⟩) (fun z=>?_) (by rw[← r1.length,← r2.length];exact hz)
 refine⟨.ref s.heap.objs.size,_,I.laid (t':=s.toks) (o:=.tup (xs++ys)) (fun b ob q=>Heap.get?_push_of_some _ q) (Nat.le_refl _) ?_,rfl,q2 (fun w=>z (r2.nil_iff.mpr w)) _ (I.hok.fresh (Nat.le_refl _))⟩
 exact⟨by rw[List.length_append];exact hz,_,r1.append r2,TupN.new _ _⟩
end
end L2
namespace L2
open PySem PySem.Spec PyProof.Rows
/-- the place that an index of any sign means -/
def ixN (n:Nat) (i:Int):Option Nat:=if 0≤i then (if i < n then some i.toNat else none) else if -(n:Int)≤i then some (i + n).toNat else none
def atI {α:Type} (xs:List α) (i:Int):Option α:=(ixN xs.length i).bind fun j=>xs[j]?
theorem ixN_seq {n:Nat} {i:Int} {j:Nat} (h:ixN n i=some j):seqIndex? i n=some j∧j < n∧-(n:Int)≤i∧i < n:=by
 unfold ixN at h
 by_cases h0:0≤i
 ·rw[if_pos h0] at h
  by_cases h1:i < n
  ·rw[if_pos h1] at h
   have e:i.toNat=j:=Option.some.inj h
   exact⟨by rw[seqIndex_of h0 h1,e],by omega,by omega,h1⟩
  ·rw[if_neg h1] at h;cases h
 ·rw[if_neg h0] at h
  by_cases h1:-(n:Int)≤i
  ·rw[if_pos h1] at h
   have e:(i + n).toNat=j:=Option.some.inj h
   exact⟨by rw[seqIndex_neg (by omega) h1,e],by omega,h1,by omega⟩
  ·rw[if_neg h1] at h;cases h
theorem atI_get {α:Type} {xs:List α} {i:Int} {v:α} (h:atI xs i=some v):∃ j,seqIndex? i xs.length=some j∧xs[j]?=some v∧j < xs.length∧-(xs.length:Int)≤i∧i < xs.length:=by
 unfold atI at h
 cases e:ixN xs.length i with
 | none=>rw[e] at h;cases h
 | some j =>
  rw[e] at h
  obtain⟨h1,h2,h3,h4⟩:=ixN_seq e
  exact⟨j,h1,h,h2,h3,h4⟩
theorem atI_nat {α:Type} {xs:List α} {j:Nat} {v:α} (h:xs[j]?=some v):atI xs (j:Int)=some v:=by
 have hj:j < xs.length:=(List.getElem?_eq_some_iff.mp h).1
 have e:ixN xs.length (j:Int)=some j:=by
  unfold ixN
  rw[if_pos (by omega),if_pos (by omega)];simp
 unfold atI;rw[e];exact h
/-- what stands as an index of a plain subscript -/
def PlainIx (b:Expr):Prop:=∀ o i,subscripted b false o i=operate [o,i] (getItem o i)
/-- a subscript by values -/
def IxR (X:Cx) (r:R2):Prop :=
 ∀ (value slice:Expr) (pins:List (Addr × Obj)) (s:Shared) (σ:St) (H:Hp) (x y:V) (v u:Value) (Q:VK),Inv X pins σ H s->RelV x v->RelV y u->r x y H Q ->
  subscripted slice false v u=operate [v,u] (getItem v u)->wpAny (model X.prog X.w) X.A (subscriptTail value slice v u) (EP X pins σ Q) X.xe s
/-- a call of a builtin's method by values: the receiver, the arguments -/
def MtR (X:Cx) (id:String) (r:V->List V->Hp->VK->Prop):Prop :=
 ∀ (pins:List (Addr × Obj)) (s:Shared) (σ:St) (H:Hp) (x:V) (xs:List V) (v:Value) (us:List Value) (Q:VK),Inv X pins σ H s->RelV x v->Vals xs us->r x xs H Q ->
  wpAny (model X.prog X.w) X.A (call (.builtin id) (v::us)) (EP X pins σ Q) X.xe s
section
variable {X:Cx} {a b:Expr} {ta tb:TE} {pos:Pos}
theorem IxR.or {r r':R2} (h:IxR X r) (h':IxR X r'):IxR X (fun x y H Q=>r x y H Q∨r' x y H Q):=by
 intro value slice pins s σ H x y v u Q I rx ry q hs
 rcases q with q | q
 ·exact h value slice pins s σ H x y v u Q I rx ry q hs
 ·exact h' value slice pins s σ H x y v u Q I rx ry q hs
theorem MtR.or {id:String} {r r':V->List V->Hp->VK->Prop} (h:MtR X id r) (h':MtR X id r'):MtR X id (fun x xs H Q=>r x xs H Q∨r' x xs H Q):=by
 intro pins s σ H x xs v us Q I rx rs q
 rcases q with q | q
 ·exact h pins s σ H x xs v us Q I rx rs q
 ·exact h' pins s σ H x xs v us Q I rx rs q
/-- a[b] -/
theorem pe_ix {r:R2} (hr:IxR X r) (ha:PE X a ta) (hb:PE X b tb) (hs:PlainIx b):PE X (.Subscript a b pos) (tOp r ta tb):=by
 intro pins s σ H Q I h
 exact Subscript_ (binT ha hb I h fun v u s2 x y H2 I2 rx ry q=>hr a b pins s2 σ H2 x y v u Q I2 rx ry q (hs _ _))
def rIxL (K:PySem.W.Frag):R2:=fun x y H Q=>∃ p xs i v,x=.ref p∧y=.int i∧SqL K H p xs∧atI xs i=some v∧Q v H
def rIxT (K:PySem.W.Frag):R2:=fun x y H Q=>∃ p xs i v,x=.ref p∧y=.int i∧SqT K H p xs∧atI xs i=some v∧Q v H
theorem ix_list:IxR X (rIxL X.K):=by
 intro value slice pins s σ H x y v u Q I rx ry h hs
 obtain⟨p,xs,i,z,rfl,rfl,hq,he,q⟩:=h
 cases rx
 obtain⟨t,rfl⟩:=ry
 obtain⟨its,r,pl,hz⟩:=I.list hq
 obtain⟨j,h1,h2,h3,h4,h5⟩:=atI_get he
 obtain⟨w,ew,rw'⟩:=r.get h2
 have hl:=r.length
 have hn:=line63
 have fin:EP X pins σ Q w s:=⟨z,H,I,rw',q⟩
 by_cases h0:0≤i
 ·have hj:i.toNat=j:=by
   rw[seqIndex_of h0 h5] at h1
   exact Option.some.inj h1
  exact item_listR pl.isList h0 (by omega) (by rw[hj];simpa using ew) fin hs
 ·have hj:(i + (its.toArray.size:Int)).toNat=j:=by
   rw[seqIndex_neg (by omega) h4] at h1
   rw[List.size_toArray,← hl]
   exact Option.some.inj h1
  exact subscriptTail_builtinR (x:=w) pl.isList.typeIs slot_list_getitem.lookup
   (wpAny_getItem_list_neg (Q:=fun r s'=>r=w∧EP X pins σ Q r s') pl.isList (by omega) (by rw[List.size_toArray] <;> omega) (by omega) (by rw[hj];simpa using ew) ⟨rfl,fin⟩) hs
theorem ix_tup:IxR X (rIxT X.K):=by
 intro value slice pins s σ H x y v u Q I rx ry h hs
 obtain⟨p,xs,i,z,rfl,rfl,hq,he,q⟩:=h
 cases rx
 obtain⟨t,rfl⟩:=ry
 obtain⟨its,r,pl,hz⟩:=I.tuple hq
 obtain⟨j,h1,h2,h3,h4,h5⟩:=atI_get he
 obtain⟨w,ew,rw'⟩:=r.get h2
 have hl:=r.length
 have hn:=line63
 have fin:EP X pins σ Q w s:=⟨z,H,I,rw',q⟩
 exact subscriptTail_builtinR (x:=w) pl.typeIs slot_tuple_getitem.lookup
  (getItem_tuple (j:=j) (Q:=fun r s'=>r=w∧EP X pins σ Q r s') pl (by omega) (by omega) (by rw[List.size_toArray,← hl];exact h1) (by simpa using ew) ⟨rfl,fin⟩) hs
/-- the list's object behind a store -/
theorem mapSeq_set (its:List Value) (n j:Nat) (u:Value):Obj.mapSeq (·.setIfInBounds j u) { cls:=.type "list",data:=.seq its.toArray n }={ cls:=.type "list",data:=.seq (its.set j u).toArray n }:=by
 simp [Obj.mapSeq]
theorem Inv.lst {pins:List (Addr × Obj)} {σ:St} {H:Hp} {s:Shared} {p:Addr} {xs:List V} (I:Inv X pins σ H s) (h:H p=some (.lst xs)) :
  ∃ (its:List Value) (n:Nat),Vals xs its∧s.heap.get? p=some { cls:=.type "list",data:=.seq its.toArray n }∧xs.length≤sizeLine:=by
 obtain⟨z,its,n,r,e⟩:=I.hok p _ h
 exact⟨its,n,r,e,z⟩
/-- the list at p is written by an update of its object -/
theorem Inv.lstUpd {pins:List (Addr × Obj)} {σ:St} {H:Hp} {s:Shared} {p:Addr} {xs ys:List V} {its its':List Value} {n n':Nat} {f:Obj->Obj} (I:Inv X pins σ H s) (h:H p=some (.lst xs))
  (ho:s.heap.get? p=some { cls:=.type "list",data:=.seq its.toArray n }) (hf:f { cls:=.type "list",data:=.seq its.toArray n }={ cls:=.type "list",data:=.seq its'.toArray n' }) (r:Vals ys its') (hz:ys.length≤sizeLine) (t:Nat) :
  Inv X pins σ (upd H p (.lst ys)) { s with heap:=s.heap.update p f,toks:=t }:=by
 have e:(s.heap.update p f).get? p=some { cls:=.type "list",data:=.seq its'.toArray n' }:=by
  rw[Heap.get?_update_self f ho (by rw[hf] <;> rfl),hf]
 refine I.write (x:=p) (e:=p) (by rw[h];trivial) (.inl rfl) (fun b u hb q=>(Heap.get?_update_other _ _ (Ne.symm hb)).trans q) ⟨_,e⟩ ?_
 exact⟨hz,its',n',r,e⟩
def rSetL:V->V->V->Hp->(Hp->Prop)->Prop:=fun o i v H Q=>∃ p xs k j,o=.ref p∧i=.int k∧H p=some (.lst xs)∧ixN xs.length k=some j∧Q (upd H p (.lst (xs.set j v)))
theorem set_list:PSet X rSetL:=by
 intro pins s σ H o i v ov iv u Q I ro ri rv h
 obtain⟨p,xs,k,j,rfl,rfl,hp,hj,q⟩:=h
 cases ro
 obtain⟨t,rfl⟩:=ri
 obtain⟨its,n,r,ho,hz⟩:=I.lst hp
 obtain⟨h1,h2,h3,h4⟩:=ixN_seq hj
 have hl:=r.length
 have hn:=line63
 have I':Inv X pins σ (upd H p (.lst (xs.set j v))) { s with heap:=s.heap.update p (Obj.mapSeq (·.setIfInBounds j u)) } :=
  I.lstUpd hp ho (mapSeq_set its n j u) (r.set rv j) (by rw[List.length_set];exact hz) s.toks
 by_cases h0:0≤k
 ·have hk:k.toNat=j:=by
   rw[seqIndex_of h0 h4] at h1
   exact Option.some.inj h1
  exact PySem.W.ki_setAt ho h0 (by omega) (by rw[List.size_toArray,← hl];exact h4) (by rw[hk];exact⟨_,I',q⟩)
 ·have hk:(k + (its.toArray.size:Int)).toNat=j:=by
   rw[seqIndex_neg (by omega) h3] at h1
   rw[List.size_toArray,← hl]
   exact Option.some.inj h1
  exact PySem.W.ki_setBack ho (by omega) (by rw[List.size_toArray,← hl];exact h3) (by omega) (by rw[hk];exact⟨_,I',q⟩)
theorem slice_bounds (lo hi:Option Int) (n:Nat):(sliceBounds lo hi none n).1=((HT.sIx n 0 lo:Nat):Int)∧(sliceBounds lo hi none n).2.1=((HT.sIx n n hi:Nat):Int)∧(sliceBounds lo hi none n).2.2=1:=by
 refine⟨?_,?_,rfl⟩
 ·cases lo with
  | none=>simp [sliceBounds,HT.sIx]
  | some i =>
   simp only [sliceBounds,HT.sIx,Option.getD_none,show (1:Int) > 0 by decide,if_true]
   by_cases h:i < 0
   ·simp only [h,if_true] <;> omega
   ·simp only [h,if_false] <;> omega
 ·cases hi with
  | none=>simp [sliceBounds,HT.sIx]
  | some i =>
   simp only [sliceBounds,HT.sIx,Option.getD_none,show (1:Int) > 0 by decide,if_true]
   by_cases h:i < 0
   ·simp only [h,if_true] <;> omega
   ·simp only [h,if_false] <;> omega
theorem slicePick_cut (its:List Value) (lo hi:Option Int):slicePick its.toArray lo hi none=((its.drop (HT.sIx its.length 0 lo)).take (HT.sIx its.length its.length hi - HT.sIx its.length 0 lo)).toArray:=by
 obtain⟨h1,h2,h3⟩:=slice_bounds lo hi its.toArray.size
 unfold slicePick
 rw[h1,h2,h3]
 simp only [sliceRange_one,pick_run,List.size_toArray] <;> rfl
/-- xs[lo:hi] of a list: a new list -/
def rSlL (K:PySem.W.Frag):V->Option Int->Option Int->Hp->VK->Prop:=fun x lo hi H Q=>∃ a xs,x=.ref a∧SqL K H a xs∧∀ p,H p=none->Q (.ref p) (upd H p (.lst (cutV xs lo hi)))
theorem sl_list:SlR X (rSlL X.K):=by
 intro pins s σ H x v vl vu lo hi sl Q I rx hs pl pu h
 obtain⟨a,xs,rfl,hx,q⟩:=h
 cases rx
 obtain⟨its,r,ht,hz⟩:=I.list hx
 have hlen:=r.length
 refine⟨"list",_,slot_list_getitem.lookup,ht.isList.typeIs,?_⟩
 refine wpAny_getItem_list_slice ht.isList hs pl pu .none (by simp) ?_ (by rw[List.size_toArray] <;> omega)
 rw[slicePick_cut,← hlen]
 refine⟨.ref s.heap.objs.size,_,I.laid (t':=s.toks) (o:=.lst (cutV xs lo hi)) (fun b ob q=>Heap.get?_push_of_some _ q) (Nat.le_refl _) ?_,rfl,q _ (I.hok.fresh (Nat.le_refl _))⟩
 exact⟨Nat.le_trans (cutV_length xs lo hi) hz,_,0,(r.drop (HT.sIx xs.length 0 lo)).take (HT.sIx xs.length xs.length hi - HT.sIx xs.length 0 lo),Heap.get?_push_size _ rfl⟩
def flatV:V->Bool
 | .non=>true
 | .bl _=>true
 | .int _=>true
 | .str _=>true
 | _=>false
/-- == of flat values -/
def eqV:V->V->Bool
 | .non,.non=>true
 | .bl a,.bl b=>a == b
 | .bl a,.int b=>(if a then 1 else 0) == b
 | .int a,.bl b=>a == (if b then 1 else 0)
 | .int a,.int b=>a == b
 | .str a,.str b=>a == b
 | _,_=>false
theorem eqAt_V {A:Around} {s:Shared} {y x:V} {u v:Value} (ry:RelV y u) (rx:RelV x v) (fy:flatV y=true) (fx:flatV x=true):SeqAt.EqAt A s u v (eqV y x):=by
 cases y with
 | non =>
  cases ry
  cases x with
  | non=>cases rx;exact SeqAt.EqAt.same _
  | bl b=>cases rx;exact SeqAt.EqAt.none_bool b
  | int b=>obtain⟨t,rfl⟩:=rx;exact SeqAt.EqAt.none_int b t
  | str b=>obtain⟨t,rfl⟩:=rx;exact SeqAt.EqAt.none_str b t
  | _=>exact absurd (show false=true from fx) Bool.false_ne_true
 | bl a =>
  cases ry
  cases x with
  | non=>cases rx;exact SeqAt.EqAt.bool_none a
  | bl b=>cases rx;exact SeqAt.EqAt.bool_bool a b
  | int b=>obtain⟨t,rfl⟩:=rx;exact SeqAt.EqAt.bool_int a b t
  | str b=>obtain⟨t,rfl⟩:=rx;exact SeqAt.EqAt.bool_str a b t
  | _=>exact absurd (show false=true from fx) Bool.false_ne_true
 | int a =>
  obtain⟨t',rfl⟩:=ry
  cases x with
  | non=>cases rx;exact SeqAt.EqAt.int_none a t'
  | bl b=>cases rx;exact SeqAt.EqAt.int_bool a t' b
  | int b=>obtain⟨t,rfl⟩:=rx;exact SeqAt.EqAt.int_int a t' b t
  | str b=>obtain⟨t,rfl⟩:=rx;exact SeqAt.EqAt.int_str a t' b t
  | _=>exact absurd (show false=true from fx) Bool.false_ne_true
 | str a =>
  obtain⟨t',rfl⟩:=ry
  cases x with
  | non=>cases rx;exact SeqAt.EqAt.str_none a t'
  | bl b=>cases rx;exact SeqAt.EqAt.str_bool a t' b
  | int b=>obtain⟨t,rfl⟩:=rx;exact SeqAt.EqAt.str_int a t' b t
  | str b=>obtain⟨t,rfl⟩:=rx;exact SeqAt.EqAt.str_str a t' b t
  | _=>exact absurd (show false=true from fx) Bool.false_ne_true
 | _=>exact absurd (show false=true from fy) Bool.false_ne_true
/-- the items' answers, read off the values (a value's own answer does not lean on its token) -/
def eqU (x:V) (u:Value):Bool:=match u with
 | .none=>eqV .non x
 | .bool b=>eqV (.bl b) x
 | .int i _=>eqV (.int i) x
 | .str z _=>eqV (.str z) x
 | _=>false
theorem eqU_of {x y:V} {u:Value} (r:RelV y u) (f:flatV y=true):eqU x u=eqV y x:=by
 cases y with
 | non=>cases r;rfl
 | bl b=>cases r;rfl
 | int i=>obtain⟨t,rfl⟩:=r;rfl
 | str z=>obtain⟨t,rfl⟩:=r;rfl
 | _=>exact absurd (show false=true from f) Bool.false_ne_true
theorem any_eqU {x:V}:∀ {xs:List V} {us:List Value},Vals xs us->xs.all flatV=true->us.any (eqU x)=xs.any fun y=>eqV y x
 | _,_,.nil,_=>rfl
 | y::xs,u::us,.cons r t,f=>by
  rw[List.all_cons,Bool.and_eq_true] at f
  rw[List.any_cons,List.any_cons,eqU_of r f.1,any_eqU t f.2]
theorem mem_eqAt {A:Around} {s:Shared} {x:V} {v:Value} (rx:RelV x v) (fx:flatV x=true):∀ {xs:List V} {us:List Value},Vals xs us->xs.all flatV=true->∀ u ∈ us,SeqAt.EqAt A s u v (eqU x u)
 | _,_,.nil,_=>fun u hu=>by cases hu
 | y::xs,u::us,.cons r t,f=>fun u' hu=>by
  rw[List.all_cons,Bool.and_eq_true] at f
  rcases List.mem_cons.mp hu with rfl | hu
  ·rw[eqU_of r f.1];exact eqAt_V r rx f.1 fx
  ·exact mem_eqAt rx fx t f.2 u' hu
def inV (x:V) (xs:List V):Bool:=xs.any fun y=>eqV y x
/-- x in a list or tuple of flat items -/
def rIn (K:PySem.W.Frag) (neg:Bool):R2:=fun x y H Q=>∃ p xs,y=.ref p∧(SqL K H p xs∨SqT K H p xs)∧flatV x=true∧xs.all flatV=true∧Q (.bl (if neg then !inV x xs else inV x xs)) H
theorem op_in_seq:OpR X (compareOp .In) (rIn X.K false):=by
 intro pins s σ H x y v u Q I rx ry h
 obtain⟨p,xs,rfl,hq,fx,fs,q⟩:=h
 cases ry
 rcases hq with hq | hq
 ·obtain⟨its,r,pl,hz⟩:=I.list hq
  refine SeqAt.in_listAt (eqU x) pl.isList (fun w hw=>mem_eqAt rx fx r fs w (by simpa using hw)) ⟨.bl _,H,I,rfl,?_⟩
  rw[show its.toArray.any (eqU x)=its.any (eqU x) by simp,any_eqU r fs]
  exact q
 ·obtain⟨its,r,pl,hz⟩:=I.tuple hq
  refine SeqAt.in_tupleAt (eqU x) pl (fun w hw=>mem_eqAt rx fx r fs w (by simpa using hw)) ⟨.bl _,H,I,rfl,?_⟩
  rw[show its.toArray.any (eqU x)=its.any (eqU x) by simp,any_eqU r fs]
  exact q
theorem op_notIn_seq:OpR X (compareOp .NotIn) (rIn X.K true):=by
 intro pins s σ H x y v u Q I rx ry h
 obtain⟨p,xs,rfl,hq,fx,fs,q⟩:=h
 cases ry
 rcases hq with hq | hq
 ·obtain⟨its,r,pl,hz⟩:=I.list hq
  refine SeqAt.notIn_listAt (eqU x) pl.isList (fun w hw=>mem_eqAt rx fx r fs w (by simpa using hw)) ⟨.bl _,H,I,rfl,?_⟩
  rw[show its.toArray.any (eqU x)=its.any (eqU x) by simp,any_eqU r fs]
  exact q
 ·obtain⟨its,r,pl,hz⟩:=I.tuple hq
  refine SeqAt.notIn_tupleAt (eqU x) pl (fun w hw=>mem_eqAt rx fx r fs w (by simpa using hw)) ⟨.bl _,H,I,rfl,?_⟩
  rw[show its.toArray.any (eqU x)=its.any (eqU x) by simp,any_eqU r fs]
  exact q
theorem call_len_seq:CallR X (.builtin "len") (fun xs H Q=>∃ p ys,xs=[.ref p]∧(SqL X.K H p ys∨SqT X.K H p ys)∧Q (.int ys.length) H):=by
 intro pins s σ H xs us Q I r h
 obtain⟨p,ys,rfl,hq,q⟩:=h
 obtain⟨u,rfl,rx⟩:=vals1 r
 cases rx
 have hn:=line63
 rcases hq with hq | hq
 ·obtain⟨its,r',pl,hz⟩:=I.list hq
  have hlen:=r'.length
  exact Calls.call_len_list pl.isList (by simp only [List.size_toArray] <;> omega) ⟨.int ys.length,H,I.tok _,⟨s.toks + 1,by rw[List.size_toArray,hlen]⟩,q⟩
 ·obtain⟨its,r',pl,hz⟩:=I.tuple hq
  have hlen:=r'.length
  exact len_tuple pl (by simp only [List.size_toArray] <;> omega) ⟨.int ys.length,H,I.tok _,⟨s.toks + 1,by rw[List.size_toArray,hlen]⟩,q⟩
theorem CallR.or {f:Value} {r r':List V->Hp->VK->Prop} (h:CallR X f r) (h':CallR X f r'):CallR X f (fun xs H Q=>r xs H Q∨r' xs H Q):=by
 intro pins s σ H xs us Q I rs q
 rcases q with q | q
 ·exact h pins s σ H xs us Q I rs q
 ·exact h' pins s σ H xs us Q I rs q
theorem call_list_of:CallR X (.type "list") (fun xs H Q=>∃ p ys,xs=[.ref p]∧(SqL X.K H p ys∨SqT X.K H p ys)∧∀ l,H l=none->Q (.ref l) (upd H l (.lst ys))):=by
 intro pins s σ H xs us Q I r h
 obtain⟨p,ys,rfl,hq,q⟩:=h
 obtain⟨u,rfl,rx⟩:=vals1 r
 cases rx
 have fin : ∀ (its : List Value), Vals ys its → ys.length ≤ sizeLine → ∀ (h' : Heap) (c' : Nat), (∀ b o', s.heap.get? b = some o' → h'.get? b = some o') →
     h'.get? s.heap.objs.size=some { cls:=.type "list",dict:=none,data:=.seq its.toArray c',slots:=#[] }->EP X pins σ Q (.ref s.heap.objs.size) { s with heap:=h' }:=fun its r' hz h' c' kp e =>
  ⟨.ref s.heap.objs.size,_,I.laid (t':=s.toks) kp (Nat.le_refl _) (show ObjOk X.prog X.w _ h' _ (.lst ys) from ⟨hz,its,c',r',e⟩),rfl,q _ (I.hok.fresh (Nat.le_refl _))⟩
 rcases hq with hq | hq
 ·obtain⟨its,r',pl,hz⟩:=I.list hq
  have hlen:=r'.length
  obtain⟨o,ho,hc,n,hd⟩:=pl.isList
  exact call_list_seq p (.inl rfl) ho hc hd (fun h' c' kp e=>fin its r' hz h' c' kp e) (by simp only [List.size_toArray] <;> omega)
 ·obtain⟨its,r',pl,hz⟩:=I.tuple hq
  have hlen:=r'.length
  obtain⟨o,ho,hc,n,hd⟩:=pl
  exact call_list_seq p (.inr rfl) ho hc hd (fun h' c' kp e=>fin its r' hz h' c' kp e) (by simp only [List.size_toArray] <;> omega)
theorem call_tuple_of:CallR X (.type "tuple") (fun xs H Q=>∃ p ys,xs=[.ref p]∧((SqL X.K H p ys∧∀ l,H l=none->Q (.ref l) (upd H l (.tup ys)))∨(SqT X.K H p ys∧Q (.ref p) H))):=by
 intro pins s σ H xs us Q I r h
 obtain⟨p,ys,rfl,h⟩:=h
 obtain⟨u,rfl,rx⟩:=vals1 r
 cases rx
 rcases h with ⟨hq,q⟩ | ⟨hq,q⟩
 ·obtain⟨its,r',pl,hz⟩:=I.list hq
  have hlen:=r'.length
  refine call_tuple_list pl.isList (fun h' kp=>?_) (by simp only [List.size_toArray] <;> omega)
  have I1:Inv X pins σ H { s with heap:=h' }:=I.kept (t':=s.toks) kp
  have I2:Inv X pins σ (upd H h'.objs.size (.tup ys)) { s with heap:=h'.push { cls:=.type "tuple",data:=.seq its.toArray } } :=
   I1.laid (t':=s.toks) (fun b o e=>Heap.get?_push_of_some _ e) (Nat.le_refl _) (show ObjOk X.prog X.w _ _ _ (.tup ys) from ⟨hz,its,r',TupN.new _ _⟩)
  exact⟨.ref h'.objs.size,_,I2,rfl,q _ (I1.hok.fresh (Nat.le_refl _))⟩
 ·obtain⟨its,r',pl,hz⟩:=I.tuple hq
  exact call_tuple_same pl ⟨.ref p,H,I,rfl,q⟩
/-- the value is of that builtin type -/
def tyV (K:PySem.W.Frag) (T:String) (x:V) (H:Hp):Prop:=match x with
 | .str _=>T="str"
 | .int _=>T="int"
 | .ref p => (T = "list" ∧ ∃ xs, SqL K H p xs) ∨ (T = "tuple" ∧ ∃ o, K.lookup p = some o ∧ o.cls = .type "tuple" ∧ o.dict = none) ∨
     (T="dict"∧((∃ kvs,H p=some (.dK kvs))∨∃ kvs,H p=some (.dT kvs)))∨(T="set"∧∃ S n,H p=some (.set S n))
 | _=>False
theorem tyV_is {pins:List (Addr × Obj)} {σ:St} {H:Hp} {s:Shared} {T:String} {x:V} {v:Value} (I:Inv X pins σ H s) (r:RelV x v) (ty:tyV X.K T x H) :
  s.TypeIs v T∧∀ a,v=.ref a->∃ ob,s.heap.get? a=some ob∧ob.dict=none:=by
 cases x with
 | str z =>
  obtain⟨t,rfl⟩:=r
  cases (show T="str" from ty)
  exact⟨typeIs_str s z t,fun _ e=>nomatch e⟩
 | int i =>
  obtain⟨t,rfl⟩:=r
  cases (show T="int" from ty)
  exact⟨typeIs_int s i t,fun _ e=>nomatch e⟩
 | ref p =>
  cases r
  rcases ty with ⟨rfl,xs,hq⟩ | ⟨rfl,o,hk,hc,hd⟩ | ⟨rfl,hk⟩ | ⟨rfl,S,n,hk⟩
  ·obtain⟨its,_,pl,_⟩:=I.list hq
   refine⟨pl.isList.typeIs,fun a e=>?_⟩
   cases e
   obtain⟨o,n,e,c,hd,_⟩:=pl
   exact⟨o,e,hd⟩
  ·refine⟨⟨o,I.kIn p o hk,hc⟩,fun a e=>?_⟩
   cases e
   exact⟨o,I.kIn _ o hk,hd⟩
  ·have z:∃ o,s.heap.get? p=some o∧o.ExactDict:=by
    rcases hk with ⟨kvs,hk⟩ | ⟨kvs,hk⟩
    ·obtain⟨_,_,_,_,o,_,_,e,ex,_⟩:=I.hok p _ hk
     exact⟨o,e,ex⟩
    ·obtain⟨_,_,_,_,o,_,_,e,ex,_⟩:=I.hok p _ hk
     exact⟨o,e,ex⟩
   obtain⟨o,e,ex⟩:=z
   refine⟨⟨o,e,ex.1⟩,fun a e2=>?_⟩
   cases e2
   exact⟨o,e,ex.2.1⟩
  ·obtain⟨o,_,_,_,e,ex,_⟩:=I.hok p _ hk
   refine⟨⟨o,e,ex.1⟩,fun a e2=>?_⟩
   cases e2
   exact⟨o,e,ex.2.1⟩
 | _=>exact False.elim ty
def tBM (K:PySem.W.Frag) (T:String) (r:V->List V->Hp->VK->Prop) (to:TE) (t:TA):TE:=fun σ H Q=>to σ H fun x H1=>tyV K T x H1∧t σ H1 fun xs H2=>r x xs H2 Q
variable {o e:Expr} {es:List Expr} {to:TE} {t:TA} {name:Str} {apos cpos:Pos} {T id:String} {r:V->List V->Hp->VK->Prop}
theorem pe_bm (pa:PlainAttrs T) (slot:Slot T name id) (hty:typeOf (.builtin id)=pure (.type "method_descriptor")) (hm:MtR X id r) (ho:PE X o to) (ha:PA X (e::es) t)
  (hbase:attributeBase o name X.env (eval o X.env)=eval o X.env:=by rfl)
  (hfew:((backTo cpos (starEach (e::es) X.env)).all (fun x=>!x.1) && (backToKw cpos (keywordEach [] X.env)).all (fun x=>x.1.isSome)
   && decide ((e::es).length + ([]:List Keyword).length + (if ([]:List Keyword).isEmpty then 0 else 1) < 30))=true:=by rfl)
  (hline:(apos.endLine == cpos.line)=true:=by rfl) (hs:starEach (e::es) X.env=(false,eval e X.env)::starEach es X.env:=by rfl) (hplain:(backTo cpos (starEach es X.env)).any (·.1)=false:=by rfl) :
  PE X (.Call (.Attribute o name apos) (e::es) [] cpos) (tBM X.K T r to t):=by
 intro pins s σ H Q I h
 refine wpAny_Call_method_late hbase hfew hline rfl (thn (ho pins s σ H _ I h) fun v s1 ⟨x,H1,I1,r1,ty,q1⟩=>?_)
 obtain⟨h1,h2⟩:=tyV_is I1 r1 ty
 refine⟨T,id,pa,slot,hty,h1,h2,?_⟩
 have hA:=ha cpos pins s1 σ H1 _ I1 q1
 rw[hs] at hA ⊢
 refine Calls.callWith_builtin (by show (false || (backTo cpos (starEach es X.env)).any (·.1))=false;rw[hplain] <;> rfl) (Calls.evalArgs_plain ?_)
 exact thn hA fun us s2 ⟨vs,H2,I2,r2,q2⟩=>hm pins s2 σ H2 x vs v us Q I2 r1 r2 q2
end
end L2
namespace L2
open PySem PySem.Spec PyProof.Rows
def MtM (X:Cx) (id:String) (r:V->List V->Hp->VK->Prop):Prop :=
 ∀ (pins:List (Addr × Obj)) (s:Shared) (σ:St) (H:Hp) (x:V) (xs:List V) (v:Value) (us:List Value) (Q:VK),Inv X pins σ H s->RelV x v->Vals xs us->r x xs H Q ->
  wpAny (model X.prog X.w) X.A (call (.builtin id) (v::us)) (EP X pins σ Q) X.xe s
theorem Vals.one:∀ {x:V} {us:List Value},Vals [x] us->∃ u,us=[u]∧RelV x u
 | _,_,.cons r .nil=>⟨_,rfl,r⟩
theorem Vals.two:∀ {x y:V} {us:List Value},Vals [x,y] us->∃ u v,us=[u,v]∧RelV x u∧RelV y v
 | _,_,_,.cons r (.cons q .nil)=>⟨_,_,rfl,r,q⟩
theorem Vals.zero:∀ {us:List Value},Vals [] us->us=[]
 | _,.nil=>rfl
theorem Vals.eraseIdx:∀ {xs:List V} {us:List Value} (i:Nat),Vals xs us->Vals (xs.eraseIdx i) (us.eraseIdx i)
 | _,_,_,.nil=>.nil
 | _,_,0,.cons _ t=>t
 | _,_,i + 1,.cons r t=>.cons r (Vals.eraseIdx i t)
theorem Vals.reverse {xs:List V} {us:List Value} (h:Vals xs us):Vals xs.reverse us.reverse:=by
 induction h with
 | nil=>exact .nil
 | cons r t ih=>rw[List.reverse_cons,List.reverse_cons];exact Vals.append ih (.cons r .nil)
theorem Vals.rep {xs:List V} {us:List Value} (h:Vals xs us):∀ k:Nat,Vals (List.replicate k xs).flatten (List.replicate k us).flatten
 | 0=>.nil
 | k + 1=>by
  rw[List.replicate_succ,List.replicate_succ,List.flatten_cons,List.flatten_cons]
  exact Vals.append h (Vals.rep h k)
theorem len_erase {α:Type}:∀ (l:List α) (i:Nat),(l.eraseIdx i).length≤l.length
 | [],_=>Nat.le_refl _
 | _::_,0=>Nat.le_succ _
 | _::r,i + 1=>Nat.succ_le_succ (len_erase r i)
theorem foldl_rep (its:List Value):∀ (k:Nat) (acc:List Value),
  List.foldl (fun x1 x2=>x1++x2) acc.toArray (List.replicate k its.toArray)=(acc++(List.replicate k its).flatten).toArray
 | 0,acc=>by simp
 | k + 1,acc=>by
  have e:acc.toArray++its.toArray=(acc++its).toArray:=by simp
  have e2:(acc++its)++(List.replicate k its).flatten=acc++(List.replicate (k + 1) its).flatten:=by
   rw[List.replicate_succ,List.flatten_cons,List.append_assoc]
  rw[← e2,← foldl_rep its k (acc++its),← e,List.replicate_succ,List.foldl_cons]
section
variable {X:Cx} {pins:List (Addr × Obj)} {σ:St} {H:Hp} {s:Shared} {l b:Addr} {xs ys zs:List V}
theorem Inv.lset {its its':List Value} {n:Nat} {f:Array Value->Array Value} {t':Nat} (I:Inv X pins σ H s) (hH:H l=some (.lst xs))
  (e:s.heap.get? l=some { cls:=.type "list",data:=.seq its.toArray n }) (hf:f its.toArray=its'.toArray) (hv:Vals ys its') (hz:ys.length≤sizeLine) :
  Inv X pins σ (upd H l (.lst ys)) { s with heap:=s.heap.update l (Obj.mapSeq f),toks:=t' }:=by
 have q:=PySem.IsL.update e f
 rw[hf] at q
 refine I.write (x:=l) (e:=l) (by rw[hH];exact trivial) (.inl rfl) (fun b' u hb hu=>(Heap.get?_update_other s.heap (Obj.mapSeq f) (Ne.symm hb)).trans hu) ⟨_,q⟩ ?_
 exact⟨hz,its',_,hv,q⟩
theorem Inv.lnew {its:List Value} {t':Nat} (I:Inv X pins σ H s) (hv:Vals ys its) (hz:ys.length≤sizeLine) :
  Inv X pins σ (upd H s.heap.objs.size (.lst ys)) { s with heap:=s.heap.push { cls:=.type "list",data:=.seq its.toArray },toks:=t' } :=
 I.laid (fun _ _ q=>Heap.get?_push_of_some _ q) (Nat.le_refl _) ⟨hz,its,0,hv,Heap.get?_push_size _ rfl⟩
theorem Inv.fresh (I:Inv X pins σ H s):H s.heap.objs.size=none:=I.hok.fresh (Nat.le_refl _)
theorem Inv.lstM (I:Inv X pins σ H s) (hH:H l=some (.lst xs)):xs.length≤sizeLine∧∃ (its:List Value) (n:Nat),Vals xs its∧xs.length=its.length∧s.heap.get? l=some { cls:=.type "list",data:=.seq its.toArray n }:=by
 obtain⟨z,its,n,r,e⟩:=I.hok l _ hH
 exact⟨z,its,n,r,r.length,e⟩
theorem notLongL {n:Nat} (h:n≤sizeLine):Builtin.List.listTooLong n=false:=by
 unfold Builtin.List.listTooLong
 exact decide_eq_false (by omega)
end
section
variable {X:Cx}
def rAppend:V->List V->Hp->VK->Prop:=fun x vs H Q=>∃ l xs y,x=.ref l∧vs=[y]∧H l=some (.lst xs)∧xs.length < sizeLine∧Q .non (upd H l (.lst (xs++[y])))
theorem mt_append:MtM X "list.append" rAppend:=by
 intro pins s σ H x vs v us Q I rx rv h
 obtain⟨l,xs,y,rfl,rfl,hH,hz,q⟩:=h
 cases rx
 obtain⟨u,rfl,ru⟩:=rv.one
 obtain⟨z,its,n,r,hl,e⟩:=I.lstM hH
 refine call_meets F.slot_list_append ⟨_,e,rfl⟩ F.entry_list_append (F.args_list_append_2 _ _) (PySem.list_append l its.toArray n u (by rw[List.size_toArray];omega)) ⟨e,?_⟩
 refine⟨.non,_,I.lset (its':=its++[u]) hH e (by simp) (r.append (.cons ru .nil)) ?_,rfl,q⟩
 rw[List.length_append,List.length_singleton]
 omega
def rPopAt:V->List V->Hp->VK->Prop:=fun x vs H Q=>∃ l xs i k y,x=.ref l∧vs=[.int i]∧H l=some (.lst xs)∧-(2 ^ 63)≤i∧i < 2 ^ 63∧seqIndex? i xs.length=some k∧xs[k]?=some y∧Q y (upd H l (.lst (xs.eraseIdx k)))
theorem mt_popAt:MtM X "list.pop" rPopAt:=by
 intro pins s σ H x vs v us Q I rx rv h
 obtain⟨l,xs,i,k,y,rfl,rfl,hH,h1,h2,hk,hy,q⟩:=h
 cases rx
 obtain⟨u,rfl,ru⟩:=rv.one
 obtain⟨t,rfl⟩:=ru
 obtain⟨z,its,n,r,hl,e⟩:=I.lstM hH
 obtain⟨w,hw,rw'⟩:=r.get hy
 refine call_meets F.slot_list_pop ⟨_,e,rfl⟩ F.entry_list_pop (F.args_list_pop_2 _ _)
  (MeetsSeq.list_pop_at l its.toArray n i t k w (fitsIndex_both h1 h2) (by rw[List.size_toArray,← hl];exact hk) (by rw[← Array.getElem?_toList];exact hw) (by rw[List.size_toArray];omega)) ⟨e,?_⟩
 refine⟨y,_,I.lset (its':=its.eraseIdx k) hH e ?_ (r.eraseIdx k) ?_,rw',q⟩
 ·show its.toArray.eraseIdxIfInBounds k=(its.eraseIdx k).toArray
  rw[List.eraseIdxIfInBounds_toArray]
 ·have:=len_erase xs k
  omega
/-- a list times an int (a negative one is nothing) -/
def rRep:R2:=fun x y H Q=>∃ l k xs,x=.ref l∧y=.int k∧H l=some (.lst xs)∧-(2 ^ 63)≤k∧k < 2 ^ 63∧xs.length * k.toNat≤sizeLine ∧
 ∀ p,H p=none->Q (.ref p) (upd H p (.lst (List.replicate k.toNat xs).flatten))
theorem len_rep {α:Type} (xs:List α) (k:Nat):(List.replicate k xs).flatten.length=k * xs.length:=by
 induction k with
 | zero=>simp
 | succ k ih=>rw[List.replicate_succ,List.flatten_cons,List.length_append,ih,Nat.succ_mul,Nat.add_comm]
theorem op_rep:OpR X (binaryOp .Mult) rRep:=by
 intro pins s σ H x y v u Q I rx ry h
 obtain⟨l,k,xs,rfl,rfl,hH,h1,h2,hz,q⟩:=h
 cases rx
 obtain⟨t,rfl⟩:=ry
 obtain⟨z,its,n,r,hl,e⟩:=I.lstM hH
 have hlen:its.toArray.size * k.toNat≤sizeLine:=by rw[List.size_toArray,← hl];exact hz
 have hcap:¬ its.toArray.size * k.toNat > (2 ^ 63 - 1) / 8:=by
  have:(sizeLine:Nat)≤(2 ^ 63 - 1) / 8:=by decide
  omega
 have hfit:¬ (!Builtin.List.listFitsIndex k)=true:=by
  rw[fitsIndex_both h1 h2]
  exact Bool.false_ne_true
 have hlong:¬ Builtin.List.listTooLong (its.toArray.size * k.toNat)=true:=by
  rw[notLongL hlen]
  exact Bool.false_ne_true
 have hnew:List.foldl (fun x1 x2=>x1++x2) #[] (List.replicate (if its.toArray.isEmpty=true then 0 else k.toNat) its.toArray)=(List.replicate k.toNat its).flatten.toArray:=by
  have f0:∀ m:Nat,List.foldl (fun x1 x2=>x1++x2) #[] (List.replicate m its.toArray)=(List.replicate m its).flatten.toArray:=fun m=>by
   have:=foldl_rep its m []
   rw[List.nil_append] at this
   exact this
  rw[f0]
  cases its with
  | nil=>simp
  | cons a r'=>rw[if_neg (by simp)]
 refine wpAny_binaryOp_repeat_ref (T:="list") (U:="int") (by decide) ⟨_,e,rfl⟩ (fun s'=>typeIs_int s' k t) noFill_list_mul F.fills_int_mul F.slot_int_rmul repeat_list F.slot_int_index.lookup
  (call_meets F.slot_int_rmul (typeIs_int s k t) F.entry_int_rmul (F.args_int_rmul_2 _ _) (int___rmul___int_list k t l its.toArray n)
   ⟨e,rfl,⟨_,e,rfl⟩,call_meets F.slot_list_mul ⟨_,e,rfl⟩ F.entry_list_mul (F.args_list_mul_2 _ _) (AutoListH.list___mul___list_int_3 l its.toArray n k t hfit hcap hlong) ⟨e,?_⟩⟩)
 rw[hnew]
 exact⟨.ref _,_,I.lnew (t':=s.toks) (r.rep k.toNat) (by rw[len_rep,Nat.mul_comm];exact hz),rfl,q _ I.fresh⟩
end
section
variable {prog:Program} {w:World} {A:Around} {E:Value->Shared->Prop} {s:Shared}
end
section
variable {X:Cx}
end
end L2
namespace Att
open PySem PySem.W PySem.Calls PyProof.Rows
theorem ints_of_wellAll {P:Params} {h:Heap}:∀ (ns:List Int) (vs:List Value),WellAll P h vs (ns.map WData.int)->IntsAre vs ns:=by
 intro ns
 induction ns with
 | nil =>
  intro vs w
  rw[List.map_nil] at w
  cases w
  exact .nil
 | cons n ns ih =>
  intro vs w
  rw[List.map_cons] at w
  cases w with
  | cons a b =>
   cases a
   exact .cons _ _ (ih _ b)
theorem script_of {l:OpenLaw} {n:Nat} (hn:l.most=some n) {P:Params} {h:Heap} {args:List WData} {vals:List Value}
  (hpre:l.row.toRowW.claim.pre args=true) (hwl:WellAll P h vals args) :
  ∃ a vs ns,vals=[Value.ref a]∧args=[WData.list (ns.map WData.int)]∧h.get? a=some { cls:=.type "list",data:=.seq vs.toArray }∧IntsAre vs ns∧ns.length≤n:=by
 have hsh:WShape.hasAll [] args [.list .int]=true:=(pre_splitW hpre).1
 have hc:l.pre.holds [] { args:=args }=true:=(pre_splitW hpre).2
 obtain⟨d,r,rfl,h1,h2⟩:=hasAllW_cons hsh
 obtain rfl:=hasAllW_nil h2
 obtain⟨xs,rfl,h3⟩:=hasW_list h1
 obtain⟨ns,rfl⟩:=items_int h3
 have hlen:ns.length≤n:=by
  unfold OpenLaw.pre at hc
  have h4:(WTm.not (.lt (.lit (.int (n:Int))) (.len (.arg 0)))).holds [] { args:=[.list (ns.map .int)] }=true:=by
   have h4:=(holds_andW hc).1
   rw[hn] at h4
   exact h4
  have h5:=condW_of h4 (w_not (w_lt w_lit (w_len_list (w_arg rfl))))
  rw[List.length_map] at h5
  refine Nat.le_of_not_lt fun q=>?_
  have q':(n:Int) < ((ns.length:Nat):Int):=by omega
  first
   | (rw[decide_eq_true q'] at h5;exact absurd h5 (by decide))
   | (simp at h5;omega)
 cases hwl with
 | cons w1 w2 =>
  cases w2
  cases w1 with
  | list ho hall=>exact⟨_,_,ns,rfl,rfl,ho,ints_of_wellAll ns _ hall,hlen⟩
theorem post_true (l:OpenLaw) (args:List WData):l.row.toRowW.claim.post args (.bool true) args=true :=
 postW_of (r:=l.row.toRowW) (X:=(true == true))
  (show WShape.has [] (.bool true) .bool=true by first | rfl | decide | simp [WShape.has,WShape.arms,WShape.armsAll])
  (show (WTm.eq .res (.lit (.bool true))).value [] { args:=args,res:=some (.bool true),after:=args }=some (.bool (true == true)) from w_eq_bool (w_res rfl) w_lit) rfl
/-- the same from a codeAny of the CALL (for a layer whose function contracts speak of calls) -/
theorem attach_call {l:OpenLaw} {n:Nat} {q:Program} {loose:List Str} {XP:(Str->Option Value)->Heap->Prop} {YP:World->Heap->Prop} {d:DefRec}
  (hn:l.most=some n) (hdf:d.params.defaults=[])
  (call:∀ (w:World) (s₀ s₁:Shared) (mg mb:Str->Option Value) (fa:Addr) (o:Obj) (pm cd doc:Value) (a:Addr) (vs:List Value) (ns:List Int),
   Ground q loose [] XP w s₀ mg mb s₁.heap->YP w s₁.heap ->
   s₁.heap.get? fa=some o->o.data=.func (docDef d.name d.params d.body d.scope pm cd doc)->s₁.heap.CodeRec cd d.name->mg d.name=some (.ref fa) ->
   s₁.heap.get? a=some { cls:=.type "list",data:=.seq vs.toArray }->IntsAre vs ns->ns.length≤n->s₁.gens=#[] ->
   codeAny (model l.prog w) callerA (.call (.ref fa) ⟨[.ref a],[]⟩) (fun r s'=>r=.ok (.ret (.bool true))∧OldK s₁.heap s'.heap∧s'.os=s₁.os∧AllBare s'.gens) s₁) :
  WalkO q loose XP YP l.row.toRowW d [] (fun f vs=>PySem.call f vs):=by
 intro w s₀ s₁ mg mb G Y fa o pm cd doc dV kV ho hd hcd hD hmg hg args vals as hpre hlay hrd hwl hlo
 obtain rfl:dV=.none:=Dflts.none hD hdf
 obtain rfl:kV=.none:=Dflts.noKw hD
 obtain⟨a,vs,ns,rfl,rfl,hobj,hints,hlen⟩:=script_of hn hpre hwl
 refine enter_call (codeAny_mono (call w s₀ s₁ mg mb fa o pm cd doc a vs ns G Y ho (fd_plain hd) hcd hmg hobj hints hlen hg) fun r s' hq=>?_)
 obtain⟨rfl,h2,h3,h4⟩:=hq
 exact⟨.inl ⟨.bool true,.bool true,[],rfl,fun _=>rfl,.bool true,post_true l _,fun _=>⟨List.Pairwise.nil,fun _ hm=>(nomatch hm)⟩⟩,h2,h3,h4⟩
section
variable {prog:Program} {w:World} {A:Around} {E:Value->Shared->Prop} {s:Shared} {K:Frag}
end
end Att
namespace L2
open PySem PySem.Spec PyProof.Rows
theorem vals_ints:∀ {vs:List Value} {ns:List Int},IntsAre vs ns->Vals (ns.map V.int) vs
 | _,_,.nil=>.nil
 | _,_,.cons n t h=>.cons ⟨t,rfl⟩ (vals_ints h)
/-- nothing is tracked but the script, known to the object (or it is an object of the module) -/
def Only (H:Hp):Prop:=∀ b,H b=none∨∃ o xs,H b=some (.frz o (.lst xs))
/-- THE HEAD: the law's promise, at the heap behind the top. F, the promise of the law's def, may use that base is part of the heap (so K.In base, base.Ns mainGlobals mg stand in Mod) -/
theorem law_call {P:Program} {w:World} {K:PySem.W.Frag} {mg mb:Str->Option Value} {CX:CXT} {k:Nat} {fa a:Addr} {fd:FuncData} {x:Str} {sp:Sp} {s₁:Shared} {vs:List Value} {ns:List Int}
  (KX:K.In s₁.heap) (hns:s₁.heap.Ns mainGlobals mg) (hb:s₁.heap.Ns builtinsNs mb) (hbb:∀ x:Str,x≠"__name__"->mb x=bootBuiltins x) (hlim:s₁.heap.NoLimit) (hg:s₁.gens=#[])
  (ha:s₁.heap.get? a=some { cls:=.type "list",data:=.seq vs.toArray }) (hi:IntsAre vs ns) (hl:ns.length≤sizeLine) (hr:Room k callerA)
  (F:∀ base:Heap,K.In base->base.Ns mainGlobals mg->FnOk P w K mg base CX k fa fd [x] sp) (hbind:∀ (s:Shared) (u:Value),BindsTo s fd ⟨[u],[]⟩ [(x,u)])
  (hsp:∀ H:Hp,Only H->SqL K H a (ns.map V.int)->sp [.ref a] H (fun v _=>v=.bl true) fun _ _ _=>False)
  (hCX:∀ H e s',CX [] H s₁ (fun _ _ _=>False) e s'->False) :
  codeAny (model P w) callerA (.call (.ref fa) ⟨[.ref a],[]⟩) (fun r s'=>r=.ok (.ret (.bool true))∧OldK s₁.heap s'.heap∧s'.os=s₁.os∧AllBare s'.gens) s₁:=by
 have rv:=vals_ints hi
 have lenV:=hi.length
  -- from an abstract heap in which nothing but the script may be tracked
 have core : ∀ H : Hp, Only H → SqL K H a (ns.map V.int) → HOk P w H s₁.heap → (∀ b, H b ≠ none → b = a) → (H a ≠ none → K.lookup a = none) →
     codeAny (model P w) callerA (.call (.ref fa) ⟨[.ref a],[]⟩) (fun r s'=>r=.ok (.ret (.bool true))∧OldK s₁.heap s'.heap∧s'.os=s₁.os∧AllBare s'.gens) s₁:=by
  intro H hO hS hok hA hK
  have base_of:∀ {b:Addr} {o:Obj},s₁.heap.get? b=some o->H b=none->(hidT s₁.heap H).get? b=some o:=fun e n=>hidT_get e n
  have noA:∀ {b:Addr} {o:Obj} {es:Array DictEntry} {ep:Nat},s₁.heap.get? b=some o->o.data=.dict es ep->H b=none:=fun {b o es ep} e d=>by
   cases q:H b with
   | none=>rfl
   | some u =>
    have e':b=a:=hA b (by rw[q];simp)
    subst e'
    rw[ha] at e;cases e
    have d':Data.seq vs.toArray _=Data.dict es ep:=d
    cases d'
  have nsK:∀ {b:Addr} {m:Str->Option Value},s₁.heap.Ns b m->(hidT s₁.heap H).Ns b m:=fun {b m} ⟨o,es,ep,e,d,r⟩=>⟨o,es,ep,base_of e (noA e d),d,r⟩
  have hKb:K.In (hidT s₁.heap H):=fun b o e=>base_of (KX b o e) (by
   cases q:H b with
   | none=>rfl
   | some u =>
    have e':b=a:=hA b (by rw[q];simp)
    subst e'
    rw[hK (by rw[q];simp)] at e;cases e)
  have hM:Mod K mg (hidT s₁.heap H):=⟨hKb,nsK hns,⟨mb,nsK hb,hbb⟩,let ⟨mc,h1,h2⟩:=hlim;⟨mc,nsK h1,h2⟩⟩
  have e0:Env0 P w K mg (hidT s₁.heap H) callerA [] s₁ H:=⟨rfl,hM,fun b o e=>of_hidT e,Nat.le_of_eq (hidT_size _ _),trivial,fun b hb=>absurd (show b ∈ ([]:List Addr) from hb) (by simp),hok,.of_eq hg⟩
  refine codeAny_mono ((F _ hKb (nsK hns)).run callerA [] s₁ H ⟨[.ref a],[]⟩ [.ref a] [.ref a] _ _ hr e0 (hbind s₁ (.ref a)) (.cons rfl .nil) (hsp H hO hS)) fun r s' h=>?_
  cases r with
  | error e=>exact (hCX H e s' h).elim
  | ok fl =>
   cases fl with
   | next=>exact False.elim h
   | brk=>exact False.elim h
   | cont=>exact False.elim h
   | ret u =>
    obtain⟨v,H',os,bare,un,hok',r',q⟩:=h
    have q':v=.bl true:=q
    subst q'
    obtain rfl:u=Value.bool true:=r'
    refine⟨rfl,OldK.of_keep fun b o e=>?_,os,bare⟩
    cases q:H b with
    | none=>exact un.keep b o e q (by intro z;exact absurd (show b ∈ ([]:List Addr) from z) (by simp)) (by simp)
    | some u =>
     rcases hO b with z | ⟨ob,xs,z⟩
     ·rw[q] at z;cases z
     ·have z2:=un.frzs b ob _ z
      obtain⟨e1,_⟩:=hok b _ z
      obtain⟨e2,_⟩:=hok' b _ z2
      rw[e] at e1;cases e1
      exact e2
 cases hk:K.lookup a with
 | some o =>
    -- the script is one of the module's own objects
  have e:=KX a o hk
  rw[ha] at e
  cases e
  refine core (fun _=>none) (fun _=>.inl rfl) (.inr ⟨_,vs.toArray,_,hk,rfl,rfl,rfl,by rw[List.size_toArray,lenV];exact hl,by simpa using rv⟩) (fun b u z=>by have z':(none:Option HO)=some u:=z;cases z') (fun b z=>absurd rfl z) fun z=>absurd rfl z
 | none =>
  refine core (fun b=>if b=a then some (.frz { cls:=.type "list",data:=.seq vs.toArray } (.lst (ns.map V.int))) else none) (fun b=>?_) (.inl (.inr ⟨{ cls:=.type "list",data:=.seq vs.toArray },if_pos rfl⟩)) (fun b u z=>?_) (fun b z=>?_) fun _=>hk
  ·by_cases hb:b=a
   ·exact .inr ⟨_,_,if_pos hb⟩
   ·exact .inl (if_neg hb)
  ·by_cases hb:b=a
   ·have z':=(if_pos hb).symm.trans z
    cases z'
    subst hb
    exact⟨ha,by rw[List.length_map];exact hl,vs,_,rv,ha⟩
   ·have z':=(if_neg hb).symm.trans z
    cases z'
  ·by_cases hb:b=a
   ·exact hb
   ·exact absurd (if_neg hb) z
end L2
namespace L2
open PySem PySem.Spec PyProof.Rows
/-- the goal that k_head leaves (case hc), from the law's promise. F gives the function object fd (K's own) once, then the promise over every base -/
theorem walk_of {l:PySem.W.OpenLaw} {n k:Nat} {q:Program} {loose:List Str} {XP:(Str->Option Value)->Heap->Prop} {YP:World->Heap->Prop} {d:DefRec} {K:Params->PySem.W.Frag} {CX:World->CXT} {sp:World->Sp} {x:Str}
  (hn:l.most=some n) (hn2:n≤sizeLine) (hdf:d.params.defaults=[]) (hr:Room k callerA)
  (hY:∀ (w:World) (h:Heap),YP w h->(K w.params).In h)
  (F:∀ (w:World) (mg:Str->Option Value) (fa:Addr) (h:Heap),(K w.params).In h->h.Ns mainGlobals mg->mg d.name=some (.ref fa) ->
   ∃ fd:FuncData,(∀ (s:Shared) (u:Value),BindsTo s fd ⟨[u],[]⟩ [(x,u)]) ∧
    ∀ base:Heap,(K w.params).In base->base.Ns mainGlobals mg->FnOk l.prog w (K w.params) mg base (CX w) k fa fd [x] (sp w))
  (hsp:∀ (w:World) (H:Hp) (a:Addr) (ns:List Int),ns.length≤n->Only H->SqL (K w.params) H a (ns.map V.int)->sp w [.ref a] H (fun v _=>v=.bl true) fun _ _ _=>False)
  (hCX:∀ (w:World) (H:Hp) (s:Shared) (e:Value) (s':Shared),CX w [] H s (fun _ _ _=>False) e s'->False) :
  PySem.W.WalkO q loose XP YP l.row.toRowW d [] (fun f vs=>PySem.call f vs):=by
 refine Att.attach_call hn hdf fun w s₀ s₁ mg mb fa o pm cd doc a vs ns G Y ho hd hcd hmg hobj hints hlen hg=>?_
 have KX:=hY w _ Y
 obtain⟨fd,hb,hF⟩:=F w mg fa _ KX G.T.g hmg
 exact law_call KX G.T.g G.T.b G.T.builtins G.T.nolimit hg hobj hints (Nat.le_trans hlen hn2) hr hF hb (fun H hO hS=>hsp w H a ns hlen hO hS) fun H e s'=>hCX w H s₁ e s'
end L2
namespace L2
open PySem PySem.Spec PyProof.Rows
def defArgs (s:Stmt):Arguments:=match s with
 | .FunctionDef _ a _ _ _ _ _ _ _ _=>a
 | _=>{ posonlyargs:=[],args:=[],vararg:=none,kwonlyargs:=[],kw_defaults:=[],kwarg:=none,defaults:=[] }
def defBody (s:Stmt):List Stmt:=match s with
 | .FunctionDef _ _ b _ _ _ _ _ _ _=>b
 | _=>[]
def defScope (s:Stmt):Scope:=match s with
 | .FunctionDef _ _ _ _ _ _ sc _ _ _=>sc
 | _=>{ kind:=.function,names:=[],isGenerator:=false,isCoroutine:=false }
abbrev CX0:CXT:=fun _ _ _ _ _ _=>False
abbrev E0:XK:=fun _ _ _=>False
theorem pass0 {X:Cx}:Passes CX0 X E0:=fun _ _ _ _ _ _ _ h=>h.elim
structure Fun (K:PySem.W.Frag) (x qual:Str) (st:Stmt) (f:Addr) (fd:FuncData):Prop where
 ex:∃ (oc:Value) (od:Option Addr) (kV doc pm:Value) (an:Option Addr) (cdv ct:Value) (osl:Array (Option Value)),
  fd=PySem.W.fnOf x qual (defArgs st) (defBody st) (defScope st) .none kV doc pm an cdv ct∧K.lookup f=some ⟨oc,od,.func fd,osl⟩∧PySem.W.codeIn K cdv qual=true
 kp:PySem.W.keepIn K (.ref f)=true
section
variable {P:Program} {w:World} {K:PySem.W.Frag} {mg:Str->Option Value} {base:Heap}
/-- THE RULE for a def: its body as a term of rules, and the reading of that term -/
theorem Fun.ok {x qual:Str} {st:Stmt} {f:Addr} {fd:FuncData} {N ps:List Str} {k:Nat} {sp:Sp} (F:Fun K x qual st f fd) (S:FnScope N ps (defScope st)) (len:∀ vs H Q E,sp vs H Q E->vs.length=ps.length)
  (hbody:∀ (cdv:Value) (A:Around) (outer:List Env) (s:Shared) (H:Hp) (vs:List V) (Q:VK) (E:XK),Room k (A.deeper (envOfC qual (defScope st) s.heap.objs.size f cdv))->sp vs H Q E ->
   ∃ t,PSs (cxOf CX0 P w K mg base N qual (defScope st) f cdv A outer s H E).nox (defBody st) t∧t { nx:=fun _ H'=>Q .non H',rt:=Q } (start N vs) H):FnOk P w K mg base CX0 (k + 1) f fd ps sp:=by
 obtain⟨oc,od,kV,doc,pm,an,cdv,ct,osl,rfl,lk,hcd⟩:=F.ex
 refine fn_of lk hcd S len fun A outer s H vs Q E hr hsp=>?_
 obtain⟨t,h,q⟩:=hbody cdv A outer s H vs Q E hr hsp
 exact⟨t,h.nox,q⟩
/-- how its arguments bind (no defaults): h is «fun _ _ _ _ _ _ us hl => match us, hl with | [_, _], _ => rfl», one _ a parameter -/
theorem Fun.binds {x qual:Str} {st:Stmt} {f:Addr} {fd:FuncData} {ps:List Str} (F:Fun K x qual st f fd)
  (h:∀ (kV doc pm:Value) (an:Option Addr) (cdv ct:Value) (us:List Value),us.length=ps.length->bindArgs (PySem.W.fnOf x qual (defArgs st) (defBody st) (defScope st) .none kV doc pm an cdv ct) ⟨us,[]⟩=pure (ps.zip us)):Binds K fd ps []:=by
 obtain⟨oc,od,kV,doc,pm,an,cdv,ct,osl,rfl,lk,hcd⟩:=F.ex
 exact .all (h kV doc pm an cdv ct)
theorem fun_mk {x qual:Str} {st:Stmt} {f:Addr} {oc:Value} {od an:Option Addr} {osl:Array (Option Value)} {kV doc pm cdv ct:Value} (l:K.lookup f=some ⟨oc,od,.func (PySem.W.fnOf x qual (defArgs st) (defBody st) (defScope st) .none kV doc pm an cdv ct),osl⟩)
  (c:PySem.W.codeIn K cdv qual=true) (k:PySem.W.keepIn K (.ref f)=true):Fun K x qual st f (PySem.W.fnOf x qual (defArgs st) (defBody st) (defScope st) .none kV doc pm an cdv ct):=⟨⟨oc,od,kV,doc,pm,an,cdv,ct,osl,rfl,l,c⟩,k⟩
end
section
variable {X:Cx}
theorem pv (i:Nat) {x:Str} {pos:Pos} (hN:X.N[i]?=some x:=by rfl) (hv:Vis X.env.scope x:=by first | exact Or.inl rfl | exact Or.inr (Or.inl rfl) | exact Or.inr (Or.inr rfl)) (hd:(x == ("__debug__":Str))=false:=by decide)
  (hcd:(x == ("__classdict__":Str))=false:=by decide):PE X (.Name x pos) (tVar i):=pe_var hN hv hd hcd
end
theorem iteF {A B:Prop} (h:B):if false=true then A else B:=by
 rw[if_neg Bool.false_ne_true]
 exact h
theorem iteT {A B:Prop} (h:A):if true=true then A else B:=by
 rw[if_pos rfl]
 exact h
theorem ite2 {c A B:Prop} [Decidable c] (h1:c->A) (h2:¬ c->B):if c then A else B:=by
 by_cases h:c
 ·rw[if_pos h]
  exact h1 h
 ·rw[if_neg h]
  exact h2 h
theorem iteNS {c A B:Prop} [Decidable c] (hc:c) (h:B):if (!decide c)=true then A else B:=by
 rw[decide_eq_true hc]
 exact iteF h
/-- all that was tracked is as it was -/
def Same (H H':Hp):Prop:=∀ b o,H b=some o->H' b=some o
theorem Same.refl (H:Hp):Same H H:=fun _ _ h=>h
theorem Same.trans {H H1 H2:Hp} (a:Same H H1) (b:Same H1 H2):Same H H2:=fun c o h=>b c o (a c o h)
theorem Same.free {H H':Hp} (e:Same H H') {l:Addr} (h:H' l=Option.none):H l=Option.none:=by
 cases q:H l with
 | none=>rfl
 | some o =>
  rw[e l o q] at h
  cases h
theorem Same.seq {K:PySem.W.Frag} {H H':Hp} {a:Addr} {xs:List V} (e:Same H H') (h:SqL K H a xs):SqL K H' a xs:=by
 rcases h with (h | ⟨o,h⟩) | h
 ·exact .inl (.inl (e _ _ h))
 ·exact .inl (.inr ⟨o,e _ _ h⟩)
 ·exact .inr h
end L2
namespace L2
open PySem PySem.Spec PyProof.Rows
section
variable {κ:Type} [DecidableEq κ]
def valV (kvs:List (κ × V)) (k:κ):Option V:=(kvs.find? fun kv=>decide (kv.1=k)).map (·.2)
/-- in its place, or at the end -/
def putK (kvs:List (κ × V)) (k:κ) (v:V):List (κ × V) :=
 if (kvs.any fun kv=>decide (kv.1=k))=true then kvs.map (fun kv=>if kv.1=k then (kv.1,v) else kv) else kvs++[(k,v)]
def dropK (kvs:List (κ × V)) (k:κ):List (κ × V):=kvs.filter fun kv=>decide (kv.1≠k)
theorem valV_pos {p:κ × V} {r:List (κ × V)} {k:κ} (e:p.1=k):valV (p::r) k=some p.2:=by simp [valV,List.find?_cons,e]
theorem valV_neg {p:κ × V} {r:List (κ × V)} {k:κ} (e:¬ p.1=k):valV (p::r) k=valV r k:=by simp [valV,List.find?_cons,e]
theorem valV_any (k:κ):∀ kvs:List (κ × V),(kvs.any fun kv=>decide (kv.1=k))=(valV kvs k).isSome
 | []=>rfl
 | p::r=>by
  rw[List.any_cons]
  by_cases e:p.1=k
  ·simp only [valV_pos e,decide_eq_true e,Bool.true_or,Option.isSome_some]
  ·rw[valV_neg e,decide_eq_false e,Bool.false_or];exact valV_any k r
theorem RelO.isSome_eq {o:Option V} {u:Option Value} (r:RelO o u):o.isSome=u.isSome:=by
 cases o with
 | none=>cases u with
  | none=>rfl
  | some _=>exact (show False from r).elim
 | some _=>cases u with
  | none=>exact (show False from r).elim
  | some _=>rfl
theorem RelO.getD {o:Option V} {u:Option Value} {d:V} {d':Value} (r:RelO o u) (rd:RelV d d'):RelV (o.getD d) (u.getD d'):=by
 cases o with
 | none=>cases u with
  | none=>exact rd
  | some _=>exact (show False from r).elim
 | some _=>cases u with
  | none=>exact (show False from r).elim
  | some _=>exact r
/-- raw tables of the same keys -/
theorem KV.val {kvs:List (κ × V)} {vs:List (κ × Value)} (r:KV kvs vs) (k:κ):RelO (valV kvs k) (valueAt vs k):=by
 unfold KV at r
 induction r with
 | nil=>exact True.intro
 | @cons p q ps qs h t ih =>
  obtain⟨h1,h2⟩:=h
  by_cases e:p.1=k
  ·have e':q.1=k:=h1.symm.trans e
   have b:valueAt (q::qs) k=some q.2:=by simp [valueAt,List.find?_cons,e']
   rw[valV_pos e,b];exact h2
  ·have e':¬ q.1=k:=fun z=>e (h1.trans z)
   have b:valueAt (q::qs) k=valueAt qs k:=by simp [valueAt,List.find?_cons,e']
   rw[valV_neg e,b];exact ih
theorem KV.any {kvs:List (κ × V)} {vs:List (κ × Value)} (r:KV kvs vs) (k:κ):(kvs.any fun kv=>decide (kv.1=k))=vs.any fun kv=>decide (kv.1=k):=by
 unfold KV at r
 induction r with
 | nil=>rfl
 | cons h t ih=>rw[List.any_cons,List.any_cons,ih,h.1]
theorem KV.repl {kvs:List (κ × V)} {vs:List (κ × Value)} (r:KV kvs vs) (k:κ) {y:V} {u:Value} (ry:RelV y u) :
  KV (kvs.map fun kv=>if kv.1=k then (kv.1,y) else kv) (vs.map fun kv=>if kv.1=k then (kv.1,u) else kv):=by
 unfold KV at r ⊢
 induction r with
 | nil=>exact .nil
 | @cons p q ps qs h t ih =>
  rw[List.map_cons,List.map_cons]
  refine .cons ?_ ih
  obtain⟨h1,h2⟩:=h
  by_cases e:p.1=k
  ·rw[if_pos e,if_pos (h1.symm.trans e)];exact⟨h1,ry⟩
  ·rw[if_neg e,if_neg (fun z=>e (h1.trans z))];exact⟨h1,h2⟩
theorem KV.put {kvs:List (κ × V)} {vs:List (κ × Value)} (r:KV kvs vs) (k:κ) {y:V} {u:Value} (ry:RelV y u):KV (putK kvs k y) (stored vs k u):=by
 unfold putK stored
 rw[r.any k]
 by_cases e:(vs.any fun kv=>decide (kv.1=k))=true
 ·rw[if_pos e,if_pos e];exact r.repl k ry
 ·rw[if_neg e,if_neg e];exact Paired.snoc r ⟨rfl,ry⟩
theorem KV.drop {kvs:List (κ × V)} {vs:List (κ × Value)} (r:KV kvs vs) (k:κ):KV (dropK kvs k) (without vs k):=by
 unfold KV at r ⊢
 unfold dropK without
 induction r with
 | nil=>exact .nil
 | @cons p q ps qs h t ih =>
  obtain⟨h1,h2⟩:=h
  rw[List.filter_cons,List.filter_cons]
  by_cases e:p.1=k
  ·have a:¬ decide (p.1≠k)=true:=by simp [e]
   have b:¬ decide (q.1≠k)=true:=by simp [h1.symm.trans e]
   rw[if_neg a,if_neg b];exact ih
  ·have e':¬ q.1=k:=fun z=>e (h1.trans z)
   have a:decide (p.1≠k)=true:=by simp [e]
   have b:decide (q.1≠k)=true:=by simp [e']
   rw[if_pos a,if_pos b];exact .cons ⟨h1,h2⟩ ih
theorem KV.keys {kvs:List (κ × V)} {vs:List (κ × Value)} (r:KV kvs vs):kvs.map (·.1)=vs.map (·.1):=by
 unfold KV at r
 induction r with
 | nil=>rfl
 | cons h t ih=>rw[List.map_cons,List.map_cons,ih,h.1]
theorem KV.length {kvs:List (κ × V)} {vs:List (κ × Value)} (r:KV kvs vs):kvs.length=vs.length:=Paired.length r
end
/-- raw entries of a dict with tuple keys -/
abbrev KT (H:Hp):List (List Key × V)->List (List Key × Addr × Value)->Prop:=Paired fun p q=>p.1=q.1∧H q.2.1=some (.tup (p.1.map kV))∧RelV p.2 q.2.2
theorem KT.val {H:Hp} {kvs:List (List Key × V)} {xs:List (List Key × Addr × Value)} (r:KT H kvs xs) (k:List Key):RelO (valV kvs k) ((atKey xs k).map (·.2)):=by
 induction r with
 | nil=>exact True.intro
 | @cons p q ps qs h t ih =>
  obtain⟨h1,_,h2⟩:=h
  by_cases e:p.1=k
  ·have e':q.1=k:=h1.symm.trans e
   have b:atKey (q::qs) k=some q.2:=by simp [atKey,List.find?_cons,e']
   rw[valV_pos e,b];exact h2
  ·have e':¬ q.1=k:=fun z=>e (h1.trans z)
   have b:atKey (q::qs) k=atKey qs k:=by simp [atKey,List.find?_cons,e']
   rw[valV_neg e,b];exact ih
theorem KT.repl {H:Hp} {kvs:List (List Key × V)} {xs:List (List Key × Addr × Value)} (r:KT H kvs xs) (k:List Key) {y:V} {u:Value} (ry:RelV y u) :
  KT H (kvs.map fun kv=>if kv.1=k then (kv.1,y) else kv) (xs.map (putAt k u)):=by
 induction r with
 | nil=>exact .nil
 | @cons p q ps qs h t ih =>
  rw[List.map_cons,List.map_cons]
  refine .cons ?_ ih
  obtain⟨h1,h2,h3⟩:=h
  unfold putAt
  by_cases e:p.1=k
  ·rw[if_pos e,if_pos (h1.symm.trans e)];exact⟨h1,h2,ry⟩
  ·rw[if_neg e,if_neg (fun z=>e (h1.trans z))];exact⟨h1,h2,h3⟩
theorem KT.put {H:Hp} {kvs:List (List Key × V)} {xs:List (List Key × Addr × Value)} (r:KT H kvs xs) (k:List Key) {b:Addr} {y:V} {u:Value} (hb:H b=some (.tup (k.map kV))) (ry:RelV y u) :
  KT H (putK kvs k y) (storedH xs k b u):=by
 have e:(kvs.any fun kv=>decide (kv.1=k))=(atKey xs k).isSome:=by
  rw[valV_any,(r.val k).isSome_eq,Option.isSome_map]
 unfold putK storedH
 rw[e]
 by_cases q:(atKey xs k).isSome=true
 ·rw[if_pos q,if_pos q];exact r.repl k ry
 ·rw[if_neg q,if_neg q];exact Paired.snoc r ⟨rfl,hb,ry⟩
theorem KT.keeps {H H':Hp} {kvs:List (List Key × V)} {xs:List (List Key × Addr × Value)} (r:KT H kvs xs) (ht:∀ b ys,H b=some (.tup ys)->H' b=some (.tup ys)):KT H' kvs xs :=
 Paired.mapP r fun _ _ z=>⟨z.1,ht _ _ z.2.1,z.2.2⟩
section
variable {P:Program} {w:World} {H:Hp} {h:Heap} {a:Addr}
end
/-- what the dict at a holds at the key y -/
def DGet (H:Hp) (a:Addr) (y:V) (r:Option V):Prop :=
 (∃ kvs k,Rd H a (.dK kvs)∧y=kV k∧r=valV kvs k)∨∃ kvs k b,Rd H a (.dT kvs)∧y=.ref b∧H b=some (.tup (k.map kV))∧r=valV kvs k
/-- the heap behind a[y] = v -/
def DPut (H:Hp) (a:Addr) (y v:V) (H':Hp):Prop :=
 (∃ kvs k,H a=some (.dK kvs)∧y=kV k∧kvs.length < sizeLine∧H'=upd H a (.dK (putK kvs k v))) ∨
 ∃ kvs k b,H a=some (.dT kvs)∧y=.ref b∧H b=some (.tup (k.map kV))∧kvs.length < sizeLine∧H'=upd H a (.dT (putK kvs k v))
theorem DGet.k {H:Hp} {a:Addr} {kvs:List (Key × V)} {k:Key} (e:H a=some (.dK kvs)):DGet H a (kV k) (valV kvs k):=.inl ⟨kvs,k,.inl e,rfl,rfl⟩
theorem DGet.t {H:Hp} {a b:Addr} {kvs:List (List Key × V)} {k:List Key} (e:H a=some (.dT kvs)) (eb:H b=some (.tup (k.map kV))):DGet H a (.ref b) (valV kvs k):=.inr ⟨kvs,k,b,.inl e,rfl,eb,rfl⟩
theorem DPut.k {H:Hp} {a:Addr} {kvs:List (Key × V)} {k:Key} {v:V} (e:H a=some (.dK kvs)) (hl:kvs.length < sizeLine):DPut H a (kV k) v (upd H a (.dK (putK kvs k v))):=.inl ⟨kvs,k,e,rfl,hl,rfl⟩
theorem DPut.t {H:Hp} {a b:Addr} {kvs:List (List Key × V)} {k:List Key} {v:V} (e:H a=some (.dT kvs)) (eb:H b=some (.tup (k.map kV))) (hl:kvs.length < sizeLine) :
  DPut H a (.ref b) v (upd H a (.dT (putK kvs k v))):=.inr ⟨kvs,k,b,e,rfl,eb,hl,rfl⟩
section
variable {X:Cx} {pins:List (Addr × Obj)} {σ:St} {H:Hp} {s:Shared} {a:Addr} {y v:V} {u r:Value} {o:Option V} {A:Around} {E:Value->Shared->Prop}
theorem Inv.big (I:Inv X pins σ H s):sysModules < s.heap.objs.size:=by
 have h:mainGlobals < s.heap.objs.size:=(I.mod.glob.keeps I.bk).lt
 exact Nat.lt_trans (by decide) h
end
section
variable {X:Cx} {pins:List (Addr × Obj)} {σ:St} {H:Hp} {s:Shared} {a:Addr} {kvs:List (Key × V)} {k:Key} {u:Value} {A:Around} {E:Value->Shared->Prop}
end
section
variable {X:Cx} {o i e value:Expr} {pos pos' tpos:Pos} {td ty tv:TE}
end
section
variable {X:Cx} {pos:Pos}
end
end L2
set_option maxHeartbeats 4000000
namespace Srt
open PySem PySem.W PyProof.Rows
section
variable {N:Nat} {r:Nat->Int} {cmp:Nat->Nat->(Bool->Shared->Prop)->Shared->Prop} {s:Shared}
def ky (r:Nat->Int) (p:Array Nat) (m:Nat):Int:=r (p.getD m 0)
def Up (r:Nat->Int) (p:Array Nat) (n:Nat):Prop:=∀ i j,i≤j->j < n->ky r p i≤ky r p j
def Dn (r:Nat->Int) (p:Array Nat) (n:Nat):Prop:=∀ i j,i≤j->j < n->ky r p j≤ky r p i
def Ask (N:Nat) (r:Nat->Int) (cmp:Nat->Nat->(Bool->Shared->Prop)->Shared->Prop) (s:Shared):Prop :=
 ∀ i j C,i < N->j < N->C (decide (r i < r j)) s->cmp i j C s
def Gd (N:Nat) (p:Array Nat):Prop:=p.Perm (List.toArray (List.range N))
theorem Gd.sz {p:Array Nat} (g:Gd N p):p.size=N:=by
 have:=g.size_eq
 simpa using this
theorem Gd.lt {p:Array Nat} (g:Gd N p) (h:0 < N) (m:Nat):p.getD m 0 < N:=by
 by_cases hm:m < p.size
 ·have e:p.getD m 0=p[m]:=by simp [Array.getD,hm]
  rw[e]
  have h1:p[m] ∈ p:=Array.getElem_mem hm
  have h2:p[m] ∈ List.toArray (List.range N):=g.mem_iff.mp h1
  simpa using h2
 ·have e:p.getD m 0=0:=by simp [Array.getD,hm]
  omega
theorem ky_of {p q:Array Nat} {i j:Nat} (h:p[i]?=q[j]?):ky r p i=ky r q j:=by
 have e:∀ (a:Array Nat) (k:Nat),a.getD k 0=(a[k]?).getD 0:=fun a k=>by
  by_cases hk:k < a.size <;> simp [Array.getD,hk]
 unfold ky
 rw[e,e,h]
theorem ky_rev {p:Array Nat} {i j:Nat} (hj:j≤p.size) (k:Nat):ky r (kas_rev p i j) k=if i≤k∧k < j then ky r p (i + j - 1 - k) else ky r p k:=by
 have e:=getElem?_mirror_all (i:=i) hj k
 by_cases h:i≤k∧k < j
 ·rw[if_pos h] at e ⊢
  exact ky_of e
 ·rw[if_neg h] at e ⊢
  exact ky_of e
theorem ky_bub {p:Array Nat} {k d:Nat} (hs:k < p.size) (hd:d≤k) (m:Nat) :
  ky r (bubble p k d) m=if m=k - d then ky r p k else if k - d < m∧m≤k then ky r p (m - 1) else ky r p m:=by
 have e:=getElem?_bubble hs d hd m
 by_cases h1:m=k - d
 ·rw[if_pos h1] at e ⊢
  exact ky_of e
 ·rw[if_neg h1] at e ⊢
  by_cases h2:k - d < m∧m≤k
  ·rw[if_pos h2] at e ⊢
   exact ky_of e
  ·rw[if_neg h2] at e ⊢
   exact ky_of e
theorem Gd.rev {p:Array Nat} (g:Gd N p) (i j:Nat):Gd N (kas_rev p i j):=(mirror_perm p i j _).trans g
theorem Gd.bub {p:Array Nat} (g:Gd N p) (i j:Nat):Gd N (bubble p i j):=(bubble_perm p i j).trans g
theorem asc_wp (h:Ask N r cmp s) (hN:0 < N) {p:Array Nat} (g:Gd N p) {Q:Nat->Shared->Prop}:∀ f n,1≤n->Up r p n ->
  (∀ m,n≤m->m≤n + f->Up r p m->(m < n + f->ky r p m < ky r p (m - 1))->Q m s)->(kas_asc p f n).kasWp cmp Q s
 | 0,n,_,hu,q=>q n (Nat.le_refl _) (Nat.le_refl _) hu (fun z=>absurd z (Nat.lt_irrefl _))
 | f + 1,n,h1,hu,q=>by
  refine h _ _ _ (g.lt hN _) (g.lt hN _) ?_
  by_cases c:r (p.getD n 0) < r (p.getD (n - 1) 0)
  ·rw[decide_eq_true c]
   exact q n (Nat.le_refl _) (by omega) hu (fun _=>c)
  ·rw[decide_eq_false c]
   refine asc_wp h hN g f (n + 1) (by omega) (fun i j hij hj=>?_) (fun m a b u d=>q m (by omega) (by omega) u (fun z=>d (by omega)))
   have c':ky r p (n - 1)≤ky r p n:=by unfold ky;omega
   by_cases e:j=n
   ·subst e
    by_cases e2:i=j
    ·subst e2;exact Int.le_refl _
    ·exact Int.le_trans (hu i (j - 1) (by omega) (by omega)) c'
   ·exact hu i j hij (by omega)
theorem ky_rev_eq {p:Array Nat} {i j:Nat} (hj:j≤p.size) (v:Int) (he:∀ k,i≤k->k < j->ky r p k=v) (k:Nat):ky r (kas_rev p i j) k=ky r p k:=by
 rw[ky_rev hj]
 split
 ·rename_i c
  rw[he _ (by omega) (by omega),he k c.1 c.2]
 ·rfl
theorem desc_wp (h:Ask N r cmp s) (hN:0 < N) {Q:Array Nat × Nat × Nat->Shared->Prop}:∀ f p n q,Gd N p->1≤n->n + f≤N->Dn r p n->q + 1≤n->(∀ i,n - (q + 1)≤i->i < n->ky r p i=ky r p (n - 1)) ->
  (∀ p' n' q',Gd N p'->n≤n'->n'≤n + f->Dn r p' n'->q' + 1≤n'->(∀ i,n' - (q' + 1)≤i->i < n'->ky r p' i=ky r p' (n' - 1))->Q (p',n',q') s)->(kas_desc f p n q).kasWp cmp Q s
 | 0,p,n,q,g,_,_,hd,hq,he,z=>z p n q g (Nat.le_refl _) (Nat.le_refl _) hd hq he
 | f + 1,p,n,q,g,h1,hf,hd,hq,he,z=>by
  refine h _ _ _ (g.lt hN _) (g.lt hN _) ?_
  by_cases c:r (p.getD n 0) < r (p.getD (n - 1) 0)
  ·rw[decide_eq_true c]
   have c':ky r p n < ky r p (n - 1):=c
   have dn:∀ {p':Array Nat},(∀ k,ky r p' k=ky r p k)->Dn r p' (n + 1):=fun e i j hij hj=>by
    rw[e,e]
    by_cases ej:j=n
    ·subst ej
     by_cases ei:i=j
     ·subst ei;exact Int.le_refl _
     ·exact Int.le_trans (Int.le_of_lt c') (hd i (j - 1) (by omega) (by omega))
    ·exact hd i j hij (by omega)
   show KasT.kasWp cmp (if q > 0 then kas_desc f (kas_rev p (n - (q + 1)) n) (n + 1) 0 else kas_desc f p (n + 1) 0) Q s
   by_cases hq0:q > 0
   ·rw[if_pos hq0]
    have e:=ky_rev_eq (r:=r) (p:=p) (i:=n - (q + 1)) (j:=n) (by rw[g.sz];omega) (ky r p (n - 1)) he
    exact desc_wp h hN f _ (n + 1) 0 (g.rev _ _) (by omega) (by omega) (dn e) (by omega) (fun i a b=>by congr 1;omega)
     (fun p' n' q' g' a b d e1 e2=>z p' n' q' g' (by omega) (by omega) d e1 e2)
   ·rw[if_neg hq0]
    exact desc_wp h hN f _ (n + 1) 0 g (by omega) (by omega) (dn fun _=>rfl) (by omega) (fun i a b=>by congr 1;omega)
     (fun p' n' q' g' a b d e1 e2=>z p' n' q' g' (by omega) (by omega) d e1 e2)
  ·rw[decide_eq_false c]
   refine h _ _ _ (g.lt hN _) (g.lt hN _) ?_
   by_cases d:r (p.getD (n - 1) 0) < r (p.getD n 0)
   ·rw[decide_eq_true d]
    exact z p n q g (Nat.le_refl _) (by omega) hd hq he
   ·rw[decide_eq_false d]
    have e:ky r p n=ky r p (n - 1):=by unfold ky;omega
    refine desc_wp h hN f p (n + 1) (q + 1) g (by omega) (by omega) (fun i j hij hj=>?_) (by omega) (fun i a b=>?_)
     (fun p' n' q' g' a b d e1 e2=>z p' n' q' g' (by omega) (by omega) d e1 e2)
    ·by_cases ej:j=n
     ·subst ej
      by_cases ei:i=j
      ·subst ei;exact Int.le_refl _
      ·rw[e];exact hd i (j - 1) (by omega) (by omega)
     ·exact hd i j hij (by omega)
    ·rw[show n + 1 - 1=n by omega]
     by_cases ei:i=n
     ·rw[ei]
     ·rw[e];exact he i (by omega) (by omega)
theorem tail3_wp (h:Ask N r cmp s) (hN:0 < N) {Q:Nat × Array Nat->Shared->Prop} {p:Array Nat} {n:Nat} (g:Gd N p) (h1:1≤n) (hn:n≤N) (hd:Dn r p n)
  (z:∀ m p',Gd N p'->1≤m->m≤N->Up r p' m->Q (m,p') s):(kas_tail3 n N p).kasWp cmp Q s:=by
 unfold kas_tail3
 rw[KasT.kasWp_bind]
 refine asc_wp h hN (g.rev 0 n) _ n h1 (fun i j hij hj=>?_) (fun m a b u _=>z m _ (g.rev 0 n) (by omega) (by omega) u)
 rw[ky_rev (by rw[g.sz];omega),ky_rev (by rw[g.sz];omega),if_pos (by omega),if_pos (by omega)]
 exact hd _ _ (by omega) (by omega)
theorem descPart_wp (h:Ask N r cmp s) (hN:0 < N) {Q:Nat × Array Nat->Shared->Prop} {p:Array Nat} {n:Nat} (g:Gd N p) (h1:1≤n) (hn:n + 1≤N) (hd:Dn r p (n + 1))
  (z:∀ m p',Gd N p'->1≤m->m≤N->Up r p' m->Q (m,p') s):(kas_descPart n N p).kasWp cmp Q s:=by
 unfold kas_descPart
 rw[KasT.kasWp_bind]
 refine desc_wp h hN _ p (n + 1) 0 g (by omega) (by omega) hd (by omega) (fun i a b=>by congr 1;omega) (fun p' n' q' g' a b d e1 e2=>?_)
 show KasT.kasWp cmp (if q' > 0 then kas_tail3 n' N (kas_rev p' (n' - (q' + 1)) n') else kas_tail3 n' N p') Q s
 by_cases hq:q' > 0
 ·rw[if_pos hq]
  have e:=ky_rev_eq (r:=r) (p:=p') (i:=n' - (q' + 1)) (j:=n') (by rw[g'.sz];omega) (ky r p' (n' - 1)) e2
  exact tail3_wp h hN (g'.rev _ _) (by omega) (by omega) (fun i j hij hj=>by rw[e,e];exact d i j hij hj) z
 ·rw[if_neg hq]
  exact tail3_wp h hN g' (by omega) (by omega) d z
theorem count_wp (h:Ask N r cmp s) (hN:0 < N) {Q:Nat × Array Nat->Shared->Prop} {p:Array Nat} (g:Gd N p)
  (z:∀ m p',Gd N p'->1≤m->m≤N->Up r p' m->Q (m,p') s):(kas_count N p).kasWp cmp Q s:=by
 unfold kas_count
 rw[KasT.kasWp_bind]
 refine asc_wp h hN g _ 1 (Nat.le_refl _) (fun i j hij hj=>?_) (fun m a b u d=>?_)
 ·have:i=j:=by omega
  subst this;exact Int.le_refl _
 show KasT.kasWp cmp (if (m == N)=true then .ret (m,p) else if m > 1 then .ask (p.getD 0 0) (p.getD (m - 1) 0) fun c=>if c=true then .ret (m,p) else kas_descPart m N (kas_rev p 0 m) else kas_descPart m N p) Q s
 by_cases hm:m=N
 ·rw[if_pos (by simpa using hm)]
  exact z m p g a (by omega) u
 ·rw[if_neg (by simpa using hm)]
  have d':=d (by omega)
  by_cases h1:m > 1
  ·rw[if_pos h1]
   refine h _ _ _ (g.lt hN _) (g.lt hN _) ?_
   by_cases c:r (p.getD 0 0) < r (p.getD (m - 1) 0)
   ·rw[decide_eq_true c]
    exact z m p g a (by omega) u
   ·rw[decide_eq_false c]
    have c':ky r p (m - 1)≤ky r p 0:=by unfold ky;omega
    have eq:∀ k,0≤k->k < m->ky r p k=ky r p 0:=fun k _ hk=>by
     have a1:=u 0 k (by omega) hk
     have a2:=u k (m - 1) (by omega) (by omega)
     omega
    have e:=ky_rev_eq (r:=r) (p:=p) (i:=0) (j:=m) (by rw[g.sz];omega) (ky r p 0) eq
    refine descPart_wp h hN (g.rev 0 m) (by omega) (by omega) (fun i j hij hj=>?_) z
    rw[e,e]
    by_cases ej:j=m
    ·subst ej
     by_cases ei:i=j
     ·subst ei;exact Int.le_refl _
     ·rw[eq i (by omega) (by omega)]
      have:=eq (j - 1) (by omega) (by omega)
      omega
    ·rw[eq i (by omega) (by omega),eq j (by omega) (by omega)]
     exact Int.le_refl _
  ·rw[if_neg h1]
   have e1:m=1:=by omega
   subst e1
   refine descPart_wp h hN g (by omega) (by omega) (fun i j hij hj=>?_) z
   by_cases ej:j=1
   ·subst ej
    by_cases ei:i=1
    ·subst ei;exact Int.le_refl _
    ·have:i=0:=by omega
     subst this
     exact Int.le_of_lt d'
   ·have:i=j:=by omega
    subst this;exact Int.le_refl _
theorem place_wp (h:Ask N r cmp s) (hN:0 < N) {Q:Nat->Shared->Prop} {p:Array Nat} {k:Nat} (g:Gd N p) (hu:Up r p k):∀ f l rr,l≤rr->rr≤k->rr - l≤f->(∀ i,i < l->ky r p i≤ky r p k)->(∀ i,rr≤i->i < k->ky r p k < ky r p i) ->
  (∀ l',l'≤k->(∀ i,i < l'->ky r p i≤ky r p k)->(∀ i,l'≤i->i < k->ky r p k < ky r p i)->Q l' s)->(kas_place p k f l rr).kasWp cmp Q s
 | 0,l,rr,h1,h2,h3,a,b,z=>z l (by omega) a (fun i x y=>b i (by omega) y)
 | f + 1,l,rr,h1,h2,h3,a,b,z=>by
  unfold kas_place
  by_cases hl:l ≥ rr
  ·rw[if_pos hl]
   exact z l (by omega) a (fun i x y=>b i (by omega) y)
  ·rw[if_neg hl]
   refine h _ _ _ (g.lt hN _) (g.lt hN _) ?_
   by_cases c:r (p.getD k 0) < r (p.getD ((l + rr) / 2) 0)
   ·rw[decide_eq_true c]
    have c':ky r p k < ky r p ((l + rr) / 2):=c
    exact place_wp h hN g hu f l ((l + rr) / 2) (by omega) (by omega) (by omega) a (fun i x y=>Int.lt_of_lt_of_le c' (hu _ _ x y)) z
   ·rw[decide_eq_false c]
    have c':ky r p ((l + rr) / 2)≤ky r p k:=by unfold ky;omega
    exact place_wp h hN g hu f ((l + rr) / 2 + 1) rr (by omega) (by omega) (by omega) (fun i x=>Int.le_trans (hu i ((l + rr) / 2) (by omega) (by omega)) c') b z
theorem bin_wp (h:Ask N r cmp s) (hN:0 < N) {Q:Array Nat->Shared->Prop}:∀ f p k,Gd N p->k + f≤N->Up r p k->(∀ p',Gd N p'->Up r p' (k + f)->Q p' s)->(kas_bin f p k).kasWp cmp Q s
 | 0,p,k,g,_,hu,z=>z p g hu
 | f + 1,p,k,g,hk,hu,z=>by
  unfold kas_bin
  rw[KasT.kasWp_bind]
  refine place_wp h hN g hu k 0 k (by omega) (Nat.le_refl _) (by omega) (fun i x=>absurd x (Nat.not_lt_zero _)) (fun i x y=>absurd (Nat.lt_of_le_of_lt x y) (Nat.lt_irrefl _)) (fun l hl a b=>?_)
  have e:=fun m=>ky_bub (r:=r) (p:=p) (k:=k) (d:=k - l) (by rw[g.sz];omega) (by omega) m
  refine bin_wp h hN f _ (k + 1) (g.bub _ _) (by omega) (fun i j hij hj=>?_) (fun p' g' u'=>z p' g' (by rw[show k + (f + 1)=k + 1 + f by omega];exact u'))
  rw[e,e]
  have ekl:k - (k - l)=l:=by omega
  rw[ekl]
  by_cases i1:i=l
  ·rw[if_pos i1]
   by_cases j1:j=l
   ·rw[if_pos j1];exact Int.le_refl _
   ·rw[if_neg j1,if_pos (by omega)]
    exact Int.le_of_lt (b _ (by omega) (by omega))
  ·rw[if_neg i1]
   by_cases i2:l < i∧i≤k
   ·rw[if_pos i2,if_neg (by omega),if_pos (by omega)]
    exact hu _ _ (by omega) (by omega)
   ·rw[if_neg i2]
    by_cases j1:j=l
    ·rw[if_pos j1];exact a _ (by omega)
    ·rw[if_neg j1]
     by_cases j2:l < j∧j≤k
     ·rw[if_pos j2];exact hu _ _ (by omega) (by omega)
     ·rw[if_neg j2];exact hu _ _ hij (by omega)
/-- the sort's tree, asked by ranks, ends at an order of the places by which the ranks rise -/
theorem sort_wp (h:Ask N r cmp s) (hN:0 < N) {Q:Array Nat->Shared->Prop} (z:∀ p,Gd N p->Up r p N->Q p s):(kas_sort N).kasWp cmp Q s:=by
 unfold kas_sort
 rw[KasT.kasWp_bind]
 refine count_wp h hN (Array.Perm.refl _) (fun m p g h1 hm u=>?_)
 show KasT.kasWp cmp (if m < N then kas_bin (N - max m 1) p (max m 1) else .ret p) Q s
 by_cases c:m < N
 ·rw[if_pos c,Nat.max_eq_left h1]
  exact bin_wp h hN _ p m g (by omega) u (fun p' g' u'=>z p' g' (by rw[show m + (N - m)=N by omega] at u';exact u'))
 ·rw[if_neg c]
  have:m=N:=by omega
  subst this
  exact z p g u
end
end Srt
namespace Srt
open PySem PySem.W PyProof.Rows
section
variable {n:Nat} {lt:Nat->Nat->Bool}
def rank (n:Nat) (lt:Nat->Nat->Bool) (i:Nat):Int:=(((List.range n).countP fun k=>lt k i:Nat):Int)
theorem countP_lt {α:Type} {p q:α->Bool}:∀ {l:List α} {x:α},(∀ y ∈ l,p y=true->q y=true)->x ∈ l->p x=false->q x=true->l.countP p < l.countP q
 | [],_,_,hx,_,_=>by cases hx
 | a::r,x,h,hx,hp,hq=>by
  have hr:∀ y ∈ r,p y=true->q y=true:=fun y hy=>h y (List.mem_cons_of_mem _ hy)
  have mono:r.countP p≤r.countP q:=List.countP_mono_left hr
  rw[List.countP_cons,List.countP_cons]
  rcases List.mem_cons.mp hx with e | hx
  ·subst e
   simp only [hp,hq,Bool.false_eq_true,if_false,if_true]
   omega
  ·have ih:=countP_lt hr hx hp hq
   cases hpa:p a with
   | false=>simp only [Bool.false_eq_true,if_false];split <;> omega
   | true =>
    have:=h a List.mem_cons_self hpa
    simp only [this,if_true]
    omega
theorem rank_lt (hi:∀ i,lt i i=false) (ht:∀ i j k,i < n->j < n->k < n->lt i j=true->lt j k=true->lt i k=true) (hn:∀ i j k,i < n->j < n->k < n->lt i k=true->lt i j=true∨lt j k=true)
  {i j:Nat} (h1:i < n) (h2:j < n):decide (rank n lt i < rank n lt j)=lt i j:=by
 unfold rank
 cases e:lt i j with
 | true =>
  refine decide_eq_true ?_
  have:=countP_lt (p:=fun k=>lt k i) (q:=fun k=>lt k j) (l:=List.range n) (x:=i) (fun k hk q=>ht k i j (List.mem_range.mp hk) h1 h2 q e) (List.mem_range.mpr h1) (hi i) e
  omega
 | false =>
  refine decide_eq_false ?_
  have:(List.range n).countP (fun k=>lt k j)≤(List.range n).countP (fun k=>lt k i):=List.countP_mono_left fun k hk q=>by
   rcases hn k i j (List.mem_range.mp hk) h1 h2 q with z | z
   ·exact z
   ·rw[e] at z;cases z
  omega
end
section
variable {prog:Program} {w:World} {A:Around} {E:Value->Shared->Prop} {s:Shared}
abbrev Stay (a:Addr) (h h':Heap):Prop:=∀ b o,b≠a->h.get? b=some o->h'.get? b=some o
def outOf (vs:List Value) (p:Array Nat):List Value:=p.toList.map fun i=>vs.getD i Value.none
theorem out_range (vs:List Value):outOf vs (List.toArray (List.range vs.length))=vs:=by
 unfold outOf
 refine List.ext_getElem (by simp) fun i h1 h2=>?_
 simp
 rw[List.getElem?_eq_getElem h2]
 rfl
theorem gd_len {vs:List Value} {p:Array Nat} (g:Gd vs.length p):(outOf vs p).length=vs.length:=by
 unfold outOf
 rw[List.length_map,Array.length_toList,g.sz]
/-- list.sort of a list whose items are told apart by ranks; nothing is written by a comparison -/
theorem lsort {a:Addr} {vs:List Value} {n:Nat} {P:PySem.Fin->Shared->Prop} {r:Nat->Int} {κ:SortKind} (ho:s.heap.get? a=some (seqObj "list" vs.toArray n)) (h64:vs.length < 64)
  (hk:2≤vs.length->∀ (s':Shared) (Q:SortKind->Shared->Prop),Stay a s.heap s'.heap->Q κ s'->wpAny (model prog w) A (keyKind' vs.toArray) Q (fun _ _=>False) s')
  (hc:∀ (s':Shared) (i j:Nat) (C:Bool->Shared->Prop),Stay a s.heap s'.heap->i < vs.length->j < vs.length->C (decide (r i < r j)) s'->kas_ask prog w A κ vs i j C s')
  (h:∀ (p:Array Nat) (h':Heap) (c:Nat),Gd vs.length p->Up r p vs.length->Stay a s.heap h'->h'.get? a=some (seqObj "list" (outOf vs p).toArray c)->P (.done (.ret .none)) { s with heap:=h' }) :
  wpAny (model prog w) A (Builtin.«list.sort» ⟨[.ref a],[]⟩) P E s:=by
 rw[list_sort_plain]
 have ha:a < s.heap.objs.size:=Heap.lt_size ho
 have line:(64:Nat)≤sizeLine:=by rw[sizeLine_eq];decide
 refine wpAny_bind (listItems_at ho rfl (wpAny_bind (listUpdate_at ho rfl ?_ (by rw[List.size_toArray];omega) (Nat.zero_le _))))
 have e1:=get?_update_seq ho fun _=>(#[]:Array Value)
 generalize (if ((fun _=>(#[]:Array Value)) vs.toArray).size == vs.toArray.size then n else n + 1)=n1 at e1
 have k1:Stay a s.heap (s.heap.update a (Obj.mapSeq fun _=>(#[]:Array Value))):=fun b o hb q=>(Heap.get?_update_other s.heap _ (Ne.symm hb)).trans q
 refine wpAny_bind (seqEpoch_at e1 rfl (wpAny_bind (wpAny_newTuple ?_ (by show vs.length≤_;omega))))
 refine wpAny_bind (wpAny_newList ?_ (Nat.zero_le _))
 refine wpAny_holding ?_
 show wpAny (model prog w) A _ P E { s with heap:=(((s.heap.update a (Obj.mapSeq fun _=>(#[]:Array Value))).push (seqObj "tuple" vs.toArray 0)).push (seqObj "list" #[] 0):Heap) }
 generalize hg:((s.heap.update a (Obj.mapSeq fun _=>(#[]:Array Value))).push (seqObj "tuple" vs.toArray 0)).push (seqObj "list" #[] 0)=g
 have e2:g.get? a=some (seqObj "list" #[] n1):=by rw[← hg];exact Heap.get?_push_of_some _ (Heap.get?_push_of_some _ e1)
 have k2:Stay a s.heap g:=fun b o hb q=>by rw[← hg];exact Heap.get?_push_of_some _ (Heap.get?_push_of_some _ (k1 b o hb q))
 have fin:∀ (p:Array Nat),Gd vs.length p->Up r p vs.length->P (.done (.ret .none)) { s with heap:=g.update a (Obj.mapSeq fun _=>(outOf vs p).toArray) }:=fun p g1 u1 =>
  h p _ _ g1 u1 (fun b o hb q=>(Heap.get?_update_other g _ (Ne.symm hb)).trans (k2 b o hb q)) (get?_update_seq e2 fun _=>(outOf vs p).toArray)
 by_cases h2:vs.length < 2
 ·have h2':vs.toArray.size < 2:=by rw[List.size_toArray];exact h2
  simp only [if_pos h2']
  refine wpAny_bind (wpAny_pure ?_)
  rw[StateT.run_pure]
  refine wpAny_bind (wpAny_pure ?_)
  have eo:((arrOf (SortSt.mk' general' (vs.toArray.zip vs.toArray) #[] 7 none)).map (·.2))=vs.toArray:=by
   apply Array.toList_inj.mp
   show ((vs.toArray.zip vs.toArray).map (·.2)).toList=_
   rw[Array.toList_map]
   simp only [Array.toList_zip,List.toList_toArray]
   exact List.map_snd_zip (Nat.le_refl _)
  dsimp only
  refine wpAny_bind (seqEpoch_at e2 rfl ?_)
  rw[eo]
  refine wpAny_bind (listUpdate_at e2 rfl ?_ (Nat.zero_le _) (by rw[List.size_toArray];omega))
  simp only [bne_self_eq_false,Bool.false_eq_true,if_false]
  have f:=fin (List.toArray (List.range vs.length)) (Array.Perm.refl _) (fun i j hij hj=>by
   have:i=j:=by omega
   subst this;exact Int.le_refl _)
  rw[out_range] at f
  exact wpAny_pure f
 ·have h2':¬ vs.toArray.size < 2:=by rw[List.size_toArray];exact h2
  simp only [if_neg h2']
  refine wpAny_bind (wpAny_mono (hk (by omega) { s with heap:=g } (fun κ' s'=>κ'=κ∧s'={ s with heap:=g }) k2 ⟨rfl,rfl⟩) (fun κ' s' hq=>?_) fun _ _ x=>x.elim)
  obtain⟨rfl,rfl⟩:=hq
  refine wpAny_bind (wpAny_mono (kat_run (ks:=vs) (Q:=fun st' s'=>∃ p:Array Nat,arrOf st'=p.map (kas_item (vs.toArray.zip vs.toArray))∧failedOf st'=none∧s'={ s with heap:=g }∧Gd vs.length p∧Up r p vs.length)
   (G:=fun p s'=>s'={ s with heap:=g }∧Gd vs.length p∧Up r p vs.length) rfl (by omega) h64 (fun p st' s' _ b2 b3 b4=>⟨p,b2,b3,b4.1,b4.2.1,b4.2.2⟩)
   (sort_wp (r:=r) (fun i j C hi hj q=>hc _ i j C k2 hi hj q) (by omega) fun p g1 u1=>⟨rfl,g1,u1⟩)) ?_ fun _ _ e=>e)
  rintro ⟨⟨⟩,st'⟩ s' ⟨p,har,hf,rfl,g1,u1⟩
  have hout:=kat_snds (ks:=vs) (vs:=vs) rfl har
  have ol:(outOf vs p).length=vs.length:=gd_len g1
  dsimp only
  rw[hout]
  refine wpAny_bind (seqEpoch_at e2 rfl ?_)
  refine wpAny_bind (listUpdate_at e2 rfl ?_ (Nat.zero_le _) (by show (outOf vs p).toArray.size≤_;rw[List.size_toArray];omega))
  rw[hf]
  simp only [bne_self_eq_false,Bool.false_eq_true,if_false]
  exact wpAny_pure (fin p g1 u1)
/-- sorted(l) -/
theorem sorted_by {l:Addr} {vs:List Value} {Q:Value->Shared->Prop} {r:Nat->Int} {κ:SortKind} (hl:s.heap.IsList l vs.toArray) (h64:vs.length < 64)
  (hk:2≤vs.length->∀ (A':Around) (s':Shared) (Q:SortKind->Shared->Prop),(∀ b o,s.heap.get? b=some o->s'.heap.get? b=some o)->Q κ s'->wpAny (model prog w) A' (keyKind' vs.toArray) Q (fun _ _=>False) s')
  (hc:∀ (A':Around) (s':Shared) (i j:Nat) (C:Bool->Shared->Prop),(∀ b o,s.heap.get? b=some o->s'.heap.get? b=some o)->i < vs.length->j < vs.length->C (decide (r i < r j)) s'->kas_ask prog w A' κ vs i j C s')
  (h:∀ (p:Array Nat) (h':Heap) (c:Nat),Gd vs.length p->Up r p vs.length->(∀ b o,s.heap.get? b=some o->h'.get? b=some o)->h'.get? (s.heap.objs.size + 1)=some (seqObj "list" (outOf vs p).toArray c)->Q (.ref (s.heap.objs.size + 1)) { s with heap:=h' }) :
  wpAny (model prog w) A (call (.builtin "sorted") [.ref l]) Q E s:=by
 have line:(64:Nat)≤sizeLine:=by rw[sizeLine_eq];decide
 refine Calls.call_function_entry kind_sorted plain_sorted entry_sorted (args_sorted1 _) ?_
 unfold Builtin.«sorted»
 refine wpAny_bind (m:=checkCount "sorted" 1 1 _) (wpAny_pure (wpAny_bind (collect_list hl (wpAny_bind (wpAny_newList ?_ (by omega))) (by omega))))
 generalize hg:(s.heap.push (seqObj "list" #[] 0)).update s.heap.objs.size (Obj.mapSeq (·++vs.toArray))=g
 have sz:g.objs.size=s.heap.objs.size + 1:=by rw[← hg,Heap.size_update,size_push']
 have k1:∀ b o,s.heap.get? b=some o->g.get? b=some o:=fun b o q=>by
  rw[← hg]
  exact (Heap.get?_update_other _ _ (Ne.symm (Nat.ne_of_lt (Heap.lt_size q)))).trans (Heap.get?_push_of_some _ q)
 have hoL:(g.push { cls:=.type "list",data:=.seq vs.toArray }).get? (s.heap.objs.size + 1)=some (seqObj "list" vs.toArray 0):=by rw[← sz];exact Heap.get?_push_size _ rfl
 have k2:∀ b o,s.heap.get? b=some o->(g.push { cls:=.type "list",data:=.seq vs.toArray }).get? b=some o:=fun b o q=>Heap.get?_push_of_some _ (k1 b o q)
 have ne:∀ b o,s.heap.get? b=some o->b≠s.heap.objs.size + 1:=fun b o q=>Nat.ne_of_lt (Nat.lt_succ_of_lt (Heap.lt_size q))
 show wpAny _ _ _ _ _ { s with heap:=g.push { cls:=.type "list",data:=.seq vs.toArray } }
 rw[sz]
 refine wpAny_bind (wpAny_holding (wpAny_call_entry slot_list_sort ⟨_,hoL,rfl⟩ entry_list_sort ?_ (args_list_sort _)))
 refine lsort (s:={ s with heap:=g.push { cls:=.type "list",data:=.seq vs.toArray } }) (r:=r) (κ:=κ) hoL h64 (fun h2 s' Q' st q=>hk h2 _ s' Q' (fun b o e=>st b o (ne b o e) (k2 b o e)) q)
  (fun s' i j C st hi hj q=>hc _ s' i j C (fun b o e=>st b o (ne b o e) (k2 b o e)) hi hj q) fun p h' c g1 u1 st e=>⟨_,rfl,?_⟩
 exact wpAny_pure ⟨_,rfl,h p h' c g1 u1 (fun b o e=>st b o (ne b o e) (k2 b o e)) e⟩
def lexI:List Int->List Int->Bool
 | [],[]=>false
 | [],_::_=>true
 | _::_,[]=>false
 | x::xs,y::ys=>if x=y then lexI xs ys else decide (x < y)
theorem lexI_irr:∀ xs,lexI xs xs=false
 | []=>rfl
 | x::xs=>by show (if x=x then lexI xs xs else _)=false;rw[if_pos rfl];exact lexI_irr xs
theorem lexI_trans:∀ xs ys zs,lexI xs ys=true->lexI ys zs=true->lexI xs zs=true
 | [],[],_,h,_=>by cases h
 | [],_::_,[],_,h=>by cases h
 | [],_::_,_::_,_,_=>rfl
 | _::_,[],_,h,_=>by cases h
 | _::_,_::_,[],_,h=>by cases h
 | x::xs,y::ys,z::zs,h1,h2=>by
  simp only [lexI] at h1 h2 ⊢
  by_cases e1:x=y
  ·subst e1
   rw[if_pos rfl] at h1
   by_cases e2:x=z
   ·rw[if_pos e2] at h2 ⊢;exact lexI_trans xs ys zs h1 h2
   ·rw[if_neg e2] at h2 ⊢;exact h2
  ·rw[if_neg e1] at h1
   have l1:x < y:=of_decide_eq_true h1
   by_cases e2:y=z
   ·subst e2
    rw[if_neg e1];exact h1
   ·rw[if_neg e2] at h2
    have l2:y < z:=of_decide_eq_true h2
    rw[if_neg (by omega)]
    exact decide_eq_true (by omega)
theorem lexI_neg:∀ xs ys zs,lexI xs zs=true->lexI xs ys=true∨lexI ys zs=true
 | [],[],_,h=>.inr h
 | [],_::_,_,_=>.inl rfl
 | _::_,_,[],h=>by cases h
 | _::_,[],_::_,_=>.inr rfl
 | x::xs,y::ys,z::zs,h=>by
  simp only [lexI] at h ⊢
  by_cases e:x=z
  ·subst e
   rw[if_pos rfl] at h
   by_cases e1:x=y
   ·subst e1
    rw[if_pos rfl,if_pos rfl];exact lexI_neg xs ys zs h
   ·rw[if_neg e1,if_neg (Ne.symm e1)]
    by_cases l:x < y
    ·exact .inl (decide_eq_true l)
    ·exact .inr (decide_eq_true (by omega))
  ·rw[if_neg e] at h
   have l:x < z:=of_decide_eq_true h
   by_cases e1:x=y
   ·subst e1
    rw[if_neg e];exact .inr h
   ·by_cases e2:y=z
    ·subst e2
     rw[if_neg e1];exact .inl h
    ·rw[if_neg e1,if_neg e2]
     by_cases l1:x < y
     ·exact .inl (decide_eq_true l1)
     ·exact .inr (decide_eq_true (by omega))
theorem lexI_tot:∀ xs ys,lexI xs ys=false->lexI ys xs=false->xs=ys
 | [],[],_,_=>rfl
 | [],_::_,h,_=>by cases h
 | _::_,[],_,h=>by cases h
 | x::xs,y::ys,h1,h2=>by
  simp only [lexI] at h1 h2
  by_cases e:x=y
  ·subst e
   rw[if_pos rfl] at h1 h2
   rw[lexI_tot xs ys h1 h2]
  ·rw[if_neg e] at h1
   rw[if_neg (Ne.symm e)] at h2
   have:=of_decide_eq_false h1
   have:=of_decide_eq_false h2
   exact absurd (by omega) e
/-- the values of a list that are tuples of ints -/
def TupI (h:Heap) (v:Value) (k:List Int):Prop:=∃ a o its n,v=.ref a∧h.get? a=some o∧o.cls=.type "tuple"∧o.data=.seq its n∧IntsAre its.toList k
theorem TupI.to {h h':Heap} {v:Value} {k:List Int} (t:TupI h v k) (e:∀ b o,h.get? b=some o->h'.get? b=some o):TupI h' v k :=
 let ⟨a,o,its,n,q1,q2,q3⟩:=t
 ⟨a,o,its,n,q1,e _ _ q2,q3⟩
theorem katI {C:Bool->Shared->Prop}:∀ {xs ys:List Value} {k k':List Int} (i:Nat),IntsAre xs k->IntsAre ys k'->C (lexI k k') s->KatLex prog w A true (decide (k.length < k'.length)) C (xs.zip ys) i s
 | _,_,_,_,i,.nil,.nil,h=>h
 | _,_,_,_,i,.nil,.cons c u h',h=>by
  rw[List.zip_nil_left]
  refine kat_nil ?_
  rw[decide_eq_true (by simp)]
  exact h
 | _,_,_,_,i,.cons a t h',.nil,h=>by
  rw[List.zip_nil_right]
  refine kat_nil ?_
  rw[decide_eq_false (by simp)]
  exact h
 | _,_,_,_,i,.cons a t (vs:=xs) (ns:=k) h1,.cons c u (vs:=ys) (ns:=k') h2,h=>by
  rw[List.zip_cons_cons]
  refine kat_cons (wpAny_eqBool_int ?_)
  have ef:decide ((a::k).length < (c::k').length)=decide (k.length < k'.length):=by simp
  have hh:C (if a=c then lexI k k' else decide (a < c)) s:=h
  rw[ef]
  by_cases e:a=c
  ·rw[if_pos e] at hh
   rw[show (a == c)=true by simpa using e]
   exact kat_yes (katI (i + 1) h1 h2 hh)
  ·rw[if_neg e] at hh
   rw[show (a == c)=false by simpa using e]
   refine kat_no ?_
   cases hi:(true && i == 0) with
   | true=>exact oneLt_int hh
   | false=>exact kat_one _ _ (lt_int hh)
theorem tup_ask {vs:List Value} {ks:List (List Int)} (hk:Paired (TupI s.heap) vs ks) {i j:Nat} {C:Bool->Shared->Prop} (hi:i < vs.length) (hj:j < vs.length) (h:C (lexI (ks.getD i []) (ks.getD j [])) s):kas_ask prog w A (tuples' true) vs i j C s:=by
 have at_:∀ {vs:List Value} {ks:List (List Int)} (i:Nat),Paired (TupI s.heap) vs ks->i < vs.length->TupI s.heap (vs.getD i Value.none) (ks.getD i []):=by
  intro vs ks i p
  induction p generalizing i with
  | nil=>intro h;exact absurd h (by simp)
  | cons r t ih =>
   intro h
   cases i with
   | zero=>exact r
   | succ i=>exact ih i (by simpa using h)
 obtain⟨a,o,its,n,e1,q1,q2,q3,q4⟩:=at_ i hk hi
 obtain⟨a',o',its',n',e1',q1',q2',q3',q4'⟩:=at_ j hk hj
 unfold kas_ask
 rw[e1,e1']
 refine kat_lt q1 q3 q1' q3' ?_
 have l1:its.size=(ks.getD i []).length:=by have:=q4.length;simpa using this
 have l2:its'.size=(ks.getD j []).length:=by have:=q4'.length;simpa using this
 rw[l1,l2]
 exact katI 0 q4 q4' h
theorem tup_kind {vs:List Value} {ks:List (List Int)} (hk:Paired (TupI s.heap) vs ks) (hne:∀ k ∈ ks,k≠[]) (h2:2≤vs.length) {Q:SortKind->Shared->Prop} (h:Q (tuples' true) s):wpAny (model prog w) A (keyKind' vs.toArray) Q E s:=by
 have mk:∀ {vs:List Value} {ks:List (List Int)},Paired (TupI s.heap) vs ks->(∀ k ∈ ks,k≠[])->∃ fs:List Value,KatTups s.heap vs fs∧fs.length=vs.length∧∀ f ∈ fs,∃ n t,f=.int n t:=by
  intro vs ks p
  induction p with
  | nil=>exact fun _=>⟨[],.nil,rfl,fun f hf=>nomatch hf⟩
  | cons r t ih =>
   intro hn
   obtain⟨fs,g1,g2,g3⟩:=ih fun k hk=>hn k (List.mem_cons_of_mem _ hk)
   obtain⟨a,o,its,n,e1,q1,q2,q3,q4⟩:=r
   have hne:=hn _ List.mem_cons_self
   subst e1
   cases hz:its.toList with
   | nil=>rw[hz] at q4;cases q4;exact absurd rfl hne
   | cons v r =>
    rw[hz] at q4
    obtain⟨m,tk,ev⟩:=q4.all v List.mem_cons_self
    refine⟨v::fs,.cons q1 q2 q3 ?_ g1,by simp [g2],fun f hf=>?_⟩
    ·rw[← Array.getElem?_toList,hz];rfl
    ·rcases List.mem_cons.mp hf with e | hf
     ·exact⟨m,tk,e.trans ev⟩
     ·exact g3 f hf
 obtain⟨fs,g1,g2,g3⟩:=mk hk hne
 refine kat_kind (T:=.type "int") g1 (by omega) (fun v hv=>?_) (by decide +kernel) h
 obtain⟨m,tk,rfl⟩:=g3 v hv
 exact Looks.of_pure rfl
theorem int_ask {vs:List Value} {ns:List Int} (hk:IntsAre vs ns) {i j:Nat} {C:Bool->Shared->Prop} (hi:i < vs.length) (hj:j < vs.length) (h:C (decide (ns.getD i 0 < ns.getD j 0)) s):kas_ask prog w A oneType' vs i j C s:=by
 have at_:∀ {vs:List Value} {ns:List Int} (i:Nat),IntsAre vs ns->i < vs.length->∃ t,vs.getD i Value.none=.int (ns.getD i 0) t:=by
  intro vs ns i p
  induction p generalizing i with
  | nil=>intro h;exact absurd h (by simp)
  | cons n t r ih =>
   intro h
   cases i with
   | zero=>exact⟨t,rfl⟩
   | succ i=>exact ih i (by simpa using h)
 obtain⟨t,e1⟩:=at_ i hk hi
 obtain⟨u,e2⟩:=at_ j hk hj
 unfold kas_ask
 rw[e1,e2]
 exact kat_lt_int h
theorem int_kind {vs:List Value} {ns:List Int} (hk:IntsAre vs ns) (h2:2≤vs.length) {Q:SortKind->Shared->Prop} (h:Q oneType' s):wpAny (model prog w) A (keyKind' vs.toArray) Q E s:=by
 refine kas_kind (T:=.type "int") h2 (fun v hv=>?_) (by decide +kernel) (by decide +kernel) h
 obtain⟨m,tk,rfl⟩:=hk.all v hv
 exact Looks.of_pure rfl
end
end Srt
namespace Z3
open PySem
section
variable {prog:Program} {w:World} {A:Around} {E:Value->Shared->Prop} {s:Shared}
/-- a sequence (t: a tuple, else a list) and an iterator over it -/
def SqAt (t:Bool) (h:Heap) (l:Addr) (xs:Array Value):Prop:=if t=true then h.IsTuple l xs else h.IsList l xs
def ItAt (t:Bool) (h:Heap) (it l:Addr) (i:Nat):Prop:=if t=true then h.IsTupleIter it l i else h.IsListIter it l i
def itObj (t:Bool) (l:Addr):Obj:=if t=true then { cls:=.type "tuple_iterator",data:=.fields #[.ref l,.int 0 0] } else { cls:=.type "list_iterator",data:=.fields #[.ref l,.int 0 0] }
theorem SqAt.to {t:Bool} {h h':Heap} {l:Addr} {xs:Array Value} (x:SqAt t h l xs) (e:∀ o,h.get? l=some o->h'.get? l=some o):SqAt t h' l xs:=by
 cases t with
 | true=>exact Heap.IsTuple.at (show h.IsTuple l xs from x) e
 | false=>exact Heap.IsList.at (show h.IsList l xs from x) e
theorem ItAt.to {t:Bool} {h h':Heap} {it l:Addr} {i:Nat} (x:ItAt t h it l i) (e:∀ o,h.get? it=some o->h'.get? it=some o):ItAt t h' it l i:=by
 cases t with
 | true=>exact Heap.IsTupleIter.at (show h.IsTupleIter it l i from x) e
 | false=>exact Heap.IsListIter.at (show h.IsListIter it l i from x) e
theorem ItAt.obj {t:Bool} {h:Heap} {it l:Addr} {i:Nat} (x:ItAt t h it l i):∃ o n,h.get? it=some o∧o.cls=.type n∧o.data=.fields #[.ref l,.int i 0]:=by
 cases t with
 | true=>obtain⟨o,a,b,c⟩:=(show h.IsTupleIter it l i from x);exact⟨o,_,a,b,c⟩
 | false=>obtain⟨o,a,b,c⟩:=(show h.IsListIter it l i from x);exact⟨o,_,a,b,c⟩
theorem ItAt.new {t:Bool} {h:Heap} {l:Addr}:ItAt t (h.push (itObj t l)) h.objs.size l 0:=by
 cases t with
 | true=>exact⟨_,Heap.get?_push_size _ rfl,rfl,rfl⟩
 | false=>exact⟨_,Heap.get?_push_size _ rfl,rfl,rfl⟩
end
end Z3
namespace U3
open PySem PyProof.Rows
section
variable {prog:Program} {w:World} {A:Around} {E:Value->Shared->Prop} {s:Shared}
theorem draw_lst {it l:Addr} {xs:Array Value} (hne:l≠it):∀ (n i:Nat) (s:Shared) (Q:List Value->Shared->Prop),s.heap.IsListIter it l i->s.heap.IsList l xs->i + n≤xs.size ->
  (∀ h',h'.IsListIter it l (i + n)->Heap.SameBut it s.heap h'->Q ((xs.toList.drop i).take n) { s with heap:=h' })->wpAny (model prog w) A (draw (.ref it) n) Q E s
 | 0,i,s,Q,hi,_,_,h=>by
  show wpAny _ _ (pure []) Q E s
  exact wpAny_pure (by simpa using h s.heap hi (Heap.SameBut.refl ..))
 | n + 1,i,s,Q,hi,hl,hle,h=>by
  have lt:i < xs.size:=by omega
  show wpAny _ _ (pyNext (.ref it) >>= _) Q E s
  refine wpAny_bind (wpAny_pyNext_list_item hi hl (x:=xs[i]) (by simp [lt]) fun g1 i1 e1=>?_)
  refine wpAny_bind (wpAny_holding (draw_lst hne n (i + 1) _ _ i1 (hl.extBut e1.extBut hne) (by omega) fun g2 i2 e2=>wpAny_pure ?_))
  have hd:xs.toList.drop i=xs[i]::xs.toList.drop (i + 1):=by simp [List.drop_eq_getElem_cons,lt]
  have q:=h g2 (by rw[show i + (n + 1)=i + 1 + n by omega];exact i2) (e1.trans e2)
  rw[hd,List.take_succ_cons] at q
  exact q
theorem unpack_lst {l:Addr} {xs:Array Value} {targets:List (Bool × (Value->Sem Unit))} {Q:Unit->Shared->Prop} (hh:A.handled=none) (hl:s.heap.IsList l xs)
  (hn:targets.length=xs.size) (hs:targets.findIdx? (·.1)=none)
  (h:∀ h',Heap.ExtBut s.heap.objs.size s.heap h'->wpAny (model prog w) A (assignInOrder (targets.map (·.2)) xs.toList) Q E { s with heap:=h' }) :
  wpAny (model prog w) A (unpack (.ref l) targets) Q E s:=by
 have ne:l≠s.heap.objs.size:=by obtain⟨o,ho,_⟩:=hl;exact Nat.ne_of_lt (Heap.lt_size ho)
 unfold unpack
 rw[hn,hs]
 refine wpAny_bind (wpAny_holding ?_)
 unfold unpackItems
 refine wpAny_bind ?_
 unfold notIterableAtAll
 refine wpAny_bind (wpAny_specialOf hl.typeIs slot_list_iter.lookup ?_)
 refine wpAny_pure ?_
 simp only [Bool.false_eq_true,if_false]
 refine wpAny_bind (wpAny_holding (wpAny_pyIter_list hl ?_))
 refine wpAny_bind (wpAny_holding (draw_lst ne xs.size 0 _ _ ⟨_,Heap.get?_push_size _ rfl,rfl,rfl⟩ (hl.push _) (by omega) fun g1 i1 e1=>?_))
 have all:List.take xs.size (List.drop 0 xs.toList)=xs.toList:=by
  rw[List.drop_zero];exact List.take_of_length_le (by simp)
 rw[all,if_neg (by simp)]
 have l1:g1.IsList l xs:=(hl.push _).extBut e1.extBut ne
 refine wpAny_bind (wpAny_holding (wpAny_pyNext_list_end hh i1 l1 (by simp) fun g2 e2=>?_))
 simp only [Option.isSome_none,Bool.false_eq_true,if_false]
 exact wpAny_pure (h g2 fun b o hb e=>e2 b o hb (e1.extBut b o hb (Heap.get?_push_of_some _ e)))
theorem assign_tuple_lst {env:Env} {elts:List Expr} {x1} {pos:Pos} {l:Addr} {xs:Array Value} {Q:Unit->Shared->Prop} (hh:A.handled=none) (hl:s.heap.IsList l xs)
  (hn:(assignEach elts env).length=xs.size) (hs:(assignEach elts env).findIdx? (·.1)=none)
  (h:∀ h',Heap.ExtBut s.heap.objs.size s.heap h'->wpAny (model prog w) A (assignInOrder ((assignEach elts env).map (·.2)) xs.toList) Q E { s with heap:=h' }) :
  wpAny (model prog w) A (assign (.Tuple elts x1 pos) env (.ref l)) Q E s:=by
 rw[assign_Tuple]
 exact wpAny_bind (wpAny_standAt (unpack_lst hh hl hn hs h))
end
end U3
namespace L3
open PySem PySem.Spec PyProof.Rows L2
abbrev Fls:Value->Shared->Prop:=fun _ _=>False
abbrev testsOf (ifs:List Expr) (env:Env):Sem Bool :=
 forIn ifs true fun c r=>if r=true then do let ok ← isTrue c env (eval c env);pure (ForInStep.yield ok) else pure (ForInStep.yield r)
section
variable {prog:Program} {w:World} {A:Around} {R:Result->Shared->Prop} {s:Shared}
/-- a list comprehension of one clause, turn by turn; nothing raises in it -/
theorem comp_turns {elt tg iter:Expr} {ifs:List Expr} {scope:Scope} {pos:Pos} {it acc:Value} {env:Env} (W:Nat->Shared->Prop)
  (step:∀ n s,W n s->wpAny (model prog w) A (pyNext it) (fun r s1=>(r=none∧R (.ok .next) s1)∨∃ v,r=some v ∧
   wpAny (model prog w) A (letOwnedTupleGo tg it v) (fun _ s2=>wpAny (model prog w) A (assign tg env v) (fun _ s3 =>
    wpAny (model prog w) A (testsOf ifs env) (fun ok s4=>if ok=true then wpAny (model prog w) A (eval elt env) (fun x s5 =>
     wpAny (model prog w) A (call (.builtin "list.append") [acc,x]) (fun _ s6=>∃ m,m < n∧W m s6) Fls s5) Fls s4 else ∃ m,m < n∧W m s4) Fls s3) Fls s2) Fls s1) Fls s)
  (n:Nat) (h:W n s):codeAny (model prog w) A (.compLoop (.ListComp elt [⟨tg,iter,ifs,0⟩] scope pos) 0 it acc env) R s:=by
 refine codeAny_loop rfl W (fun k s1 hk=>?_) n h
 show wpAny _ A ((compTurn (.ListComp elt [⟨tg,iter,ifs,0⟩] scope pos) 0 it acc env).onRaise (fun x=>do noteFrame x env;theTreesLotGoes x)) _ _ s1
 refine wpAny_noted ?_
 rw[compTurn_list]
 refine wpAny_bind (wpAny_standAt (wpAny_bind (wpAny_mono (step k s1 hk) (fun r s2 h2=>?_) fun _ _ z=>z.elim)))
 rcases h2 with ⟨rfl,h2⟩ | ⟨v,rfl,h2⟩
 ·exact wpAny_pure h2
 ·refine wpAny_bind (wpAny_mono h2 (fun _ s3 h3=>?_) fun _ _ z=>z.elim)
  refine wpAny_bind (wpAny_mono h3 (fun _ s4 h4=>?_) fun _ _ z=>z.elim)
  refine wpAny_bind (wpAny_mono h4 (fun ok s5 h5=>?_) fun _ _ z=>z.elim)
  cases ok with
  | false=>exact wpAny_pure ⟨rfl,h5⟩
  | true =>
   refine wpAny_bind (wpAny_bind (wpAny_mono h5 (fun x s6 h6=>?_) fun _ _ z=>z.elim))
   refine wpAny_bind (wpAny_mono h6 (fun _ s7 h7=>?_) fun _ _ z=>z.elim)
   exact wpAny_pure (wpAny_pure ⟨rfl,h7⟩)
end
def clOf (cells:List (Str × Addr)):List (Str × NameKind)->List (Str × Addr)->List (Str × Addr)
 | [],cs=>cs
 | (n,k)::r,cs=>clOf cells r (if k=.free then (n,(cells.lookup n).getD 0)::cs else cs)
theorem clOf_mem {cells:List (Str × Addr)}:∀ {names:List (Str × NameKind)} {cs:List (Str × Addr)} {p:Str × Addr},p ∈ clOf cells names cs->p ∈ cs∨((p.1,NameKind.free) ∈ names∧p.2=(cells.lookup p.1).getD 0)
 | [],_,_,h=>.inl h
 | (n,k)::r,cs,p,h=>by
  rcases clOf_mem (names:=r) h with q | ⟨q1,q2⟩
  ·by_cases hk:k=.free
   ·rw[if_pos hk] at q
    rcases List.mem_cons.mp q with e | q
    ·subst e;subst hk;exact .inr ⟨List.mem_cons_self,rfl⟩
    ·exact .inl q
   ·rw[if_neg hk] at q;exact .inl q
  ·exact .inr ⟨List.mem_cons_of_mem _ q1,q2⟩
theorem clOf_has {cells:List (Str × Addr)}:∀ {names:List (Str × NameKind)} {cs:List (Str × Addr)} {x:Str},((x,NameKind.free) ∈ names∨∃ c,(x,c) ∈ cs)->∃ c,(x,c) ∈ clOf cells names cs
 | [],_,_,h=>h.elim (fun z=>nomatch z) id
 | (n,k)::r,cs,x,h=>by
  refine clOf_has (names:=r) ?_
  rcases h with h | ⟨c,h⟩
  ·rcases List.mem_cons.mp h with e | h
   ·cases e
    exact .inr ⟨_,by rw[if_pos rfl];exact List.mem_cons_self⟩
   ·exact .inl h
  ·refine .inr ⟨c,?_⟩
   split
   ·exact List.mem_cons_of_mem _ h
   ·exact h
theorem closure_go {env:Env}:∀ (names:List (Str × NameKind)) (cs:List (Str × Addr)),(∀ y ∈ names,y.2=.free->∃ c,env.cells.lookup y.1=some c) ->
  (forIn names cs fun x r=>(match x with | (n,k)=>if (k == NameKind.free)=true then do let c ← cellOf env n;pure (ForInStep.yield ((n,c)::r)) else pure (ForInStep.yield r):Sem (ForInStep (List (Str × Addr)))))=pure (clOf env.cells names cs)
 | [],cs,_=>rfl
 | (n,k)::r,cs,h=>by
  rw[List.forIn_cons]
  by_cases hk:k=.free
  ·subst hk
   obtain⟨c,hc⟩:=h (n,.free) List.mem_cons_self rfl
   have e1:cellOf env n=pure c:=by unfold cellOf;rw[hc]
   have e2:clOf env.cells ((n,NameKind.free)::r) cs=clOf env.cells r ((n,c)::cs):=by
    show clOf env.cells r (if NameKind.free=NameKind.free then (n,(env.cells.lookup n).getD 0)::cs else cs)=_
    rw[if_pos rfl,hc]
    rfl
   rw[e2,← closure_go r ((n,c)::cs) fun y hy=>h y (List.mem_cons_of_mem _ hy)]
   simp only [beq_self_eq_true,if_true,e1,pure_bind]
  ·have e2:clOf env.cells ((n,k)::r) cs=clOf env.cells r cs:=by
    show clOf env.cells r (if k=NameKind.free then _ else cs)=_
    rw[if_neg hk]
   have hb:(k == NameKind.free)=false:=by simpa using hk
   rw[e2,← closure_go r cs fun y hy=>h y (List.mem_cons_of_mem _ hy)]
   simp only [hb,Bool.false_eq_true,if_false,pure_bind]
theorem closure_is {scope:Scope} {env:Env} (h:∀ y ∈ scope.names,y.2=.free->∃ c,env.cells.lookup y.1=some c):closureFor scope env=pure (clOf env.cells scope.names []):=by
 have q:=closure_go (env:=env) scope.names [] h
 unfold closureFor
 refine Eq.trans ?_ q
 first | rfl | simp
theorem look_relabel_free {env:Env}:∀ {names:List (Str × NameKind)} {x:Str},names.lookup x=some .free ->
  (names.map fun (n,k)=>if (k == NameKind.free && env.scope.kind == .function && env.kindOf n == some .cell) then (n,NameKind.cell) else (n,k)).lookup x=some .cell ∨
  (names.map fun (n,k)=>if (k == NameKind.free && env.scope.kind == .function && env.kindOf n == some .cell) then (n,NameKind.cell) else (n,k)).lookup x=some .free
 | [],_,h=>by simp at h
 | (n,k)::r,x,h=>by
  have ih:=@look_relabel_free env r x
  rw[List.map_cons]
  by_cases hx:(x == n)=true
  ·rw[List.lookup_cons,hx] at h
   have h':k=.free:=by simpa using h
   subst h'
   dsimp only
   split
   ·left;rw[List.lookup_cons,hx]
   ·right;rw[List.lookup_cons,hx]
  ·have hx':(x == n)=false:=by simpa using hx
   rw[List.lookup_cons,hx'] at h
   dsimp only
   split
   ·rw[List.lookup_cons,hx'];exact ih h
   ·rw[List.lookup_cons,hx'];exact ih h
theorem of_relabel {env:Env}:∀ {names:List (Str × NameKind)} {x:Str},(∀ y ∈ names,y.2≠.cell) ->
  ((names.map fun (n,k)=>if (k == NameKind.free && env.scope.kind == .function && env.kindOf n == some .cell) then (n,NameKind.cell) else (n,k)).lookup x=some .cell ∨
  (names.map fun (n,k)=>if (k == NameKind.free && env.scope.kind == .function && env.kindOf n == some .cell) then (n,NameKind.cell) else (n,k)).lookup x=some .free)->(x,NameKind.free) ∈ names
 | [],_,_,h=>by simp at h
 | (n,k)::r,x,hc,h=>by
  rw[List.map_cons] at h
  by_cases hx:(x == n)=true
  ·have e:x=n:=by simpa using hx
   subst e
   dsimp only at h
   by_cases hk:(k == NameKind.free && env.scope.kind == .function && env.kindOf x == some .cell)=true
   ·rw[if_pos hk] at h
    have:k=.free:=by
     simp only [Bool.and_eq_true] at hk
     simpa using hk.1.1
    subst this
    exact List.mem_cons_self
   ·rw[if_neg hk,List.lookup_cons,hx] at h
    rcases h with h | h
    ·exact absurd (by simpa using h) (hc (x,k) List.mem_cons_self)
    ·have:k=.free:=by simpa using h
     subst this
     exact List.mem_cons_self
  ·have hx':(x == n)=false:=by simpa using hx
   refine List.mem_cons_of_mem _ (of_relabel (env:=env) (fun y hy=>hc y (List.mem_cons_of_mem _ hy)) ?_)
   dsimp only at h
   split at h
   ·rw[List.lookup_cons,hx'] at h;exact h
   ·rw[List.lookup_cons,hx'] at h;exact h
/-- what is looked at of the two scopes: closed, for decide -/
def compOk (N:List Str) (sc0 scope:Scope) (fr:List Str) (js:List Nat):Bool :=
 decide (scope.kind=.function) && (scope.names.all fun y=>decide (y.2≠.cell) && (decide (y.2≠.free) || decide (sc0.names.lookup y.1=some .cell) || decide (sc0.names.lookup y.1=some .free)) &&
  (decide (y.2≠.local) || decide (scope.names.lookup y.1=some .local))) && decide (fr.length=js.length) &&
 ((fr.zip js).all fun p=>decide (N[p.2]?=some p.1) && decide (scope.names.lookup p.1=some .free) && (decide (sc0.names.lookup p.1=some .cell) || decide (sc0.names.lookup p.1=some .free)))
/-- the context of the block -/
def cxComp (X:Cx) (own fr:List Str) (scope:Scope) (fp:List Addr) (pins:List (Addr × Obj)) (s3:Shared) (H3:Hp):Cx :=
 { X with N:=own++fr,s₀:=s3,H₀:=H3,env:=compEnvC scope (clOf X.env.cells scope.names []) s3.heap.objs.size X.env,outer:=X.stack,stack:=X.stack,ex:=fp,fn:=fun _=>false,pn:=X.pn++pins,xe:=Fls }
/-- the tests of a clause -/
def PTs (X:Cx) (ifs:List Expr) (t:TT):Prop :=
 ∀ (pins:List (Addr × Obj)) (s:Shared) (σ:L2.St) (H:Hp) (Q:Bool->Hp->Prop),Inv X pins σ H s->t σ H Q->wpAny (model X.prog X.w) X.A (testsOf ifs X.env) (TP X pins σ Q) X.xe s
def tTrue:TT:=fun _ H Q=>Q true H
theorem pts_nil {X:Cx}:PTs X [] tTrue:=fun _ _ _ H _ I h=>wpAny_tests_nil ⟨H,I,h⟩
theorem pts_one {X:Cx} {c:Expr} {t:TT} (h:PT X c t):PTs X [c] t:=fun pins s σ H Q I q=>wpAny_tests_one (h pins s σ H Q I q)
def start3 (own:List Str) (js:List Nat) (σ:L2.St):L2.St:=List.replicate own.length none++js.map fun j=>(σ[j]?).join
/-- the reading: W is the word, by the turn, a measure, what is laid by so far, the names, the heap; D the new list -/
def CompGo (own:List Str) (js:List Nat) (g:TG) (tt:TT) (te:TE) (σ:L2.St) (Q:VK) (J:It) (H1:Hp):Prop:=∀ D,H1 D=none->∃ W:Nat->Nat->List V->L2.St->Hp->Prop,
 (∃ m,W 0 m [] (start3 own js σ) (upd H1 D (.lst [])))∧∀ i m ys σ' H',W i m ys σ' H'->H' D=some (.lst ys) ->
  (J.stop i H'∧Q (.ref D) H')∨(J.go i H'∧∀ x H2,J.yld i H' x H2->g x σ' H2 fun σ3 H3=>tt σ3 H3 fun b H4 =>
   if b=true then te σ3 H4 fun v H5=>H5 D=some (.lst ys)∧ys.length < sizeLine∧∃ m',m' < m∧W (i + 1) m' (ys++[v]) σ3 (upd H5 D (.lst (ys++[v])))
   else H4 D=some (.lst ys)∧∃ m',m' < m∧W (i + 1) m' ys σ3 H4)
def tComp (own:List Str) (js:List Nat) (wi:TI) (g:TG) (tt:TT) (te:TE):TE:=fun σ H Q=>wi σ H fun J H1=>CompGo own js g tt te σ Q J H1
section
variable {X:Cx} {elt tg iter:Expr} {ifs:List Expr} {scope sc0:Scope} {pos:Pos} {own fr N:List Str} {js:List Nat} {wi:TI} {g:TG} {tt:TT} {te:TE}
theorem join_some {σ:L2.St} {js:List Nat} {k:Nat} {v:V} (e:(js.map fun j=>(σ[j]?).join)[k]?=some (some v)):∃ j,js[k]?=some j∧σ[j]?=some (some v):=by
 rw[List.getElem?_map] at e
 cases hj:js[k]? with
 | none=>rw[hj] at e;cases e
 | some j =>
  rw[hj] at e
  refine⟨j,rfl,?_⟩
  have e':(σ[j]?).join=some v:=by simpa using e
  cases hs:σ[j]? with
  | none=>rw[hs] at e';cases e'
  | some o=>rw[hs] at e';exact congrArg some e'
theorem inv_comp {pins:List (Addr × Obj)} {σ:L2.St} {H3:Hp} {s3:Shared} {fp:List Addr} {h4:Heap} {t4:Nat} {m4:Str->Option Value}
  (hN:X.N=N) (hsc:X.env.scope=sc0) (hok:compOk N sc0 scope fr js=true) (I:Inv X pins σ H3 s3) (hf:∀ b ∈ fp,FpOk X pins H3 b) (hlt:∀ b ∈ fp,b < s3.heap.objs.size)
  (k:∀ b o,s3.heap.get? b=some o->h4.get? b=some o) (hns:h4.Ns s3.heap.objs.size m4):Inv (cxComp X own fr scope fp pins s3 H3) [] (start3 own js σ) H3 { s3 with heap:=h4,toks:=t4 }:=by
 subst hN hsc
 unfold compOk at hok
 simp only [Bool.and_eq_true,decide_eq_true_eq,List.all_eq_true] at hok
 obtain⟨⟨⟨hk,hall⟩,hlen⟩,hfr⟩:=hok
 have hfree:∀ y ∈ scope.names,y.2=.free->∃ c,X.env.cells.lookup y.1=some c:=fun y hy e=>by
  have q:=(hall y hy).1.2
  simp only [Bool.or_eq_true,decide_eq_true_eq] at q
  rcases q with (q | q) | q
  ·exact absurd e q
  ·exact I.ok.has y.1 (.inl q)
  ·exact I.ok.has y.1 (.inr q)
 have hcl:∀ x c,(clOf X.env.cells scope.names []).lookup x=some c->X.env.cells.lookup x=some c:=fun x c e=>by
  rcases clOf_mem (PySem.mem_of_lookup e) with z | ⟨z1,z2⟩
  ·exact absurd z (by simp)
  ·obtain⟨c',hc'⟩:=hfree _ z1 rfl
   have hc'':X.env.cells.lookup x=some c':=hc'
   have z2':c=(X.env.cells.lookup x).getD 0:=z2
   rw[hc''] at z2' ⊢
   simp at z2'
   rw[z2']
 have hasC:∀ x,(x,NameKind.free) ∈ scope.names->∃ c,(clOf X.env.cells scope.names []).lookup x=some c:=fun x hx=>by
  obtain⟨c,hc⟩:=clOf_has (cells:=X.env.cells) (cs:=[]) (.inl hx)
  cases q:(clOf X.env.cells scope.names []).lookup x with
  | some c'=>exact⟨c',rfl⟩
  | none =>
   have:∀ (l:List (Str × Addr)),(x,c) ∈ l->l.lookup x≠none:=fun l=>by
    induction l with
    | nil=>intro z;cases z
    | cons p r ih =>
     intro z
     obtain⟨p1,p2⟩:=p
     rw[List.lookup_cons]
     rcases List.mem_cons.mp z with z | z
     ·cases z
      simp
     ·split
      ·simp
      ·exact ih z
   exact absurd q (this _ hc)
 have hcell:∀ y ∈ scope.names,y.2≠.cell:=fun y hy=>(hall y hy).1.1
 have sz:X.base.objs.size≤s3.heap.objs.size:=Nat.le_trans I.ok.bsz I.sz
 refine⟨⟨I.ok.mod,hk,I.ok.glob,I.ok.blt,Nat.le_refl _,fun x y c e1 e2=>I.ok.inj x y c (hcl x c e1) (hcl y c e2),fun x hx=>hasC x (of_relabel hcell hx),fun x c z=>absurd z (by simp [cxComp]),
  I.ok.hd,I.ok.frames,.inl rfl,fun b hb=>⟨Nat.ne_of_lt (hlt b hb),fun x c e=>(hf b hb).2.2.2.2.1 x c (hcl x c e)⟩,I.bs,sz,fun b o e hb=>?_,fun b hb z=>?_,I.stack,I.stkFree⟩,
  rfl,I.bare,Un.kept k,⟨m4,hns,fun i x v e1 e2 e3=>?_⟩,fun x c e=>?_,I.hok.fresh (Nat.le_refl _),fun x c e=>I.freeC x c (hcl x c e),fun p hp=>?_,I.hok.kept k,?_⟩
 ·obtain⟨_,_,_,f3,_⟩:=hf b hb
  rcases f3 with f3 | f3
  ·exact I.ok.noex b o e f3
  ·exact absurd (Nat.lt_of_lt_of_le (Heap.lt_size e) (Nat.le_trans I.ok.bsz f3)) (Nat.lt_irrefl _)
 ·obtain⟨_,f1,f2,_⟩:=hf b hb
  rcases List.mem_cons.mp (I.stkSub b z) with z | z
  ·exact f1 z
  ·exact f2 z
 ·have e2':(List.replicate own.length (none:Option V)++js.map fun j=>(σ[j]?).join)[i]?=some (some v):=e2
  have e1':(own++fr)[i]?=some x:=e1
  by_cases hi:i < own.length
  ·rw[List.getElem?_append_left (by simpa using hi),List.getElem?_replicate,if_pos hi] at e2'
   cases e2'
  ·rw[List.getElem?_append_right (by simpa using hi),List.length_replicate] at e2'
   rw[List.getElem?_append_right (by omega)] at e1'
   obtain⟨j,hj,hv⟩:=join_some e2'
   have hz:(fr.zip js)[i - own.length]?=some (x,j):=by
    rw[List.getElem?_zip_eq_some]
    exact⟨e1',hj⟩
   have q:=hfr _ (List.mem_of_getElem? hz)
   obtain⟨⟨q1,q2⟩,q3⟩:=q
   have q3'':X.env.scope.names.lookup x=some .cell∨X.env.scope.names.lookup x=some .free:=by simpa using q3
   have q3':X.env.kindOf x=some .cell∨X.env.kindOf x=some .free:=q3''
   obtain⟨m,hn,hl⟩:=I.loc
   obtain⟨u,r,l⟩:=hl j x v q1 hv (q3'.elim (fun z=>.inr (.inl z)) fun z=>.inr (.inr z))
   refine⟨u,r,.inr ⟨look_relabel_free q2,?_⟩⟩
   rcases l with ⟨z,_⟩ | ⟨_,c,hc,hcellv⟩
   ·rcases q3' with w | w <;> (rw[z] at w;cases w)
   ·obtain⟨c',hc'⟩:=hasC x (PySem.mem_of_lookup q2)
    have e:=hcl x c' hc'
    rw[hc] at e
    cases e
    obtain⟨o,ho,hd⟩:=hcellv
    exact⟨c,hc',o,k c o ho,hd⟩
 ·obtain⟨v,o,ho,hd⟩:=I.cell x c (hcl x c e)
  exact⟨v,o,k c o ho,hd⟩
 ·have hp':p ∈ X.pn++pins:=by
   have:p ∈ (X.pn++pins)++([]:List (Addr × Obj)):=hp
   simpa using this
  obtain⟨a,b,c,d,f⟩:=I.pin p hp'
  refine⟨k _ _ a,b,Nat.ne_of_lt (Heap.lt_size a),fun z=>?_,f⟩
  rcases List.mem_cons.mp (I.stkSub p.1 z) with z | z
  ·exact c z
  ·exact d z
 ·show (List.replicate own.length (none:Option V)++js.map fun j=>(σ[j]?).join).length=(own++fr).length
  simp [hlen]
theorem comp_core {pins:List (Addr × Obj)} {s:Shared} {σ:L2.St} {H:Hp} {Q:VK} {use:Option (Value->Sem Unit)} {Qo:Value->Shared->Prop} {cpos:Pos}
  (hc:X.calm=true) (hi:PI X tg iter wi) (hg:∀ fp pins s3 H3,PG (cxComp X own fr scope fp pins s3 H3) tg g) (ht:∀ fp pins s3 H3,PTs (cxComp X own fr scope fp pins s3 H3) ifs tt)
  (he:∀ fp pins s3 H3,PE (cxComp X own fr scope fp pins s3 H3) elt te) (hok:compOk N sc0 scope fr js=true) (hN:X.N=N) (hsc:X.env.scope=sc0)
  (hs:∀ x,foldedSetIterable iter X.env x=pure x) (I:Inv X pins σ H s) (h:tComp own js wi g tt te σ H Q)
  (fin:∀ (C D:Addr) (s6:Shared) (H6:Hp) (m6:Str->Option Value),Inv X pins σ H6 s6->FpOk X pins H6 C->s6.heap.Ns C m6->Q (.ref D) H6->compPost (model X.prog X.w) X.A X.xe use Qo (.ref D) C (.ok .next) s6) :
  wpAny (model X.prog X.w) X.A (comprehension (.ListComp elt [⟨tg,iter,ifs,0⟩] scope pos) scope X.env cpos (newList []) false (eval iter X.env) use) Qo X.xe s:=by
 have hok':=hok
 unfold compOk at hok'
 simp only [Bool.and_eq_true,decide_eq_true_eq,List.all_eq_true] at hok'
 obtain⟨⟨⟨hk,hall⟩,hlen⟩,hfr⟩:=hok'
 have hcell:∀ y ∈ scope.names,y.2≠.cell:=fun y hy=>(hall y hy).1.1
 have hloc:∀ y ∈ scope.names,y.2=.local->scope.names.lookup y.1=some .local:=fun y hy e=>by
  have q:=(hall y hy).2
  simp only [Bool.or_eq_true,decide_eq_true_eq] at q
  rcases q with q | q
  ·exact absurd e q
  ·exact q
 have hfree:∀ y ∈ scope.names,y.2=.free->∃ c,X.env.cells.lookup y.1=some c:=fun y hy e=>by
  have q:=(hall y hy).1.2
  simp only [Bool.or_eq_true,decide_eq_true_eq] at q
  rw[← hsc] at q
  rcases q with (q | q) | q
  ·exact absurd e q
  ·exact I.ok.has y.1 (.inl q)
  ·exact I.ok.has y.1 (.inr q)
 refine wpAny_comprehension_free (use:=use) rfl hs (closure_is hfree) hk hloc (thn (hi pins s σ H _ I h) fun v s1 h1=>thn h1 fun itv s2 h2=>?_)
 obtain⟨it,fp,tn,J,H2,e,I2,T,st2,f2,rd⟩:=h2
 subst e
 have hD2:H2 s2.heap.objs.size=none:=I2.fresh
 obtain⟨W,⟨m0,w0⟩,turn⟩:=rd s2.heap.objs.size hD2
  -- the new list
 refine wpAny_newList ?_ (Nat.zero_le _)
 have I3:Inv X pins σ (upd H2 s2.heap.objs.size (.lst [])) { s2 with heap:=s2.heap.push { cls:=.type "list",data:=.seq ([]:List Value).toArray } }:=I2.lnew (t':=s2.toks) .nil (Nat.zero_le _)
 generalize hs3:({ s2 with heap:=s2.heap.push { cls:=.type "list",data:=.seq ([]:List Value).toArray } }:Shared)=s3 at I3
 generalize hD:s2.heap.objs.size=D at *
 have fpl:∀ b ∈ fp,b < D:=fun b hb=>by
  obtain⟨o,ho,_⟩:=T.obj _ _ st2 b hb
  rw[← hD];exact Heap.lt_size ho
 have k23:∀ b o,s2.heap.get? b=some o->s3.heap.get? b=some o:=fun b o e=>by rw[← hs3];exact Heap.get?_push_of_some _ e
 have hD3:s3.heap.objs.size=D + 1:=by rw[← hs3,← hD];exact Heap.size_push ..
 have f3:∀ b ∈ fp,FpOk X pins (upd H2 D (.lst [])) b:=fun b hb=>by
  obtain⟨f0,f⟩:=f2 b hb
  exact⟨by rw[upd_ne (Nat.ne_of_lt (fpl b hb))];exact f0,f⟩
 refine wpAny_newFunctionEnv hcell (by intro y hy;simp at hy) (fun h4 hns4 hsb4=>?_) hk
 have k34:∀ b o,s3.heap.get? b=some o->h4.get? b=some o:=fun b o e=>hsb4.extBut b o (Nat.ne_of_lt (Heap.lt_size e)) (Heap.get?_push_of_some _ e)
 have I4:=inv_comp (own:=own) (t4:=s3.toks + ([]:List (Str × Value)).length) hN hsc hok I3 f3 (fun b hb=>Nat.lt_of_lt_of_le (fpl b hb) (by rw[hD3];exact Nat.le_succ _)) k34 hns4
 have tn4:tn 0 h4:=T.keep 0 s2.heap h4 st2 fun b hb o e=>k34 b o (k23 b o e)
 have I4o:=I4.ok
 have fpS:∀ {H'':Hp},(∀ b ∈ fp,H'' b=none)->∀ b ∈ fp,FpOk (cxComp X own fr scope fp pins s3 (upd H2 D (.lst []))) [] H'' b:=fun hn b hb =>
  ⟨hn b hb,(I4o.exf b hb).1,I4o.exfs b hb,.inl hb,(I4o.exf b hb).2,fun p hp=>(f2 b hb).2.2.2.2.2 p (by
   have:p ∈ (X.pn++pins)++([]:List (Addr × Obj)):=hp
   simpa using this)⟩
 have loop : codeAny (model X.prog X.w) X.A (.compLoop (.ListComp elt [⟨tg, iter, ifs, 0⟩] scope pos) 0 (.ref it) (.ref D) (compEnvC scope (clOf X.env.cells scope.names []) s3.heap.objs.size X.env))
     (compPost (model X.prog X.w) X.A X.xe use Qo (.ref D) s3.heap.objs.size) { s3 with heap:=h4,toks:=s3.toks + ([]:List (Str × Value)).length }:=by
  refine comp_turns (fun n s'=>∃ i ys σ' H',Inv (cxComp X own fr scope fp pins s3 (upd H2 D (.lst []))) [] σ' H' s'∧tn i s'.heap∧(∀ b ∈ fp,H' b=none)∧H' D=some (.lst ys)∧W i n ys σ' H')
   ?step m0 ⟨0,[],_,_,I4,tn4,fun b hb=>(f3 b hb).1,upd_same,w0⟩
  rintro n s5 ⟨i,ys,σ5,H5,I5,tn5,fr5,d5,w5⟩
  rcases turn i n ys σ5 H5 w5 d5 with ⟨stop,q⟩ | ⟨go,stp⟩
  ·refine thn (T.done (cxComp X own fr scope fp pins s3 (upd H2 D (.lst []))) rfl rfl rfl hc i [] s5 σ5 H5 Fls I5 (fpS fr5) tn5 stop) fun r s6 ⟨hr,I6⟩=>.inl ⟨hr,?_⟩
   obtain⟨m6,hn6,_⟩:=id I6.loc
   have u1:Un (frs X.stack) fp H2 H5 s2.heap s6.heap:=(Un.laid k23 (Nat.le_of_eq hD) hD2).trans I6.base
   have fC:H5 s3.heap.objs.size=none:=I6.free
   have IX:Inv X pins σ H5 s6:=I2.call' (s':=s6) (ch:=fp) (by
    have:=I6.os
    rw[← hs3] at this
    exact this) u1 I6.hok I6.bare fun b hb=>by
     obtain⟨_,g1,_,g3,g4,g5⟩:=f2 b hb
     exact⟨g3,g1,g4,g5⟩
   exact fin s3.heap.objs.size D s6 H5 m6 IX (I2.fpOk (by rw[hD3,hD];exact Nat.le_succ _) fC) hn6 q
  ·refine thn (T.item (cxComp X own fr scope fp pins s3 (upd H2 D (.lst []))) rfl rfl rfl hc i [] s5 σ5 H5 Fls I5 (fpS fr5) tn5 go) fun r s6 ⟨u,hr,h6⟩=>.inr ⟨u,hr,thn h6 fun _ s7 ⟨x,H7,I7,r7,y7,tn7,fr7⟩=>?_⟩
   have I7':=I7.pinned (fpS fr7) (T.obj _ _ tn7)
   refine thn (hg fp pins s3 (upd H2 D (.lst [])) _ s7 σ5 H7 x u _ I7' r7 (stp x H7 y7)) fun _ s8 ⟨σ8,H8,I8,q8⟩=>?_
   refine thn (ht fp pins s3 (upd H2 D (.lst [])) _ s8 σ8 H8 _ I8 q8) fun ok s9 ⟨H9,I9,q9⟩=>?_
   have back:∀ {σ':L2.St} {H':Hp} {s':Shared},Inv (cxComp X own fr scope fp pins s3 (upd H2 D (.lst []))) ([]++pinsAt fp s7.heap) σ' H' s'->tn (i + 1) s'.heap∧∀ b ∈ fp,H' b=none:=fun {σ' H' s'} J=>by
    refine⟨T.keep _ _ _ tn7 fun b hb o e=>(J.pin (b,o) (List.mem_append_right _ (List.mem_append_right _ (mem_pinsAt hb e)))).1,fun b hb=>?_⟩
    obtain⟨o,e,_⟩:=T.obj _ _ tn7 b hb
    exact (J.pin (b,o) (List.mem_append_right _ (List.mem_append_right _ (mem_pinsAt hb e)))).2.1
   cases ok with
   | false =>
    rw[if_neg Bool.false_ne_true] at q9
    obtain⟨d9,m',hm,w9⟩:=q9
    rw[if_neg Bool.false_ne_true]
    exact⟨m',hm,i + 1,ys,σ8,H9,I9.unpinned,(back I9).1,(back I9).2,d9,w9⟩
   | true =>
    rw[if_pos rfl] at q9 ⊢
    refine thn (he fp pins s3 (upd H2 D (.lst [])) _ s9 σ8 H9 _ I9 q9) fun xv s10 ⟨v,H10,I10,r10,d10,len,m',hm,w10⟩=>?_
    refine thn (mt_append (X:=cxComp X own fr scope fp pins s3 (upd H2 D (.lst []))) _ s10 σ8 H10 (.ref D) [v] (.ref D) [xv] (fun _ H'=>H'=upd H10 D (.lst (ys++[v]))) I10 rfl (.cons r10 .nil) ⟨D,ys,v,rfl,rfl,d10,len,rfl⟩) fun _ s11 ⟨_,H11,I11,_,e11⟩=>?_
    subst e11
    exact⟨m',hm,i + 1,ys++[v],σ8,_,I11.unpinned,(back I11).1,(back I11).2,upd_same,w10⟩
 exact codeAny_compStart_list loop (T.self X.A 0 _ _ _ tn4 loop)
theorem pe_comp (hc:X.calm=true) (hi:PI X tg iter wi) (hg:∀ fp pins s3 H3,PG (cxComp X own fr scope fp pins s3 H3) tg g) (ht:∀ fp pins s3 H3,PTs (cxComp X own fr scope fp pins s3 H3) ifs tt)
  (he:∀ fp pins s3 H3,PE (cxComp X own fr scope fp pins s3 H3) elt te) (hok:compOk N sc0 scope fr js=true:=by decide +kernel) (hN:X.N=N:=by rfl) (hsc:X.env.scope=sc0:=by rfl)
  (hs:∀ x,foldedSetIterable iter X.env x=pure x:=by intro _;rfl):PE X (.ListComp elt [⟨tg,iter,ifs,0⟩] scope pos) (tComp own js wi g tt te):=by
 intro pins s σ H Q I h
 rw[eval_ListComp]
 refine comp_core hc hi hg ht he hok hN hsc hs I h fun C D s6 H6 m6 I6 f6 n6 q6=>⟨m6,n6,fun h7 sb=>⟨.ref D,H6,?_,rfl,q6⟩⟩
 obtain⟨f0,f1,_,f3,f4,f5⟩:=f6
 exact I6.turned (it:=C) (t':=s6.toks) (fun b o hb e=>sb.extBut b o hb e) f0 f1 f3 f4 f5
/-- name = [..], where the machine stores ahead of letting the block's names go -/
theorem ps_setcomp {i:Nat} {y:Str} {py spos:Pos} (hc:X.calm=true) (hi:PI X tg iter wi) (hg:∀ fp pins s3 H3,PG (cxComp X own fr scope fp pins s3 H3) tg g) (ht:∀ fp pins s3 H3,PTs (cxComp X own fr scope fp pins s3 H3) ifs tt)
  (he:∀ fp pins s3 H3,PE (cxComp X own fr scope fp pins s3 H3) elt te) (hNd:X.N.Nodup) (hy:X.N[i]?=some y) (hx:Loc X.env.scope y) (hok:compOk N sc0 scope fr js=true:=by decide +kernel) (hN:X.N=N:=by rfl) (hsc:X.env.scope=sc0:=by rfl)
  (hsw:swapsWith (.ListComp elt [⟨tg,iter,ifs,0⟩] scope pos) (some (.Name y py)) spos.line X.env=pure true:=by rfl) (hf:X.fn y=true∨X.env.scope.names.lookup y=some .local:=by first | exact .inl rfl | exact .inr rfl | assumption)
  (hs:∀ x,foldedSetIterable iter X.env x=pure x:=by intro _;rfl):PS X (.Assign [.Name y py] (.ListComp elt [⟨tg,iter,ifs,0⟩] scope pos) spos) (tAsg (tComp own js wi g tt te) (gName i)):=by
 intro pins s σ H D I h
 rw[exec_Assign_Name_used _ _ _ _ hsw]
 refine wpAny_bind (wpAny_standAt (wpAny_bind ?_))
 show wpAny _ _ (do let _ ← comprehension (.ListComp elt [⟨tg,iter,ifs,0⟩] scope pos) scope X.env _ (newList []) false (eval iter X.env) (some (assign (.Name y py) X.env))) _ _ s
 refine wpAny_bind (wpAny_mono (comp_core (use:=some (assign (.Name y py) X.env)) (Qo:=fun _ s'=>SP X pins D .next s') hc hi hg ht he hok hN hsc hs I h fun C L s6 H6 m6 I6 f6 n6 q6=>?_) (fun _ s' q=>wpAny_pure (wpAny_pure q)) fun _ _ z=>z)
 obtain⟨f0,f1,f2,f3,f4,f5⟩:=f6
 show wpAny _ _ (assign (.Name y py) X.env (.ref L)) _ _ s6
 refine wpAny_assign_Name (store_ok2 I6 hNd hy hx (v:=.ref L) rfl (fun s7 I7 ⟨a,sb,ha⟩=>?_) hf)
 have ne:C≠a:=by
  rcases ha with e | e
  ·rw[e];exact f1
  ·exact fun z=>f4 y a e z.symm
 refine⟨m6,n6.sameBut sb ne,fun h8 sb8=>⟨σ.set i (some (.ref L)),H6,?_,q6⟩⟩
 exact I7.turned (it:=C) (t':=s7.toks) (fun b o hb e=>sb8.extBut b o hb e) f0 f1 f3 f4 f5
end
end L3
namespace L3
open PySem PySem.Spec PyProof.Rows L2
section
variable {X:Cx} {pins:List (Addr × Obj)} {σ:L2.St} {H H':Hp} {s:Shared} {h':Heap} {ch:List Addr} {t':Nat}
/-- several own records have turned, the abstract heap has grown -/
theorem turnsTo (I:Inv X pins σ H s) (hf:∀ b ∈ ch,FpOk X pins H b) (k:∀ b o,b ∉ ch->s.heap.get? b=some o->h'.get? b=some o) (hH:∀ b u,H b=some u->H' b=some u)
  (hfree:∀ b o,s.heap.get? b=some o->H b=none->H' b=none) (hok:HOk X.prog X.w H' h'):Inv X pins σ H' { s with heap:=h',toks:=t' }:=by
 refine I.step (g':=s.gens) (d':=s.drawn) (ch:=ch) (fun b hb=>?_) (fun b o _ _ hc e _=>k b o hc e) (fun b o _ _ hc e _=>⟨o.slots,k b o hc e⟩) (fun b o _ e n=>hfree b o e n) (fun b o hc e=>⟨o,k b o hc e⟩)
  (fun b xs e=>hH _ _ e) (fun b o u e=>hH _ _ e) (fun b ps e=>⟨#[],by rw[hH _ _ e];simp⟩) (fun m hm=>?_) hok I.bare
 ·obtain⟨_,f1,_,f3,f4,f5⟩:=hf b hb
  exact⟨f3,f1,f4,f5⟩
 ·obtain⟨o,es,ep,ho,r⟩:=hm
  exact⟨o,es,ep,k _ o (fun z=>(hf _ z).2.1 rfl) ho,r⟩
theorem turns (I:Inv X pins σ H s) (hf:∀ b ∈ ch,FpOk X pins H b) (k:∀ b o,b ∉ ch->s.heap.get? b=some o->h'.get? b=some o):Inv X pins σ H { s with heap:=h',toks:=t' }:=by
 refine turnsTo I hf k (fun _ _ e=>e) (fun _ _ _ n=>n) fun b u e=>?_
 refine (I.hok b u e).stay (fun c v hc q=>k c v (fun z=>?_) q) (fun _ q=>q) fun _ _ q=>q
 have n:=(hf c z).1
 rcases hc with rfl | hc
 ·rw[n] at e;cases e
 ·rw[n] at hc;cases hc
end
def SqX (t:Bool) (K:PySem.W.Frag) (H:Hp) (a:Addr) (xs:List V):Prop:=if t=true then SqT K H a xs else SqL K H a xs
section
variable {X:Cx} {pins:List (Addr × Obj)} {σ:L2.St} {H:Hp} {s:Shared} {a:Addr} {xs ys:List V} {t:Bool}
end
section
variable {X:Cx} {pos:Pos}
def gLst (K:PySem.W.Frag) (n:Nat) (t:TGs):TG:=fun v σ H Q=>∃ a xs,v=.ref a∧SqL K H a xs∧xs.length=n∧t xs σ H Q
theorem pg_lst {es:List Expr} {k:Nat} {t:TGs} {n:Nat} (hc:X.calm=true) (h:PGs X es t) (hn:(assignEach es X.env).length=n:=by rfl) (hst:(assignEach es X.env).findIdx? (·.1)=none:=by rfl):PG X (.Tuple es k pos) (gLst X.K n t):=by
 intro pins s σ H v u Q I r hw
 obtain⟨a,xs,e1,hq,hl,hw⟩:=hw
 subst e1
 cases r
 obtain⟨its,rv,ht,hz⟩:=I.list hq
 refine U3.assign_tuple_lst (I.ok.hd hc) ht.isList (by simp [hn,← hl,rv.length]) hst fun h' hx=>?_
 have I1:Inv X pins σ H { s with heap:=h' }:=I.kept (t':=s.toks) fun b o e=>hx b o (Nat.ne_of_lt (Heap.lt_size e)) e
 exact h pins _ σ H xs _ Q I1 (by simpa using rv) hw
theorem truth_bl {prog:Program} {w:World} {A:Around} {bs:List Bool} {its:List Value} (r:Vals (bs.map V.bl) its):TruthOf prog w A (fun i v=>its.toArray[i]?=some v) (fun i=>bs.getD i true):=by
 intro i v s Q E hP hq
 have hP':its[i]?=some v:=by simpa using hP
 have hl:=r.length
 have hi:i < its.length:=(List.getElem?_eq_some_iff.mp hP').1
 have hb:i < bs.length:=by rw[List.length_map] at hl;omega
 obtain⟨u,hu,ru⟩:=r.get (i:=i) (x:=V.bl bs[i]) (by rw[List.getElem?_map,List.getElem?_eq_getElem hb];rfl)
 rw[hP'] at hu
 cases hu
 have e:v=Value.bool bs[i]:=ru
 subst e
 have e2:bs.getD i true=bs[i]:=by simp [List.getD,hb]
 have hq':Q (bs.getD i true) s:=hq
 rw[e2] at hq'
 exact wpAny_truthy_bool hq'
theorem all_range (bs:List Bool):((List.range bs.length).all fun i=>bs.getD i true)=bs.all id:=by
 rw[Bool.eq_iff_iff,List.all_eq_true,List.all_eq_true]
 constructor
 ·intro h b hb
  obtain⟨i,hi,e⟩:=List.getElem_of_mem hb
  have:=h i (List.mem_range.mpr hi)
  rw[← e]
  simpa [List.getD,hi] using this
 ·intro h i hi
  have hi':=List.mem_range.mp hi
  have:=h bs[i] (List.getElem_mem hi')
  simpa [List.getD,hi'] using this
theorem call_all (hh:X.calm=true):CallR X (.builtin "all") (fun xs H Q=>∃ (p:Addr) (bs:List Bool),xs=[.ref p]∧SqL X.K H p (bs.map V.bl)∧Q (.bl (bs.all id)) H):=by
 intro pins s σ H xs us Q I r h
 obtain⟨p,bs,rfl,hq,q⟩:=h
 obtain⟨u,rfl,rx⟩:=vals1 r
 cases rx
 obtain⟨its,rv,pl,hz⟩:=I.list hq
 have hl:=rv.length
 have lt:p≠s.heap.objs.size:=by obtain⟨o,e,_⟩:=pl.isList;exact Nat.ne_of_lt (Heap.lt_size e)
 refine call_all_walk (wpAny_pyIter_list pl.isList ?_)
 have W:=Walks.list (prog:=X.prog) (w:=X.w) (A:=X.A.in1) (show X.A.in1.handled=none from I.ok.hd hh) s.heap.objs.size p lt its.toArray
 refine⟨s.heap.objs.size,_,_,_,_,_,_,rfl,W,⟨⟨_,Heap.get?_push_size _ rfl,rfl,rfl⟩,pl.isList.push _⟩,truth_bl rv,fun h' tk hk=>?_⟩
 refine⟨.bl (bs.all id),H,I.kept (t':=tk) fun b o e=>hk b o (fun z=>?_) (Heap.get?_push_of_some _ e),?_,q⟩
 ·have:b=s.heap.objs.size:=by simpa using z
  exact absurd (Heap.lt_size e) (by rw[this];exact Nat.lt_irrefl _)
 ·show Value.bool _=Value.bool _
  have e1:its.toArray.size=bs.length:=by rw[List.size_toArray,← hl,List.length_map]
  rw[e1,all_range]
theorem call_isi {n:String}:CallR X (.builtin "isinstance") (fun xs H Q=>∃ x t b,xs=[x,.ty n]∧TyOf X.K H x t∧PySem.W.kitOne X.K t (.type n)=some b∧Q (.bl b) H):=by
 intro pins s σ H xs us Q I r h
 obtain⟨x,t,b,rfl,ty,e,q⟩:=h
 obtain⟨u,c,rfl,ru,rc⟩:=r.two
 cases rc
 exact isinst_ok I ru ty e fun tk=>⟨.bl b,H,I.tok tk,rfl,q⟩
variable {a b c d:Expr} {ta tb tc td:TE}
end
end L3
namespace L3
open PySem PySem.Spec PyProof.Rows L2
mutual
def Is (K:PySem.W.Frag) (H:Hp):PyData->V->Prop
 | .none,v=>v=.non
 | .bool b,v=>v=.bl b
 | .int i,v=>v=.int i
 | .str x,v=>v=.str x
 | .tuple ds,v=>∃ p vs,v=.ref p∧H p=some (.tup vs)∧IsAll K H ds vs
 | .list ds,v=>∃ p vs,v=.ref p∧H p=some (.lst vs)∧IsAll K H ds vs
 | .dict kvs,v=>kvs=[]∧∃ p,v=.ref p∧H p=some (.dK [])
def IsAll (K:PySem.W.Frag) (H:Hp):List PyData->List V->Prop
 | [],vs=>vs=[]
 | d::ds,vs=>∃ v r,vs=v::r∧Is K H d v∧IsAll K H ds r
end
section
variable {K:PySem.W.Frag} {H H':Hp}
mutual
theorem Is.same (e:Same H H'):∀ (d:PyData) {v:V},Is K H d v->Is K H' d v
 | .none,_,h=>h
 | .bool _,_,h=>h
 | .int _,_,h=>h
 | .str _,_,h=>h
 | .tuple ds,_,h=>let ⟨p,vs,q1,q2,q3⟩:=h;⟨p,vs,q1,e _ _ q2,IsAll.same e ds q3⟩
 | .list ds,_,h=>let ⟨p,vs,q1,q2,q3⟩:=h;⟨p,vs,q1,e _ _ q2,IsAll.same e ds q3⟩
 | .dict kvs,_,h=>let ⟨q0,p,q1,q2⟩:=h;⟨q0,p,q1,e _ _ q2⟩
theorem IsAll.same (e:Same H H'):∀ (ds:List PyData) {vs:List V},IsAll K H ds vs->IsAll K H' ds vs
 | [],_,h=>h
 | d::ds,_,h=>let ⟨v,r,q1,q2,q3⟩:=h;⟨v,r,q1,Is.same e d q2,IsAll.same e ds q3⟩
end
theorem IsAll.length:∀ {ds:List PyData} {vs:List V},IsAll K H ds vs->vs.length=ds.length
 | [],_,h=>by rw[show _=[] from h];rfl
 | d::ds,_,⟨v,r,q1,q2,q3⟩=>by rw[q1,List.length_cons,List.length_cons,IsAll.length q3]
theorem IsAll.get:∀ {ds:List PyData} {vs:List V} {i:Nat} {d:PyData},IsAll K H ds vs->ds[i]?=some d->∃ v,vs[i]?=some v∧Is K H d v
 | [],_,_,_,_,e=>by simp at e
 | d::ds,_,0,d',⟨v,r,q1,q2,q3⟩,e=>by
  have e':d=d':=by simpa using e
  subst e';subst q1;exact⟨v,rfl,q2⟩
 | d::ds,_,i + 1,_,⟨v,r,q1,q2,q3⟩,e=>by
  subst q1
  obtain⟨u,h1,h2⟩:=IsAll.get (i:=i) q3 (by simpa using e)
  exact⟨u,by simpa using h1,h2⟩
theorem IsAll.get':∀ {ds:List PyData} {vs:List V} {i:Nat} {v:V},IsAll K H ds vs->vs[i]?=some v->∃ d,ds[i]?=some d∧Is K H d v
 | [],_,i,v,h,e=>by rw[show _=[] from h] at e;simp at e
 | d::ds,_,0,v,⟨u,r,q1,q2,q3⟩,e=>by
  subst q1
  have e':u=v:=by simpa using e
  subst e';exact⟨d,rfl,q2⟩
 | d::ds,_,i + 1,v,⟨u,r,q1,q2,q3⟩,e=>by
  subst q1
  obtain⟨d',h1,h2⟩:=IsAll.get' (i:=i) q3 (by simpa using e)
  exact⟨d',by simpa using h1,h2⟩
theorem IsAll.of:∀ {ds:List PyData} {vs:List V},vs.length=ds.length->(∀ (i:Nat) (d:PyData) (v:V),ds[i]?=some d->vs[i]?=some v->Is K H d v)->IsAll K H ds vs
 | [],[],_,_=>rfl
 | [],_::_,h,_=>by simp at h
 | _::_,[],h,_=>by simp at h
 | d::ds,v::vs,h,q=>⟨v,vs,rfl,q 0 d v rfl rfl,IsAll.of (by simpa using h) fun i d' v' h1 h2=>q (i + 1) d' v' (by simpa using h1) (by simpa using h2)⟩
theorem IsAll.append:∀ {ds es:List PyData} {vs us:List V},IsAll K H ds vs->IsAll K H es us->IsAll K H (ds++es) (vs++us)
 | [],_,_,_,h,q=>by rw[show _=[] from h];exact q
 | d::ds,_,_,_,⟨v,r,q1,q2,q3⟩,q=>⟨v,r++_,by rw[q1];rfl,q2,IsAll.append q3 q⟩
theorem IsAll.ints (ns:List Int):IsAll K H (ns.map .int) (ns.map V.int):=by
 refine IsAll.of (by simp) fun i d v h1 h2=>?_
 rw[List.getElem?_map] at h1 h2
 cases e:ns[i]? with
 | none=>rw[e] at h1;cases h1
 | some n=>rw[e] at h1 h2;cases h1;cases h2;exact rfl
theorem IsAll.of_ints:∀ {ns:List Int} {vs:List V},IsAll K H (ns.map .int) vs->vs=ns.map V.int
 | [],_,h=>h
 | n::ns,_,⟨v,r,q1,q2,q3⟩=>by
  have e:v=.int n:=q2
  rw[q1,e,IsAll.of_ints q3];rfl
end
section
variable {X:Cx} {pins:List (Addr × Obj)} {σ:L2.St} {H:Hp} {s:Shared}
mutual
theorem reads_of (I:Inv X pins σ H s):∀ (d:PyData) {v:V} {u:Value},Is X.K H d v->RelV v u->∃ as,Reads s.heap u d as
 | .none,_,_,h,r=>by
  have e:_=V.non:=h
  subst e;cases r;exact⟨_,.none⟩
 | .bool b,_,_,h,r=>by
  have e:_=V.bl b:=h
  subst e;cases r;exact⟨_,.bool b⟩
 | .int i,_,_,h,r=>by
  have e:_=V.int i:=h
  subst e;obtain⟨t,rfl⟩:=r;exact⟨_,.int i t⟩
 | .str x,_,_,h,r=>by
  have e:_=V.str x:=h
  subst e;obtain⟨t,rfl⟩:=r;exact⟨_,.str x t⟩
 | .tuple ds,_,_,h,r=>by
  obtain⟨p,vs,rfl,q2,q3⟩:=(show ∃ p vs,_=V.ref p∧H p=some (.tup vs)∧IsAll X.K H ds vs from h)
  cases r
  obtain⟨its,rv,⟨o,e1,e2,n,e3⟩,_⟩:=I.tuple (SqT.of q2)
  obtain⟨as,ra⟩:=readsAll_of I ds q3 rv
  exact⟨_,.tuple e1 e2 e3 (by simpa using ra)⟩
 | .list ds,_,_,h,r=>by
  obtain⟨p,vs,rfl,q2,q3⟩:=(show ∃ p vs,_=V.ref p∧H p=some (.lst vs)∧IsAll X.K H ds vs from h)
  cases r
  obtain⟨its,rv,⟨o,n,e1,e2,_,e3⟩,_⟩:=I.list (SqL.of q2)
  obtain⟨as,ra⟩:=readsAll_of I ds q3 rv
  exact⟨_,.list e1 e2 e3 (by simpa using ra)⟩
 | .dict kvs,_,_,h,r=>by
  obtain⟨e0,p,rfl,q2⟩:=(show kvs=[]∧∃ p,_=V.ref p∧H p=some (.dK []) from h)
  subst e0
  cases r
  obtain⟨_,_,vs,kv,o,es,ep,g1,g2,g3,_,g4,_⟩:=(show ObjOk X.prog X.w H s.heap p (.dK []) from I.hok p _ q2)
  cases kv
  have e1:es.toList=[]:=by cases h:es.toList with
   | nil=>rfl
   | cons x r=>rw[h] at g4;cases g4
  exact⟨_,.dict g1 g2.1 g3 (by rw[e1];exact .nil) (by rw[e1];exact .nil)⟩
theorem readsAll_of (I:Inv X pins σ H s):∀ (ds:List PyData) {vs:List V} {us:List Value},IsAll X.K H ds vs->Vals vs us->∃ as,ReadsAll s.heap us ds as
 | [],_,_,h,r=>by
  have e:_=[]:=h
  subst e;cases r;exact⟨_,.nil⟩
 | d::ds,_,_,h,r=>by
  obtain⟨v,vr,rfl,q2,q3⟩:=(show ∃ v r,_=v::r∧Is X.K H d v∧IsAll X.K H ds r from h)
  cases r with
  | cons r1 r2 =>
   obtain⟨as,a1⟩:=reads_of I d q2 r1
   obtain⟨bs,a2⟩:=readsAll_of I ds q3 r2
   exact⟨_,.cons a1 a2⟩
end
/-- == and != of data -/
theorem op_eqD:OpR X (compareOp .Eq) (fun x y H Q=>∃ da db,Is X.K H da x∧Is X.K H db y∧da.canLay0=true∧db.canLay0=true∧X.A.units + min da.depth db.depth < cLine∧Q (.bl (PyData.eqv da db)) H):=by
 intro pins s σ H x y v u Q I rx ry h
 obtain⟨da,db,h1,h2,c1,c2,hu,q⟩:=h
 obtain⟨as,ra⟩:=reads_of I da h1 rx
 obtain⟨bs,rb⟩:=reads_of I db h2 ry
 exact SeqAt.compareEq_reads ra rb c1 c2 hu (fin_bl I q rfl)
theorem op_neD:OpR X (compareOp .NotEq) (fun x y H Q=>∃ da db,Is X.K H da x∧Is X.K H db y∧da.canLay0=true∧db.canLay0=true∧X.A.units + min da.depth db.depth < cLine∧Q (.bl (!PyData.eqv da db)) H):=by
 intro pins s σ H x y v u Q I rx ry h
 obtain⟨da,db,h1,h2,c1,c2,hu,q⟩:=h
 obtain⟨as,ra⟩:=reads_of I da h1 rx
 obtain⟨bs,rb⟩:=reads_of I db h2 ry
 exact SeqAt.compareNe_reads ra rb c1 c2 hu (fin_bl I q rfl)
theorem getD_rel {ys:List V} {its:List Value} (r:Vals ys its) {i:Nat} (hi:i < ys.length):RelV (ys.getD i .non) (its.getD i .none):=by
 have hl:=r.length
 obtain⟨u,hu,ru⟩:=r.get (i:=i) (x:=ys[i]) (List.getElem?_eq_getElem hi)
 have e1:ys.getD i .non=ys[i]:=by simp [List.getD,hi]
 have e2:its.getD i .none=u:=by simp [List.getD,hu]
 rw[e1,e2];exact ru
theorem vals_out {ys:List V} {its:List Value} (r:Vals ys its):∀ (l:List Nat),(∀ i ∈ l,i < ys.length)->Vals (l.map fun i=>ys.getD i .non) (l.map fun i=>its.getD i Value.none)
 | [],_=>.nil
 | i::l,h=>.cons (getD_rel r (h i List.mem_cons_self)) (vals_out r l fun j hj=>h j (List.mem_cons_of_mem _ hj))
theorem gd_mem {n:Nat} {p:Array Nat} (g:Srt.Gd n p):∀ i ∈ p.toList,i < n:=fun i hi=>by
 have:=g.mem_iff.mp (Array.mem_toList_iff.mp hi)
 simpa using this
theorem gd_perm {α:Type} {n:Nat} {p:Array Nat} (g:Srt.Gd n p) (f:Nat->α):(p.toList.map f).Perm ((List.range n).map f):=by
 have h:=Array.perm_iff_toList_perm.mp g
 exact (by simpa using h:p.toList.Perm (List.range n)).map f
theorem up_pair {n:Nat} {p:Array Nat} {r:Nat->Int} {R:Nat->Nat->Prop} (g:Srt.Gd n p) (u:Srt.Up r p n) (h:∀ i j,i < n->j < n->r i≤r j->R i j):p.toList.Pairwise R:=by
 rw[List.pairwise_iff_getElem]
 intro i j hi hj hij
 have sz:=g.sz
 have hi':i < p.size:=by simpa using hi
 have hj':j < p.size:=by simpa using hj
 have q:=u i j (Nat.le_of_lt hij) (by omega)
 have e:∀ k (hk:k < p.size),p.getD k 0=p[k]:=fun k hk=>by simp [Array.getD,hk]
 unfold Srt.ky at q
 rw[e i hi',e j hj'] at q
 have m:∀ k (hk:k < p.size),p[k] < n:=fun k hk=>gd_mem g _ (by simp)
 have:=h p[i] p[j] (m i hi') (m j hj') q
 simpa using this
theorem range_getD {α:Type} (l:List α) (d:α):(List.range l.length).map (fun i=>l.getD i d)=l:=by
 refine List.ext_getElem (by simp) fun i h1 h2=>?_
 simp [List.getD,h2]
theorem call_sortedI:CallR X (.builtin "sorted") (fun xs H Q=>∃ p ns,xs=[.ref p]∧SqL X.K H p (ns.map V.int)∧ns.length < 64∧∀ ms:List Int,ms.Perm ns->ms.Pairwise (·≤·)->∀ l,H l=none->Q (.ref l) (upd H l (.lst (ms.map V.int)))):=by
 intro pins s σ H xs us Q I r h
 obtain⟨p,ns,rfl,hq,h64,q⟩:=h
 obtain⟨u,rfl,rx⟩:=vals1 r
 cases rx
 obtain⟨its,rv,pl,hz⟩:=I.list hq
 have hl:=rv.length
 rw[List.length_map] at hl
 have hI:IntsAre its ns:=intsAre_of rv
 have line:(64:Nat)≤sizeLine:=by rw[sizeLine_eq];decide
 refine Srt.sorted_by (r:=fun i=>ns.getD i 0) (κ:=oneType') pl.isList (by omega) (fun h2 A' s' Q' _ q'=>Srt.int_kind hI h2 q') (fun A' s' i j C _ hi hj q'=>Srt.int_ask hI hi hj q') fun pp h' c g u kp e=>?_
 have g':Srt.Gd ns.length pp:=by rw[hl];exact g
 have u':Srt.Up (fun i=>ns.getD i 0) pp ns.length:=by rw[hl];exact u
 have pm:(pp.toList.map fun i=>ns.getD i 0).Perm ns:=by
  have:=gd_perm g' fun i=>ns.getD i 0
  rw[range_getD] at this
  exact this
 have pw:(pp.toList.map fun i=>ns.getD i 0).Pairwise (·≤·):=by
  rw[List.pairwise_map]
  exact up_pair g' u' fun i j _ _ z=>z
 have fr:H (s.heap.objs.size + 1)=none:=I.hok.fresh (Nat.le_succ _)
 have ev:((pp.toList.map fun i=>ns.getD i 0).map V.int)=pp.toList.map fun i=>(ns.map V.int).getD i .non:=by
  rw[List.map_map]
  refine List.map_congr_left fun i hi=>?_
  have:=gd_mem g' i hi
  simp [List.getD,this]
 refine⟨.ref (s.heap.objs.size + 1),_,I.laid (a:=s.heap.objs.size + 1) (o:=.lst ((pp.toList.map fun i=>ns.getD i 0).map V.int)) (t':=s.toks) kp (Nat.le_succ _) ⟨?_,Srt.outOf its pp,c,?_,e⟩,rfl,q _ pm pw _ fr⟩
 ·have:=pm.length_eq
  rw[List.length_map,this];omega
 ·rw[ev]
  exact vals_out rv pp.toList fun i hi=>by rw[List.length_map];exact gd_mem g' i hi
theorem call_sortedT:CallR X (.builtin "sorted") (fun xs H Q=>∃ p ys ks,xs=[.ref p]∧SqL X.K H p ys∧ys.length < 64∧Paired (fun (y:V) (k:List Int)=>∃ a,y=.ref a∧SqT X.K H a (k.map V.int)) ys ks∧(∀ k ∈ ks,k≠[]) ∧
  ∀ qs:List (V × List Int),qs.Perm (ys.zip ks)->qs.Pairwise (fun a b=>Srt.lexI b.2 a.2=false)->∀ l,H l=none->Q (.ref l) (upd H l (.lst (qs.map (·.1))))):=by
 intro pins s σ H xs us Q I r h
 obtain⟨p,ys,ks,rfl,hq,h64,hp,hne,q⟩:=h
 obtain⟨u,rfl,rx⟩:=vals1 r
 cases rx
 obtain⟨its,rv,pl,hz⟩:=I.list hq
 have hl:=rv.length
 have hlk:ys.length=ks.length:=Paired.length hp
 have line:(64:Nat)≤sizeLine:=by rw[sizeLine_eq];decide
 have hT:∀ {ys:List V} {ks:List (List Int)} {its:List Value},Paired (fun (y:V) (k:List Int)=>∃ a,y=.ref a∧SqT X.K H a (k.map V.int)) ys ks->Vals ys its->Paired (Srt.TupI s.heap) its ks:=by
  intro ys ks its hp
  induction hp generalizing its with
  | nil=>intro rv;cases rv;exact .nil
  | cons r t ih =>
   intro rv
   cases rv with
   | cons r1 r2 =>
    refine .cons ?_ (ih r2)
    obtain⟨a,rfl,qa⟩:=r
    cases r1
    obtain⟨its',rv',⟨o,e1,e2,n,e3⟩,_⟩:=I.tuple qa
    exact⟨a,o,its'.toArray,n,rfl,e1,e2,e3,by simpa using intsAre_of rv'⟩
 have tp:=hT hp rv
 have mono:∀ {h':Heap},(∀ b o,s.heap.get? b=some o->h'.get? b=some o)->Paired (Srt.TupI h') its ks:=fun k=>Paired.mapP tp fun v k' z=>z.to k
 refine Srt.sorted_by (r:=Srt.rank its.length fun i j=>Srt.lexI (ks.getD i []) (ks.getD j [])) (κ:=tuples' true) pl.isList (by omega) (fun h2 A' s' Q' k q'=>Srt.tup_kind (mono k) hne h2 q')
  (fun A' s' i j C k hi hj q'=>Srt.tup_ask (mono k) hi hj (by rw[Srt.rank_lt (lt:=fun i j=>Srt.lexI (ks.getD i []) (ks.getD j [])) (fun i=>Srt.lexI_irr _) (fun _ _ _ _ _ _=>Srt.lexI_trans _ _ _) (fun _ _ _ _ _ _=>Srt.lexI_neg _ _ _) hi hj] at q';exact q')) fun pp h' c g u kp e=>?_
 have fr:H (s.heap.objs.size + 1)=none:=I.hok.fresh (Nat.le_succ _)
 have pm:(pp.toList.map fun i=>(ys.getD i .non,ks.getD i [])).Perm (ys.zip ks):=by
  have h1:=gd_perm g fun i=>(ys.getD i V.non,ks.getD i [])
  have e1:(List.range its.length).map (fun i=>(ys.getD i V.non,ks.getD i []))=ys.zip ks:=by
   refine List.ext_getElem (by simp;omega) fun i h1 h2=>?_
   have hi:i < its.length:=by simpa using h1
   have a1:i < ys.length:=by omega
   have a2:i < ks.length:=by omega
   simp [List.getD,a1,a2]
  rw[e1] at h1
  exact h1
 have pw:(pp.toList.map fun i=>(ys.getD i V.non,ks.getD i [])).Pairwise (fun a b=>Srt.lexI b.2 a.2=false):=by
  rw[List.pairwise_map]
  refine up_pair g u fun i j hi hj z=>?_
  have w:=Srt.rank_lt (n:=its.length) (lt:=fun i j=>Srt.lexI (ks.getD i []) (ks.getD j [])) (fun i=>Srt.lexI_irr _) (fun _ _ _ _ _ _=>Srt.lexI_trans _ _ _) (fun _ _ _ _ _ _=>Srt.lexI_neg _ _ _) hj hi
  rw[decide_eq_false (by omega)] at w
  exact w.symm
 have ev:(pp.toList.map fun i=>(ys.getD i V.non,ks.getD i [])).map (·.1)=pp.toList.map fun i=>ys.getD i V.non:=by
  rw[List.map_map];rfl
 refine⟨.ref (s.heap.objs.size + 1),_,I.laid (a:=s.heap.objs.size + 1) (o:=.lst ((pp.toList.map fun i=>(ys.getD i V.non,ks.getD i [])).map (·.1))) (t':=s.toks) kp (Nat.le_succ _) ⟨?_,Srt.outOf its pp,c,?_,e⟩,rfl,q _ pm pw _ fr⟩
 ·have:=pm.length_eq
  rw[List.length_map,this,List.length_zip];omega
 ·rw[ev]
  exact vals_out rv pp.toList fun i hi=>by have:=gd_mem g i hi;omega
end
end L3
namespace L3
open PySem PySem.Spec PyProof.Rows L2
def Ok (P:Program) (w:World) (K:PySem.W.Frag) (mg:Str->Option Value) (base:Heap) (k:Nat) (x:Str) (ps:List Str) (sp:Sp):Prop :=
 ∃ (f:Addr) (fd:FuncData),FnOk P w K mg base CX0 k f fd ps sp∧Binds K fd ps []∧PySem.W.keepIn K (.ref f)=true∧mg x=some (.ref f)
def DefOk (K:PySem.W.Frag) (mg:Str->Option Value) (x:Str) (st:Stmt) (ps:List Str):Prop :=
 ∃ (f:Addr) (fd:FuncData),Fun K x x st f fd∧Binds K fd ps []∧mg x=some (.ref f)
section
variable {P:Program} {w:World} {K:PySem.W.Frag} {mg:Str->Option Value} {base:Heap} {x:Str} {ps N:List Str} {sp sp':Sp} {k:Nat} {st:Stmt}
theorem Ok.mono {j:Nat} (O:Ok P w K mg base j x ps sp) (h:j≤k):Ok P w K mg base k x ps sp:=let ⟨f,fd,F,r⟩:=O;⟨f,fd,F.mono h,r⟩
theorem Ok.imp (O:Ok P w K mg base k x ps sp) (h:∀ vs H Q E,sp' vs H Q E->sp vs H Q E):Ok P w K mg base k x ps sp':=let ⟨f,fd,F,r⟩:=O;⟨f,fd,F.imp h,r⟩
theorem mk_ok (D:DefOk K mg x st ps) (S:FnScope N ps (defScope st)) (len:∀ vs H Q E,sp vs H Q E->vs.length=ps.length)
  (hbody:∀ (f:Addr) (cdv:Value) (A:Around) (outer:List Env) (s:Shared) (H:Hp) (vs:List V) (Q:VK) (E:XK),Room k (A.deeper (envOfC x (defScope st) s.heap.objs.size f cdv))->sp vs H Q E ->
   ∃ t,PSs (cxOf CX0 P w K mg base N x (defScope st) f cdv A outer s H E).nox (defBody st) t∧t { nx:=fun _ H'=>Q .non H',rt:=Q } (start N vs) H):Ok P w K mg base (k + 1) x ps sp:=by
 obtain⟨f,fd,F,b,m⟩:=D
 exact⟨f,fd,F.ok S len (fun cdv A outer s H vs Q E hr h=>hbody f cdv A outer s H vs Q E hr h),b,F.kp,m⟩
theorem pe_callD {X:Cx} {p pos:Pos} {e:Expr} {es:List Expr} {t:TA} (O:Ok X.prog X.w X.K X.mg X.base k x ps sp) (hr:Room k X.A) (hg:Gl X x) (ha:PA X (e::es) t)
  (hdb:(x == ("__debug__":Str))=false:=by decide) (he:starEach (e::es) X.env=(false,eval e X.env)::starEach es X.env:=by rfl) (hpl:(backTo pos (starEach es X.env)).any (·.1)=false:=by rfl) :
  PE X (.Call (.Name x p) (e::es) [] pos) (tCall sp [] E0 t):=by
 obtain⟨f,fd,F,b,kp,m⟩:=O
 exact pe_call F hr hg m kp b .nil pass0 ha hdb he hpl
end
/-- the built-ins' names are not taken -/
structure Bi (mg:Str->Option Value):Prop where
 z_len:mg "len"=none
 z_range:mg "range"=none
 z_zip:mg "zip"=none
 z_all:mg "all"=none
 z_sorted:mg "sorted"=none
 z_isinstance:mg "isinstance"=none
 z_min:mg "min"=none
 z_max:mg "max"=none
 z_tuple:mg "tuple"=none
 z_list:mg "list"=none
 z_int:mg "int"=none
 z_bool:mg "bool"=none
 z_str:mg "str"=none
 z_enumerate:mg "enumerate"=none
 z_sum:mg "sum"=none
 z_abs:mg "abs"=none
 z_set:mg "set"=none
 z_reversed:mg "reversed"=none
 z_any:mg "any"=none
 z_repr:mg "repr"=none
 z_dict:mg "dict"=none
def But (p:Addr) (H H':Hp):Prop:=∀ b o,b≠p->H b=some o->H' b=some o
section
variable {K:PySem.W.Frag} {H H1 H2:Hp} {p a:Addr} {o:HO} {xs ys:List V}
theorem But.refl:But p H H:=fun _ _ _ h=>h
theorem But.trans (a:But p H H1) (b:But p H1 H2):But p H H2:=fun c o n h=>b c o n (a c o n h)
theorem But.upd:But p H (upd H p o):=fun b u n h=>by rw[upd_ne n];exact h
theorem Same.but (h:Same H H1):But p H H1:=fun b o _ q=>h b o q
theorem But.new (h:H a=none):But p H (L2.upd H a o):=fun b u _ q=>by rw[upd_ne (ne_of_none q h)];exact q
theorem same_new (h:H a=none):Same H (upd H a o):=fun b u q=>by rw[upd_ne (ne_of_none q h)];exact q
theorem But.free (h:But p H H1) (q:H1 a=none) (hp:H p=some o) (hp1:H1 p=some (.lst xs)):H a=none:=by
 cases e:H a with
 | none=>rfl
 | some u =>
  by_cases z:a=p
  ·subst z;rw[hp1] at q;cases q
  ·rw[h a u z e] at q;cases q
theorem But.tup (h:But p H H1) (hp:H p=some (.lst xs)) (q:SqT K H a ys):SqT K H1 a ys:=by
 rcases q with (q | ⟨o,q⟩) | q
 ·exact .inl (.inl (h _ _ (fun z=>by subst z;rw[hp] at q;cases q) q))
 ·exact .inl (.inr ⟨o,h _ _ (fun z=>by subst z;rw[hp] at q;cases q) q⟩)
 ·exact .inr q
end
mutual
def tupD:PyData->Bool
 | .none | .bool _ | .int _ | .str _=>true
 | .tuple ds=>tupAll ds
 | .list _ | .dict _=>false
def tupAll:List PyData->Bool
 | []=>true
 | d::ds=>tupD d && tupAll ds
end
mutual
theorem Is.but {K:PySem.W.Frag} {H H':Hp} {p:Addr} {xs:List V} (e:But p H H') (hp:H p=some (.lst xs)):∀ (d:PyData) {v:V},tupD d=true->Is K H d v->Is K H' d v
 | .none,_,_,h=>h
 | .bool _,_,_,h=>h
 | .int _,_,_,h=>h
 | .str _,_,_,h=>h
 | .tuple ds,_,t,h=>let ⟨q,vs,q1,q2,q3⟩:=h;⟨q,vs,q1,e _ _ (fun z=>by subst z;rw[hp] at q2;cases q2) q2,IsAll.but e hp ds t q3⟩
 | .list ds,_,t,h=>by cases t
 | .dict _,_,t,h=>by cases t
theorem IsAll.but {K:PySem.W.Frag} {H H':Hp} {p:Addr} {xs:List V} (e:But p H H') (hp:H p=some (.lst xs)):∀ (ds:List PyData) {vs:List V},tupAll ds=true->IsAll K H ds vs->IsAll K H' ds vs
 | [],_,_,h=>h
 | d::ds,_,t,h=>by
  have t':(tupD d && tupAll ds)=true:=t
  rw[Bool.and_eq_true] at t'
  obtain⟨v,r,q1,q2,q3⟩:=h
  exact⟨v,r,q1,Is.but e hp d t'.1 q2,IsAll.but e hp ds t'.2 q3⟩
end
/-- a pot: its two numbers -/
def Pot (H:Hp) (p:Addr):Prop:=∃ a b:Int,H p=some (.lst [.int a,.int b])∧0≤a∧0≤b∧b < 2147483647
theorem Pot.lst {H:Hp} {p:Addr} (h:Pot H p):∃ xs,H p=some (.lst xs):=let ⟨a,b,e,_⟩:=h;⟨_,e⟩
def spPot (K:PySem.W.Frag):Sp:=fun vs H Q _=>∃ a k,∃ ns:List Int,vs=[.ref a,.int k]∧SqL K H a (ns.map V.int)∧0≤k∧k≤100∧∀ l H',Same H H'->H l=none->Pot H' l->Q (.ref l) H'
def spTake:Sp:=fun vs H Q _=>∃ p m,vs=[.ref p,.int m]∧Pot H p∧0 < m∧m < 1073741824∧∀ r H',0≤r->r < m->But p H H'->Pot H' p->Q (.int r) H'
def spLength:Sp:=fun vs H Q _=>∃ p y,vs=[.ref p,.int y]∧Pot H p∧0≤y∧y < 5∧∀ r H',1≤r->r≤10 ^ 18->But p H H'->Pot H' p->Q (.int r) H'
def spTied:Sp:=fun vs H Q _=>∃ p n y a b,vs=[.ref p,.int n,.int y,.int a,.int b]∧Pot H p∧∀ k H',But p H H'->Pot H' p->Q (.bl k) H'
def spOrder:Sp:=fun vs H Q _=>∃ p m,vs=[.ref p,.int m]∧Pot H p∧0≤m∧m≤1000∧∀ l H' (ms:List Int),But p H H'->Pot H' p->H l=none->l≠p->H' l=some (.lst (ms.map V.int))->ms.Perm ((List.range m.toNat).map fun i:Nat=>(i:Int))->Q (.ref l) H'
abbrev Tie:=Int × Int × Int
def tieI (t:Tie):List Int:=[t.1,t.2.1,t.2.2]
def tieD (t:Tie):PyData:=.tuple ((tieI t).map .int)
def webD (n:Int) (ties:List Tie):PyData:=.tuple [.int n,.tuple (ties.map tieD)]
/-- less by its ends -/
def endLt (s t:Tie):Prop:=s.1 < t.1∨(s.1=t.1∧s.2.1 < t.2.1)
structure WebOk (n:Int) (ties:List Tie):Prop where
 n1:1≤n
 n24:n≤24
 rise:ties.Pairwise endLt
 few:ties.length≤60
 tie:∀ t ∈ ties,0≤t.1∧t.1 < t.2.1∧t.2.1 < n∧1≤t.2.2∧t.2.2≤10 ^ 18
def spWeb (K:PySem.W.Frag):Sp:=fun vs H Q _=>∃ p m,vs=[.ref p,.int m]∧Pot H p∧1≤m∧m≤24∧∀ v H' n ties,But p H H'->Pot H' p->WebOk n ties->n≤m->Is K H' (webD n ties) v->Q v H'
end L3
namespace L3
structure Grown (n:Nat) (ms:List Int) (b a:Nat) (ties:List Tie):Prop where
 few:ties.length≤60
 ok:∀ t ∈ ties,0≤t.1∧t.1 < t.2.1∧t.2.1 < (n:Int)∧1≤t.2.2∧t.2.2≤10 ^ 18
 of:∀ t ∈ ties,∃ a' b':Nat,a' < b'∧b' < n∧(b' < b∨(b'=b∧a' < a))∧((t.1=ms.getD a' 0∧t.2.1=ms.getD b' 0)∨(t.1=ms.getD b' 0∧t.2.1=ms.getD a' 0))
 nd:ties.Pairwise fun s t=>¬ (s.1=t.1∧s.2.1=t.2.1)
theorem Grown.start {n:Nat} {ms:List Int}:Grown n ms 0 0 []:=⟨Nat.zero_le _,(fun t h=>by cases h),(fun t h=>by cases h),List.Pairwise.nil⟩
theorem Grown.down {n:Nat} {ms:List Int} {b:Nat} {ties:List Tie} (g:Grown n ms b b ties):Grown n ms (b + 1) 0 ties :=
 ⟨g.few,g.ok,fun t h=>by
  obtain⟨a',b',h1,h2,h3,h4⟩:=g.of t h
  exact⟨a',b',h1,h2,.inl (by omega),h4⟩,g.nd⟩
theorem Grown.skip {n:Nat} {ms:List Int} {b a:Nat} {ties:List Tie} (g:Grown n ms b a ties):Grown n ms b (a + 1) ties :=
 ⟨g.few,g.ok,fun t h=>by
  obtain⟨a',b',h1,h2,h3,h4⟩:=g.of t h
  exact⟨a',b',h1,h2,by omega,h4⟩,g.nd⟩
structure Perm0 (n:Nat) (ms:List Int):Prop where
 len:ms.length=n
 lo:∀ i,i < n->0≤ms.getD i 0∧ms.getD i 0 < (n:Int)
 inj:∀ i j,i < n->j < n->ms.getD i 0=ms.getD j 0->i=j
theorem Perm0.of {n:Nat} {ms:List Int} (h:ms.Perm ((List.range n).map fun i:Nat=>(i:Int))):Perm0 n ms:=by
 have hl:ms.length=n:=by simpa using h.length_eq
 have nd:ms.Nodup:=(h.nodup_iff).mpr (by
  rw[List.Nodup,List.pairwise_map]
  exact (List.nodup_range (n:=n)).imp fun h z=>h (by omega))
 refine⟨hl,fun i hi=>?_,fun i j hi hj e=>?_⟩
 ·have e:ms.getD i 0=ms[i]:=by simp [List.getD,show i < ms.length by omega]
  have m:ms[i]'(by omega) ∈ (List.range n).map fun i:Nat=>(i:Int):=h.mem_iff.mp (List.getElem_mem _)
  rw[e]
  obtain⟨k,hk,ek⟩:=List.mem_map.mp m
  have:=List.mem_range.mp hk
  omega
 ·have e1:ms.getD i 0=ms[i]:=by simp [List.getD,show i < ms.length by omega]
  have e2:ms.getD j 0=ms[j]:=by simp [List.getD,show j < ms.length by omega]
  rw[e1,e2] at e
  exact (List.getElem_inj nd).mp e
theorem Grown.add {n:Nat} {ms:List Int} {b a:Nat} {ties:List Tie} {x y l:Int} (g:Grown n ms b a ties) (pm:Perm0 n ms) (ha:a < b) (hb:b < n) (hf:ties.length < 60) (hl:1≤l) (hl2:l≤10 ^ 18)
  (hxy:(x=ms.getD a 0∧y=ms.getD b 0)∨(x=ms.getD b 0∧y=ms.getD a 0)) (hle:x≤y):Grown n ms b (a + 1) (ties++[(x,y,l)]):=by
 have han:=Nat.lt_trans ha hb
 have la:=pm.lo a han
 have lb:=pm.lo b hb
 have ne:ms.getD a 0≠ms.getD b 0:=fun e=>Nat.ne_of_lt ha (pm.inj a b han hb e)
 refine⟨by rw[List.length_append,List.length_singleton];exact hf,fun t ht=>?_,fun t ht=>?_,?_⟩
 ·rcases List.mem_append.mp ht with h | h
  ·exact g.ok t h
  ·have e:t=(x,y,l):=List.mem_singleton.mp h
   subst e
   refine⟨?_,?_,?_,hl,hl2⟩
   ·show 0≤x
    rcases hxy with ⟨q1,q2⟩ | ⟨q1,q2⟩
    ·rw[q1];exact la.1
    ·rw[q1];exact lb.1
   ·show x < y
    refine Int.lt_iff_le_and_ne.mpr ⟨hle,fun z=>?_⟩
    rcases hxy with ⟨q1,q2⟩ | ⟨q1,q2⟩
    ·exact ne (q1.symm.trans (z.trans q2))
    ·exact ne (q2.symm.trans (z.symm.trans q1))
   ·show y < (n:Int)
    rcases hxy with ⟨q1,q2⟩ | ⟨q1,q2⟩
    ·rw[q2];exact lb.2
    ·rw[q2];exact la.2
 ·rcases List.mem_append.mp ht with h | h
  ·obtain⟨a',b',h1,h2,h3,h4⟩:=g.of t h
   exact⟨a',b',h1,h2,h3.imp id fun z=>⟨z.1,Nat.lt_succ_of_lt z.2⟩,h4⟩
  ·have e:t=(x,y,l):=List.mem_singleton.mp h
   subst e
   exact⟨a,b,ha,hb,.inr ⟨rfl,Nat.lt_succ_self _⟩,hxy⟩
 ·rw[List.pairwise_append]
  refine⟨g.nd,List.pairwise_singleton _ _,fun t ht u hu=>?_⟩
  have e:u=(x,y,l):=List.mem_singleton.mp hu
  subst e
  rintro ⟨e1,e2⟩
  obtain⟨a',b',h1,h2,h3,h4⟩:=g.of t ht
  have e1':t.1=x:=e1
  have e2':t.2.1=y:=e2
  have h1n:=Nat.lt_trans h1 h2
  have fin:a'=a->b'=b->False:=fun ea eb=>h3.elim (fun z=>Nat.ne_of_lt z eb) fun z=>Nat.ne_of_lt z.2 ea
  have fin2:a'=b->b'=a->False:=fun ea eb=>Nat.lt_asymm ha (by rw[← ea,← eb];exact h1)
  rcases h4 with ⟨p1,p2⟩ | ⟨p1,p2⟩ <;> rcases hxy with ⟨q1,q2⟩ | ⟨q1,q2⟩
  ·exact fin (pm.inj a' a h1n han (p1.symm.trans (e1'.trans q1))) (pm.inj b' b h2 hb (p2.symm.trans (e2'.trans q2)))
  ·exact fin2 (pm.inj a' b h1n hb (p1.symm.trans (e1'.trans q1))) (pm.inj b' a h2 han (p2.symm.trans (e2'.trans q2)))
  ·exact fin2 (pm.inj a' b h1n hb (p2.symm.trans (e2'.trans q2))) (pm.inj b' a h2 han (p1.symm.trans (e1'.trans q1)))
  ·exact fin (pm.inj a' a h1n han (p2.symm.trans (e2'.trans q2))) (pm.inj b' b h2 hb (p1.symm.trans (e1'.trans q1)))
theorem rise_of {ts:List Tie} (h:ts.Pairwise fun a b=>Srt.lexI (tieI b) (tieI a)=false) (nd:ts.Pairwise fun s t=>¬ (s.1=t.1∧s.2.1=t.2.1)):ts.Pairwise endLt:=by
 refine (h.and nd).imp fun {a b} hab=>?_
 obtain⟨h1,h2⟩:=hab
 obtain⟨a1,a2,a3⟩:=a
 obtain⟨b1,b2,b3⟩:=b
 simp only [tieI,Srt.lexI] at h1
 show a1 < b1∨(a1=b1∧a2 < b2)
 have h2':¬ (a1=b1∧a2=b2):=h2
 by_cases e1:b1=a1
 ·rw[if_pos e1] at h1
  by_cases e2:b2=a2
  ·exact absurd ⟨e1.symm,e2.symm⟩ h2'
  ·rw[if_neg e2] at h1
   have:=of_decide_eq_false h1
   exact .inr ⟨e1.symm,by omega⟩
 ·rw[if_neg e1] at h1
  have:=of_decide_eq_false h1
  exact .inl (by omega)
theorem endLt.ne {s t:Tie} (h:endLt s t):¬ (s.1=t.1∧s.2.1=t.2.1):=fun ⟨a,b⟩=>by
 rcases h with h | ⟨_,h⟩ <;> omega
end L3
namespace L3
open PySem PySem.Spec PyProof.Rows L2
section
variable {X:Cx} {pos:Pos}
theorem op_mulB:OpR X (binaryOp .Mult) (rI (fun i j=>IntMulOk i j) fun i j=>.int (i * j)):=opI fun _ _ _ _ _ _ _ hc q=>mul_int q hc
theorem mulB:IntMulOk ((10:Int) ^ (60:Int).toNat) ((10:Int) ^ (60:Int).toNat):=IntMulOk.of_bits (by decide +kernel) (by decide +kernel)
theorem mulB2:IntMulOk ((10:Int) ^ (60:Int).toNat * (10:Int) ^ (60:Int).toNat) ((10:Int) ^ (60:Int).toNat):=IntMulOk.of_bits (by decide +kernel) (by decide +kernel)
theorem posB:(0:Int) < (10:Int) ^ (60:Int).toNat * (10:Int) ^ (60:Int).toNat * (10:Int) ^ (60:Int).toNat:=by decide +kernel
/-- range(n) as a value -/
theorem call_range:CallR X (.type "range") (fun xs H Q=>∃ j:Int,xs=[.int j]∧∀ p,H p=none->Q (.ref p) (upd H p (.rng 0 j))):=by
 intro pins s σ H xs us Q I r h
 obtain⟨j,rfl,q⟩:=h
 obtain⟨u,rfl,t,rfl⟩:=vals1 r
 refine call_range_1 ⟨.ref s.heap.objs.size,_,I.laid (a:=s.heap.objs.size) (o:=.rng 0 j) (fun b o e=>Heap.get?_push_of_some _ e) (Nat.le_refl _) ⟨_,_,_,Heap.get?_push_size _ rfl⟩,rfl,q _ I.fresh⟩
/-- list(range(n)) -/
theorem call_list_rng (hh:X.calm=true):CallR X (.type "list") (fun xs H Q=>∃ (p:Addr) (j:Int),xs=[.ref p]∧H p=some (.rng 0 j)∧0≤j∧j≤1000∧∀ l,H l=none->Q (.ref l) (upd H l (.lst ((List.range j.toNat).map fun i:Nat=>V.int (i:Int))))):=by
 intro pins s σ H xs us Q I r h
 obtain⟨p,j,rfl,hp,hj0,hj,q⟩:=h
 obtain⟨u,rfl,rx⟩:=vals1 r
 cases rx
 obtain⟨t,u,v,e⟩:=(show ObjOk X.prog X.w H s.heap p (.rng 0 j) from I.hok p _ hp)
 refine call_list_range (n:=j.toNat) (I.ok.hd hh) (show IsRange s.heap p 0 j 1 t u v from e) (small_one (by omega) (by omega) (by omega) (by omega)) (by rw[rangeSize_one];split <;> omega) (by omega) fun h' tk acc c hk hS hacc=>?_
 refine⟨.ref s.heap.objs.size,_,I.laid (a:=s.heap.objs.size) (o:=.lst ((List.range j.toNat).map fun i:Nat=>V.int (i:Int))) (t':=tk) hk (Nat.le_refl _) ⟨?_,acc.toList,c,?_,by simpa using hS⟩,rfl,q _ I.fresh⟩
 ·rw[List.length_map,List.length_range,sizeLine_eq];omega
 ·have go:∀ (n:Nat) (l:List Value),l.length=n->(∀ (k:Nat) (v:Value),l[k]?=some v->∃ t,v=Value.int (0 + (k:Int) * 1) t)->Vals ((List.range n).map fun i:Nat=>V.int (i:Int)) l:=by
   intro n l hl hv
   have gen:∀ (l:List Value) (o:Nat),(∀ (k:Nat) (v:Value),l[k]?=some v->∃ t,v=Value.int ((o + k:Nat):Int) t)->Vals ((List.range' o l.length).map fun i:Nat=>V.int (i:Int)) l:=by
    intro l
    induction l with
    | nil=>intro o _;exact .nil
    | cons x r ih =>
     intro o h
     rw[List.length_cons,List.range'_succ,List.map_cons]
     obtain⟨t,ht⟩:=h 0 x rfl
     refine .cons ⟨t,by simpa using ht⟩ (ih (o + 1) fun k v hk=>?_)
     obtain⟨t,ht⟩:=h (k + 1) v (by simpa using hk)
     exact⟨t,by rw[ht];congr 1;omega⟩
   have:=gen l 0 fun k v hk=>by
    obtain⟨t,ht⟩:=hv k v hk
    exact⟨t,by rw[ht];congr 1;omega⟩
   rw[hl] at this
   rw[List.range_eq_range']
   exact this
  refine go _ _ (by simpa using hacc.1) fun k v hk=>hacc.2 k v (by simpa using hk)
end
theorem erase_perm {α:Type}:∀ (l:List α) (k:Nat) (h:k < l.length),(l[k]::l.eraseIdx k).Perm l
 | [],k,h=>absurd h (Nat.not_lt_zero _)
 | a::l,0,_=>List.Perm.refl _
 | a::l,k + 1,h=>by
  have h':k < l.length:=by simpa using h
  show (l[k]::a::l.eraseIdx k).Perm (a::l)
  exact (List.Perm.swap a l[k] _).trans ((erase_perm l k h').cons a)
theorem map_erase {α β:Type} (f:α->β):∀ (l:List α) (k:Nat),(l.eraseIdx k).map f=(l.map f).eraseIdx k
 | [],_=>rfl
 | _::_,0=>rfl
 | a::l,k + 1=>by
  show f a::(l.eraseIdx k).map f=f a::(l.map f).eraseIdx k
  rw[map_erase f l k]
end L3
namespace L3
open PySem PySem.Spec PyProof.Rows L2
/-- a list's values are tuples of the ties -/
def TieL (H:Hp) (ys:List V) (ts:List Tie):Prop:=Paired (fun (y:V) (t:Tie)=>∃ a,y=.ref a∧H a=some (.tup ((tieI t).map V.int))) ys ts
theorem TieL.keep {H H':Hp} {ys:List V} {ts:List Tie} (h:TieL H ys ts) (k:∀ a xs,H a=some (.tup xs)->H' a=some (.tup xs)):TieL H' ys ts :=
 Paired.mapP h fun y t ⟨a,e1,e2⟩=>⟨a,e1,k _ _ e2⟩
theorem TieL.snoc {H:Hp} {ys:List V} {ts:List Tie} {a:Addr} {t:Tie} (h:TieL H ys ts) (e:H a=some (.tup ((tieI t).map V.int))):TieL H (ys++[.ref a]) (ts++[t]):=Paired.snoc h ⟨a,rfl,e⟩
theorem paired_map {α β γ:Type} {F:β->γ->Prop} (f:α->β) (g:α->γ):∀ {l:List α},(∀ x ∈ l,F (f x) (g x))->Paired F (l.map f) (l.map g)
 | [],_=>.nil
 | x::l,h=>.cons (h x List.mem_cons_self) (paired_map f g fun y hy=>h y (List.mem_cons_of_mem _ hy))
theorem paired_zip {α β γ:Type} {F:α->β->Prop} {f:β->γ}:∀ {l:List α} {r:List β},Paired F l r->∀ q ∈ l.zip (r.map f),∃ b,q.2=f b∧F q.1 b
 | _,_,.nil,q,h=>by cases h
 | _,_,.cons (a:=a) (b:=b) x t,q,h=>by
  rw[List.map_cons,List.zip_cons_cons] at h
  rcases List.mem_cons.mp h with e | h
  ·subst e;exact⟨b,rfl,x⟩
  ·exact paired_zip t q h
theorem paired_keys {F:V->Tie->Prop} {G:V->List Int->Prop} (h:∀ y t,F y t->G y (tieI t)):∀ {ys:List V} {ts:List Tie},Paired F ys ts->Paired G ys (ts.map tieI)
 | _,_,.nil=>.nil
 | _,_,.cons x t=>.cons (h _ _ x) (paired_keys h t)
def tieOf:List Int->Tie
 | [a,b,c]=>(a,b,c)
 | _=>(0,0,0)
theorem tieOf_I (t:Tie):tieOf (tieI t)=t:=rfl
theorem tie_out {H:Hp} {ys:List V} {ts:List Tie} (h:TieL H ys ts) {qs:List (V × List Int)} (p:qs.Perm (ys.zip (ts.map tieI))) (w:qs.Pairwise fun a b=>Srt.lexI b.2 a.2=false) :
  ∃ ts':List Tie,ts'.Perm ts∧TieL H (qs.map (·.1)) ts'∧ts'.Pairwise fun a b=>Srt.lexI (tieI b) (tieI a)=false:=by
 have mem:∀ q ∈ qs,∃ t,q.2=tieI t∧∃ a,q.1=.ref a∧H a=some (.tup ((tieI t).map V.int)):=fun q hq=>paired_zip h q (p.mem_iff.mp hq)
 have back:∀ q ∈ qs,tieI (tieOf q.2)=q.2:=fun q hq=>by
  obtain⟨t,e,_⟩:=mem q hq
  rw[e];rfl
 refine⟨qs.map fun q=>tieOf q.2,?_,paired_map _ _ fun q hq=>?_,?_⟩
 ·have e1:(qs.map fun q=>tieOf q.2).Perm ((ys.zip (ts.map tieI)).map fun q=>tieOf q.2):=p.map _
  have e2:(ys.zip (ts.map tieI)).map (fun q=>tieOf q.2)=ts:=by
   have l:ys.length=(ts.map tieI).length:=by rw[List.length_map];exact Paired.length h
   have:(ys.zip (ts.map tieI)).map (fun q=>tieOf q.2)=((ys.zip (ts.map tieI)).map (·.2)).map tieOf:=by rw[List.map_map];rfl
   rw[this,List.map_snd_zip (Nat.le_of_eq l.symm),List.map_map]
   exact (List.map_congr_left fun t _=>tieOf_I t).trans (List.map_id _)
  rw[e2] at e1
  exact e1
 ·obtain⟨t,e,a,ea,eh⟩:=mem q hq
  refine⟨a,ea,?_⟩
  rw[back q hq,e];exact eh
 ·rw[List.pairwise_map]
  refine w.imp_of_mem fun {a b} ha hb z=>?_
  rw[back a ha,back b hb];exact z
theorem TieL.is {K:PySem.W.Frag} {H:Hp}:∀ {ys:List V} {ts:List Tie},TieL H ys ts->IsAll K H (ts.map tieD) ys
 | _,_,.nil=>rfl
 | _,_,.cons (a:=y) (b:=t) ⟨a,e1,e2⟩ r=>⟨_,_,rfl,⟨a,_,e1,e2,IsAll.ints _⟩,TieL.is r⟩
theorem two_sorted {x y:Int} {ms:List Int} (p:ms.Perm [x,y]) (w:ms.Pairwise (·≤·)):∃ a b,ms=[a,b]∧a≤b∧((a=x∧b=y)∨(a=y∧b=x)):=by
 have hl:=p.length_eq
 match ms,hl,p,w with
 | [a,b],_,p,w =>
  refine⟨a,b,rfl,by simpa using w,?_⟩
  have ha:a ∈ [x,y]:=p.mem_iff.mp (by simp)
  rcases List.mem_cons.mp ha with e | e
  ·subst e
   have:=(List.perm_cons a).mp p
   have e2:b=y:=by simpa using List.perm_singleton.mp this
   exact .inl ⟨rfl,e2⟩
  ·have e':a=y:=by simpa using e
   subst e'
   have p2:[a,b].Perm [a,x]:=p.trans (List.Perm.swap a x [])
   have:=(List.perm_cons a).mp p2
   have e2:b=x:=by simpa using List.perm_singleton.mp this
   exact .inr ⟨rfl,e2⟩
end L3
namespace L3
open PySem PySem.Spec PyProof.Rows L2
def TupKeep (H H':Hp):Prop:=∀ a xs,H a=some (.tup xs)->H' a=some (.tup xs)
section
variable {J:It} {g:TG} {te:TE} {own:List Str} {js:List Nat} {σ:L2.St} {H1:Hp} {Q:VK}
/-- no test, nothing that stands is changed: item i is worth R i -/
theorem comp_map (n:Nat) (Sg:L2.St->Prop) (R:Nat->V->Hp->Prop) (hn:n≤1000) (h0:Sg (start3 own js σ)) (mono:∀ i v H H',TupKeep H H'->R i v H->R i v H')
  (go:∀ i H',i < n->Same H1 H'->J.go i H') (stop:∀ H',Same H1 H'->J.stop n H')
  (step:∀ i x σ' H' H2,i < n->Same H1 H'->J.yld i H' x H2->Sg σ'->∀ C:L2.St->V->Hp->Prop,(∀ σ3 v H5,Sg σ3->Same H' H5->R i v H5->C σ3 v H5)->g x σ' H2 fun σ3 H3=>te σ3 H3 fun v H5=>C σ3 v H5)
  (fin:∀ D ys H',H1 D=none->Same H1 H'->H' D=some (.lst ys)->ys.length=n->(∀ i v,ys[i]?=some v->R i v H')->Q (.ref D) H'):CompGo own js g tTrue te σ Q J H1:=by
 intro D hD
 refine⟨fun i m ys σ' H'=>m=n - i∧i≤n∧Sg σ'∧Same H1 H'∧ys.length=i∧∀ j v,ys[j]?=some v->R j v H',⟨n,rfl,Nat.zero_le _,h0,same_new hD,rfl,fun j v e=>by simp at e⟩,?_⟩
 rintro i m ys σ' H' ⟨rfl,hi,sg,sm,hl,hr⟩ hd
 by_cases hlt:i < n
 ·refine .inr ⟨go i H' hlt sm,fun x H2 hy=>?_⟩
  refine step i x σ' H' H2 hlt sm hy sg (fun σ3 v H5=>H5 D=some (.lst ys)∧ys.length < sizeLine∧∃ m',m' < n - i∧(m'=n - (i + 1)∧i + 1≤n∧Sg σ3∧Same H1 (upd H5 D (.lst (ys++[v])))∧(ys++[v]).length=i + 1∧∀ j u,(ys++[v])[j]?=some u->R j u (upd H5 D (.lst (ys++[v]))))) fun σ3 v H5 sg3 s5 r5=>?_
  have hd5:=s5 _ _ hd
  refine⟨hd5,Nat.lt_of_le_of_lt (by omega:ys.length≤1000) (by decide),n - (i + 1),by omega,rfl,hlt,sg3,fun b o e=>?_,by rw[List.length_append,List.length_singleton,hl],fun j u e=>?_⟩
  ·rw[upd_ne (ne_of_none e hD)];exact s5 _ _ (sm _ _ e)
  ·have tk5:TupKeep H5 (upd H5 D (.lst (ys++[v]))):=fun a xs e=>by rw[upd_ne (fun z=>by rw[z,hd5] at e;cases e)];exact e
   by_cases hj:j < ys.length
   ·rw[List.getElem?_append_left hj] at e
    exact mono _ _ _ _ tk5 (mono _ _ _ _ (fun a xs z=>s5 _ _ z) (hr j u e))
   ·rw[List.getElem?_append_right (by omega)] at e
    have ej:j=ys.length:=by
     have:=(List.getElem?_eq_some_iff.mp e).1
     simp at this;omega
    subst ej
    have eu:v=u:=by simpa using e
    subst eu
    rw[hl]
    exact mono _ _ _ _ tk5 r5
 ·have e:i=n:=by omega
  subst e
  exact .inl ⟨stop H' sm,fin D ys H' hD sm hd hl hr⟩
theorem comp_tup {K:PySem.W.Frag} {a:Addr} {xs:List V} (hx:H1 a=some (.tup xs)) (Sg:L2.St->Prop) (R:Nat->V->Hp->Prop) (hn:xs.length≤1000) (h0:Sg (start3 own js σ)) (mono:∀ i v H H',TupKeep H H'->R i v H->R i v H')
  (step:∀ i x σ' H',xs[i]?=some x->Same H1 H'->Sg σ'->∀ C:L2.St->V->Hp->Prop,(∀ σ3 v H5,Sg σ3->Same H' H5->R i v H5->C σ3 v H5)->g x σ' H' fun σ3 H3=>te σ3 H3 fun v H5=>C σ3 v H5)
  (fin:∀ D ys H',H1 D=none->Same H1 H'->H' D=some (.lst ys)->ys.length=xs.length->(∀ i v,ys[i]?=some v->R i v H')->Q (.ref D) H'):CompGo own js g tTrue te σ Q (Itt K a) H1:=by
 refine comp_map xs.length Sg R hn h0 mono (fun i H' hi s=>⟨xs,xs[i],SqT.of (s _ _ hx),by simp [hi]⟩) (fun H' s=>⟨xs,SqT.of (s _ _ hx),Nat.le_refl _⟩) (fun i x σ' H' H2 hi s hy sg C hC=>?_) fin
 obtain⟨rfl,hy⟩:=hy
 exact step i x σ' _ (hy xs (SqT.of (s _ _ hx))) s sg C hC
theorem comp_lst {K:PySem.W.Frag} {a:Addr} {xs:List V} (hx:H1 a=some (.lst xs)) (Sg:L2.St->Prop) (R:Nat->V->Hp->Prop) (hn:xs.length≤1000) (h0:Sg (start3 own js σ)) (mono:∀ i v H H',TupKeep H H'->R i v H->R i v H')
  (step:∀ i x σ' H',xs[i]?=some x->Same H1 H'->Sg σ'->∀ C:L2.St->V->Hp->Prop,(∀ σ3 v H5,Sg σ3->Same H' H5->R i v H5->C σ3 v H5)->g x σ' H' fun σ3 H3=>te σ3 H3 fun v H5=>C σ3 v H5)
  (fin:∀ D ys H',H1 D=none->Same H1 H'->H' D=some (.lst ys)->ys.length=xs.length->(∀ i v,ys[i]?=some v->R i v H')->Q (.ref D) H'):CompGo own js g tTrue te σ Q (Itl K a) H1:=by
 refine comp_map xs.length Sg R hn h0 mono (fun i H' hi s=>⟨xs,xs[i],SqL.of (s _ _ hx),by simp [hi]⟩) (fun H' s=>⟨xs,SqL.of (s _ _ hx),Nat.le_refl _⟩) (fun i x σ' H' H2 hi s hy sg C hC=>?_) fin
 obtain⟨rfl,hy⟩:=hy
 exact step i x σ' _ (hy xs (SqL.of (s _ _ hx))) s sg C hC
theorem SqX.of {t:Bool} {K:PySem.W.Frag} {H:Hp} {a:Addr} {xs:List V} (h:H a=some (if t=true then .tup xs else .lst xs)):SqX t K H a xs:=by
 cases t with
 | true=>exact SqT.of h
 | false=>exact SqL.of h
end
theorem bools_of {f:Nat->Bool} {n:Nat} {ys:List V} (hl:ys.length=n) (h:∀ (i:Nat) (v:V),ys[i]?=some v->v=V.bl (f i)):ys=((List.range n).map f).map V.bl:=by
 refine List.ext_getElem? fun i=>?_
 by_cases hi:i < n
 ·obtain⟨v,hv⟩:∃ v,ys[i]?=some v:=⟨ys[i],List.getElem?_eq_getElem (by omega)⟩
  rw[hv,h i v hv]
  simp [hi]
 ·rw[List.getElem?_eq_none (by omega),List.getElem?_eq_none (by simp;omega)]
def tyD:PyData->String
 | .none=>"NoneType"
 | .bool _=>"bool"
 | .int _=>"int"
 | .str _=>"str"
 | .tuple _=>"tuple"
 | .list _=>"list"
 | .dict _=>"dict"
theorem ty_of {K:PySem.W.Frag} {H:Hp}:∀ {d:PyData} {v:V},Is K H d v->TyOf K H v (.type (tyD d))
 | .none,_,h=>by rw[show _=V.non from h];exact .non
 | .bool b,_,h=>by rw[show _=V.bl b from h];exact .bl b
 | .int i,_,h=>by rw[show _=V.int i from h];exact .int i
 | .str x,_,h=>by rw[show _=V.str x from h];exact .str x
 | .tuple _,_,⟨p,vs,e,h,_⟩=>by rw[e];exact .tup h
 | .list _,_,⟨p,vs,e,h,_⟩=>by rw[e];exact .lst h
 | .dict _,_,⟨_,p,e,h⟩=>by rw[e];exact .dK h
def wholeB:PyData->Bool
 | .int _=>true
 | _=>false
def wholesB:PyData->Bool
 | .tuple ds=>ds.all wholeB
 | _=>false
def tieB (n:Int):PyData->Bool
 | .tuple [.int a,.int b,.int l]=>decide (0≤a) && decide (a < b) && decide (b < n) && decide (1≤l) && decide (l≤10 ^ 18)
 | _=>false
/-- how many things a tuple or a list has, at most -/
def few:PyData->Prop
 | .tuple ds=>ds.length≤1000
 | .list ds=>ds.length≤1000
 | _=>True
def spD1 (K:PySem.W.Frag) (pre:PyData->Prop) (f:PyData->Bool):Sp:=fun vs H Q _=>∃ d v,vs=[v]∧Is K H d v∧pre d∧∀ H',Same H H'->Q (.bl (f d)) H'
end L3
namespace L3
open PySem PySem.Spec PyProof.Rows L2
section
variable {g:TG} {te:TE} {own:List Str} {js:List Nat} {σ:L2.St} {H1:Hp} {Q:VK}
end
def e2 (e:Int × Int):List Int:=[e.1,e.2]
def risingB (es:List (Int × Int)):Bool:=((List.range (min es.length (es.drop 1).length)).map fun i=>HT.lexLt (e2 (es.getD i (0,0))) (e2 ((es.drop 1).getD i (0,0)))).all id
def TwoL (H:Hp) (ys:List V) (es:List (Int × Int)):Prop:=Paired (fun (y:V) (e:Int × Int)=>∃ a,y=.ref a∧H a=some (.tup [.int e.1,.int e.2])) ys es
theorem TwoL.get {H:Hp}:∀ {ys:List V} {es:List (Int × Int)} {i:Nat} {y:V},TwoL H ys es->ys[i]?=some y->∃ a,y=.ref a∧H a=some (.tup ((e2 (es.getD i (0,0))).map V.int))
 | _,_,_,_,.nil,h=>by simp at h
 | _,_,0,y,.cons (a:=y0) r t,h=>by
  have e:y0=y:=by simpa using h
  subst e
  exact r
 | _,_,i + 1,_,.cons r t,h=>TwoL.get (i:=i) t (by simpa using h)
theorem cut1 (ys:List V):cutV ys (some 1) none=ys.drop 1:=by
 unfold cutV
 have e1:HT.sIx ys.length ys.length none=ys.length:=rfl
 have e2:HT.sIx ys.length 0 (some 1)=min 1 ys.length:=by
  unfold HT.sIx
  simp
 rw[e1,e2]
 by_cases h:ys.length=0
 ·have:ys=[]:=List.eq_nil_of_length_eq_zero h
  subst this;rfl
 ·have:min 1 ys.length=1:=by omega
  rw[this]
  exact List.take_of_length_le (by simp)
section
variable {g:TG} {te:TE} {own:List Str} {js:List Nat} {σ:L2.St} {H1:Hp} {Q:VK}
end
theorem TieL.get {H:Hp} {ys:List V} {us:List Tie} {i:Nat} {x:V} (h:TieL H ys us) (e:ys[i]?=some x):∃ a,x=.ref a∧H a=some (.tup ((tieI (us.getD i (0,0,0))).map V.int)):=by
 induction h generalizing i with
 | nil=>simp at e
 | @cons y0 _ _ _ r t ih =>
  cases i with
  | zero =>
   have e':y0=x:=by simpa using e
   rw[← e'];exact r
  | succ i=>exact ih (i:=i) (by simpa using e)
section
variable {X:Cx} {own fr:List Str} {scope:Scope} {fp:List Addr} {pins:List (Addr × Obj)} {s3:Shared} {H3:Hp} {pos:Pos}
theorem ix_listC:IxR (cxComp X own fr scope fp pins s3 H3) (rIxL X.K):=ix_list (X:=cxComp X own fr scope fp pins s3 H3)
theorem ix_tupC:IxR (cxComp X own fr scope fp pins s3 H3) (rIxT X.K):=ix_tup (X:=cxComp X own fr scope fp pins s3 H3)
theorem op_notIn_seqC:OpR (cxComp X own fr scope fp pins s3 H3) (compareOp .NotIn) (rIn X.K true):=op_notIn_seq (X:=cxComp X own fr scope fp pins s3 H3)
end
end L3
namespace L3
open PySem PySem.Spec PyProof.Rows L2
def KeepOk (m:Nat) (ks:List Nat):Prop:=ks.Pairwise (· < ·)∧∀ k ∈ ks,k < m
def keepI (ks:List Nat):List Int:=ks.map fun k:Nat=>(k:Int)
def keepD (ks:List Nat):PyData:=.tuple ((keepI ks).map .int)
theorem KeepOk.len {m:Nat} {ks:List Nat} (h:KeepOk m ks):ks.length≤m:=by
 have go:∀ (ks:List Nat) (lo m:Nat),ks.Pairwise (· < ·)->(∀ k ∈ ks,lo≤k∧k < m)->ks.length + lo≤max m lo:=by
  intro ks
  induction ks with
  | nil=>intro lo m _ _;simp;omega
  | cons k r ih =>
   intro lo m hp hb
   have h1:=hb k List.mem_cons_self
   have:=ih (k + 1) m (List.pairwise_cons.mp hp).2 fun j hj=>⟨(List.pairwise_cons.mp hp).1 j hj,(hb j (List.mem_cons_of_mem _ hj)).2⟩
   rw[List.length_cons]
   omega
 have:=go ks 0 m h.1 fun k hk=>⟨Nat.zero_le _,h.2 k hk⟩
 omega
theorem web_parts {K:PySem.W.Frag} {H:Hp} {n:Int} {ts:List Tie} {v:V} (h:Is K H (webD n ts) v):∃ (p g:Addr) (ws:List V),v=.ref p∧H p=some (.tup [.int n,.ref g])∧H g=some (.tup ws)∧IsAll K H (ts.map tieD) ws∧ws.length=ts.length:=by
 obtain⟨p,vs,rfl,hp,v1,r1,rfl,e1,v2,r2,rfl,⟨g,ws,rfl,hg,hall⟩,e3⟩:=h
 have e1':v1=.int n:=e1
 have e3':r2=[]:=e3
 subst e1' e3'
 exact⟨p,g,ws,rfl,hp,hg,hall,by have:=hall.length;rw[List.length_map] at this;exact this⟩
end L3
namespace Z3
open PySem
section
variable {prog:Program} {w:World} {A:Around} {E:Value->Shared->Prop} {s:Shared}
end
end Z3
namespace L3
open PySem PySem.Spec PyProof.Rows L2
end L3
namespace HT
open PySem PyProof.Rows
section
variable {prog:Program} {w:World} {A:Around} {E:Value->Shared->Prop} {s:Shared}
theorem whole_exact {t:Addr} {items:Array Value} {Q:Bool->Shared->Prop} (ht:IsTup s.heap t items) (h:Q true s):wpAny (model prog w) A (Builtin.Tuple.tupleIsExact (.ref t)) Q E s:=by
 unfold Builtin.Tuple.tupleIsExact
 exact wpAny_bind (wpAny_typeOf ht.typeIs (wpAny_pure h))
/-- t[lo:hi] that is all of t: t itself -/
theorem getItem_tuple_whole {t sl:Addr} {items:Array Value} {vl vu:Value} {lo hi:Option Int} {Q:Value->Shared->Prop} (ht:IsTup s.heap t items) (hs:s.heap.IsSliceOf sl vl vu .none) (pl:IsPart vl lo) (pu:IsPart vu hi)
  (hw:sIx items.size 0 lo=0∧sIx items.size items.size hi=items.size) (h:Q (.ref t) s):wpAny (model prog w) A (getItem (.ref t) (.ref sl)) Q E s:=by
 obtain⟨os,hos,hcs,hds⟩:=id hs
 have ty:s.TypeIs (.ref sl) "slice":=⟨os,hos,hcs⟩
 unfold getItem
 try with_reducible refine wpAny_holding ?_
 first | refine wpAny_bind (wpAny_pure ?_) | skip
 refine wpAny_bind (wpAny_sequenceKey ht.typeIs (by decide) (wpAny_bind (wpAny_callSpecial?_slot (name:=Str.ofString "__getitem__") ht.typeIs PyProof.Rows.slot_tuple_getitem
  (wpAny_call_entry PyProof.Rows.slot_tuple_getitem ht.typeIs entry_tuple_getitem ?_ (args_tuple_getitem _ _)))))
 show wpAny _ _ (Builtin.Tuple.tupleItemsOf (.ref t) >>= _) _ _ s
 refine wpAny_bind (tupleItemsOf_ ht (wpAny_bind (wpAny_typeOf ty ?_)))
 rw[if_pos (by decide)]
 refine wpAny_bind (sliceApplied_gen hs pl pu ?_)
 have yes:(((sIx items.size 0 lo:Nat):Int) == 0 && (1:Int) == 1 && (sIx items.size items.size hi - sIx items.size 0 lo) == items.size)=true:=by
  rw[hw.1,hw.2];simp
 show wpAny _ _ (if (((sIx items.size 0 lo:Nat):Int) == 0 && (1:Int) == 1 && (sIx items.size items.size hi - sIx items.size 0 lo) == items.size)=true then _ else _) _ _ s
 rw[if_pos yes]
 refine wpAny_bind (whole_exact ht ?_)
 rw[if_pos rfl]
 exact wpAny_bind (wpAny_rule (wpAny_bind (wpAny_pure (wpAny_pure ⟨_,rfl,wpAny_pure h⟩))))
/-- () + u -/
theorem cat_nil {t b:Addr} {ws:List Value} {Q:Value->Shared->Prop} (ht:IsTup s.heap t ([]:List Value).toArray) (hb:IsTup s.heap b ws.toArray) (h:Q (.ref b) s):wpAny (model prog w) A (binaryOp .Add (.ref t) (.ref b)) Q E s:=by
 obtain⟨⟨cls,dd,data,sl⟩,ho,hc,n,hd⟩:=id ht
 obtain⟨⟨cls2,dd2,data2,sl2⟩,ho2,hc2,n2,hd2⟩:=id hb
 simp only at hc hd hc2 hd2
 subst hc hd hc2 hd2
 exact concat_meets ⟨_,ho,rfl⟩ ⟨_,ho2,rfl⟩ noFill_tuple_add seq_tuple_add PySem.F.slot_tuple_add PySem.F.entry_tuple_add (PySem.F.args_tuple_add_2 _ _) (tuple_addW0 t b _ ws.toArray n n2 dd dd2 sl sl2 rfl) ⟨ho,ho2,h⟩
end
end HT
namespace L3
open PySem PySem.Spec PyProof.Rows L2
section
variable {X:Cx} {pins:List (Addr × Obj)} {σ:L2.St} {H:Hp} {s:Shared} {e:Expr} {te:TE} {pos p2:Pos}
theorem cutV_all {xs:List V} {lo hi:Option Int} (h:HT.sIx xs.length 0 lo=0∧HT.sIx xs.length xs.length hi=xs.length):cutV xs lo hi=xs:=by
 unfold cutV
 rw[h.1,h.2]
 simp
/-- t[lo:hi], part or whole -/
def rSlA:V->Option Int->Option Int->Hp->VK->Prop:=fun x lo hi H Q=>∃ a xs,x=.ref a∧H a=some (.tup xs)∧∀ p H',Same H H'->H' p=some (.tup (cutV xs lo hi))->Q (.ref p) H'
theorem sl_tupA:SlR X rSlA:=by
 intro pins s σ H x v vl vu lo hi sl Q I rx hs pl pu h
 obtain⟨a,xs,rfl,hx,q⟩:=h
 by_cases c:HT.sIx xs.length 0 lo=0∧HT.sIx xs.length xs.length hi=xs.length
 ·cases rx
  obtain⟨its,r,ht,hz⟩:=I.tuple (SqT.of hx)
  have hlen:its.toArray.size=xs.length:=by rw[List.size_toArray];exact r.length.symm
  refine⟨"tuple",_,PyProof.Rows.slot_tuple_getitem.lookup,ht.typeIs,HT.getItem_tuple_whole ht hs pl pu (by rw[hlen];exact c) ⟨.ref a,H,I,rfl,q _ _ (Same.refl H) (by rw[cutV_all c];exact hx)⟩⟩
 ·exact sl_tup (X:=X) pins s σ H (.ref a) v vl vu lo hi sl Q I rx hs pl pu ⟨a,xs,rfl,SqT.of hx,c,fun p hp=>q p _ (same_new hp) upd_same⟩
/-- t + u -/
def rCatA:R2:=fun x y H Q=>∃ a b xs ys,x=.ref a∧y=.ref b∧H a=some (.tup xs)∧H b=some (.tup ys)∧xs.length + ys.length≤sizeLine∧∀ p H',Same H H'->H' p=some (.tup (xs++ys))->Q (.ref p) H'
theorem op_catA:OpR X (binaryOp .Add) rCatA:=by
 intro pins s σ H x y v u Q I rx ry h
 obtain⟨a,b,xs,ys,rfl,rfl,ha,hb,hz,q⟩:=h
 by_cases c:xs=[]
 ·subst c
  cases rx
  cases ry
  obtain⟨its,r1,p1,_⟩:=I.tuple (SqT.of ha)
  obtain⟨its2,r2,p2,_⟩:=I.tuple (SqT.of hb)
  cases r1
  exact HT.cat_nil p1 p2 ⟨.ref b,H,I,rfl,q _ _ (Same.refl H) hb⟩
 ·refine op_catT (X:=X) pins s σ H _ _ v u Q I rx ry ⟨a,b,xs,ys,rfl,rfl,SqT.of ha,SqT.of hb,c,hz,fun e=>q _ _ (Same.refl H) (by rw[e,List.append_nil];exact ha),fun _ p hp=>q p _ (same_new hp) upd_same⟩
end
end L3
namespace L3
open PySem PySem.Spec PyProof.Rows L2
theorem iteB2 {b:Bool} {A B:Prop} (h1:b=true->B) (h2:b=false->A):if (!b)=true then A else B:=by
 cases b with
 | true=>exact h1 rfl
 | false=>exact h2 rfl
def numB (m:Nat):PyData->Bool
 | .int i=>decide (0≤i) && decide (i < (m:Int))
 | _=>false
def intOf:PyData->Int
 | .int i=>i
 | _=>0
def risI (ns:List Int):Bool:=((List.range (min ns.length (ns.drop 1).length)).map fun i=>decide (ns.getD i 0 < (ns.drop 1).getD i 0)).all id
def keepB (m:Nat):PyData->Bool
 | .tuple ds=>ds.all (numB m) && risI (ds.map intOf)
 | _=>false
def spNum (K:PySem.W.Frag):Sp:=fun vs H Q _=>∃ (n:Int) (ts:List Tie) (d:PyData) (v u:V),vs=[v,u]∧Is K H (webD n ts) v∧Is K H d u∧∀ H',Same H H'->Q (.bl (numB ts.length d)) H'
theorem risI_iff (ns:List Int):risI ns=true↔ns.Pairwise (· < ·):=by
 have step:risI ns=true↔∀ i (h:i + 1 < ns.length),ns[i] < ns[i + 1]:=by
  unfold risI
  rw[List.all_map,List.all_eq_true]
  constructor
  ·intro h i hi
   have:=h i (List.mem_range.mpr (by rw[List.length_drop];omega))
   have e1:ns.getD i 0=ns[i]:=by simp [List.getD,show i < ns.length by omega]
   have e2:(ns.drop 1).getD i 0=ns[i + 1]:=by simp [List.getD,hi,Nat.add_comm 1 i]
   have q:decide (ns.getD i 0 < (ns.drop 1).getD i 0)=true:=this
   rw[e1,e2] at q
   exact of_decide_eq_true q
  ·intro h i hi
   have hi':=List.mem_range.mp hi
   rw[List.length_drop] at hi'
   have h1:i + 1 < ns.length:=by omega
   have e1:ns.getD i 0=ns[i]:=by simp [List.getD,show i < ns.length by omega]
   have e2:(ns.drop 1).getD i 0=ns[i + 1]:=by simp [List.getD,h1,Nat.add_comm 1 i]
   show decide (ns.getD i 0 < (ns.drop 1).getD i 0)=true
   rw[e1,e2]
   exact decide_eq_true (h i h1)
 rw[step,List.pairwise_iff_getElem]
 constructor
 ·intro h i j hi hj hij
  have:∀ k (hk:i + 1 + k < ns.length),ns[i] < ns[i + 1 + k]:=by
   intro k
   induction k with
   | zero=>intro hk;exact h i hk
   | succ k ih=>intro hk;exact Int.lt_trans (ih (by omega)) (h (i + 1 + k) hk)
  have:=this (j - i - 1) (by omega)
  have e:i + 1 + (j - i - 1)=j:=by omega
  simpa only [e] using this
 ·intro h i hi
  exact h i (i + 1) (by omega) hi (by omega)
theorem num_int {m:Nat} {d:PyData} (h:numB m d=true):∃ i,d=.int i∧0≤i∧i < m:=by
 cases d with
 | int i =>
  have h':(decide (0≤i) && decide (i < (m:Int)))=true:=h
  rw[Bool.and_eq_true] at h'
  exact⟨i,rfl,of_decide_eq_true h'.1,of_decide_eq_true h'.2⟩
 | _=>cases h
structure Pre (m:Nat) (ds:List PyData) (i:Nat) (a:Int):Prop where
 num:∀ d ∈ ds.take i,numB m d=true
 up:((ds.take i).map intOf).Pairwise (· < ·)
 top:∀ x ∈ (ds.take i).map intOf,x≤a
 at_:a=-1∨a ∈ (ds.take i).map intOf
theorem Pre.zero {m:Nat} {ds:List PyData}:Pre m ds 0 (-1):=⟨fun d h=>(by simp at h),(by simp),fun x h=>(by simp at h),.inl rfl⟩
theorem Pre.lo {m:Nat} {ds:List PyData} {i:Nat} {a:Int} (h:Pre m ds i a):-1≤a:=by
 rcases h.at_ with e | e
 ·omega
 ·obtain⟨d,hd,rfl⟩:=List.mem_map.mp e
  obtain⟨x,rfl,h0,_⟩:=num_int (h.num d hd)
  show -1≤x
  omega
theorem take_next {α:Type} {ds:List α} {i:Nat} {d:α} (e:ds[i]?=some d):ds.take (i + 1)=ds.take i++[d]:=by
 rw[List.take_add_one,e];rfl
theorem Pre.next {m:Nat} {ds:List PyData} {i:Nat} {a x:Int} (h:Pre m ds i a) (e:ds[i]?=some (.int x)) (h1:a < x) (h2:x < m):Pre m ds (i + 1) x:=by
 have lo:=h.lo
 have t:=take_next e
 refine⟨fun d hd=>?_,?_,fun y hy=>?_,.inr ?_⟩
 ·rw[t] at hd
  rcases List.mem_append.mp hd with hd | hd
  ·exact h.num d hd
  ·have ed:d=.int x:=by simpa using hd
   subst ed
   show (decide (0≤x) && decide (x < (m:Int)))=true
   rw[decide_eq_true (by omega:0≤x),decide_eq_true h2];rfl
 ·rw[t,List.map_append,List.pairwise_append]
  refine⟨h.up,(by simp),fun y hy z hz=>?_⟩
  have ez:z=x:=by simpa [intOf] using hz
  subst ez
  have:=h.top y hy
  omega
 ·rw[t,List.map_append] at hy
  rcases List.mem_append.mp hy with hy | hy
  ·have:=h.top y hy;omega
  ·have ey:y=x:=by simpa [intOf] using hy
   omega
 ·rw[t,List.map_append]
  exact List.mem_append_right _ (by simp [intOf])
theorem Pre.full {m:Nat} {ds:List PyData} {a:Int} (h:Pre m ds ds.length a):keepB m (.tuple ds)=true:=by
 have e:ds.take ds.length=ds:=List.take_length
 have h1:=h.num
 have h2:=h.up
 rw[e] at h1 h2
 show (ds.all (numB m) && risI (ds.map intOf))=true
 rw[(risI_iff _).mpr h2,List.all_eq_true.mpr h1];rfl
theorem Pre.bad {m:Nat} {ds:List PyData} {i:Nat} {a:Int} {d:PyData} (h:Pre m ds i a) (e:ds[i]?=some d) (hb:wholeB d=false∨∃ x,d=.int x∧(x≤a∨(m:Int)≤x)):keepB m (.tuple ds)=false:=by
 have mem:d ∈ ds:=List.mem_of_getElem? e
 have noall:numB m d=false->keepB m (.tuple ds)=false:=fun z=>by
  show (ds.all (numB m) && risI (ds.map intOf))=false
  have:ds.all (numB m)=false:=by
   rw[Bool.eq_false_iff]
   intro q
   have:=List.all_eq_true.mp q d mem
   rw[z] at this;cases this
  rw[this];rfl
 rcases hb with hb | ⟨x,rfl,hx⟩
 ·exact noall (by cases d <;> first | rfl | cases hb)
 ·by_cases h0:0≤x∧x < m
  ·rcases hx with hx | hx
   ·rcases h.at_ with ea | ea
    ·omega
    ·show (ds.all (numB m) && risI (ds.map intOf))=false
     have:risI (ds.map intOf)=false:=by
      rw[Bool.eq_false_iff]
      intro q
      have pw:=(risI_iff _).mp q
      have split:ds.map intOf=(ds.take i).map intOf++((ds.drop i).map intOf):=by rw[← List.map_append,List.take_append_drop]
      rw[split,List.pairwise_append] at pw
      have:a < x:=pw.2.2 a ea x (List.mem_map.mpr ⟨.int x,by
       have hi:i < ds.length:=(List.getElem?_eq_some_iff.mp e).1
       rw[List.drop_eq_getElem_cons hi]
       have:ds[i]=.int x:=by rw[List.getElem?_eq_getElem hi] at e;exact Option.some.inj e
       rw[this]
       exact List.mem_cons_self,rfl⟩)
      omega
     rw[this,Bool.and_false]
   ·omega
  ·refine noall ?_
   show (decide (0≤x) && decide (x < (m:Int)))=false
   by_cases h1:0≤x
   ·rw[decide_eq_true h1,decide_eq_false (by omega)];rfl
   ·rw[decide_eq_false h1];rfl
def flatD:V->Bool
 | .non | .bl _ | .int _ | .str _=>true
 | _=>false
theorem atI_in {α:Type} {xs:List α} {r:Int} (h0:0≤r) (h1:r < (xs.length:Int)):∃ x,x ∈ xs∧atI xs r=some x:=by
 have hk:r.toNat < xs.length:=by omega
 refine⟨xs[r.toNat],List.getElem_mem hk,?_⟩
 have z:=atI_nat (List.getElem?_eq_getElem hk)
 have e:((r.toNat:Nat):Int)=r:=by omega
 rw[e] at z;exact z
theorem cut_mem {xs:List V} {lo hi:Option Int} {x:V} (h:x ∈ cutV xs lo hi):x ∈ xs:=List.mem_of_mem_drop (List.mem_of_mem_take h)
theorem Pot.same {H H':Hp} {p:Addr} (h:Pot H p) (s:Same H H'):Pot H' p:=let ⟨a,b,e,z⟩:=h;⟨a,b,s _ _ e,z⟩
theorem tup_ints:∀ ns:List Int,tupAll (ns.map .int)=true
 | []=>rfl
 | n::ns=>by show (tupD (.int n) && tupAll (ns.map .int))=true;rw[tup_ints ns];rfl
theorem tup_ties:∀ ts:List Tie,tupAll (ts.map tieD)=true
 | []=>rfl
 | t::r=>by show (tupD (tieD t) && tupAll (r.map tieD))=true;rw[tup_ties r];rfl
theorem tup_web (n:Int) (ts:List Tie):tupD (webD n ts)=true:=by
 show (true && (tupAll (ts.map tieD) && true))=true
 rw[tup_ties ts];rfl
theorem tup_keep (ks:List Nat):tupD (keepD ks)=true:=tup_ints _
end L3
namespace L3
end L3
namespace L3
open PySem PySem.Spec PyProof.Rows L2
end L3
namespace HT
open PySem PyProof.Rows
section
open PySem.SeqAt
open PySem.AutoSeq1 (wpAny_loadPart')
open PySem.MeetsSeq PySem.MeetsSeq2 PySem.MeetsSeq3
end
section
variable {prog:Program} {w:World} {A:Around} {E:Value->Shared->Prop} {s:Shared}
end
end HT
namespace L3
open PySem PySem.Spec PyProof.Rows L2
section
variable {X:Cx}
end
end L3
namespace L3
open PySem PySem.Spec PyProof.Rows L2
/-- tuples and lists of at most a thousand things, so deep -/
def wide:Nat->PyData->Prop
 | 0,_=>True
 | k + 1,.tuple ds=>ds.length≤1000∧∀ d ∈ ds,wide k d
 | k + 1,.list ds=>ds.length≤1000∧∀ d ∈ ds,wide k d
 | _ + 1,_=>True
theorem wide.few {k:Nat} {d:PyData} (h:wide (k + 1) d):few d:=by
 cases d with
 | tuple ds=>exact (show ds.length≤1000∧_ from h).1
 | list ds=>exact (show ds.length≤1000∧_ from h).1
 | _=>trivial
theorem wide.mem {k:Nat} {ds:List PyData} {d:PyData} (h:wide (k + 1) (.tuple ds)) (m:d ∈ ds):wide k d:=(show _∧∀ d ∈ ds,wide k d from h).2 d m
def endsD:PyData->Int × Int
 | .tuple [.int a,.int b,.int _]=>(a,b)
 | _=>(0,0)
def tiesB (n:Int):PyData->Bool
 | .tuple ds=>decide (ds.length≤60) && ds.all (tieB n) && risingB (ds.map endsD)
 | _=>false
theorem tie_of {n:Int} {d:PyData} (h:tieB n d=true):∃ a b l,d=.tuple [.int a,.int b,.int l]∧0≤a∧a < b∧b < n:=by
 unfold tieB at h
 split at h
 ·rename_i a b l
  simp only [Bool.and_eq_true,decide_eq_true_eq] at h
  obtain⟨⟨⟨⟨h1,h2⟩,h3⟩,h4⟩,h5⟩:=h
  exact⟨a,b,l,rfl,h1,h2,h3⟩
 ·cases h
/-- good values: flat, or tuples and lists of such, or {} -/
def Gd (H:Hp):Nat->V->Prop
 | 0,v=>flatD v=true
 | k + 1,v=>flatD v=true∨(∃ p vs,v=.ref p∧(H p=some (.tup vs)∨H p=some (.lst vs))∧vs.length≤1000∧∀ u ∈ vs,Gd H k u)∨(∃ p,v=.ref p∧H p=some (.dK []))
theorem Gd.same {H H':Hp} (s:Same H H'):∀ {k:Nat} {v:V},Gd H k v->Gd H' k v
 | 0,_,h=>h
 | k + 1,_,h=>by
  rcases h with h | ⟨p,vs,e,h1,h2,h3⟩ | ⟨p,e,h⟩
  ·exact .inl h
  ·exact .inr (.inl ⟨p,vs,e,h1.elim (fun z=>.inl (s _ _ z)) (fun z=>.inr (s _ _ z)),h2,fun u hu=>Gd.same s (h3 u hu)⟩)
  ·exact .inr (.inr ⟨p,e,s _ _ h⟩)
theorem Gd.flat {H:Hp} {k:Nat} {v:V} (h:flatD v=true):Gd H k v:=by
 cases k with
 | zero=>exact h
 | succ k=>exact .inl h
theorem Gd.up {H:Hp}:∀ {k:Nat} {v:V},Gd H k v->Gd H (k + 1) v
 | 0,_,h=>.inl h
 | k + 1,_,h=>by
  rcases h with h | ⟨p,vs,e,h1,h2,h3⟩ | h
  ·exact .inl h
  ·exact .inr (.inl ⟨p,vs,e,h1,h2,fun u hu=>Gd.up (h3 u hu)⟩)
  ·exact .inr (.inr h)
theorem Gd.tup {H:Hp} {k:Nat} {p:Addr} {vs:List V} (h:H p=some (.tup vs)) (hl:vs.length≤1000) (ha:∀ u ∈ vs,Gd H k u):Gd H (k + 1) (.ref p):=.inr (.inl ⟨p,vs,rfl,.inl h,hl,ha⟩)
theorem Gd.lst {H:Hp} {k:Nat} {p:Addr} {vs:List V} (h:H p=some (.lst vs)) (hl:vs.length≤1000) (ha:∀ u ∈ vs,Gd H k u):Gd H (k + 1) (.ref p):=.inr (.inl ⟨p,vs,rfl,.inr h,hl,ha⟩)
theorem wide_flat {K:PySem.W.Frag} {H:Hp} {k:Nat} {v:V} (h:flatD v=true):∃ d,Is K H d v∧wide k d:=by
 cases v with
 | non=>exact⟨.none,rfl,by cases k <;> trivial⟩
 | bl b=>exact⟨.bool b,rfl,by cases k <;> trivial⟩
 | int i=>exact⟨.int i,rfl,by cases k <;> trivial⟩
 | str x=>exact⟨.str x,rfl,by cases k <;> trivial⟩
 | _=>cases h
theorem good_all {K:PySem.W.Frag} {H:Hp} {k:Nat}:∀ {vs:List V},(∀ u ∈ vs,∃ d,Is K H d u∧wide k d)->∃ ds:List PyData,IsAll K H ds vs∧∀ d ∈ ds,wide k d
 | [],_=>⟨[],rfl,fun d h=>by cases h⟩
 | v::vs,h=>by
  obtain⟨d,hd,hw⟩:=h v List.mem_cons_self
  obtain⟨ds,hds,hws⟩:=good_all fun u hu=>h u (List.mem_cons_of_mem _ hu)
  exact⟨d::ds,⟨v,vs,rfl,hd,hds⟩,fun e he=>(List.mem_cons.mp he).elim (fun z=>z ▸ hw) (hws e)⟩
theorem Gd.is {K:PySem.W.Frag} {H:Hp}:∀ {k:Nat} {v:V},Gd H k v->∃ d,Is K H d v∧wide k d
 | 0,_,h=>wide_flat h
 | k + 1,_,h=>by
  rcases h with h | ⟨p,vs,rfl,h1,h2,h3⟩ | ⟨p,rfl,h⟩
  ·exact wide_flat h
  ·obtain⟨ds,hds,hws⟩:=good_all (K:=K) fun u hu=>Gd.is (h3 u hu)
   have hl:ds.length≤1000:=by rw[← hds.length];exact h2
   rcases h1 with h1 | h1
   ·exact⟨.tuple ds,⟨p,vs,rfl,h1,hds⟩,hl,hws⟩
   ·exact⟨.list ds,⟨p,vs,rfl,h1,hds⟩,hl,hws⟩
  ·exact⟨.dict [],⟨rfl,p,rfl,h⟩,trivial⟩
def lt2 (e f:Int × Int):Prop:=e.1 < f.1∨(e.1=f.1∧e.2 < f.2)
theorem lexLt_e2 (e f:Int × Int):HT.lexLt (e2 e) (e2 f)=true↔lt2 e f:=by
 show (if e.1=f.1 then (if e.2=f.2 then false else decide (e.2 < f.2)) else decide (e.1 < f.1))=true↔_
 unfold lt2
 by_cases h:e.1=f.1
 ·rw[if_pos h]
  by_cases h2:e.2=f.2
  ·rw[if_pos h2];simp;omega
  ·rw[if_neg h2,decide_eq_true_eq];omega
 ·rw[if_neg h,decide_eq_true_eq];omega
theorem lt2.trans {e f g:Int × Int} (h:lt2 e f) (k:lt2 f g):lt2 e g:=by unfold lt2 at *;omega
theorem rising_iff (es:List (Int × Int)):risingB es=true↔es.Pairwise lt2:=by
 have step:risingB es=true↔∀ i (h:i + 1 < es.length),lt2 es[i] es[i + 1]:=by
  unfold risingB
  rw[List.all_map,List.all_eq_true]
  constructor
  ·intro h i hi
   have:=h i (List.mem_range.mpr (by rw[List.length_drop];omega))
   have e1:es.getD i (0,0)=es[i]:=by simp [List.getD,show i < es.length by omega]
   have e3:(es.drop 1).getD i (0,0)=es[i + 1]:=by simp [List.getD,hi,Nat.add_comm 1 i]
   have q:HT.lexLt (e2 (es.getD i (0,0))) (e2 ((es.drop 1).getD i (0,0)))=true:=this
   rw[e1,e3] at q
   exact (lexLt_e2 _ _).mp q
  ·intro h i hi
   have hi':=List.mem_range.mp hi
   rw[List.length_drop] at hi'
   have h1:i + 1 < es.length:=by omega
   have e1:es.getD i (0,0)=es[i]:=by simp [List.getD,show i < es.length by omega]
   have e3:(es.drop 1).getD i (0,0)=es[i + 1]:=by simp [List.getD,h1,Nat.add_comm 1 i]
   show HT.lexLt (e2 (es.getD i (0,0))) (e2 ((es.drop 1).getD i (0,0)))=true
   rw[e1,e3]
   exact (lexLt_e2 _ _).mpr (h i h1)
 rw[step,List.pairwise_iff_getElem]
 constructor
 ·intro h i j hi hj hij
  have go:∀ k (hk:i + 1 + k < es.length),lt2 es[i] es[i + 1 + k]:=by
   intro k
   induction k with
   | zero=>intro hk;exact h i hk
   | succ k ih=>intro hk;exact (ih (by omega)).trans (h (i + 1 + k) hk)
  have:=go (j - i - 1) (by omega)
  have e:i + 1 + (j - i - 1)=j:=by omega
  simpa only [e] using this
 ·intro h i hi
  exact h i (i + 1) (by omega) hi (by omega)
structure PreT (n:Int) (ds:List PyData) (i:Nat) (a:Int × Int):Prop where
 tie:∀ d ∈ ds.take i,tieB n d=true
 up:((ds.take i).map endsD).Pairwise lt2
 top:∀ x ∈ (ds.take i).map endsD,x=a∨lt2 x a
 at_:a=(-1,-1)∨a ∈ (ds.take i).map endsD
theorem PreT.zero {n:Int} {ds:List PyData}:PreT n ds 0 (-1,-1):=⟨fun d h=>(by simp at h),(by simp),fun x h=>(by simp at h),.inl rfl⟩
theorem PreT.next {n:Int} {ds:List PyData} {i:Nat} {a:Int × Int} {d:PyData} (h:PreT n ds i a) (e:ds[i]?=some d) (ht:tieB n d=true) (hl:lt2 a (endsD d)):PreT n ds (i + 1) (endsD d):=by
 have t:=take_next e
 refine⟨fun d' hd=>?_,?_,fun y hy=>?_,.inr ?_⟩
 ·rw[t] at hd
  rcases List.mem_append.mp hd with hd | hd
  ·exact h.tie d' hd
  ·rw[List.mem_singleton.mp hd];exact ht
 ·rw[t,List.map_append,List.pairwise_append]
  refine⟨h.up,(by simp),fun y hy z hz=>?_⟩
  have ez:z=endsD d:=by simpa using hz
  subst ez
  rcases h.top y hy with e1 | e1
  ·rw[e1];exact hl
  ·exact e1.trans hl
 ·rw[t,List.map_append] at hy
  rcases List.mem_append.mp hy with hy | hy
  ·right
   rcases h.top y hy with e1 | e1
   ·rw[e1];exact hl
   ·exact e1.trans hl
  ·left;simpa using hy
 ·rw[t,List.map_append]
  exact List.mem_append_right _ (by simp)
theorem PreT.full {n:Int} {ds:List PyData} {a:Int × Int} (h:PreT n ds ds.length a) (h60:ds.length≤60):tiesB n (.tuple ds)=true:=by
 have e:ds.take ds.length=ds:=List.take_length
 have h1:=h.tie
 have h2:=h.up
 rw[e] at h1 h2
 show (decide (ds.length≤60) && ds.all (tieB n) && risingB (ds.map endsD))=true
 rw[(rising_iff _).mpr h2,List.all_eq_true.mpr h1,decide_eq_true h60];rfl
theorem PreT.bad {n:Int} {ds:List PyData} {i:Nat} {a:Int × Int} {d:PyData} (h:PreT n ds i a) (e:ds[i]?=some d) (hb:tieB n d=false∨(tieB n d=true∧¬ lt2 a (endsD d))):tiesB n (.tuple ds)=false:=by
 have mem:d ∈ ds:=List.mem_of_getElem? e
 show (decide (ds.length≤60) && ds.all (tieB n) && risingB (ds.map endsD))=false
 rcases hb with hb | ⟨hb,hn⟩
 ·have:ds.all (tieB n)=false:=by
   rw[Bool.eq_false_iff]
   intro q
   have:=List.all_eq_true.mp q d mem
   rw[hb] at this;cases this
  rw[this,Bool.and_false,Bool.false_and]
 ·have:risingB (ds.map endsD)=false:=by
   rw[Bool.eq_false_iff]
   intro q
   have pw:=(rising_iff _).mp q
   rcases h.at_ with ea | ea
   ·obtain⟨x,y,l,rfl,h0,h1,_⟩:=tie_of hb
    refine hn ?_
    rw[ea]
    show (-1:Int) < x∨_
    omega
   ·have split:ds.map endsD=(ds.take i).map endsD++((ds.drop i).map endsD):=by rw[← List.map_append,List.take_append_drop]
    rw[split,List.pairwise_append] at pw
    refine hn (pw.2.2 a ea _ (List.mem_map.mpr ⟨d,?_,rfl⟩))
    have hi:i < ds.length:=(List.getElem?_eq_some_iff.mp e).1
    rw[List.drop_eq_getElem_cons hi]
    have:ds[i]=d:=by rw[List.getElem?_eq_getElem hi] at e;exact Option.some.inj e
    rw[this]
    exact List.mem_cons_self
  rw[this,Bool.and_false]
end L3
namespace L3
open PySem PySem.Spec PyProof.Rows L2
section
variable {X:Cx} {es:List Expr} {t:TA} {pos:Pos}
def tTupG (t:TA):TE:=fun σ H Q=>t σ H fun xs H1=>xs.length≤1000∧∀ p H',Same H1 H'->H1 p=none->H' p=some (.tup xs)->Q (.ref p) H'
def tLstG (t:TA):TE:=fun σ H Q=>t σ H fun xs H1=>xs.length≤1000∧∀ p H',Same H1 H'->H1 p=none->H' p=some (.lst xs)->Q (.ref p) H'
theorem pe_tupG {x1} (h:PA X es t):PE X (.Tuple es x1 pos) (tTupG t):=by
 intro pins s σ H Q I hq
 refine wpAny_Tuple_spliced (thn (h pos pins s σ H _ I hq) fun us s1 ⟨xs,J,I1,r,z,q⟩=>?_)
 have z':xs.length≤sizeLine:=Nat.le_trans z (by decide)
 have fr:J s1.heap.objs.size=none:=I1.hok.fresh (Nat.le_refl _)
 refine⟨by rw[← r.length];exact z',.ref s1.heap.objs.size,upd J s1.heap.objs.size (.tup xs),I1.laid (t':=s1.toks) (fun b u e=>Heap.get?_push_of_some _ e) (Nat.le_refl _) ⟨z',us,r,⟨_,Heap.get?_push_size _ rfl,rfl,⟨_,rfl⟩,rfl⟩⟩,rfl,q _ _ (same_new fr) fr upd_same⟩
theorem pe_lstG (h:PA X es t):PE X (.List es pos) (tLstG t):=by
 intro pins s σ H Q I hq
 refine wpAny_List_spliced (thn (h pos pins s σ H _ I hq) fun us s1 ⟨xs,J,I1,r,z,q⟩=>?_)
 have z':xs.length≤sizeLine:=Nat.le_trans z (by decide)
 have fr:J s1.heap.objs.size=none:=I1.hok.fresh (Nat.le_refl _)
 refine⟨by rw[← r.length];exact z',.ref s1.heap.objs.size,upd J s1.heap.objs.size (.lst xs),I1.laid (t':=s1.toks) (fun b u e=>Heap.get?_push_of_some _ e) (Nat.le_refl _) ⟨z',us,0,r,Heap.get?_push_size _ rfl⟩,rfl,q _ _ (same_new fr) fr upd_same⟩
def rAppendG:V->List V->Hp->VK->Prop:=fun x vs H Q=>∃ l xs y,x=.ref l∧vs=[y]∧H l=some (.lst xs)∧xs.length < 1000∧∀ H',But l H H'->H' l=some (.lst (xs++[y]))->Q .non H'
theorem mt_appendG:MtM X "list.append" rAppendG:=by
 intro pins s σ H x vs v us Q I rx rv h
 obtain⟨l,xs,y,rfl,rfl,hH,hz,q⟩:=h
 exact mt_append (X:=X) pins s σ H _ _ v us Q I rx rv ⟨l,xs,y,rfl,rfl,hH,Nat.lt_of_lt_of_le hz (by decide),q _ But.upd upd_same⟩
/-- list(..), tuple(..) of what stands -/
theorem call_listG:CallR X (.type "list") (fun xs H Q=>∃ p ys,xs=[.ref p]∧(H p=some (.lst ys)∨H p=some (.tup ys))∧∀ l H',Same H H'->H l=none->H' l=some (.lst ys)->Q (.ref l) H'):=by
 intro pins s σ H xs us Q I r h
 obtain⟨p,ys,rfl,hp,q⟩:=h
 exact call_list_of (X:=X) pins s σ H _ us Q I r ⟨p,ys,rfl,hp.elim (fun e=>.inl (SqL.of e)) (fun e=>.inr (SqT.of e)),fun l hl=>q l _ (same_new hl) hl upd_same⟩
end
def Sm (H:Hp) (t:Addr):Prop:=∃ vs:List V,(H t=some (.tup vs)∨H t=some (.lst vs))∧vs.length≤1000∧vs.all flatD=true
theorem Sm.same {H H':Hp} {t:Addr} (h:Sm H t) (s:Same H H'):Sm H' t:=let ⟨vs,h1,h2⟩:=h;⟨vs,h1.elim (fun e=>.inl (s _ _ e)) (fun e=>.inr (s _ _ e)),h2⟩
theorem Sm.some {H:Hp} {t:Addr} (h:Sm H t):H t≠none:=fun z=>by
 obtain⟨vs,h1,_⟩:=h
 rcases h1 with e | e <;> (rw[z] at e;cases e)
theorem Sm.good {H:Hp} {t:Addr} (h:Sm H t):Gd H 1 (.ref t):=by
 obtain⟨vs,h1,h2,h3⟩:=h
 exact .inr (.inl ⟨t,vs,rfl,h1,h2,fun u hu=>List.all_eq_true.mp h3 u hu⟩)
def GdF (H:Hp) (xs:List V):Prop:=∀ u ∈ xs,∃ t,u=.ref t∧Sm H t
def GdL (l:Addr) (H:Hp) (xs:List V):Prop:=∀ u ∈ xs,∃ t,u=.ref t∧t≠l∧Sm H t
theorem GdF.nil {H:Hp}:GdF H []:=fun u h=>by cases h
theorem GdF.snoc {H H':Hp} {xs:List V} {t:Addr} (h:GdF H xs) (s:Same H H') (ht:Sm H' t):GdF H' (xs++[.ref t]):=fun u hu=>by
 rcases List.mem_append.mp hu with hu | hu
 ·obtain⟨t',e,h'⟩:=h u hu;exact⟨t',e,h'.same s⟩
 ·exact⟨t,List.mem_singleton.mp hu,ht⟩
theorem GdL.same {l:Addr} {H H':Hp} {xs:List V} (h:GdL l H xs) (s:Same H H'):GdL l H' xs:=fun u hu=>let ⟨t,e,n,h'⟩:=h u hu;⟨t,e,n,h'.same s⟩
theorem GdL.but {l:Addr} {H H':Hp} {xs:List V} (h:GdL l H xs) (b:But l H H'):GdL l H' xs:=fun u hu=>by
 obtain⟨t,e,n,vs,h1,h2⟩:=h u hu
 exact⟨t,e,n,vs,h1.elim (fun z=>.inl (b _ _ n z)) (fun z=>.inr (b _ _ n z)),h2⟩
theorem GdL.append {l:Addr} {H:Hp} {xs ys:List V} (h:GdL l H xs) (k:GdL l H ys):GdL l H (xs++ys):=fun u hu=>(List.mem_append.mp hu).elim (h u) (k u)
theorem GdL.nil {l:Addr} {H:Hp}:GdL l H []:=fun u h=>by cases h
theorem GdL.snoc {l:Addr} {H H':Hp} {xs:List V} {t:Addr} (h:GdL l H xs) (s:Same H H') (f:H t=none) (hl:H l≠none) (ht:Sm H' t):GdL l H' (xs++[.ref t]):=fun u hu=>by
 rcases List.mem_append.mp hu with hu | hu
 ·exact h.same s u hu
 ·exact⟨t,List.mem_singleton.mp hu,fun z=>hl (z ▸ f),ht⟩
theorem at_list {H:Hp} {l:Addr} {xs:List V} {r:Int} (_:H l=some (.lst xs)) (n:Nat) (hn:xs.length=n) (h0:0≤r) (h1:r < (n:Int)):∃ x,x ∈ xs∧atI xs r=some x:=atI_in h0 (by rw[hn];exact h1)
theorem cat_lst {prog:Program} {w:World} {A:Around} {E:Value->Shared->Prop} {s:Shared} {l b:Addr} {vs ws:List Value} {Q:Value->Shared->Prop} (hl:s.heap.IsList l vs.toArray) (hb:s.heap.IsList b ws.toArray)
  (h:Q (.ref s.heap.objs.size) { s with heap:=s.heap.push { cls:=.type "list",data:=.seq (vs++ws).toArray } }) (hz:vs.length + ws.length≤sizeLine):wpAny (model prog w) A (binaryOp .Add (.ref l) (.ref b)) Q E s:=by
 obtain⟨⟨c1,d1,t1,s1⟩,g1,h1,n1,e1⟩:=id hl
 obtain⟨⟨c2,d2,t2,s2⟩,g2,h2,n2,e2⟩:=id hb
 simp only at h1 e1 h2 e2
 subst h1 e1 h2 e2
 have e:vs.toArray++ws.toArray=(vs++ws).toArray:=by simp
 refine concat_meets ⟨_,g1,rfl⟩ ⟨_,g2,rfl⟩ noFill_list_add seq_list_add PySem.F.slot_list_add PySem.F.entry_list_add (PySem.F.args_list_add_2 _ _) (list_addW l b vs.toArray ws.toArray n1 n2 d1 d2 s1 s2 (by rw[List.size_toArray,List.size_toArray];exact hz)) ⟨g1,g2,?_⟩
 rw[e]
 exact h
/-- l + m -/
def rCatL:R2:=fun x y H Q=>∃ a b xs ys,x=.ref a∧y=.ref b∧H a=some (.lst xs)∧H b=some (.lst ys)∧xs.length + ys.length≤1000∧∀ p H',Same H H'->H p=none->H' p=some (.lst (xs++ys))->Q (.ref p) H'
theorem op_catL {X:Cx}:OpR X (binaryOp .Add) rCatL:=by
 intro pins s σ H x y v u Q I rx ry h
 obtain⟨a,b,xs,ys,rfl,rfl,ha,hb,hz,q⟩:=h
 cases rx
 cases ry
 obtain⟨its,r1,p1,_⟩:=I.list (SqL.of ha)
 obtain⟨jts,r2,p2,_⟩:=I.list (SqL.of hb)
 have hz':xs.length + ys.length≤sizeLine:=Nat.le_trans hz (by decide)
 have fr:H s.heap.objs.size=none:=I.hok.fresh (Nat.le_refl _)
 refine cat_lst p1.isList p2.isList ⟨.ref s.heap.objs.size,_,I.laid (t':=s.toks) (o:=.lst (xs++ys)) (fun b ob q=>Heap.get?_push_of_some _ q) (Nat.le_refl _) ⟨by rw[List.length_append];exact hz',_,0,r1.append r2,Heap.get?_push_size _ rfl⟩,rfl,q _ _ (same_new fr) fr upd_same⟩ (by rw[← r1.length,← r2.length];exact hz')
section
variable {g:TG} {te:TE} {own:List Str} {js:List Nat} {σ:L2.St} {H1:Hp} {Q:VK}
theorem comp_range {lo:Int} {n:Nat} (Sg:L2.St->Prop) (R:Nat->V->Hp->Prop) (hn:n≤1000) (h0:Sg (start3 own js σ)) (mono:∀ i v H H',TupKeep H H'->R i v H->R i v H')
  (step:∀ i σ' H',i < n->Same H1 H'->Sg σ'->∀ C:L2.St->V->Hp->Prop,(∀ σ3 v H5,Sg σ3->Same H' H5->R i v H5->C σ3 v H5)->g (.int (lo + i)) σ' H' fun σ3 H3=>te σ3 H3 fun v H5=>C σ3 v H5)
  (fin:∀ D ys H',H1 D=none->Same H1 H'->H' D=some (.lst ys)->ys.length=n->(∀ i v,ys[i]?=some v->R i v H')->Q (.ref D) H'):CompGo own js g tTrue te σ Q (Itr lo n) H1:=by
 refine comp_map n Sg R hn h0 mono (fun i H' hi s=>hi) (fun H' s=>Nat.le_refl _) (fun i x σ' H' H2 hi s hy sg C hC=>?_) fin
 obtain⟨rfl,rfl⟩:=hy
 exact step i σ' _ hi s sg C hC
end
theorem call_tupleG {X:Cx}:CallR X (.type "tuple") (fun xs H Q=>∃ p ys,xs=[.ref p]∧H p=some (.lst ys)∧∀ l H',Same H H'->H l=none->H' l=some (.tup ys)->Q (.ref l) H'):=by
 intro pins s σ H xs us Q I r h
 obtain⟨p,ys,rfl,hp,q⟩:=h
 exact call_tuple_of (X:=X) pins s σ H _ us Q I r ⟨p,ys,rfl,.inl ⟨SqL.of hp,fun l hl=>q l _ (same_new hl) hl upd_same⟩⟩
/-- rows of three whole numbers, sorted: the same rows -/
def Row3 (H:Hp) (v:V):Prop:=∃ (t:Addr) (x y z:Int),v=.ref t∧H t=some (.tup [.int x,.int y,.int z])
theorem Row3.keep {H H':Hp} {v:V} (k:TupKeep H H') (h:Row3 H v):Row3 H' v:=let ⟨t,x,y,z,e,h⟩:=h;⟨t,x,y,z,e,k _ _ h⟩
theorem Row3.good {H:Hp} {v:V} (h:Row3 H v):Gd H 1 v:=by
 obtain⟨t,x,y,z,rfl,e⟩:=h
 exact Gd.tup e (by show 3≤1000;decide) fun u hu=>List.all_eq_true.mp (show [V.int x,V.int y,V.int z].all flatD=true from rfl) u hu
structure BE (X:Cx) (e:Expr) (t:TE):Prop where
 h:PE X e t
structure BA (X:Cx) (es:List Expr) (t:TA):Prop where
 h:PA X es t
structure BS (X:Cx) (st:Stmt) (t:TS):Prop where
 h:PS X st t
structure BSs (X:Cx) (ss:List Stmt) (t:TS):Prop where
 h:PSs X ss t
section
variable {X:Cx}
theorem bss_cons {st:Stmt} {rest:List Stmt} {t u:TS} (a:BS X st t) (b:BSs X rest u):BSs X (st::rest) (tSeq t u):=⟨pss_cons a.h b.h⟩
theorem bss_one {st:Stmt} {t:TS} (a:BS X st t):BSs X [st] t:=⟨pss_one a.h⟩
theorem bs_set {pos:Pos} {i:Nat} {x:Str} {e:Expr} {te:TE} {pos':Pos} (hN:X.N.Nodup) (hi:X.N[i]?=some x) (hx:L2.Loc X.env.scope x) (he:BE X e te) (hs:swapsWith e (some (.Name x pos')) pos.line X.env=pure false:=by rfl)
  (hf:X.fn x=true∨X.env.scope.names.lookup x=some .local:=by first | exact .inl rfl | exact .inr rfl | assumption):BS X (.Assign [.Name x pos'] e pos) (tAsg te (gName i)):=⟨ps_set hN hi hx he.h hs hf⟩
theorem be_lstG {es:List Expr} {t:TA} {pos:Pos} (a:BA X es t):BE X (.List es pos) (tLstG t):=⟨pe_lstG a.h⟩
theorem be_tupG {es:List Expr} {t:TA} {pos:Pos} {x1:Nat} (a:BA X es t):BE X (.Tuple es x1 pos) (tTupG t):=⟨pe_tupG a.h⟩
theorem ba_nil:BA X [] tNil:=⟨pa_nil⟩
theorem be_op {a b:Expr} {ta tb:TE} {pos:Pos} {op:Operator} {r:R2} (ho:OpR X (binaryOp op) r) (ha:BE X a ta) (hb:BE X b tb):BE X (.BinOp a op b pos) (tOp r ta tb):=⟨pe_op ho ha.h hb.h⟩
end
end L3
namespace Far
/-- walks along arcs, with their lengths -/
inductive Walk (A:List (Nat × Nat × Int)) (s:Nat):Nat->Int->Prop
 | nil:Walk A s s 0
 | snoc {u v:Nat} {l x:Int}:Walk A s u x->(u,v,l) ∈ A->Walk A s v (x + l)
variable {A:List (Nat × Nat × Int)} {s:Nat}
def Pos (A:List (Nat × Nat × Int)):Prop:=∀ u v l,(u,v,l) ∈ A->1≤l
theorem Walk.nonneg (P:Pos A) {v:Nat} {x:Int} (h:Walk A s v x):0≤x:=by
 induction h with
 | nil=>exact Int.le_refl 0
 | snoc _ m ih=>have:=P _ _ _ m;omega
def Dst (A:List (Nat × Nat × Int)) (s v:Nat) (o:Option Int):Prop:=(∀ y,o=some y->Walk A s v y)∧∀ L,Walk A s v L->∃ y,o=some y∧y≤L
theorem Dst.unique {v:Nat} {o p:Option Int} (h:Dst A s v o) (k:Dst A s v p):o=p:=by
 cases o with
 | none =>
  cases p with
  | none=>rfl
  | some y=>obtain⟨_,e,_⟩:=h.2 y (k.1 y rfl);cases e
 | some x =>
  obtain⟨y,rfl,hy⟩:=k.2 x (h.1 x rfl)
  obtain⟨z,e,hz⟩:=h.2 y (k.1 y rfl)
  cases e
  rw[show x=y by omega]
theorem least {P:Nat->Prop}:∀ n,P n->∃ m,P m∧∀ k,P k->m≤k:=by
 intro n
 induction n using Nat.strongRecOn with
 | ind n ih =>
  intro h
  by_cases c:∃ k,k < n∧P k
  ·obtain⟨k,hk,pk⟩:=c;exact ih k hk pk
  ·exact⟨n,h,fun k pk=>by
    by_cases z:k < n
    ·exact absurd ⟨k,z,pk⟩ c
    ·omega⟩
theorem dst_exists (P:Pos A) (s v:Nat):∃ o,Dst A s v o:=by
 by_cases c:∃ x,Walk A s v x
 ·obtain⟨x,hx⟩:=c
  have nn:=hx.nonneg P
  obtain⟨m,hm,mn⟩:=least (P:=fun k=>Walk A s v (k:Int)) x.toNat (by rw[Int.toNat_of_nonneg nn];exact hx)
  refine⟨some m,fun y e=>by cases e;exact hm,fun L hL=>⟨m,rfl,?_⟩⟩
  have n2:=hL.nonneg P
  have:=mn L.toNat (by rw[Int.toNat_of_nonneg n2];exact hL)
  omega
 ·exact⟨none,⟨fun y e=>(by cases e),fun L hL=>absurd ⟨L,hL⟩ c⟩⟩
theorem Walk.cons {u v:Nat} {l:Int} (m:(u,v,l) ∈ A) {w:Nat} {x:Int} (h:Walk A v w x):Walk A u w (x + l):=by
 induction h with
 | nil=>exact .snoc .nil m
 | snoc _ m' ih=>rw[Int.add_right_comm];exact .snoc ih m'
def Sym (A:List (Nat × Nat × Int)):Prop:=∀ u v l,(u,v,l) ∈ A->(v,u,l) ∈ A
theorem Walk.back (S:Sym A) {v:Nat} {x:Int} (h:Walk A s v x):Walk A v s x:=by
 induction h with
 | nil=>exact .nil
 | snoc _ m ih=>exact ih.cons (S _ _ _ m)
theorem Dst.back (S:Sym A) {v:Nat} {o:Option Int} (h:Dst A s v o):Dst A v s o:=⟨fun y e=>(h.1 y e).back S,fun L hL=>h.2 L (hL.back S)⟩
def lt2 (e f:Int × Int):Prop:=e.1 < f.1∨(e.1=f.1∧e.2 < f.2)
def get {α:Type} (cs:List (Option α)) (v:Nat):Option α:=cs.getD v none
theorem get_set {α:Type} {cs:List (Option α)} {v i:Nat} {x:Option α} (h:v < cs.length):get (cs.set v x) i=if i=v then x else get cs i:=by
 unfold get
 rw[List.getD_eq_getElem?_getD,List.getElem?_set,List.getD_eq_getElem?_getD]
 by_cases c:v=i
 ·subst c;simp [h]
 ·simp [c,Ne.symm c]
def ct {α:Type}:List (Option α)->Nat
 | []=>0
 | none::r=>ct r
 | some _::r=>ct r + 1
theorem ct_le {α:Type}:∀ cs:List (Option α),ct cs≤cs.length
 | []=>Nat.le_refl 0
 | none::r=>Nat.le_succ_of_le (ct_le r)
 | some _::r=>Nat.succ_le_succ (ct_le r)
theorem ct_set {α:Type} {c:α}:∀ {cs:List (Option α)} {v:Nat},v < cs.length->ct (cs.set v (some c))=ct cs + (if (get cs v).isSome then 0 else 1)
 | none::r,0,_=>rfl
 | some _::r,0,_=>rfl
 | none::r,v + 1,h=>ct_set (cs:=r) (v:=v) (by simpa using h)
 | some _::r,v + 1,h=>by
  have:=ct_set (c:=c) (cs:=r) (v:=v) (by simpa using h)
  show ct (r.set v (some c)) + 1=ct r + 1 + _
  rw[this]
  show _=ct r + 1 + (if (get r v).isSome then 0 else 1)
  omega
theorem ct_pos {α:Type}:∀ {cs:List (Option α)} {v:Nat} {c:α},get cs v=some c->1≤ct cs
 | [],v,c,h=>by cases h
 | some _::r,_,_,_=>Nat.succ_le_succ (Nat.zero_le _)
 | none::r,0,c,h=>by cases h
 | none::r,v + 1,c,h=>ct_pos (cs:=r) (v:=v) (c:=c) h
/-- the weight of costs, which falls -/
def WM:Int:=2 ^ 130
def mW:Option (Int × Int)->Nat
 | none=>(2 ^ 250)
 | some c=>(c.1 * WM + c.2).toNat
def mu:List (Option (Int × Int))->Nat
 | []=>0
 | c::r=>mW c + mu r
theorem mu_set {x:Option (Int × Int)}:∀ {cs:List (Option (Int × Int))} {v:Nat},v < cs.length->mW x < mW (get cs v)->mu (cs.set v x) < mu cs
 | c::r,0,_,h=>Nat.add_lt_add_right (k:=mu r) h
 | c::r,v + 1,hl,h=>Nat.add_lt_add_left (k:=mW c) (mu_set (cs:=r) (v:=v) (by simpa using hl) h)
structure Good (A:List (Nat × Nat × Int)) (n s:Nat) (cs:List (Option (Int × Int))):Prop where
 len:cs.length=n
 walk:∀ v c,get cs v=some c->Walk A s v c.1
 w0:∀ v c,get cs v=some c->0≤c.2∧c.2≤c.1 * 2 ^ 60
 top:∀ v c,get cs v=some c->c.1≤((ct cs:Nat) - 1:Int) * 10 ^ 18
 start:∃ c,get cs s=some c∧c.1≤0
theorem Good.step {n u v:Nat} {l w:Int} {cs:List (Option (Int × Int))} {c:Int × Int} (P:Pos A) (n24:n≤24) (g:Good A n s cs) (arc:(u,v,l) ∈ A) (l1:l≤10 ^ 18) (w0:0≤w) (w1:w≤2 ^ 60) (hv:v < n) (hu:get cs u=some c)
  (h:get cs v=none∨∃ c',get cs v=some c'∧lt2 (c.1 + l,c.2 + w) c'):Good A n s (cs.set v (some (c.1 + l,c.2 + w)))∧mu (cs.set v (some (c.1 + l,c.2 + w))) < mu cs:=by
 have hv':v < cs.length:=by rw[g.len];exact hv
 have l0:=P _ _ _ arc
 have wk:=Walk.snoc (g.walk _ _ hu) arc
 have c0:=(g.walk _ _ hu).nonneg P
 obtain⟨cw0,cw1⟩:=g.w0 _ _ hu
 have ct24:ct cs≤24:=by have:=ct_le cs;rw[g.len] at this;omega
 have ctp:=ct_pos hu
 have es:=ct_set (c:=(c.1 + l,c.2 + w)) hv'
 have topc:=g.top _ _ hu
 have wbound:c.2 + w≤(c.1 + l) * 2 ^ 60:=by rw[Int.add_mul];omega
 have big:c.1 + l≤((ct (cs.set v (some (c.1 + l,c.2 + w))):Nat) - 1:Int) * 10 ^ 18:=by
  rw[es]
  rcases h with h | ⟨c',h,hlt⟩
  ·rw[h]
   show _≤(((ct cs + 1:Nat):Int) - 1) * 10 ^ 18
   omega
  ·rw[h]
   show _≤(((ct cs + 0:Nat):Int) - 1) * 10 ^ 18
   have:=g.top _ _ h
   unfold lt2 at hlt
   simp only at hlt
   omega
 have ctm:ct cs≤ct (cs.set v (some (c.1 + l,c.2 + w))):=by rw[es];exact Nat.le_add_right _ _
 refine⟨⟨by rw[List.length_set];exact g.len,fun v' d e=>?_,fun v' d e=>?_,fun v' d e=>?_,?_⟩,?_⟩
 ·rw[get_set hv'] at e
  split at e
  ·rename_i z;subst z;cases e;exact wk
  ·exact g.walk _ _ e
 ·rw[get_set hv'] at e
  split at e
  ·cases e;exact⟨by show 0≤c.2 + w;omega,wbound⟩
  ·exact g.w0 _ _ e
 ·rw[get_set hv'] at e
  split at e
  ·cases e;exact big
  ·have:=g.top _ _ e
   omega
 ·obtain⟨d,hd,hd0⟩:=g.start
  rw[get_set hv']
  split
  ·rename_i z;subst z
   refine⟨_,rfl,?_⟩
   rcases h with h | ⟨c',h,hlt⟩
   ·rw[h] at hd;cases hd
   ·rw[h] at hd;cases hd
    unfold lt2 at hlt
    simp only at hlt
    show c.1 + l≤0
    omega
  ·exact⟨d,hd,hd0⟩
 ·refine mu_set hv' ?_
  have ctb:ct (cs.set v (some (c.1 + l,c.2 + w)))≤24:=by have:=ct_le (cs.set v (some (c.1 + l,c.2 + w)));rw[List.length_set,g.len] at this;omega
  have x23:c.1 + l≤23 * 10 ^ 18:=by omega
  have y23:c.2 + w≤23 * 10 ^ 18 * 2 ^ 60:=by omega
  have WMe:WM=1361129467683753853853498429727072845824:=by decide
  rcases h with h | ⟨c',h,hlt⟩
  ·rw[h]
   show ((c.1 + l) * WM + (c.2 + w)).toNat < 2 ^ 250
   have:(c.1 + l) * WM + (c.2 + w) < 2 ^ 250:=by rw[WMe];omega
   omega
  ·rw[h]
   obtain⟨d0,d1⟩:=g.w0 _ _ h
   have t0:=(g.walk _ _ h).nonneg P
   have tt:=g.top _ _ h
   show ((c.1 + l) * WM + (c.2 + w)).toNat < (c'.1 * WM + c'.2).toNat
   unfold lt2 at hlt
   simp only at hlt
   have:(c.1 + l) * WM + (c.2 + w) < c'.1 * WM + c'.2:=by
    rw[WMe]
    rcases hlt with z | ⟨z,z'⟩
    ·omega
    ·rw[z];omega
   have p0:0≤(c.1 + l) * WM + (c.2 + w):=by rw[WMe];omega
   omega
/-- stable along arcs -/
def Stab (A:List (Nat × Nat × Int)) (cs:List (Option (Int × Int))):Prop:=∀ u v l c,(u,v,l) ∈ A->get cs u=some c->∃ c',get cs v=some c'∧c'.1≤c.1 + l
theorem Good.dst {n:Nat} {cs:List (Option (Int × Int))} (g:Good A n s cs) (st:Stab A cs) (v:Nat):Dst A s v ((get cs v).map (·.1)):=by
 refine⟨fun y e=>?_,fun L hL=>?_⟩
 ·cases h:get cs v with
  | none=>rw[h] at e;cases e
  | some c=>rw[h] at e;cases e;exact g.walk _ _ h
 ·have:∃ c,get cs v=some c∧c.1≤L:=by
   induction hL with
   | nil=>exact g.start
   | snoc _ m ih =>
    obtain⟨c,hc,hle⟩:=ih
    obtain⟨c',hc',hle'⟩:=st _ _ _ _ m hc
    exact⟨c',hc',by omega⟩
  obtain⟨c,hc,hle⟩:=this
  exact⟨c.1,by rw[hc];rfl,hle⟩
structure Snd (A:List (Nat × Nat × Int)) (n s:Nat) (D:List (Option Int)):Prop where
 len:D.length=n
 walk:∀ v x,get D v=some x->Walk A s v x
 start:∃ x,get D s=some x∧x≤0
structure Rnd (A:List (Nat × Nat × Int)) (n s:Nat) (δ:Nat->Option Int) (D0:List (Option Int)) (B:(Nat × Nat × Int)->Prop) (D:List (Option Int)):Prop where
 snd:Snd A n s D
 keep:∀ v,get D0 v=δ v->get D v=δ v
 arc:∀ u v l x,B (u,v,l)->get D0 u=δ u->δ u=some x->∃ y,get D v=some y∧y≤x + l
section
variable {n:Nat} {δ:Nat->Option Int} {D0 D:List (Option Int)} {B:(Nat × Nat × Int)->Prop} {u v:Nat} {l:Int}
def plus (B:(Nat × Nat × Int)->Prop) (a:Nat × Nat × Int):(Nat × Nat × Int)->Prop:=fun b=>B b∨b=a
theorem Rnd.no (r:Rnd A n s δ D0 B D) (hu:get D u=none):Rnd A n s δ D0 (plus B (u,v,l)) D:=by
 refine⟨r.snd,r.keep,fun u' v' l' x b e1 e2=>?_⟩
 rcases b with b | b
 ·exact r.arc _ _ _ _ b e1 e2
 ·cases b
  have:=r.keep _ e1
  rw[hu,e2] at this;cases this
theorem Rnd.old (r:Rnd A n s δ D0 B D) {x' y:Int} (hu:get D u=some x') (hv:get D v=some y) (hy:y≤x' + l):Rnd A n s δ D0 (plus B (u,v,l)) D:=by
 refine⟨r.snd,r.keep,fun u' v' l' x b e1 e2=>?_⟩
 rcases b with b | b
 ·exact r.arc _ _ _ _ b e1 e2
 ·cases b
  have:=r.keep _ e1
  rw[hu,e2] at this;cases this
  exact⟨y,hv,hy⟩
theorem Rnd.put (dd:∀ v,Dst A s v (δ v)) (m:(u,v,l) ∈ A) (hn:v < n) (r:Rnd A n s δ D0 B D) {x':Int} (hu:get D u=some x') (hv:get D v=none∨∃ y,get D v=some y∧x' + l < y) (P:Pos A):Rnd A n s δ D0 (plus B (u,v,l)) (D.set v (some (x' + l))):=by
 have hl:v < D.length:=by rw[r.snd.len];exact hn
 have wk:=Walk.snoc (r.snd.walk _ _ hu) m
 obtain⟨d,hd,hdl⟩:=(dd v).2 _ wk
 have bad:get D0 v=δ v->False:=fun e=>by
  have e':=r.keep _ e
  rcases hv with hv | ⟨y,hv,hy⟩
  ·rw[hv,hd] at e';cases e'
  ·rw[hv,hd] at e';cases e';omega
 refine⟨⟨by rw[List.length_set];exact r.snd.len,fun i x e=>?_,?_⟩,fun i e=>?_,fun u' v' l' x b e1 e2=>?_⟩
 ·rw[get_set hl] at e
  split at e
  ·rename_i z;subst z;cases e;exact wk
  ·exact r.snd.walk _ _ e
 ·rw[get_set hl]
  split
  ·rename_i z;subst z
   obtain⟨x,hx,hx0⟩:=r.snd.start
   rcases hv with hv | ⟨y,hv,hy⟩
   ·rw[hv] at hx;cases hx
   ·rw[hv] at hx;cases hx
    exact⟨_,rfl,by omega⟩
  ·exact r.snd.start
 ·rw[get_set hl]
  split
  ·rename_i z;subst z;exact absurd e bad
  ·exact r.keep _ e
 ·rw[get_set hl]
  rcases b with b | b
  ·obtain⟨y',hy',hle⟩:=r.arc _ _ _ _ b e1 e2
   split
   ·rename_i z;subst z
    refine⟨_,rfl,?_⟩
    rcases hv with hv | ⟨y,hv,hy⟩
    ·rw[hv] at hy';cases hy'
    ·rw[hv] at hy';cases hy';omega
   ·exact⟨y',hy',hle⟩
  ·cases b
   have:=r.keep _ e1
   rw[hu,e2] at this;cases this
   rw[if_pos rfl]
   exact⟨_,rfl,Int.le_refl _⟩
theorem Rnd.next (dd:∀ v,Dst A s v (δ v)) (P:Pos A) (inn:∀ u v l,(u,v,l) ∈ A->u < n∧v < n) (s0:Snd A n s D0) (r:Rnd A n s δ D0 B D) (all:∀ a ∈ A,B a):∀ (k:Nat) (v:Nat),v < n->get D0 v≠δ v->(∀ d,δ v=some d->d.toNat≤k)->∃ v,v < n∧get D0 v≠δ v∧get D v=δ v:=by
 intro k
 induction k using Nat.strongRecOn with
 | ind k ih =>
  intro v hv hne hk
  cases e:δ v with
  | none =>
   cases e2:get D0 v with
   | none=>exact absurd (e2.trans e.symm) hne
   | some x =>
    obtain⟨y,hy,_⟩:=(dd v).2 _ (s0.walk _ _ e2)
    rw[e] at hy;cases hy
  | some d =>
   have wk:=(dd v).1 _ e
   have hkd:=hk _ e
   cases hw:wk with
   | nil =>
    obtain⟨x,hx,hx0⟩:=s0.start
    have:=(s0.walk _ _ hx).nonneg P
    have:x=0:=by omega
    subst this
    exact absurd (hx.trans e.symm) hne
   | @snoc u _ l x w m =>
    obtain⟨y,hy,hyx⟩:=(dd u).2 _ w
    obtain⟨d',hd',hle⟩:=(dd v).2 _ (Walk.snoc ((dd u).1 _ hy) m)
    rw[e] at hd';cases hd'
    have yx:y=x:=by omega
    subst yx
    by_cases c:get D0 u=δ u
    ·obtain⟨y',hy',hle'⟩:=r.arc _ _ _ _ (all _ m) c hy
     obtain⟨d',hd',hle2⟩:=(dd v).2 _ (r.snd.walk _ _ hy')
     rw[e] at hd';cases hd'
     have:y'=y + l:=by omega
     subst this
     exact⟨v,hv,hne,hy'.trans e.symm⟩
    ·have l1:=P _ _ _ m
     have y0:=((dd u).1 _ hy).nonneg P
     refine ih (k - 1) (by omega) u (inn _ _ _ m).1 c fun d hd=>?_
     rw[hy] at hd;cases hd;omega
end
theorem countP_lt {α:Type} {p q:α->Bool}:∀ {xs:List α},(∀ x ∈ xs,p x=true->q x=true)->(∃ x ∈ xs,q x=true∧p x=false)->xs.countP p < xs.countP q
 | [],_,⟨x,h,_⟩=>by cases h
 | a::r,h,⟨x,hx,e1,e2⟩=>by
  rw[List.countP_cons,List.countP_cons]
  have le:r.countP p≤r.countP q:=List.countP_mono_left fun x hx=>h x (List.mem_cons_of_mem _ hx)
  rcases List.mem_cons.mp hx with rfl | hx
  ·rw[e1,e2];simp;omega
  ·have:=countP_lt (xs:=r) (fun x hx=>h x (List.mem_cons_of_mem _ hx)) ⟨x,hx,e1,e2⟩
   have:=h a List.mem_cons_self
   cases e:p a <;> cases e':q a <;> simp_all <;> omega
def cnt (n:Nat) (δ:Nat->Option Int) (D:List (Option Int)):Nat:=(List.range n).countP fun v=>decide (get D v=δ v)
def Done (n:Nat) (δ:Nat->Option Int) (D:List (Option Int)) (k:Nat):Prop:=(∀ v,v < n->get D v=δ v)∨k + 1≤cnt n δ D
theorem Done.round {n:Nat} {δ:Nat->Option Int} {D0 D:List (Option Int)} {B:(Nat × Nat × Int)->Prop} {k:Nat} (dd:∀ v,Dst A s v (δ v)) (P:Pos A) (inn:∀ u v l,(u,v,l) ∈ A->u < n∧v < n) (s0:Snd A n s D0) (r:Rnd A n s δ D0 B D) (all:∀ a ∈ A,B a) (h:Done n δ D0 k):Done n δ D (k + 1):=by
 by_cases c:∀ v,v < n->get D0 v=δ v
 ·exact .inl fun v hv=>r.keep v (c v hv)
 ·rcases h with h | h
  ·exact absurd h c
  ·have ⟨v,z⟩:=Classical.not_forall.mp c
   have ⟨hv,hne⟩:=Classical.not_imp.mp z
   obtain⟨v',hv',n0,n1⟩:=r.next dd P inn s0 all ((δ v).getD 0).toNat v hv hne fun d e=>by rw[e];exact Nat.le_refl _
   refine .inr (Nat.lt_of_le_of_lt h (countP_lt (fun x _ e=>?_) ⟨v',List.mem_range.mpr hv',decide_eq_true n1,decide_eq_false n0⟩))
   exact decide_eq_true (r.keep x (of_decide_eq_true e))
theorem Done.first {n:Nat} {δ:Nat->Option Int} {D:List (Option Int)} {v:Nat} (hv:v < n) (h:get D v=δ v):Done n δ D 0:=by
 refine .inr ?_
 exact List.countP_pos_iff.mpr ⟨v,List.mem_range.mpr hv,decide_eq_true h⟩
theorem Done.all {n:Nat} {δ:Nat->Option Int} {D:List (Option Int)} (h:Done n δ D n):∀ v,v < n->get D v=δ v:=by
 rcases h with h | h
 ·exact h
 ·have:cnt n δ D≤n:=by
   have:=List.countP_le_length (p:=fun v=>decide (get D v=δ v)) (l:=List.range n)
   rw[List.length_range] at this;exact this
  omega
def PSt (c0:List (Option (Int × Int))) (B:(Nat × Nat × Int)->Prop) (cs:List (Option (Int × Int))) (ag:Bool):Prop :=
 (ag=false∧cs=c0∧∀ u v l c,B (u,v,l)->get c0 u=some c->∃ c',get c0 v=some c'∧c'.1≤c.1 + l)∨(ag=true∧mu cs < mu c0)
section
variable {c0 cs:List (Option (Int × Int))} {B B':(Nat × Nat × Int)->Prop} {ag:Bool} {u v:Nat} {l w:Int}
theorem PSt.less (h:PSt c0 B cs ag) (k:∀ a,B' a->B a):PSt c0 B' cs ag:=h.elim (fun ⟨a,b,c⟩=>.inl ⟨a,b,fun u v l c' z=>c u v l c' (k _ z)⟩) .inr
theorem PSt.no (h:PSt c0 B cs ag) (hu:get cs u=none):PSt c0 (plus B (u,v,l)) cs ag:=by
 rcases h with ⟨a,b,c⟩ | h
 ·refine .inl ⟨a,b,fun u' v' l' c' z e=>?_⟩
  rcases z with z | z
  ·exact c _ _ _ _ z e
  ·cases z;rw[← b,hu] at e;cases e
 ·exact .inr h
theorem PSt.old (h:PSt c0 B cs ag) {c d:Int × Int} (hu:get cs u=some c) (hv:get cs v=some d) (hn:¬ lt2 (c.1 + l,c.2 + w) d):PSt c0 (plus B (u,v,l)) cs ag:=by
 rcases h with ⟨a,b,z⟩ | h
 ·refine .inl ⟨a,b,fun u' v' l' c' y e=>?_⟩
  rcases y with y | y
  ·exact z _ _ _ _ y e
  ·cases y
   subst b
   rw[hu] at e;cases e
   refine⟨d,hv,?_⟩
   unfold lt2 at hn
   simp only at hn
   omega
 ·exact .inr h
theorem PSt.put (h:PSt c0 B cs ag) {cs':List (Option (Int × Int))} (hm:mu cs' < mu cs):PSt c0 (plus B (u,v,l)) cs' true:=by
 rcases h with ⟨a,b,c⟩ | h
 ·exact .inr ⟨rfl,by rw[← b];exact hm⟩
 ·exact .inr ⟨rfl,Nat.lt_trans hm h.2⟩
end
theorem get_rep {α:Type} (n v:Nat):get (List.replicate n (none:Option α)) v=none:=by
 unfold get
 rw[List.getD_eq_getElem?_getD,List.getElem?_replicate]
 split <;> rfl
theorem ct_rep {α:Type}:∀ n:Nat,ct (List.replicate n (none:Option α))=0
 | 0=>rfl
 | n + 1=>ct_rep n
theorem Good.first {n:Nat} (hs:s < n):Good A n s ((List.replicate n none).set s (some (0,0))):=by
 have hl:s < (List.replicate n (none:Option (Int × Int))).length:=by rw[List.length_replicate];exact hs
 have cases':∀ v c,get ((List.replicate n (none:Option (Int × Int))).set s (some (0,0))) v=some c->v=s∧c=(0,0):=fun v c e=>by
  rw[get_set hl,get_rep] at e
  split at e
  ·rename_i z;cases e;exact⟨z,rfl⟩
  ·cases e
 refine⟨by rw[List.length_set,List.length_replicate],fun v c e=>?_,fun v c e=>?_,fun v c e=>?_,⟨(0,0),?_,Int.le_refl _⟩⟩
 ·obtain⟨rfl,rfl⟩:=cases' _ _ e;exact .nil
 ·obtain⟨rfl,rfl⟩:=cases' _ _ e;exact⟨Int.le_refl _,by decide⟩
 ·obtain⟨rfl,rfl⟩:=cases' _ _ e
  rw[ct_set hl,ct_rep,get_rep];decide
 ·rw[get_set hl,if_pos rfl]
theorem Snd.first {n:Nat} (hs:s < n):Snd A n s ((List.replicate n none).set s (some 0)):=by
 have hl:s < (List.replicate n (none:Option Int)).length:=by rw[List.length_replicate];exact hs
 refine⟨by rw[List.length_set,List.length_replicate],fun v c e=>?_,⟨0,?_,Int.le_refl _⟩⟩
 ·rw[get_set hl,get_rep] at e
  split at e
  ·rename_i z;subst z;cases e;exact .nil
  ·cases e
 ·rw[get_set hl,if_pos rfl]
theorem Rnd.start {n:Nat} {δ:Nat->Option Int} {D:List (Option Int)} (h:Snd A n s D):Rnd A n s δ D (fun _=>False) D:=⟨h,fun _ e=>e,fun _ _ _ _ z=>z.elim⟩
theorem Rnd.less {n:Nat} {δ:Nat->Option Int} {D0 D:List (Option Int)} {B B':(Nat × Nat × Int)->Prop} (h:Rnd A n s δ D0 B D) (k:∀ a,B' a->B a):Rnd A n s δ D0 B' D:=⟨h.snd,h.keep,fun u v l x z=>h.arc u v l x (k _ z)⟩
theorem start_done {n:Nat} {δ:Nat->Option Int} {D:List (Option Int)} (P:Pos A) (hs:s < n) (dd:∀ v,Dst A s v (δ v)) (h:Snd A n s D):Done n δ D 0:=by
 obtain⟨x,hx,hx0⟩:=h.start
 obtain⟨y,hy,hyl⟩:=(dd s).2 0 .nil
 have:=((dd s).1 _ hy).nonneg P
 have:=(h.walk _ _ hx).nonneg P
 exact Done.first hs (by rw[hx,hy,show x=y by omega])
end Far
namespace L3
open PySem PySem.Spec PyProof.Rows L2
def tieAt (ts:List Tie) (k:Nat):Tie:=ts.getD k (0,0,0)
def arcs2 (t:Tie):List (Nat × Nat × Int):=[(t.1.toNat,t.2.1.toNat,t.2.2),(t.2.1.toNat,t.1.toNat,t.2.2)]
def arcs (ts:List Tie) (ks:List Nat):List (Nat × Nat × Int):=ks.flatMap fun k=>arcs2 (tieAt ts k)
theorem arcs_mem {ts:List Tie} {ks:List Nat} {a:Nat × Nat × Int}:a ∈ arcs ts ks↔∃ k,k ∈ ks∧a ∈ arcs2 (tieAt ts k):=by
 unfold arcs;rw[List.mem_flatMap]
theorem arcs2_mem {t:Tie} {a:Nat × Nat × Int}:a ∈ arcs2 t↔a=(t.1.toNat,t.2.1.toNat,t.2.2)∨a=(t.2.1.toNat,t.1.toNat,t.2.2):=by
 unfold arcs2;simp
theorem tieAt_in {ts:List Tie} {k:Nat} (h:k < ts.length):ts[k]?=some (tieAt ts k)∧tieAt ts k ∈ ts:=by
 have e:ts[k]?=some (tieAt ts k):=by unfold tieAt;rw[List.getD_eq_getElem?_getD,List.getElem?_eq_getElem h];rfl
 exact⟨e,List.mem_of_getElem? e⟩
theorem ends_eq {a b c d:Int} (h1:0≤a) (h2:a < b) (h3:0≤c) (h4:c < d) (h:a.toNat=c.toNat∧b.toNat=d.toNat∨a.toNat=d.toNat∧b.toNat=c.toNat):a=c∧b=d:=by omega
theorem endLt_ne {s t:Tie} (h:endLt s t) (e1:s.1=t.1) (e2:s.2.1=t.2.1):False:=by
 rcases h with h | h
 ·exact Int.lt_irrefl _ (e1 ▸ h)
 ·exact Int.lt_irrefl _ (e2 ▸ h.2)
/-- two ties with the same ends are one -/
theorem tie_ends {n:Int} {ts:List Tie} (ok:WebOk n ts) {k k':Nat} (hk:k < ts.length) (hk':k' < ts.length) (e1:(tieAt ts k).1=(tieAt ts k').1) (e2:(tieAt ts k).2.1=(tieAt ts k').2.1):k=k':=by
 have pw:∀ i j (hi:i < ts.length) (hj:j < ts.length),i < j->endLt (tieAt ts i) (tieAt ts j):=fun i j hi hj z=>by
  have q:=List.pairwise_iff_getElem.mp ok.rise i j hi hj z
  have g:∀ {i:Nat} (hi:i < ts.length),ts[i]=tieAt ts i:=fun {i} hi=>Option.some.inj ((List.getElem?_eq_getElem hi).symm.trans (tieAt_in hi).1)
  rwa [g hi,g hj] at q
 rcases Nat.lt_trichotomy k k' with z | z | z
 ·exact (endLt_ne (pw k k' hk hk' z) e1 e2).elim
 ·exact z
 ·exact (endLt_ne (pw k' k hk' hk z) e1.symm e2.symm).elim
section
variable {n:Int} {ts:List Tie} {ks:List Nat}
theorem arcs_sym:Far.Sym (arcs ts ks):=fun u v l h=>by
 obtain⟨k,hk,h⟩:=arcs_mem.mp h
 refine arcs_mem.mpr ⟨k,hk,arcs2_mem.mpr ?_⟩
 rcases arcs2_mem.mp h with h | h <;> cases h
 ·exact .inr rfl
 ·exact .inl rfl
theorem arcs_pos (ok:WebOk n ts) (ko:KeepOk ts.length ks):Far.Pos (arcs ts ks):=fun u v l h=>by
 obtain⟨k,hk,h⟩:=arcs_mem.mp h
 have:=ok.tie _ (tieAt_in (ko.2 k hk)).2
 rcases arcs2_mem.mp h with h | h <;> cases h <;> omega
theorem arcs_in (ok:WebOk n ts) (ko:KeepOk ts.length ks):∀ u v l,(u,v,l) ∈ arcs ts ks->u < n.toNat∧v < n.toNat:=fun u v l h=>by
 obtain⟨k,hk,h⟩:=arcs_mem.mp h
 have:=ok.tie _ (tieAt_in (ko.2 k hk)).2
 rcases arcs2_mem.mp h with h | h <;> cases h <;> omega
theorem arcs_take {i k:Nat} (h:ks[i]?=some k) {a:Nat × Nat × Int} (m:a ∈ arcs ts (ks.take (i + 1))):a ∈ arcs ts (ks.take i)∨a ∈ arcs2 (tieAt ts k):=by
 obtain⟨j,hj,m⟩:=arcs_mem.mp m
 rw[take_next h] at hj
 rcases List.mem_append.mp hj with hj | hj
 ·exact .inl (arcs_mem.mpr ⟨j,hj,m⟩)
 ·rw[List.mem_singleton.mp hj] at m;exact .inr m
end
def CV (H:Hp) (v:V):Option (Int × Int)->Prop
 | none=>v=.non
 | some e=>∃ t,v=.ref t∧H t=some (.tup [.int e.1,.int e.2])
theorem CV.keep {H H':Hp} (k:TupKeep H H') {v:V}:∀ {o:Option (Int × Int)},CV H v o->CV H' v o
 | none,h=>h
 | some e,⟨t,h1,h2⟩=>⟨t,h1,k _ _ h2⟩
def CostL (H:Hp) (vs:List V) (cs:List (Option (Int × Int))):Prop:=vs.length=cs.length∧∀ i v,vs[i]?=some v->CV H v (Far.get cs i)
section
variable {H H' J J':Hp} {vs cvs avs ws:List V} {cs:List (Option (Int × Int))} {lw lc la t:Addr} {n k:Nat} {x y:Int}
theorem CostL.keep (h:CostL H vs cs) (k:TupKeep H H'):CostL H' vs cs:=⟨h.1,fun i v e=>(h.2 i v e).keep k⟩
theorem CostL.set {v:V} {c:Int × Int} (h:CostL H vs cs) (hk:k < vs.length) (hv:CV H v (some c)):CostL H (vs.set k v) (cs.set k (some c)):=by
 refine⟨by rw[List.length_set,List.length_set];exact h.1,fun i u e=>?_⟩
 rw[Far.get_set (by rw[← h.1];exact hk)]
 rw[List.getElem?_set] at e
 by_cases z:k=i
 ·subst z;rw[if_pos rfl,if_pos hk] at e;cases e;rw[if_pos rfl];exact hv
 ·rw[if_neg z] at e;rw[if_neg (Ne.symm z)];exact h.2 i u e
theorem CostL.first (n:Nat):CostL H (List.replicate n .non) (List.replicate n none):=by
 refine⟨by rw[List.length_replicate,List.length_replicate],fun i v e=>?_⟩
 rw[Far.get_rep]
 rw[List.getElem?_replicate] at e
 split at e
 ·cases e;rfl
 ·cases e
theorem tk_upd {p:Addr} {xs:List V} {o:HO} (h:J p=some (.lst xs)):TupKeep J (upd J p o):=fun a ys e=>by
 rw[upd_ne (fun z=>by rw[z,h] at e;cases e)];exact e
theorem tk_same (s:Same J J'):TupKeep J J':=fun a xs e=>s _ _ e
/-- the lists of a search: weights, costs, places ahead -/
structure RH (H J:Hp) (lw lc la:Addr) (ws:List V) (n:Nat) (cs:List (Option (Int × Int))):Prop where
 same:Same H J
 fc:H lc=none
 fa:H la=none
 nwc:lw≠lc
 nwa:lw≠la
 nca:lc≠la
 wl:J lw=some (.lst ws)
 co:∃ cvs,J lc=some (.lst cvs)∧CostL J cvs cs
 ah:∃ avs,J la=some (.lst avs)∧avs.length=n
theorem RH.step (h:RH H J lw lc la ws n cs) (s:Same J J'):RH H J' lw lc la ws n cs :=
 ⟨h.same.trans s,h.fc,h.fa,h.nwc,h.nwa,h.nca,s _ _ h.wl,let ⟨c,e,z⟩:=h.co;⟨c,s _ _ e,z.keep (tk_same s)⟩,let ⟨c,e,z⟩:=h.ah;⟨c,s _ _ e,z⟩⟩
theorem RH.put (h:RH H J lw lc la ws n cs) (hc:J lc=some (.lst cvs)) (hk:k < cvs.length) (ht:J t=some (.tup [.int x,.int y])):RH H (upd J lc (.lst (cvs.set k (.ref t)))) lw lc la ws n (cs.set k (some (x,y))):=by
 obtain⟨c,e,z⟩:=h.co
 rw[hc] at e;cases e
 obtain⟨av,ea,la'⟩:=h.ah
 refine⟨fun b o eb=>?_,h.fc,h.fa,h.nwc,h.nwa,h.nca,?_,⟨_,upd_same,CostL.set (z.keep (tk_upd hc)) hk ⟨t,rfl,tk_upd hc _ _ ht⟩⟩,⟨av,?_,la'⟩⟩
 ·rw[upd_ne (ne_of_none eb h.fc)];exact h.same _ _ eb
 ·rw[upd_ne h.nwc];exact h.wl
 ·rw[upd_ne h.nca.symm];exact ea
theorem RH.mark {v:V} (h:RH H J lw lc la ws n cs) (ha:J la=some (.lst avs)):RH H (upd J la (.lst (avs.set k v))) lw lc la ws n cs:=by
 obtain⟨c,e,z⟩:=h.co
 obtain⟨av,ea,la'⟩:=h.ah
 rw[ha] at ea;cases ea
 refine⟨fun b o eb=>?_,h.fc,h.fa,h.nwc,h.nwa,h.nca,?_,⟨c,?_,z.keep (tk_upd ha)⟩,⟨_,upd_same,by rw[List.length_set];exact la'⟩⟩
 ·rw[upd_ne (ne_of_none eb h.fa)];exact h.same _ _ eb
 ·rw[upd_ne h.nwa];exact h.wl
 ·rw[upd_ne h.nca];exact e
end
theorem rep_one {α:Type} (x:α):∀ k:Nat,(List.replicate k [x]).flatten=List.replicate k x
 | 0=>rfl
 | k + 1=>by rw[List.replicate_succ,List.flatten_cons,rep_one x k];rfl
def ov:Option Int->V
 | none=>.non
 | some x=>.int x
theorem ov_at {D:List (Option Int)} {i:Nat} (h:i < D.length):(D.map ov)[i]?=some (ov (Far.get D i)):=by
 rw[List.getElem?_map,List.getElem?_eq_getElem h]
 unfold Far.get
 rw[List.getD_eq_getElem?_getD,List.getElem?_eq_getElem h];rfl
theorem atI_toNat {α:Type} {xs:List α} {i:Int} {x:α} (h0:0≤i) (h:xs[i.toNat]?=some x):atI xs i=some x:=by
 have hl:=(List.getElem?_eq_some_iff.mp h).1
 unfold atI ixN
 rw[if_pos h0,if_pos (by omega)]
 exact h
theorem ixN_nat {n:Nat} {i:Int} (h0:0≤i) (h:i < n):ixN n i=some i.toNat:=by
 unfold ixN;rw[if_pos h0,if_pos h]
/-- [x] * n -/
def rRep1:R2:=fun x y H Q=>∃ l k z,x=.ref l∧y=.int k∧H l=some (.lst [z])∧0≤k∧k≤1000∧∀ p H',Same H H'->H p=none->H' p=some (.lst (List.replicate k.toNat z))->Q (.ref p) H'
theorem op_rep1 {X:Cx}:OpR X (binaryOp .Mult) rRep1:=by
 intro pins s σ H x y v u Q I rx ry h
 obtain⟨l,k,z,rfl,rfl,hH,h1,h2,q⟩:=h
 refine op_rep (X:=X) pins s σ H _ _ v u Q I rx ry ⟨l,k,_,rfl,rfl,hH,by omega,by omega,?_,fun p hp=>q p _ (same_new hp) hp (by rw[upd_same,rep_one])⟩
 exact Nat.le_trans (by show 1 * k.toNat≤1000;omega) (by decide:1000≤sizeLine)
theorem tie_val {K:PySem.W.Frag} {H:Hp}:∀ {ts:List Tie} {ws:List V} {k:Nat},IsAll K H (ts.map tieD) ws->k < ts.length->∃ a,ws[k]?=some (.ref a)∧H a=some (.tup [.int (tieAt ts k).1,.int (tieAt ts k).2.1,.int (tieAt ts k).2.2])
 | t::r,ws,0,h,_=>by
  obtain⟨v,vs,rfl,h1,_⟩:=h
  obtain⟨a,xs,rfl,ha,hx⟩:=h1
  have e:xs=(tieI t).map V.int:=IsAll.of_ints (ns:=tieI t) hx
  subst e
  exact⟨a,rfl,ha⟩
 | t::r,ws,k + 1,h,hk=>by
  obtain⟨v,vs,rfl,_,h2⟩:=h
  obtain⟨a,e,ha⟩:=tie_val (ts:=r) (ws:=vs) (k:=k) h2 (by simpa using hk)
  exact⟨a,e,ha⟩
theorem keep_parts {K:PySem.W.Frag} {H:Hp} {ks:List Nat} {v:V} (h:Is K H (keepD ks) v):∃ p,v=.ref p∧H p=some (.tup ((keepI ks).map V.int)):=by
 obtain⟨p,vs,rfl,hp,hx⟩:=h
 have e:=IsAll.of_ints hx
 subst e
 exact⟨p,rfl,hp⟩
theorem keep_at {ks:List Nat} {i:Nat} {x:V} (h:((keepI ks).map V.int)[i]?=some x):∃ k,ks[i]?=some k∧x=.int (k:Int):=by
 unfold keepI at h
 rw[List.map_map,List.getElem?_map] at h
 cases e:ks[i]? with
 | none=>rw[e] at h;cases h
 | some k=>rw[e] at h;cases h;exact⟨k,rfl,rfl⟩
/-- a web, a keep of it, a place -/
def WK (K:PySem.W.Frag) (H:Hp) (n:Int) (ts:List Tie) (ks:List Nat) (wv kv:V):Prop:=Is K H (webD n ts) wv∧WebOk n ts∧Is K H (keepD ks) kv∧KeepOk ts.length ks
theorem WK.same {K:PySem.W.Frag} {H H':Hp} {n:Int} {ts:List Tie} {ks:List Nat} {wv kv:V} (h:WK K H n ts ks wv kv) (s:Same H H'):WK K H' n ts ks wv kv:=⟨Is.same s _ h.1,h.2.1,Is.same s _ h.2.2.1,h.2.2.2⟩
end L3
namespace HT
open PySem PyProof.Rows
open Sem (wp)
theorem noFill_tuple_mul:fillsNumberSlot (.type "tuple") "mul"=pure false :=
 PySem.fillsNumberSlot_seq (id:="tuple.__mul__") (r:=some (.builtin "tuple.__rmul__")) F.slot_tuple_mul.lookup (by decide +kernel) F.slot_tuple_rmul.lookup (by decide +kernel)
theorem repeat_tuple:seqRepeat? (.type "tuple")=pure (some (.builtin "tuple.__mul__")):=by
 unfold seqRepeat?
 rw[PySem.seqSlot_of (T:="tuple") (name:="__mul__") (id:="tuple.__mul__") F.slot_tuple_mul.lookup (by decide +kernel),PySem.seqSlot_of (T:="tuple") (name:="__rmul__") (id:="tuple.__rmul__") F.slot_tuple_rmul.lookup (by decide +kernel)]
 rfl
theorem int_rmul_tuple (a:Int) (t:Tok) (l:Addr) (items:Array Value) (n:Nat) (dd:Option Addr) (sl:Array (Option Value)) :
  Meets (Builtin.«int.__rmul__» ⟨[.int a t,.ref l],[]⟩) (fun _ R s=>s.heap.get? l=some { cls:=.type "tuple",dict:=dd,data:=.seq items n,slots:=sl }∧R (.ok (.ret Value.notImplemented)) s) :=
 .of_wp fun prog w A R s h=>by obtain⟨hp,g,d,tk,os⟩:=s;obtain⟨hl,h⟩:=h;wp_walk;exact⟨_,rfl,h⟩
theorem tuple_mulW (l:Addr) (items:Array Value) (n:Nat) (x:Int) (u:Tok) (dd:Option Addr) (sl:Array (Option Value)) (h0:¬ (decide (x < -(2 ^ 63)) || decide (x ≥ 2 ^ 63))=true) (h1:¬ (items.isEmpty || x == 1)=true) (h2:¬ (decide (x≤0) || items.isEmpty)=true)
  (h3:¬ (items.size:Int) * x > (2 ^ 63 - 1) / 8) (h4:¬ Builtin.Tuple.tupleTooMany ((items.size:Int) * x)=true) (hz:((List.replicate x.toNat items).foldl (fun x1 x2=>x1++x2) #[]).size≤sizeLine) :
  Meets (Builtin.«tuple.__mul__» ⟨[.ref l,.int x u],[]⟩) (fun _ R s=>s.heap.get? l=some { cls:=.type "tuple",dict:=dd,data:=.seq items n,slots:=sl }∧R (.ok (.ret (Value.ref s.heap.objs.size))) { s with heap:=s.heap.push { cls:=Value.type "tuple",data:=Data.seq ((List.replicate x.toNat items).foldl (fun x1 x2=>x1++x2) #[]) },toks:=s.toks }) :=
 .of_wp fun prog w A R s h=>by
  obtain⟨hp,g,d,tk,os⟩:=s;obtain⟨hl,h⟩:=h;have f1:=AutoSeq1.idx_int;have f2:=AutoSeq1.sub_tuple_tuple
  wp_walk using wpAny_loadPart' hl
  refine wpAny_ite_false (decide_eq_false h0) ?_
  wp_walk using wpAny_loadPart' hl
  refine wpAny_ite_false (decide_eq_false h3) ?_
  wp_walk
  first | exact⟨_,rfl,h⟩ | (refine wpAny_ite_false (decide_eq_false (Nat.not_lt.mpr hz)) ?_;wp_walk;exact⟨_,rfl,h⟩)
theorem rep_size (xs:Array Value):∀ (k:Nat) (acc:Array Value),(List.foldl (fun x1 x2=>x1++x2) acc (List.replicate k xs)).size=acc.size + k * xs.size:=AutoListH.size_joined xs
section
variable {prog:Program} {w:World} {A:Around} {E:Value->Shared->Prop} {s:Shared}
/-- t * k, k two or more, t not empty -/
theorem mul_tuple {l:Addr} {items:Array Value} {x:Int} {u:Tok} {Q:Value->Shared->Prop} (hl:IsTup s.heap l items) (hx:2≤x) (hx2:x≤1000) (hne:items.size≠0) (hz:items.size * x.toNat≤1000)
  (h:Q (.ref s.heap.objs.size) { s with heap:=s.heap.push { cls:=Value.type "tuple",data:=Data.seq ((List.replicate x.toNat items).foldl (fun x1 x2=>x1++x2) #[]) } }):wpAny (model prog w) A (binaryOp .Mult (.ref l) (.int x u)) Q E s:=by
 obtain⟨⟨cls,dd,data,sl⟩,ho,hc,n,hd⟩:=id hl
 simp only at hc hd
 subst hc hd
 have em:items.isEmpty=false:=by
  rw[Array.isEmpty];exact decide_eq_false hne
 have big:(items.size:Int) * x≤1000:=by
  have:((items.size * x.toNat:Nat):Int)≤1000:=by exact_mod_cast hz
  rw[Int.natCast_mul,Int.toNat_of_nonneg (by omega)] at this
  exact this
 have line:(1000:Int)≤(sizeLine:Int):=by decide
 refine wpAny_binaryOp_repeat_ref (T:="tuple") (U:="int") (by decide) ⟨_,ho,rfl⟩ (fun s'=>typeIs_int s' x u) noFill_tuple_mul F.fills_int_mul F.slot_int_rmul repeat_tuple F.slot_int_index.lookup
  (call_meets F.slot_int_rmul (typeIs_int s x u) F.entry_int_rmul (F.args_int_rmul_2 _ _) (int_rmul_tuple x u l items n dd sl)
   ⟨ho,rfl,⟨_,ho,rfl⟩,call_meets F.slot_tuple_mul ⟨_,ho,rfl⟩ F.entry_tuple_mul (F.args_tuple_mul_2 _ _) (tuple_mulW l items n x u dd sl ?_ ?_ ?_ ?_ ?_ ?_) ⟨ho,h⟩⟩)
 ·rw[decide_eq_false (by omega),decide_eq_false (by omega)];exact Bool.false_ne_true
 ·rw[em,Bool.false_or];simp;omega
 ·rw[em,decide_eq_false (by omega)];exact Bool.false_ne_true
 ·omega
 ·unfold Builtin.Tuple.tupleTooMany
  rw[decide_eq_false (by omega)];exact Bool.false_ne_true
 ·rw[rep_size]
  show 0 + x.toNat * items.size≤sizeLine
  rw[Nat.mul_comm]
  exact Nat.le_trans (by omega) (by decide:1000≤sizeLine)
end
end HT
namespace L3
open PySem PySem.Spec PyProof.Rows L2
def hAt (hs:List Int) (a:Int):Int:=hs.getD a.toNat 0
def absI (i:Int):Int:=if i < 0 then -i else i
def acrossI (ts:List Tie) (hs:List Int) (k:Nat):Int:=absI (hAt hs (tieAt ts k).1 - hAt hs (tieAt ts k).2.1)
def holdB (n:Int) (ts:List Tie) (ks:List Nat) (hs:List Int):Bool:=decide (hs.length=n.toNat) && ks.all fun k=>decide (acrossI ts hs k≤(tieAt ts k).2.2)
def capO (roof:Int):Option Int->Int
 | none=>roof
 | some x=>if roof < x then roof else x
theorem hAt_at {hs:List Int} {a:Int} (h0:0≤a) (h:a.toNat < hs.length):atI (hs.map V.int) a=some (.int (hAt hs a)):=by
 refine atI_toNat h0 ?_
 rw[List.getElem?_map,List.getElem?_eq_getElem h]
 unfold hAt
 rw[List.getD_eq_getElem?_getD,List.getElem?_eq_getElem h];rfl
theorem wholes_ints:∀ hs:List Int,wholesB (.tuple (hs.map .int))=true:=fun hs=>by
 show (hs.map PyData.int).all wholeB=true
 rw[List.all_map]
 exact List.all_eq_true.mpr fun _ _=>rfl
def IntT (H:Hp) (p:Addr) (hs:List Int):Prop:=H p=some (.tup (hs.map V.int))∧hs.length≤1000
theorem IntT.same {H H':Hp} {p:Addr} {hs:List Int} (h:IntT H p hs) (s:Same H H'):IntT H' p hs:=⟨s _ _ h.1,h.2⟩
theorem IntT.is {K:PySem.W.Frag} {H:Hp} {p:Addr} {hs:List Int} (h:IntT H p hs):Is K H (.tuple (hs.map .int)) (.ref p):=⟨p,_,rfl,h.1,IsAll.ints _⟩
def AllI (xs:List V):Prop:=∃ ns:List Int,xs=ns.map V.int
theorem AllI.of {xs:List V} (h:∀ x ∈ xs,∃ i,x=V.int i):AllI xs:=by
 induction xs with
 | nil=>exact⟨[],rfl⟩
 | cons x r ih =>
  obtain⟨i,rfl⟩:=h x List.mem_cons_self
  obtain⟨ns,rfl⟩:=ih fun y hy=>h y (List.mem_cons_of_mem _ hy)
  exact⟨i::ns,rfl⟩
theorem AllI.mem {xs:List V} (h:AllI xs):∀ x ∈ xs,∃ i,x=V.int i:=by
 obtain⟨ns,rfl⟩:=h
 intro x hx
 obtain⟨i,_,rfl⟩:=List.mem_map.mp hx
 exact⟨i,rfl⟩
theorem AllI.ints (ns:List Int):AllI (ns.map V.int):=⟨ns,rfl⟩
theorem AllI.app {xs ys:List V} (h:AllI xs) (k:AllI ys):AllI (xs++ys):=by
 obtain⟨ns,rfl⟩:=h;obtain⟨ms,rfl⟩:=k
 exact⟨ns++ms,by rw[List.map_append]⟩
theorem AllI.cut {xs:List V} {lo hi:Option Int} (h:AllI xs):AllI (cutV xs lo hi):=.of fun x hx=>h.mem x (cut_mem hx)
theorem AllI.one (i:Int):AllI [V.int i]:=⟨[i],rfl⟩
theorem AllI.rep {xs:List V} (h:AllI xs) (k:Nat):AllI (List.replicate k xs).flatten:=.of fun x hx=>by
 obtain⟨l,hl,hx⟩:=List.mem_flatten.mp hx
 rw[(List.mem_replicate.mp hl).2] at hx
 exact h.mem x hx
theorem cap_hold {n:Int} {ts:List Tie} {ks:List Nat} {D:List (Option Int)} {s:Nat} {roof:Int} (ok:WebOk n ts) (ko:KeepOk ts.length ks) (lD:D.length=n.toNat) (hD:∀ v,v < n.toNat->Far.Dst (arcs ts ks) s v (Far.get D v)):holdB n ts ks (D.map (capO roof))=true:=by
 unfold holdB
 rw[Bool.and_eq_true]
 refine⟨decide_eq_true (by rw[List.length_map];exact lD),List.all_eq_true.mpr fun k hk=>decide_eq_true ?_⟩
 have hin:=arcs_in ok ko
 have tk:=ok.tie _ (tieAt_in (ko.2 k hk)).2
 have m1:((tieAt ts k).1.toNat,(tieAt ts k).2.1.toNat,(tieAt ts k).2.2) ∈ arcs ts ks:=arcs_mem.mpr ⟨k,hk,arcs2_mem.mpr (.inl rfl)⟩
 have m2:=arcs_sym _ _ _ m1
 have va:∀ a:Int,0≤a->a < n->hAt (D.map (capO roof)) a=capO roof (Far.get D a.toNat):=fun a h0 h1=>by
  unfold hAt Far.get
  rw[List.getD_eq_getElem?_getD,List.getElem?_map,List.getElem?_eq_getElem (by omega),List.getD_eq_getElem?_getD,List.getElem?_eq_getElem (by omega)]
  rfl
 have step:∀ u v l,(u,v,l) ∈ arcs ts ks->∀ x,Far.get D u=some x->∃ y,Far.get D v=some y∧y≤x + l:=fun u v l m x e=>(hD v (hin _ _ _ m).2).2 _ (.snoc ((hD u (hin _ _ _ m).1).1 x e) m)
 unfold acrossI
 rw[va _ (by omega) (by omega),va _ (by omega) (by omega)]
 cases e1:Far.get D (tieAt ts k).1.toNat with
 | none =>
  cases e2:Far.get D (tieAt ts k).2.1.toNat with
  | none=>show absI (roof - roof)≤_;unfold absI;split <;> omega
  | some y=>obtain⟨z,hz,_⟩:=step _ _ _ m2 y e2;rw[e1] at hz;cases hz
 | some x =>
  obtain⟨y,e2,h2⟩:=step _ _ _ m1 x e1
  obtain⟨z,hz,h1⟩:=step _ _ _ m2 y e2
  rw[e1] at hz;cases hz
  rw[e2]
  show absI ((if roof < x then roof else x) - (if roof < y then roof else y))≤_
  unfold absI
  by_cases c1:roof < x
  ·rw[if_pos c1]
   by_cases c2:roof < y
   ·rw[if_pos c2];split <;> omega
   ·rw[if_neg c2];split <;> omega
  ·rw[if_neg c1]
   by_cases c2:roof < y
   ·rw[if_pos c2];split <;> omega
   ·rw[if_neg c2];split <;> omega
theorem lay_ints:∀ hs:List Int,PyData.canLayAll0 (hs.map .int)=true
 | []=>rfl
 | t::r=>by
  show (PyData.canLay0 (.int t) && PyData.canLayAll0 (r.map .int))=true
  rw[lay_ints r]
  rfl
def spAcross (K:PySem.W.Frag):Sp:=fun vs H Q _=>∃ (n:Int) (ts:List Tie) (wv:V) (k:Nat) (p:Addr) (hs:List Int),vs=[wv,.int (k:Int),.ref p]∧Is K H (webD n ts) wv∧WebOk n ts∧k < ts.length∧IntT H p hs∧hs.length=n.toNat∧Q (.int (acrossI ts hs k)) H
section
variable {g:TG} {te:TE} {own:List Str} {js:List Nat} {σ:L2.St} {H1:Hp} {Q:VK}
end
/-- t * k -/
def rRepT:R2:=fun x y H Q=>∃ a k xs,x=.ref a∧y=.int k∧H a=some (.tup xs)∧2≤k∧k≤1000∧xs.length * k.toNat≤1000∧xs≠[]∧∀ p H',Same H H'->H' p=some (.tup (List.replicate k.toNat xs).flatten)->Q (.ref p) H'
theorem op_repT {X:Cx}:OpR X (binaryOp .Mult) rRepT:=by
 intro pins s σ H x y v u Q I rx ry h
 obtain⟨a,k,xs,rfl,rfl,ha,k2,k3,hz,hne,q⟩:=h
 cases rx
 obtain⟨t,rfl⟩:=ry
 obtain⟨its,rv,pt,hzz⟩:=I.tuple (SqT.of ha)
 have hl:=rv.length
 have fr:H s.heap.objs.size=none:=I.hok.fresh (Nat.le_refl _)
 have enew:List.foldl (fun x1 x2=>x1++x2) #[] (List.replicate k.toNat its.toArray)=(List.replicate k.toNat its).flatten.toArray:=by
  have:=foldl_rep its k.toNat []
  rw[List.nil_append] at this
  exact this
 refine HT.mul_tuple pt k2 k3 ?_ ?_ ?_
 ·rw[List.size_toArray,← hl];exact fun z=>hne (List.eq_nil_of_length_eq_zero z)
 ·rw[List.size_toArray,← hl];exact hz
 ·rw[enew]
  refine⟨.ref s.heap.objs.size,_,I.laid (t':=s.toks) (o:=.tup (List.replicate k.toNat xs).flatten) (fun b ob q=>Heap.get?_push_of_some _ q) (Nat.le_refl _) ⟨?_,_,rv.rep k.toNat,⟨_,Heap.get?_push_size _ rfl,rfl,⟨_,rfl⟩,rfl⟩⟩,rfl,q _ _ (same_new fr) upd_same⟩
  rw[len_rep,Nat.mul_comm];exact Nat.le_trans hz (by decide)
end L3
namespace L3
open PySem PySem.Spec PyProof.Rows L2
section
variable {J:It} {g:TG} {tt:TT} {te:TE} {own:List Str} {js:List Nat} {σ:L2.St} {H1:Hp} {Q:VK}
/-- a test, nothing that stands is changed: item i gives sel i, or nothing -/
theorem comp_sel (n:Nat) (Sg:L2.St->Prop) (sel:Nat->Option V) (hn:n≤1000) (h0:Sg (start3 own js σ))
  (go:∀ i H',i < n->Same H1 H'->J.go i H') (stop:∀ H',Same H1 H'->J.stop n H')
  (step:∀ i x σ' H' H2,i < n->Same H1 H'->J.yld i H' x H2->Sg σ'->∀ (C:L2.St->V->Hp->Prop) (L:L2.St->Hp->Prop),(∀ σ3 v H5,Sg σ3->Same H' H5->sel i=some v->C σ3 v H5)->(∀ σ3 H5,Sg σ3->Same H' H5->sel i=none->L σ3 H5) ->
   g x σ' H2 fun σ3 H3=>tt σ3 H3 fun b H4=>if b=true then te σ3 H4 fun v H5=>C σ3 v H5 else L σ3 H4)
  (fin:∀ D H',H1 D=none->Same H1 H'->H' D=some (.lst ((List.range n).filterMap sel))->Q (.ref D) H'):CompGo own js g tt te σ Q J H1:=by
 intro D hD
 refine⟨fun i m ys σ' H'=>m=n - i∧i≤n∧Sg σ'∧Same H1 H'∧ys=(List.range i).filterMap sel,⟨n,rfl,Nat.zero_le _,h0,same_new hD,rfl⟩,?_⟩
 rintro i m ys σ' H' ⟨rfl,hi,sg,sm,rfl⟩ hd
 have len:((List.range i).filterMap sel).length≤i:=by have:=List.length_filterMap_le sel (List.range i);rw[List.length_range] at this;exact this
 by_cases hlt:i < n
 ·refine .inr ⟨go i H' hlt sm,fun x H2 hy=>?_⟩
  refine step i x σ' H' H2 hlt sm hy sg
   (fun σ3 v H5=>H5 D=some (.lst ((List.range i).filterMap sel))∧((List.range i).filterMap sel).length < sizeLine∧∃ m',m' < n - i∧(m'=n - (i + 1)∧i + 1≤n∧Sg σ3∧Same H1 (upd H5 D (.lst ((List.range i).filterMap sel++[v])))∧(List.range i).filterMap sel++[v]=(List.range (i + 1)).filterMap sel))
   (fun σ3 H5=>H5 D=some (.lst ((List.range i).filterMap sel))∧∃ m',m' < n - i∧(m'=n - (i + 1)∧i + 1≤n∧Sg σ3∧Same H1 H5∧(List.range i).filterMap sel=(List.range (i + 1)).filterMap sel)) (fun σ3 v H5 sg3 s5 e=>?_) (fun σ3 H5 sg3 s5 e=>?_)
  ·refine⟨s5 _ _ hd,Nat.lt_of_le_of_lt (by omega:((List.range i).filterMap sel).length≤1000) (by decide),n - (i + 1),by omega,rfl,hlt,sg3,fun b o z=>?_,?_⟩
   ·rw[upd_ne (ne_of_none z hD)];exact s5 _ _ (sm _ _ z)
   ·rw[List.range_succ,List.filterMap_append];simp [e]
  ·refine⟨s5 _ _ hd,n - (i + 1),by omega,rfl,hlt,sg3,sm.trans s5,?_⟩
   rw[List.range_succ,List.filterMap_append];simp [e]
 ·have e:i=n:=by omega
  subst e
  exact .inl ⟨stop H' sm,fin D H' hD sm hd⟩
theorem comp_selR {lo:Int} {n:Nat} (Sg:L2.St->Prop) (sel:Nat->Option V) (hn:n≤1000) (h0:Sg (start3 own js σ))
  (step:∀ i σ' H',i < n->Same H1 H'->Sg σ'->∀ (C:L2.St->V->Hp->Prop) (L:L2.St->Hp->Prop),(∀ σ3 v H5,Sg σ3->Same H' H5->sel i=some v->C σ3 v H5)->(∀ σ3 H5,Sg σ3->Same H' H5->sel i=none->L σ3 H5) ->
   g (.int (lo + i)) σ' H' fun σ3 H3=>tt σ3 H3 fun b H4=>if b=true then te σ3 H4 fun v H5=>C σ3 v H5 else L σ3 H4)
  (fin:∀ D H',H1 D=none->Same H1 H'->H' D=some (.lst ((List.range n).filterMap sel))->Q (.ref D) H'):CompGo own js g tt te σ Q (Itr lo n) H1:=by
 refine comp_sel n Sg sel hn h0 (fun i H' hi s=>hi) (fun H' s=>Nat.le_refl _) (fun i x σ' H' H2 hi s hy sg C L hC hL=>?_) fin
 obtain⟨rfl,rfl⟩:=hy
 exact step i σ' _ hi s sg C L hC hL
end
end L3
namespace Far
variable {A:List (Nat × Nat × Int)} {s:Nat}
theorem Walk.trans {u v:Nat} {x y:Int} (h:Walk A s u x) (k:Walk A u v y):Walk A s v (x + y):=by
 induction k with
 | nil=>rw[Int.add_zero];exact h
 | snoc _ m ih=>rw[← Int.add_assoc];exact .snoc ih m
def Con (A:List (Nat × Nat × Int)) (s v:Nat):Prop:=∃ x,Walk A s v x
noncomputable def rB (A:List (Nat × Nat × Int)) (s v:Nat):Bool:=@decide (Con A s v) (Classical.propDecidable _)
theorem rB_iff {v:Nat}:rB A s v=true↔Con A s v:=by unfold rB;exact @decide_eq_true_iff _ (Classical.propDecidable _)
theorem Dst.isSome {v:Nat} {o:Option Int} (h:Dst A s v o):o.isSome=rB A s v:=by
 cases o with
 | none =>
  have:¬ Con A s v:=fun ⟨x,w⟩=>by obtain⟨y,e,_⟩:=h.2 x w;cases e
  have:rB A s v=false:=Bool.eq_false_iff.mpr fun z=>this (rB_iff.mp z)
  rw[this];rfl
 | some x=>rw[rB_iff.mpr ⟨x,h.1 x rfl⟩];rfl
theorem Con.refl:Con A s s:=⟨0,.nil⟩
theorem Con.symm (S:Sym A) {v:Nat} (h:Con A s v):Con A v s:=let ⟨x,w⟩:=h;⟨x,w.back S⟩
theorem Con.trans {u v:Nat} (h:Con A s u) (k:Con A u v):Con A s v:=let ⟨_,w⟩:=h;let ⟨_,z⟩:=k;⟨_,w.trans z⟩
noncomputable def rN (A:List (Nat × Nat × Int)) (n s:Nat):List Nat:=(List.range n).filter (rB A s)
noncomputable def isHd (A:List (Nat × Nat × Int)) (n p:Nat):Bool:=decide ((rN A n p).head?=some p)
noncomputable def pcs (A:List (Nat × Nat × Int)) (n:Nat):List (List Nat):=((List.range n).filter (isHd A n)).map (rN A n)
theorem rN_mem {n v:Nat}:v ∈ rN A n s↔v < n∧Con A s v:=by
 unfold rN;rw[List.mem_filter,List.mem_range,rB_iff]
theorem rN_eq (S:Sym A) {n u:Nat} (h:Con A s u):rN A n u=rN A n s:=by
 unfold rN
 refine List.filter_congr fun v _=>?_
 rw[Bool.eq_iff_iff,rB_iff,rB_iff]
 exact⟨fun k=>h.trans k,fun k=>(h.symm S).trans k⟩
theorem together (S:Sym A) {n a b:Nat} (ha:a < n) (hb:b < n):((pcs A n).any fun ns=>decide (a ∈ ns) && decide (b ∈ ns))=rB A a b:=by
 rw[Bool.eq_iff_iff,List.any_eq_true,rB_iff]
 constructor
 ·rintro ⟨ns,hns,h⟩
  obtain⟨p,hp,rfl⟩:=List.mem_map.mp hns
  rw[Bool.and_eq_true] at h
  have h1:=(rN_mem.mp (of_decide_eq_true h.1)).2
  have h2:=(rN_mem.mp (of_decide_eq_true h.2)).2
  exact (h1.symm S).trans h2
 ·intro h
  have am:a ∈ rN A n a:=rN_mem.mpr ⟨ha,.refl⟩
  have bm:b ∈ rN A n a:=rN_mem.mpr ⟨hb,h⟩
  cases e:rN A n a with
  | nil=>rw[e] at am;cases am
  | cons p r =>
   have pm:p ∈ rN A n a:=by rw[e];exact List.mem_cons_self
   obtain⟨hp,cp⟩:=rN_mem.mp pm
   have ep:=rN_eq S (n:=n) cp
   refine⟨rN A n a,List.mem_map.mpr ⟨p,List.mem_filter.mpr ⟨List.mem_range.mpr hp,?_⟩,ep⟩,?_⟩
   ·unfold isHd;rw[ep,e];exact decide_eq_true rfl
   ·rw[decide_eq_true am,decide_eq_true bm];rfl
end Far
namespace L3
open PySem PySem.Spec PyProof.Rows L2
def natV (ns:List Nat):List V:=ns.map fun v:Nat=>V.int (v:Int)
theorem natV_keep (ns:List Nat):natV ns=(keepI ns).map V.int:=by unfold natV keepI;rw[List.map_map];rfl
theorem sel_nats (p:Nat->Bool):∀ is:List Nat,is.filterMap (fun i=>if p i=true then some (V.int (i:Int)) else none)=natV (is.filter p)
 | []=>rfl
 | i::r=>by
  rw[List.filterMap_cons,List.filter_cons]
  cases e:p i with
  | true=>rw[if_pos rfl,if_pos rfl,sel_nats p r];rfl
  | false=>rw[if_neg Bool.false_ne_true,if_neg Bool.false_ne_true,sel_nats p r]
theorem IsAll.snoc {K:PySem.W.Frag} {H:Hp} {d:PyData} {v:V} (hv:Is K H d v):∀ {ds:List PyData} {vs:List V},IsAll K H ds vs->IsAll K H (ds++[d]) (vs++[v])
 | [],_,h=>by
  have e:_=[]:=h
  subst e
  exact⟨v,[],rfl,hv,rfl⟩
 | _::_,_,⟨u,r,e,h1,h2⟩=>by
  subst e
  exact⟨u,r++[v],rfl,h1,IsAll.snoc hv h2⟩
theorem inV_nat {a:Int} (h:0≤a) (ns:List Nat):inV (.int a) (natV ns)=decide (a.toNat ∈ ns):=by
 unfold inV natV
 rw[List.any_map,Bool.eq_iff_iff,List.any_eq_true,decide_eq_true_iff]
 constructor
 ·rintro ⟨v,hv,e⟩
  have e':((v:Int) == a)=true:=e
  have:(v:Int)=a:=by simpa using e'
  have e2:a.toNat=v:=by omega
  rw[e2];exact hv
 ·intro m
  exact⟨_,m,show (((a.toNat:Nat):Int) == a)=true by rw[Int.toNat_of_nonneg h];simp⟩
theorem flat_nat (ns:List Nat):(natV ns).all flatV=true:=by
 unfold natV;rw[List.all_map];exact List.all_eq_true.mpr fun _ _=>rfl
end L3
namespace Srt
open PySem PySem.Spec PyProof.Rows PySem.W
section
variable {prog:Program} {w:World} {A:Around} {E:Value->Shared->Prop} {s:Shared}
/-- sorted(x), x what collect makes vs of -/
theorem sorted_any {x:Value} {vs:List Value} {Q:Value->Shared->Prop} {r:Nat->Int} {κ:SortKind} (h64:vs.length < 64)
  (hcol:∀ (A':Around) (E':Value->Shared->Prop) (Q':List Value->Shared->Prop),(∀ h',(∀ b o,s.heap.get? b=some o->h'.get? b=some o)->Q' vs { s with heap:=h' })->wpAny (model prog w) A' (collect x) Q' E' s)
  (hk:2≤vs.length->∀ (A':Around) (s':Shared) (Q:SortKind->Shared->Prop),(∀ b o,s.heap.get? b=some o->s'.heap.get? b=some o)->Q κ s'->wpAny (model prog w) A' (keyKind' vs.toArray) Q (fun _ _=>False) s')
  (hc:∀ (A':Around) (s':Shared) (i j:Nat) (C:Bool->Shared->Prop),(∀ b o,s.heap.get? b=some o->s'.heap.get? b=some o)->i < vs.length->j < vs.length->C (decide (r i < r j)) s'->kas_ask prog w A' κ vs i j C s')
  (h:∀ (p:Array Nat) (h':Heap) (c:Nat) (g:Heap),Gd vs.length p->Up r p vs.length->(∀ b o,s.heap.get? b=some o->g.get? b=some o)->(∀ b o,g.get? b=some o->h'.get? b=some o)->h'.get? g.objs.size=some (seqObj "list" (outOf vs p).toArray c)->Q (.ref g.objs.size) { s with heap:=h' }) :
  wpAny (model prog w) A (call (.builtin "sorted") [x]) Q E s:=by
 have line:(64:Nat)≤sizeLine:=by rw[sizeLine_eq];decide
 refine Calls.call_function_entry kind_sorted plain_sorted entry_sorted (args_sorted1 _) ?_
 unfold Builtin.«sorted»
 refine wpAny_bind (m:=checkCount "sorted" 1 1 _) (wpAny_pure (wpAny_bind (hcol _ _ _ fun g k1=>wpAny_bind (wpAny_newList ?_ (by omega)))))
 have hoL:(g.push { cls:=.type "list",data:=.seq vs.toArray }).get? g.objs.size=some (seqObj "list" vs.toArray 0):=Heap.get?_push_size _ rfl
 have k2:∀ b o,s.heap.get? b=some o->(g.push { cls:=.type "list",data:=.seq vs.toArray }).get? b=some o:=fun b o q=>Heap.get?_push_of_some _ (k1 b o q)
 have ne:∀ b o,s.heap.get? b=some o->b≠g.objs.size:=fun b o q=>Nat.ne_of_lt (Heap.lt_size (k1 b o q))
 have ne2:∀ b o,g.get? b=some o->b≠g.objs.size:=fun b o q=>Nat.ne_of_lt (Heap.lt_size q)
 show wpAny _ _ _ _ _ { s with heap:=g.push { cls:=.type "list",data:=.seq vs.toArray } }
 refine wpAny_bind (wpAny_holding (wpAny_call_entry slot_list_sort ⟨_,hoL,rfl⟩ entry_list_sort ?_ (args_list_sort _)))
 refine lsort (s:={ s with heap:=g.push { cls:=.type "list",data:=.seq vs.toArray } }) (r:=r) (κ:=κ) hoL h64 (fun h2 s' Q' st q=>hk h2 _ s' Q' (fun b o e=>st b o (ne b o e) (k2 b o e)) q)
  (fun s' i j C st hi hj q=>hc _ s' i j C (fun b o e=>st b o (ne b o e) (k2 b o e)) hi hj q) fun p h' c g1 u1 st e=>⟨_,rfl,?_⟩
 exact wpAny_pure ⟨_,rfl,h p h' c g g1 u1 k1 (fun b o q=>st b o (ne2 b o q) (Heap.get?_push_of_some _ q)) e⟩
end
end Srt
namespace HT
open PySem PyProof.Rows
section
variable {prog:Program} {w:World} {A:Around} {E:Value->Shared->Prop} {s:Shared}
/-- all of a range, as a list -/
theorem collect_rng {Q:List Value->Shared->Prop} {r:Addr} {a b c:Int} {t u v:Tok} {n:Nat} (hh:A.handled=none) (hr:IsRange s.heap r a b c t u v) (hsmall:Builtin.Range.small a b c=true)
  (hn:Builtin.Range.rangeSize a b c=n) (hlen:n≤2 ^ 24)
  (hQ:∀ h' tk acc',(∀ b o,s.heap.get? b=some o->h'.get? b=some o)->ItemsOf (fun i v=>∃ t,v=.int (a + i * c) t) acc' n->Q acc'.toList { s with heap:=h',toks:=tk }) :
  wpAny (model prog w) A (collect (.ref r)) Q E s:=by
 unfold collect
 refine wpAny_bind (wpAny_runValue (codeAny_builtin PySem.F.entry_proto_collect ?_))
 rw[Around.under_plainId PySem.F.plain_proto_collect _]
 show wpAny _ A.in1 (newList [] >>= fun l=>again (.builtin "list.__iadd__" ⟨[l,.ref r],[]⟩)) _ _ s
 refine wpAny_bind (wpAny_newObj_type ?_)
 refine wpAny_pure ⟨plainId_quiet PySem.F.plain_list_iadd _,codeAny_builtin PySem.F.entry_list_iadd ?_⟩
 rw[Around.under_plainId PySem.F.plain_list_iadd _]
 show wpAny _ A.in1 (Builtin.List.listExtendWith (.ref s.heap.objs.size) (.ref r) (.ref s.heap.objs.size)) _ _ _
 have hS:(s.heap.push { cls:=.type "list",data:=.seq ([]:List Value).toArray }).get? s.heap.objs.size=some { cls:=.type "list",data:=.seq #[] }:=Heap.get?_push_size _ rfl
 have fin' : ∀ (h' : Heap) (tk : Nat) (acc' : Array Value) (c' : Nat), (∀ b o, s.heap.get? b = some o → h'.get? b = some o) → h'.get? s.heap.objs.size = some { cls := .type "list", dict := none, data := .seq acc' c', slots := #[] } → ItemsOf (fun i v => ∃ t, v = .int (a + i * c) t) acc' n →
     wpAny (model prog w) A (load s.heap.objs.size >>= fun o=>match o.data with | .seq xs _=>pure xs.toList | _=>unsupported "internal:collect") Q E { s with heap:=h',toks:=tk }:=fun h' tk acc' c' hk hS' hacc=>wpAny_bind (wpAny_load hS' (wpAny_pure (hQ h' tk acc' hk hacc)))
 refine wpAny_mono (wpAny_extend_range (A:=A) (R:=fun r s'=>r=.ok (.ret (.ref s.heap.objs.size))∧∃ (h':Heap) (tk:Nat) (acc':Array Value) (c':Nat),s'={ s with heap:=h',toks:=tk }∧(∀ b o,s.heap.get? b=some o->h'.get? b=some o)∧h'.get? s.heap.objs.size=some { cls:=.type "list",dict:=none,data:=.seq acc' c',slots:=#[] }∧ItemsOf (fun i v=>∃ t,v=.int (a + i * c) t) acc' n)
  (s:={ s with heap:=s.heap.push { cls:=.type "list",data:=.seq ([]:List Value).toArray } }) hh (Heap.get?_push_of_some _ hr) hsmall hn hlen s.heap.objs.size (.ref s.heap.objs.size) 0 hS fun h' tk acc' c' hk hS' hacc=>⟨rfl,h',tk,acc',c',rfl,fun b o e=>hk b o (Nat.ne_of_lt (Heap.lt_size e)) (Heap.get?_push_of_some _ e),hS',hacc⟩) (fun fin s' h=>?_) (fun e s' h=>?_)
 ·cases fin with
  | done f =>
   obtain⟨e,h',tk,acc',c',rfl,h1,h2,h3⟩:=h
   cases e
   exact fin' h' tk acc' c' h1 h2 h3
  | again c'=>exact⟨h.1,codeAny_mono h.2 fun r s'' hr=>by obtain⟨rfl,h',tk,acc',c',rfl,h1,h2,h3⟩:=hr;exact fin' h' tk acc' c' h1 h2 h3⟩
 ·exact absurd h.1 (by simp)
end
theorem meets_tuple_new_rng (r:Addr) (a b c:Int) (t u v:Tok) (n:Nat) (hsmall:Builtin.Range.small a b c=true) (hn:Builtin.Range.rangeSize a b c=n) (hlen:n≤1000) :
  Meets (Builtin.«tuple.__new__» ⟨[.type "tuple",.ref r],[]⟩)
   (fun A R s=>A.handled=none∧IsRange s.heap r a b c t u v∧∀ (h':Heap) (tk:Nat) (acc':Array Value),(∀ b o',s.heap.get? b=some o'->h'.get? b=some o')->ItemsOf (fun i v=>∃ t,v=.int (a + i * c) t) acc' n->R (.ok (.ret (.ref h'.objs.size))) { s with heap:=h'.push { cls:=.type "tuple",data:=.seq acc' },toks:=tk }) :=
 .of_wp fun prog w A R s h=>by
  obtain⟨hp,g,d,tk,os⟩:=s;obtain⟨hh,hr,h⟩:=h
  have hsub:=sub_tuple_self
  have hinit:=init_tuple_lookup
  have hmh:=madeHere_tuple
  have hT:Shared.TypeIs ⟨hp,g,d,tk,os⟩ (.ref r) "range":=⟨_,hr,rfl⟩
  wp_walk using wpAny_typeOf hT,collect_rng (A:=A.in1) hh hr hsmall hn (Nat.le_trans hlen (by decide))
  intro h' tk' acc' hk hacc
  show wpAny _ _ (Builtin.Tuple.tupleExact acc'.toList.toArray >>= fun v=>ret v) _ _ _
  unfold Builtin.Tuple.tupleExact
  have sz:acc'.size=n:=hacc.1
  refine wpAny_bind (wpAny_newObj_type ?_ (by show acc'.toList.toArray.size≤sizeLine;rw[show acc'.toList.toArray=acc' by simp,sz,sizeLine_eq];omega))
  refine wpAny_pure ⟨_,rfl,?_⟩
  have e:acc'.toList.toArray=acc':=by simp
  rw[e]
  exact h h' tk' acc' hk hacc
section
variable {prog:Program} {w:World} {A:Around} {E:Value->Shared->Prop} {s:Shared}
/-- tuple(range(..)) -/
theorem call_tuple_range {Q:Value->Shared->Prop} {r:Addr} {a b c:Int} {t u v:Tok} {n:Nat} (hh:A.handled=none) (hr:IsRange s.heap r a b c t u v) (hsmall:Builtin.Range.small a b c=true)
  (hn:Builtin.Range.rangeSize a b c=n) (hlen:n≤1000)
  (hQ:∀ (h':Heap) (tk:Nat) (acc':Array Value),(∀ b o,s.heap.get? b=some o->h'.get? b=some o)->ItemsOf (fun i v=>∃ t,v=.int (a + i * c) t) acc' n->Q (.ref h'.objs.size) { s with heap:=h'.push { cls:=.type "tuple",data:=.seq acc' },toks:=tk }) :
  wpAny (model prog w) A (call (.type "tuple") [.ref r]) Q E s :=
 callType_new PySem.F.called_tuple (by decide) (PySem.F.typeCall_tuple_1 _) (PySem.F.newCall_tuple_1 _) (fun obj=>PySem.F.args_object_init_2 obj _) PySem.F.entry_tuple_new
  (meets_tuple_new_rng r a b c t u v n hsmall hn hlen) ⟨hh,hr,fun h' tk acc' hk hacc=>⟨⟨_,Heap.get?_push_size _ rfl,rfl⟩,hQ h' tk acc' hk hacc⟩⟩
end
end HT
namespace L3
open PySem PySem.Spec PyProof.Rows L2
section
variable {X:Cx}
/-- tuple(range(n)) -/
theorem call_tuple_rng (hh:X.calm=true):CallR X (.type "tuple") (fun xs H Q=>∃ (p:Addr) (j:Int),xs=[.ref p]∧H p=some (.rng 0 j)∧0≤j∧j≤1000∧∀ l H',Same H H'->H l=none->H' l=some (.tup (natV (List.range j.toNat)))->Q (.ref l) H'):=by
 intro pins s σ H xs us Q I r h
 obtain⟨p,j,rfl,hp,hj0,hj,q⟩:=h
 obtain⟨u,rfl,rx⟩:=vals1 r
 cases rx
 obtain⟨t,u,v,e⟩:=(show ObjOk X.prog X.w H s.heap p (.rng 0 j) from I.hok p _ hp)
 refine HT.call_tuple_range (n:=j.toNat) (I.ok.hd hh) (show IsRange s.heap p 0 j 1 t u v from e) (small_one (by omega) (by omega) (by omega) (by omega)) (by rw[rangeSize_one];split <;> omega) (by omega) fun h' tk acc hk hacc=>?_
 have I1:Inv X pins σ H { s with heap:=h',toks:=tk }:=I.kept (t':=tk) hk
 have fr:H h'.objs.size=none:=I1.hok.fresh (Nat.le_refl _)
 refine⟨.ref h'.objs.size,upd H h'.objs.size (.tup (natV (List.range j.toNat))),I1.laid (t':=tk) (o:=.tup (natV (List.range j.toNat))) (fun b o e=>Heap.get?_push_of_some _ e) (Nat.le_refl _) ⟨?_,acc.toList,?_,(by rw[show acc.toList.toArray=acc by simp];exact⟨_,Heap.get?_push_size _ rfl,rfl,⟨_,rfl⟩,rfl⟩)⟩,rfl,q _ _ (same_new fr) fr upd_same⟩
 ·unfold natV;rw[List.length_map,List.length_range,sizeLine_eq];omega
 ·have go:∀ (n:Nat) (l:List Value),l.length=n->(∀ (k:Nat) (v:Value),l[k]?=some v->∃ t,v=Value.int (0 + (k:Int) * 1) t)->Vals ((List.range n).map fun i:Nat=>V.int (i:Int)) l:=by
   intro n l hl hv
   have gen:∀ (l:List Value) (o:Nat),(∀ (k:Nat) (v:Value),l[k]?=some v->∃ t,v=Value.int ((o + k:Nat):Int) t)->Vals ((List.range' o l.length).map fun i:Nat=>V.int (i:Int)) l:=by
    intro l
    induction l with
    | nil=>intro o _;exact .nil
    | cons x r ih =>
     intro o h
     rw[List.length_cons,List.range'_succ,List.map_cons]
     obtain⟨t,ht⟩:=h 0 x rfl
     refine .cons ⟨t,by simpa using ht⟩ (ih (o + 1) fun k v hk=>?_)
     obtain⟨t,ht⟩:=h (k + 1) v (by simpa using hk)
     exact⟨t,by rw[ht];congr 1;omega⟩
   have:=gen l 0 fun k v hk=>by
    obtain⟨t,ht⟩:=hv k v hk
    exact⟨t,by rw[ht];congr 1;omega⟩
   rw[hl,← List.range_eq_range'] at this
   exact this
  exact go j.toNat acc.toList (by rw[Array.length_toList];exact hacc.1) fun k v hv=>hacc.2 k v (by simpa using hv)
/-- sorted(t), t a tuple of whole numbers -/
theorem call_sortedIT:CallR X (.builtin "sorted") (fun xs H Q=>∃ p ns,xs=[.ref p]∧H p=some (.tup (ns.map V.int))∧ns.length < 64∧∀ ms:List Int,ms.Perm ns->ms.Pairwise (·≤·)->∀ l H',Same H H'->H l=none->H' l=some (.lst (ms.map V.int))->Q (.ref l) H'):=by
 intro pins s σ H xs us Q I r h
 obtain⟨p,ns,rfl,hq,h64,q⟩:=h
 obtain⟨u,rfl,rx⟩:=vals1 r
 cases rx
 obtain⟨its,rv,pl,hz⟩:=I.tuple (SqT.of hq)
 have hl:=rv.length
 rw[List.length_map] at hl
 have hI:IntsAre its ns:=intsAre_of rv
 have line:(64:Nat)≤sizeLine:=by rw[sizeLine_eq];decide
 obtain⟨o,ho,hc,n,hd⟩:=id pl
 refine Srt.sorted_any (vs:=its) (r:=fun i=>ns.getD i 0) (κ:=oneType') (by omega) (fun A' E' Q' hQ=>?_) (fun h2 A' s' Q' _ q'=>Srt.int_kind hI h2 q') (fun A' s' i j C _ hi hj q'=>Srt.int_ask hI hi hj q') fun pp h' c gg g u kg kp e=>?_
 ·refine wpAny_collect_seq p (.inr rfl) ho hc hd (fun h' hk=>?_) (by rw[List.size_toArray];omega)
  exact hQ h' hk
 have g':Srt.Gd ns.length pp:=by rw[hl];exact g
 have u':Srt.Up (fun i=>ns.getD i 0) pp ns.length:=by rw[hl];exact u
 have pm:(pp.toList.map fun i=>ns.getD i 0).Perm ns:=by
  have:=gd_perm g' fun i=>ns.getD i 0
  rw[range_getD] at this
  exact this
 have pw:(pp.toList.map fun i=>ns.getD i 0).Pairwise (·≤·):=by
  rw[List.pairwise_map]
  exact up_pair g' u' fun i j _ _ z=>z
 have I1:Inv X pins σ H { s with heap:=gg,toks:=s.toks }:=I.kept (t':=s.toks) kg
 have fr:H gg.objs.size=none:=I1.hok.fresh (Nat.le_refl _)
 have ev:((pp.toList.map fun i=>ns.getD i 0).map V.int)=pp.toList.map fun i=>(ns.map V.int).getD i .non:=by
  rw[List.map_map]
  refine List.map_congr_left fun i hi=>?_
  have:=gd_mem g' i hi
  simp [List.getD,this]
 refine⟨.ref gg.objs.size,_,I1.laid (a:=gg.objs.size) (o:=.lst ((pp.toList.map fun i=>ns.getD i 0).map V.int)) (t':=s.toks) kp (Nat.le_refl _) ⟨?_,Srt.outOf its pp,c,?_,e⟩,rfl,q _ pm pw _ _ (same_new fr) fr upd_same⟩
 ·have:=pm.length_eq
  rw[List.length_map,this];omega
 ·rw[ev]
  exact vals_out rv pp.toList fun i hi=>by rw[List.length_map];exact gd_mem g' i hi
end
section
variable {g:TG} {tt:TT} {te:TE} {own:List Str} {js:List Nat} {σ:L2.St} {H1:Hp} {Q:VK}
theorem comp_selT {K:PySem.W.Frag} {a:Addr} {xs:List V} (hx:H1 a=some (.tup xs)) (Sg:L2.St->Prop) (sel:Nat->Option V) (hn:xs.length≤1000) (h0:Sg (start3 own js σ))
  (step:∀ i x σ' H',xs[i]?=some x->Same H1 H'->Sg σ'->∀ (C:L2.St->V->Hp->Prop) (L:L2.St->Hp->Prop),(∀ σ3 v H5,Sg σ3->Same H' H5->sel i=some v->C σ3 v H5)->(∀ σ3 H5,Sg σ3->Same H' H5->sel i=none->L σ3 H5) ->
   g x σ' H' fun σ3 H3=>tt σ3 H3 fun b H4=>if b=true then te σ3 H4 fun v H5=>C σ3 v H5 else L σ3 H4)
  (fin:∀ D H',H1 D=none->Same H1 H'->H' D=some (.lst ((List.range xs.length).filterMap sel))->Q (.ref D) H'):CompGo own js g tt te σ Q (Itt K a) H1:=by
 refine comp_sel xs.length Sg sel hn h0 (fun i H' hi s=>⟨xs,xs[i],SqT.of (s _ _ hx),by simp [hi]⟩) (fun H' s=>⟨xs,SqT.of (s _ _ hx),Nat.le_refl _⟩) (fun i x σ' H' H2 hi s hy sg C L hC hL=>?_) fin
 obtain⟨rfl,hy⟩:=hy
 exact step i x σ' _ (hy xs (SqT.of (s _ _ hx))) s sg C L hC hL
end
def outs (m:Nat) (ks:List Nat):List Nat:=(List.range m).filter fun k=>decide (k ∉ ks)
theorem outs_mem {m k:Nat} {ks:List Nat}:k ∈ outs m ks↔k < m∧k ∉ ks:=by unfold outs;rw[List.mem_filter,List.mem_range,decide_eq_true_iff]
theorem outs_len (m:Nat) (ks:List Nat):(outs m ks).length≤m:=by
 have:=List.length_filter_le (fun k=>decide (k ∉ ks)) (List.range m)
 rw[List.length_range] at this;exact this
noncomputable def gO (ts:List Tie) (ks:List Nat) (k:Nat):Option Int :=
 @dite (Option Int) (∃ o,Far.Dst (arcs ts ks) (tieAt ts k).1.toNat (tieAt ts k).2.1.toNat o) (Classical.propDecidable _) (fun h=>Classical.choose h) fun _=>none
def spWhole (K:PySem.W.Frag):Sp:=fun vs H Q _=>∃ n ts v,vs=[v]∧Is K H (webD n ts) v∧ts.length≤60∧∀ l H',Same H H'->H l=none->H' l=some (.tup (natV (List.range ts.length)))->Q (.ref l) H'
theorem nat_at {ns:List Nat} {i:Nat} {x:V} (h:(natV ns)[i]?=some x):∃ k,ns[i]?=some k∧x=.int (k:Int):=by
 rw[natV_keep] at h;exact keep_at h
end L3
namespace Far
variable {A:List (Nat × Nat × Int)} {s:Nat}
/-- the places ahead -/
structure Ahd (A:List (Nat × Nat × Int)) (s:Nat) (cs:List (Option (Int × Int))) (as:List (Option Nat)):Prop where
 len:as.length=cs.length
 root:get as s=none
 has:∀ v c,get cs v=some c->v≠s->get as v≠none
 arc:∀ v u,get as v=some u->∃ l cu cv,(u,v,l) ∈ A∧get cs u=some cu∧get cs v=some cv∧cu.1 + l≤cv.1
theorem Ahd.step {n u v:Nat} {l w:Int} {cs:List (Option (Int × Int))} {as:List (Option Nat)} {c:Int × Int} (P:Pos A) (g:Good A n s cs) (a:Ahd A s cs as) (m:(u,v,l) ∈ A) (hv:v < n) (hu:get cs u=some c)
  (h:get cs v=none∨∃ c',get cs v=some c'∧lt2 (c.1 + l,c.2 + w) c'):Ahd A s (cs.set v (some (c.1 + l,c.2 + w))) (as.set v (some u)):=by
 have hc:v < cs.length:=by rw[g.len];exact hv
 have ha:v < as.length:=by rw[a.len];exact hc
 have l1:=P _ _ _ m
 have c0:=(g.walk _ _ hu).nonneg P
 have vs:v≠s:=fun z=>by
  obtain⟨d,hd,hd0⟩:=g.start
  rw[← z] at hd
  rcases h with h | ⟨c',h,hl⟩
  ·rw[h] at hd;cases hd
  ·rw[h] at hd;cases hd
   unfold lt2 at hl;simp only at hl;omega
 have uv:u≠v:=fun z=>by
  rcases h with h | ⟨c',h,hl⟩
  ·rw[← z,hu] at h;cases h
  ·rw[← z,hu] at h;cases h
   unfold lt2 at hl;simp only at hl;omega
 refine⟨by rw[List.length_set,List.length_set];exact a.len,?_,fun x d e hx=>?_,fun x y e=>?_⟩
 ·rw[get_set ha,if_neg (Ne.symm vs)];exact a.root
 ·rw[get_set ha]
  split
  ·exact fun z=>by cases z
  ·rename_i xv
   rw[get_set hc,if_neg xv] at e
   exact a.has x d e hx
 ·rw[get_set ha] at e
  split at e
  ·rename_i z;subst z;cases e
   exact⟨l,c,_,m,by rw[get_set hc,if_neg uv];exact hu,by rw[get_set hc,if_pos rfl],Int.le_refl _⟩
  ·rename_i xv
   obtain⟨l',cu,cv,m',e1,e2,hle⟩:=a.arc x y e
   by_cases yv:y=v
   ·subst yv
    refine⟨l',_,cv,m',by rw[get_set hc,if_pos rfl],by rw[get_set hc,if_neg xv];exact e2,?_⟩
    rcases h with h | ⟨c',h,hl⟩
    ·rw[h] at e1;cases e1
    ·rw[h] at e1;cases e1
     unfold lt2 at hl;simp only at hl
     show c.1 + l + l'≤cv.1
     omega
   ·exact⟨l',cu,cv,m',by rw[get_set hc,if_neg yv];exact e1,by rw[get_set hc,if_neg xv];exact e2,hle⟩
theorem Ahd.first {n:Nat} (hs:s < n):Ahd A s ((List.replicate n none).set s (some (0,0))) (List.replicate n none):=by
 have hl:s < (List.replicate n (none:Option (Int × Int))).length:=by rw[List.length_replicate];exact hs
 refine⟨by rw[List.length_set,List.length_replicate,List.length_replicate],get_rep _ _,fun v c e hv=>?_,fun v u e=>?_⟩
 ·rw[get_set hl,if_neg hv,get_rep] at e;cases e
 ·rw[get_rep] at e;cases e
/-- the step along the tree -/
theorem Ahd.next {n:Nat} {cs:List (Option (Int × Int))} {as:List (Option Nat)} {v u:Nat} (a:Ahd A s cs as) (st:Stab A cs) (e:get as v=some u):∃ l cu cv,(u,v,l) ∈ A∧get cs u=some cu∧get cs v=some cv∧cu.1 + l=cv.1:=by
 obtain⟨l,cu,cv,m,e1,e2,hle⟩:=a.arc v u e
 obtain⟨c',e3,h3⟩:=st u v l cu m e1
 rw[e2] at e3;cases e3
 exact⟨l,cu,cv,m,e1,e2,by omega⟩
/-- a way, as a list from its start -/
inductive Tr (A:List (Nat × Nat × Int)) (a:Nat):List Nat->Nat->Int->Prop
 | one:Tr A a [a] a 0
 | snoc {ws:List Nat} {u v:Nat} {x l:Int}:Tr A a ws u x->(u,v,l) ∈ A->Tr A a (ws++[v]) v (x + l)
end Far
namespace L3
open PySem PySem.Spec PyProof.Rows L2
def oa:Option Nat->V
 | none=>.non
 | some u=>.int (u:Int)
structure RA (H J:Hp) (lw lc la:Addr) (ws:List V) (cs:List (Option (Int × Int))) (as:List (Option Nat)):Prop where
 same:Same H J
 fc:H lc=none
 fa:H la=none
 nwc:lw≠lc
 nwa:lw≠la
 nca:lc≠la
 wl:J lw=some (.lst ws)
 co:∃ cvs,J lc=some (.lst cvs)∧CostL J cvs cs
 ah:J la=some (.lst (as.map oa))
section
variable {H H' J J':Hp} {vs cvs ws:List V} {cs:List (Option (Int × Int))} {as:List (Option Nat)} {lw lc la t:Addr} {k:Nat} {x y:Int}
theorem RA.step (h:RA H J lw lc la ws cs as) (s:Same J J'):RA H J' lw lc la ws cs as :=
 ⟨h.same.trans s,h.fc,h.fa,h.nwc,h.nwa,h.nca,s _ _ h.wl,let ⟨c,e,z⟩:=h.co;⟨c,s _ _ e,z.keep (tk_same s)⟩,s _ _ h.ah⟩
theorem RA.put (h:RA H J lw lc la ws cs as) (hc:J lc=some (.lst cvs)) (hk:k < cvs.length) (ht:J t=some (.tup [.int x,.int y])):RA H (upd J lc (.lst (cvs.set k (.ref t)))) lw lc la ws (cs.set k (some (x,y))) as:=by
 obtain⟨c,e,z⟩:=h.co
 rw[hc] at e;cases e
 refine⟨fun b o eb=>?_,h.fc,h.fa,h.nwc,h.nwa,h.nca,?_,⟨_,upd_same,CostL.set (z.keep (tk_upd hc)) hk ⟨t,rfl,tk_upd hc _ _ ht⟩⟩,?_⟩
 ·rw[upd_ne (ne_of_none eb h.fc)];exact h.same _ _ eb
 ·rw[upd_ne h.nwc];exact h.wl
 ·rw[upd_ne h.nca.symm];exact h.ah
theorem RA.mark {u:Nat} (h:RA H J lw lc la ws cs as):RA H (upd J la (.lst ((as.map oa).set k (.int (u:Int))))) lw lc la ws cs (as.set k (some u)):=by
 obtain⟨c,e,z⟩:=h.co
 refine⟨fun b o eb=>?_,h.fc,h.fa,h.nwc,h.nwa,h.nca,?_,⟨c,?_,z.keep (tk_upd h.ah)⟩,?_⟩
 ·rw[upd_ne (ne_of_none eb h.fa)];exact h.same _ _ eb
 ·rw[upd_ne h.nwa];exact h.wl
 ·rw[upd_ne h.nca];exact e
 ·rw[upd_same,List.map_set];rfl
end
/-- a way from a to b, the shortest; or none -/
def WayV (H:Hp) (A:List (Nat × Nat × Int)) (a b:Nat) (v:V):Prop:=(v=.non∧Far.Dst A a b none)∨∃ t ws x,v=.ref t∧H t=some (.tup (natV ws))∧ws.length≤24∧Far.Tr A a ws b x∧Far.Dst A a b (some x)
def isTB (ts:List Tie) (u v:Nat) (k:Nat):Bool:=decide ((tieAt ts k).1=min (u:Int) v) && decide ((tieAt ts k).2.1=max (u:Int) v)
def tbN (ts:List Tie) (u v:Nat):Option Nat:=(List.range ts.length).find? (isTB ts u v)
def tlen (ts:List Tie) (u v:Nat):Int:=(tieAt ts ((tbN ts u v).getD 0)).2.2
def wl (ts:List Tie):List Nat->Int
 | u::v::r=>tlen ts u v + wl ts (v::r)
 | _=>0
def linked (ts:List Tie):List Nat->Prop
 | u::v::r=>(∃ k,tbN ts u v=some k∧k < ts.length)∧linked ts (v::r)
 | _=>True
def but (ks:List Nat) (k:Nat):List Nat:=ks.filter fun j=>decide (j≠k)
def withinB (t l:Int):Option Int->Bool
 | none=>false
 | some x=>decide (x≤t * l)
def spFarsL (K:PySem.W.Frag):Sp:=fun vs H Q _=>∃ n ts ks wv kp r,vs=[wv,.ref kp,.int r]∧Is K H (webD n ts) wv∧WebOk n ts∧H kp=some (.lst ((keepI ks).map V.int))∧KeepOk ts.length ks∧0≤r∧r < n ∧
 ∀ l D H',Same H H'->H l=none->H' l=some (.lst (D.map ov))->D.length=n.toNat->(∀ v,v < n.toNat->Far.Dst (arcs ts ks) r.toNat v (Far.get D v))->Q (.ref l) H'
def spNeed (K:PySem.W.Frag):Sp:=fun vs H Q _=>∃ t:Int,vs=[.int t]∧1≤t∧t≤99∧∀ H',Same H H'->Q .non H'
end L3
namespace Far
section
variable {A B:List (Nat × Nat × Int)} {s u v:Nat} {x y:Int}
theorem Walk.app (h:Walk B s u x) (k:Walk B u v y):Walk B s v (x + y):=by
 induction k with
 | nil=>rw[Int.add_zero];exact h
 | @snoc w v l y k m ih =>
  have:=Walk.snoc ih m
  rw[Int.add_assoc] at this
  exact this
/-- each arc's ends are in B at most p / q times as far: so are any two places -/
theorem grow {p q:Int} (h:∀ u v l,(u,v,l) ∈ A->∃ y,Walk B u v y∧y * q≤p * l) (w:Walk A s v x):∃ y,Walk B s v y∧y * q≤p * x:=by
 induction w with
 | nil=>exact⟨0,.nil,by simp⟩
 | @snoc u v l x w m ih =>
  obtain⟨y1,w1,e1⟩:=ih
  obtain⟨y2,w2,e2⟩:=h _ _ _ m
  refine⟨y1 + y2,w1.app w2,?_⟩
  rw[Int.add_mul,Int.mul_add];omega
end
end Far
namespace Far
section
variable {G:Nat->Option Int} {len:Nat->Int}
end
end Far
namespace Far
section
variable {A:List (Nat × Nat × Int)} {s:Nat}
theorem settle {n:Nat} (P:Pos A) (n24:n≤24) (inn:∀ u v l,(u,v,l) ∈ A->u < n∧v < n) (top:∀ u v l,(u,v,l) ∈ A->l≤10 ^ 18):∀ (m:Nat) (cs:List (Option (Int × Int))),mu cs=m->Good A n s cs->∃ cs',Good A n s cs'∧Stab A cs':=by
 intro m
 induction m using Nat.strongRecOn with
 | ind m ih =>
  intro cs em g
  by_cases c:∃ u v l e,(u,v,l) ∈ A∧get cs u=some e∧(get cs v=none∨∃ c',get cs v=some c'∧lt2 (e.1 + l,e.2 + 0) c')
  ·obtain⟨u,v,l,e,m1,h1,h2⟩:=c
   obtain⟨g2,lt⟩:=Good.step P n24 g m1 (top _ _ _ m1) (by decide) (by decide) (inn _ _ _ m1).2 h1 h2
   exact ih _ (by omega) _ rfl g2
  ·refine⟨cs,g,fun u v l e m1 h1=>?_⟩
   cases h:get cs v with
   | none=>exact absurd ⟨u,v,l,e,m1,h1,.inl h⟩ c
   | some c' =>
    refine⟨c',rfl,?_⟩
    rcases Int.lt_or_le (e.1 + l) c'.1 with z | z
    ·exact absurd ⟨u,v,l,e,m1,h1,.inr ⟨c',h,.inl z⟩⟩ c
    ·omega
/-- no distance is greater than this -/
theorem Dst.top {n:Nat} (P:Pos A) (n24:n≤24) (hs:s < n) (inn:∀ u v l,(u,v,l) ∈ A->u < n∧v < n) (top:∀ u v l,(u,v,l) ∈ A->l≤10 ^ 18) {v:Nat} {x:Int} (h:Dst A s v (some x)):x≤((n:Int) - 1) * 10 ^ 18:=by
 obtain⟨cs,g,st⟩:=settle P n24 inn top _ _ rfl (Good.first (A:=A) hs)
 have e:=(g.dst st v).unique h
 obtain⟨c,hc,e⟩:=Option.map_eq_some_iff.mp e
 have t:=g.top v c hc
 have l:=ct_le cs
 rw[g.len] at l
 omega
end
end Far
namespace L3
open PySem PySem.Spec PyProof.Rows L2
/-- the word alone -/
def allIn (ts:List Tie) (ks:List Nat) (t:Int):Prop:=∀ k,k ∈ outs ts.length ks->withinB t (tieAt ts k).2.2 (gO ts ks k)=true
section
variable {n:Int} {ts:List Tie} {ks:List Nat} {prs:List (Option Int × Int)}
end
end L3
namespace L3
open PySem PySem.Spec PyProof.Rows L2
section
variable {P:Program} {w:World} {K:PySem.W.Frag} {mg:Str->Option Value} {base:Heap}
end
end L3
namespace L3
open PySem PySem.Spec PyProof.Rows L2
section
variable {X:Cx} {pins:List (Addr × Obj)} {σ:L2.St} {A:Around} {E:Value->Shared->Prop}
/-- a key that was made: a tuple of whole numbers -/
def KeyV (H:Hp) (v:V) (k:List Int):Prop:=∃ t,v=.ref t∧H t=some (.tup (k.map V.int))
theorem KeyV.same {H H':Hp} {v:V} {k:List Int} (h:KeyV H v k) (S:Same H H'):KeyV H' v k:=let ⟨t,e,q⟩:=h;⟨t,e,S _ _ q⟩
theorem KeyV.but {H H':Hp} {v:V} {k:List Int} {p:Addr} {xs:List V} (h:KeyV H v k) (S:But p H H') (hp:H p=some (.lst xs)):KeyV H' v k:=let ⟨t,e,q⟩:=h;⟨t,e,S _ _ (fun z=>by rw[z,hp] at q;cases q) q⟩
/-- the list that is sorted stands empty meanwhile -/
abbrev still (a:Addr) (e1:Nat):HO:=.ext fun h=>h.get? a=some (seqObj "list" #[] e1)
end
end L3
namespace L3
open PySem PySem.Spec PyProof.Rows L2
section
variable {X:Cx} {pins:List (Addr × Obj)} {σ:L2.St} {H:Hp} {s:Shared}
/-- the table: empty, or with the lambda's code -/
def Tb (Pt:Addr) (lpos:Pos) (qual:Str) (H:Hp):Prop:=∃ ps,H Pt=some (.tbl ps)∧(ps=#[]∨∃ c',ps=#[rawInt lpos.line,rawInt lpos.col,.ref c']∧H c'=some (.ext fun h=>h.CodeRec (.ref c') qual))
/-- .. with the lambda's code -/
def Tf (Pt:Addr) (lpos:Pos) (qual:Str) (H:Hp):Prop:=∃ c',H Pt=some (.tbl #[rawInt lpos.line,rawInt lpos.col,.ref c'])∧H c'=some (.ext fun h=>h.CodeRec (.ref c') qual)
theorem Tf.tb {Pt:Addr} {lpos:Pos} {qual:Str} (h:Tf Pt lpos qual H):Tb Pt lpos qual H:=let ⟨c',e,r⟩:=h;⟨_,e,.inr ⟨c',rfl,r⟩⟩
theorem Tf.same {Pt:Addr} {lpos:Pos} {qual:Str} {H':Hp} (h:Tf Pt lpos qual H) (S:Same H H'):Tf Pt lpos qual H':=let ⟨c',e,r⟩:=h;⟨c',S _ _ e,S _ _ r⟩
theorem Tf.but {Pt p:Addr} {lpos:Pos} {qual:Str} {H':Hp} {xs:List V} (h:Tf Pt lpos qual H) (S:But p H H') (hp:H p=some (.lst xs)):Tf Pt lpos qual H' :=
 let ⟨c',e,r⟩:=h;⟨c',S _ _ (fun z=>by rw[z,hp] at e;cases e) e,S _ _ (fun z=>by rw[z,hp] at r;cases r) r⟩
theorem Tb.same {Pt:Addr} {lpos:Pos} {qual:Str} {H':Hp} (h:Tb Pt lpos qual H) (S:Same H H'):Tb Pt lpos qual H' :=
 let ⟨ps,e,r⟩:=h;⟨ps,S _ _ e,r.imp id fun ⟨c',e1,e2⟩=>⟨c',e1,S _ _ e2⟩⟩
theorem Tb.but {Pt p:Addr} {lpos:Pos} {qual:Str} {H':Hp} {xs:List V} (h:Tb Pt lpos qual H) (S:But p H H') (hp:H p=some (.lst xs)):Tb Pt lpos qual H' :=
 let ⟨ps,e,r⟩:=h;⟨ps,S _ _ (fun z=>by rw[z,hp] at e;cases e) e,r.imp id fun ⟨c',e1,e2⟩=>⟨c',e1,S _ _ (fun z=>by rw[z,hp] at e2;cases e2) e2⟩⟩
end
end L3
namespace L3
open PySem PySem.Spec PyProof.Rows L2
section
variable {P:Program} {w:World} {K:PySem.W.Frag} {mg:Str->Option Value} {base:Heap} {x:Str} {ps N:List Str} {sp:Sp} {k:Nat} {st:Stmt} {c:Addr}
end
def okey (ts:List Tie) (k:Nat):List Int:=[(tieAt ts k).2.2,(k:Int)]
/-- all numbers, by length, then by number -/
def OrdOk (ts:List Tie) (os:List Nat):Prop:=os.Perm (List.range ts.length)∧os.Pairwise fun a b=>Srt.lexI (okey ts b) (okey ts a)=false
theorem OrdOk.one {ts:List Tie} {os os':List Nat} (a:OrdOk ts os) (b:OrdOk ts os'):os=os':=by
 refine List.Perm.eq_of_pairwise (le:=fun x y=>Srt.lexI (okey ts y) (okey ts x)=false) (fun x y _ _ h1 h2=>?_) a.2 b.2 (a.1.trans b.1.symm)
 have:=Srt.lexI_tot _ _ h2 h1
 unfold okey at this
 injection this with _ h
 injection h with h
 omega
end L3
namespace Frs
abbrev T2:=Nat × Nat
inductive Cn (E:List T2) (u:Nat):Nat->Prop
 | nil:Cn E u u
 | snoc {v w:Nat}:Cn E u v->((v,w) ∈ E∨(w,v) ∈ E)->Cn E u w
section
variable {E F:List T2} {u v w a b:Nat}
theorem Cn.app (h:Cn E u v) (k:Cn E v w):Cn E u w:=by
 induction k with
 | nil=>exact h
 | snoc _ m ih=>exact .snoc ih m
theorem Cn.back (h:Cn E u v):Cn E v u:=by
 induction h with
 | nil=>exact .nil
 | snoc _ m ih=>exact (Cn.snoc .nil m.symm).app ih
theorem Cn.more (h:Cn E u v) (k:∀ t ∈ E,t ∈ F):Cn F u v:=by
 induction h with
 | nil=>exact .nil
 | snoc _ m ih=>exact .snoc ih (m.imp (k _) (k _))
theorem Cn.iff (k:∀ t,t ∈ E↔t ∈ F):Cn E u v↔Cn F u v:=⟨fun h=>h.more fun t m=>(k t).mp m,fun h=>h.more fun t m=>(k t).mpr m⟩
theorem Cn.one (m:(a,b) ∈ E):Cn E a b:=.snoc .nil (.inl m)
/-- one tie more -/
theorem cn_more:Cn (E++[(a,b)]) u v↔Cn E u v∨(Cn E u a∧Cn E b v)∨(Cn E u b∧Cn E a v):=by
 have up:∀ {x y},Cn E x y->Cn (E++[(a,b)]) x y:=fun h=>h.more fun t m=>List.mem_append_left _ m
 have ab:Cn (E++[(a,b)]) a b:=.one (List.mem_append_right _ List.mem_cons_self)
 constructor
 ·intro h
  induction h with
  | nil=>exact .inl .nil
  | @snoc v w _ m ih =>
   have split:((v,w) ∈ E∨(w,v) ∈ E)∨(v=a∧w=b)∨(v=b∧w=a):=by
    rcases m with m | m
    ·rcases List.mem_append.mp m with m | m
     ·exact .inl (.inl m)
     ·have:=List.mem_singleton.mp m;cases this;exact .inr (.inl ⟨rfl,rfl⟩)
    ·rcases List.mem_append.mp m with m | m
     ·exact .inl (.inr m)
     ·have:=List.mem_singleton.mp m;cases this;exact .inr (.inr ⟨rfl,rfl⟩)
   rcases split with m | ⟨rfl,rfl⟩ | ⟨rfl,rfl⟩
   ·rcases ih with h | ⟨h1,h2⟩ | ⟨h1,h2⟩
    ·exact .inl (.snoc h m)
    ·exact .inr (.inl ⟨h1,.snoc h2 m⟩)
    ·exact .inr (.inr ⟨h1,.snoc h2 m⟩)
   ·rcases ih with h | ⟨h1,h2⟩ | ⟨h1,h2⟩
    ·exact .inr (.inl ⟨h,.nil⟩)
    ·exact .inr (.inl ⟨h1,.nil⟩)
    ·exact .inl h1
   ·rcases ih with h | ⟨h1,h2⟩ | ⟨h1,h2⟩
    ·exact .inr (.inr ⟨h,.nil⟩)
    ·exact .inl h1
    ·exact .inr (.inr ⟨h1,.nil⟩)
 ·rintro (h | ⟨h1,h2⟩ | ⟨h1,h2⟩)
  ·exact up h
  ·exact (up h1).app (ab.app (up h2))
  ·exact (up h1).app (ab.back.app (up h2))
end
/-- marks that tell what hangs together -/
def Mk (n:Nat) (E:List T2) (M:List Nat):Prop:=M.length=n∧∀ u v,u < n->v < n->(M.getD u 0=M.getD v 0↔Cn E u v)
def join (M:List Nat) (p q:Nat):List Nat:=M.map fun m=>if m=q then p else m
theorem join_at {M:List Nat} {p q u:Nat} (h:u < M.length):(join M p q).getD u 0=if M.getD u 0=q then p else M.getD u 0:=by
 unfold join
 rw[List.getD_eq_getElem?_getD,List.getElem?_map,List.getD_eq_getElem?_getD,List.getElem?_eq_getElem h];rfl
section
variable {n:Nat} {E:List T2} {M:List Nat} {a b:Nat}
theorem Mk.first:Mk n [] (List.range n):=by
 refine⟨List.length_range,fun u v hu hv=>?_⟩
 have e:∀ {x},x < n->(List.range n).getD x 0=x:=fun h=>by rw[List.getD_eq_getElem?_getD,List.getElem?_range h];rfl
 rw[e hu,e hv]
 constructor
 ·rintro rfl;exact .nil
 ·intro h
  cases h with
  | nil=>rfl
  | snoc _ m=>rcases m with m | m <;> cases m
theorem Mk.same (h:Mk n E M) (ha:a < n) (hb:b < n) (e:M.getD a 0=M.getD b 0):Mk n (E++[(a,b)]) M:=by
 refine⟨h.1,fun u v hu hv=>(h.2 u v hu hv).trans ?_⟩
 rw[cn_more]
 have ab:=(h.2 a b ha hb).mp e
 exact⟨.inl,fun z=>z.elim id fun z=>z.elim (fun z=>z.1.app (ab.app z.2)) fun z=>z.1.app (ab.back.app z.2)⟩
theorem Mk.join (h:Mk n E M) (ha:a < n) (hb:b < n) (ne:M.getD a 0≠M.getD b 0):Mk n (E++[(a,b)]) (join M (M.getD a 0) (M.getD b 0)):=by
 refine⟨by unfold Frs.join;rw[List.length_map];exact h.1,fun u v hu hv=>?_⟩
 rw[join_at (by rw[h.1];exact hu),join_at (by rw[h.1];exact hv),cn_more,← h.2 u v hu hv,← h.2 u a hu ha,← h.2 b v hb hv,← h.2 u b hu hb,← h.2 a v ha hv]
 by_cases c1:M.getD u 0=M.getD b 0 <;> by_cases c2:M.getD v 0=M.getD b 0
 ·rw[if_pos c1,if_pos c2]
  exact⟨fun _=>.inl (c1.trans c2.symm),fun _=>rfl⟩
 ·rw[if_pos c1,if_neg c2]
  constructor
  ·intro z;exact .inr (.inr ⟨c1,z⟩)
  ·rintro (z | ⟨_,z⟩ | ⟨_,z⟩)
   ·exact absurd (z.symm.trans c1) c2
   ·exact absurd z.symm c2
   ·exact z
 ·rw[if_neg c1,if_pos c2]
  constructor
  ·intro z;exact .inr (.inl ⟨z,c2.symm⟩)
  ·rintro (z | ⟨z,_⟩ | ⟨z,_⟩)
   ·exact absurd (z.trans c2) c1
   ·exact z
   ·exact absurd z c1
 ·rw[if_neg c1,if_neg c2]
  constructor
  ·exact .inl
  ·rintro (z | ⟨_,z⟩ | ⟨z,_⟩)
   ·exact z
   ·exact absurd z.symm c2
   ·exact absurd z c1
end
end Frs
namespace Peel
/-- ties by their ends -/
abbrev T2:=Nat × Nat
/-- kept ties of p to places that aren't gone -/
def hit (gone:List Nat) (p:Nat) (t:T2):Bool:=(t.1 == p && !gone.contains t.2) || (t.2 == p && !gone.contains t.1)
def deg (ts:List T2) (gone:List Nat) (p:Nat):Nat:=ts.countP (hit gone p)
def may (ts:List T2) (d:Int) (gone:List Nat) (p:Nat):Bool:=!gone.contains p && decide ((deg ts gone p:Int)≤d)
def next (n:Nat) (ts:List T2) (d:Int) (gone:List Nat):Option Nat:=(List.range n).find? (may ts d gone)
def run (n:Nat) (ts:List T2) (d:Int):Nat->List Nat->List Nat
 | 0,g=>g
 | f + 1,g=>match next n ts d g with
  | none=>g
  | some p=>run n ts d f (g++[p])
section
variable {n:Nat} {ts:List T2} {d:Int} {g:List Nat} {p:Nat}
/-- good: places of the web, none twice -/
def Good (n:Nat) (g:List Nat):Prop:=g.Nodup∧∀ p ∈ g,p < n
theorem len_below:∀ (n:Nat) (g:List Nat),g.Nodup->(∀ p ∈ g,p < n)->g.length≤n
 | 0,[],_,_=>Nat.le_refl _
 | 0,p::_,_,h=>absurd (h p List.mem_cons_self) (Nat.not_lt_zero _)
 | n + 1,g,nd,h=>by
  have h1:=len_below n (g.filter fun p=>p != n) (nd.filter _) fun p hp=>by
   have:=List.mem_filter.mp hp
   have a:=h p this.1
   have b:p≠n:=by simpa using this.2
   omega
  have e:g.length=(g.filter fun p=>p != n).length + g.countP (fun p=>p == n):=by
   rw[← List.countP_eq_length_filter]
   have:=List.length_eq_countP_add_countP (fun p=>p == n) (l:=g)
   have e2:g.countP (fun p=>decide ¬(p == n)=true)=g.countP fun p=>p != n:=List.countP_congr fun x _=>by simp
   rw[e2] at this
   omega
  have c:g.countP (fun p=>p == n)≤1:=by
   have:=List.nodup_iff_count.mp nd n
   exact this
  omega
theorem Good.len (h:Good n g):g.length≤n:=len_below n g h.1 h.2
theorem Good.nil:Good n []:=⟨List.nodup_nil,fun p h=>by cases h⟩
theorem Good.snoc (h:Good n g) (hp:p < n) (np:p ∉ g):Good n (g++[p]):=by
 refine⟨List.nodup_append.mpr ⟨h.1,by simp,fun a ha b hb e=>np ?_⟩,fun q hq=>?_⟩
 ·have:b=p:=by simpa using hb
  subst this;subst e;exact ha
 ·rcases List.mem_append.mp hq with hq | hq
  ·exact h.2 q hq
  ·have:q=p:=by simpa using hq
   subst this;exact hp
/-- all that go, from none on -/
def gone (n:Nat) (ts:List T2) (d:Int):List Nat:=run n ts d n []
end
end Peel
namespace L3
open PySem PySem.Spec PyProof.Rows L2
section
variable {g:TG} {tt:TT} {te:TE} {own:List Str} {js:List Nat} {σ:L2.St} {H1:Hp} {Q:VK}
theorem comp_selL {K:PySem.W.Frag} {a:Addr} {xs:List V} (hx:H1 a=some (.lst xs)) (Sg:L2.St->Prop) (sel:Nat->Option V) (hn:xs.length≤1000) (h0:Sg (start3 own js σ))
  (step:∀ i x σ' H',xs[i]?=some x->Same H1 H'->Sg σ'->∀ (C:L2.St->V->Hp->Prop) (L:L2.St->Hp->Prop),(∀ σ3 v H5,Sg σ3->Same H' H5->sel i=some v->C σ3 v H5)->(∀ σ3 H5,Sg σ3->Same H' H5->sel i=none->L σ3 H5) ->
   g x σ' H' fun σ3 H3=>tt σ3 H3 fun b H4=>if b=true then te σ3 H4 fun v H5=>C σ3 v H5 else L σ3 H4)
  (fin:∀ D H',H1 D=none->Same H1 H'->H' D=some (.lst ((List.range xs.length).filterMap sel))->Q (.ref D) H'):CompGo own js g tt te σ Q (Itl K a) H1:=by
 refine comp_sel xs.length Sg sel hn h0 (fun i H' hi s=>⟨xs,xs[i],SqL.of (s _ _ hx),by simp [hi]⟩) (fun H' s=>⟨xs,SqL.of (s _ _ hx),Nat.le_refl _⟩) (fun i x σ' H' H2 hi s hy sg C L hC hL=>?_) fin
 obtain⟨rfl,hy⟩:=hy
 exact step i x σ' _ (hy xs (SqL.of (s _ _ hx))) s sg C L hC hL
end
end L3
namespace L3
open PySem PySem.Spec PyProof.Rows L2
theorem tk_a {n:Int} {t:Tie} (tk:0≤t.1∧t.1 < t.2.1∧t.2.1 < n∧1≤t.2.2∧t.2.2≤10 ^ 18):t.1.toNat < n.toNat:=by omega
theorem tk_b {n:Int} {t:Tie} (tk:0≤t.1∧t.1 < t.2.1∧t.2.1 < n∧1≤t.2.2∧t.2.2≤10 ^ 18):t.2.1.toNat < n.toNat:=by omega
theorem tk_0 {n:Int} {t:Tie} (tk:0≤t.1∧t.1 < t.2.1∧t.2.1 < n∧1≤t.2.2∧t.2.2≤10 ^ 18):0≤t.2.1:=Int.le_of_lt (Int.lt_of_le_of_lt tk.1 tk.2.1)
def t2 (ts:List Tie) (k:Nat):Frs.T2:=((tieAt ts k).1.toNat,(tieAt ts k).2.1.toNat)
noncomputable def cnB (ts:List Tie) (ks:List Nat) (k:Nat):Bool:=@decide (Frs.Cn (ks.map (t2 ts)) (t2 ts k).1 (t2 ts k).2) (Classical.propDecidable _)
theorem cnB_iff {ts:List Tie} {ks:List Nat} {k:Nat}:cnB ts ks k=true↔Frs.Cn (ks.map (t2 ts)) (t2 ts k).1 (t2 ts k).2:=by unfold cnB;exact @decide_eq_true_iff _ (Classical.propDecidable _)
/-- ties that close no ring with those ahead in the row -/
noncomputable def rgN (ts:List Tie) (done:List Nat):List Nat->List Nat
 | []=>[]
 | k::r=>if cnB ts done k=true then rgN ts (done++[k]) r else k::rgN ts (done++[k]) r
theorem OrdOk.nodup {ts:List Tie} {os:List Nat} (h:OrdOk ts os):os.Nodup:=h.1.nodup_iff.mpr List.nodup_range
mutual
theorem Is.tbl {K:PySem.W.Frag} {H H':Hp} {p:Addr} {ps:Array Value} (e:But p H H') (hp:H p=some (.tbl ps)):∀ (d:PyData) {v:V},tupD d=true->Is K H d v->Is K H' d v
 | .none,_,_,h=>h
 | .bool _,_,_,h=>h
 | .int _,_,_,h=>h
 | .str _,_,_,h=>h
 | .tuple ds,_,t,h=>let ⟨q,vs,q1,q2,q3⟩:=h;⟨q,vs,q1,e _ _ (fun z=>by subst z;rw[hp] at q2;cases q2) q2,IsAll.tbl e hp ds t q3⟩
 | .list ds,_,t,h=>by cases t
 | .dict _,_,t,h=>by cases t
theorem IsAll.tbl {K:PySem.W.Frag} {H H':Hp} {p:Addr} {ps:Array Value} (e:But p H H') (hp:H p=some (.tbl ps)):∀ (ds:List PyData) {vs:List V},tupAll ds=true->IsAll K H ds vs->IsAll K H' ds vs
 | [],_,_,h=>h
 | d::ds,_,t,h=>by
  have t':(tupD d && tupAll ds)=true:=t
  rw[Bool.and_eq_true] at t'
  obtain⟨v,r,q1,q2,q3⟩:=h
  exact⟨v,r,q1,Is.tbl e hp d t'.1 q2,IsAll.tbl e hp ds t'.2 q3⟩
end
def spRingless (K:PySem.W.Frag):Sp:=fun vs H Q _=>∃ n ts os wv,∃ o:Addr,vs=[wv,.ref o]∧Is K H (webD n ts) wv∧WebOk n ts∧(∀ k ∈ os,k < ts.length)∧os.length≤60∧H o=some (.tup (natV os))∧∀ l H',Same H H'->H l=none->H' l=some (.lst (natV (rgN ts [] os)))->Q (.ref l) H'
end L3
namespace L3
open PySem PySem.Spec PyProof.Rows L2
def insN (ks:List Nat) (k:Nat):List Nat:=(ks.filter fun j=>decide (j < k))++k::ks.filter fun j=>decide (k < j)
theorem ins_mem {ks:List Nat} {k j:Nat}:j ∈ insN ks k↔j ∈ ks∨j=k:=by
 unfold insN
 rw[List.mem_append,List.mem_cons,List.mem_filter,List.mem_filter]
 simp only [decide_eq_true_eq]
 constructor
 ·rintro (⟨h,_⟩ | h | ⟨h,_⟩)
  ·exact .inl h
  ·exact .inr h
  ·exact .inl h
 ·rintro (h | h)
  ·rcases Nat.lt_trichotomy j k with z | z | z
   ·exact .inl ⟨h,z⟩
   ·exact .inr (.inl z)
   ·exact .inr (.inr ⟨h,z⟩)
  ·exact .inr (.inl h)
theorem ins_rise {ks:List Nat} {k:Nat} (h:ks.Pairwise (· < ·)):(insN ks k).Pairwise (· < ·):=by
 unfold insN
 rw[List.pairwise_append,List.pairwise_cons]
 refine⟨h.sublist List.filter_sublist,⟨fun j hj=>of_decide_eq_true (List.mem_filter.mp hj).2,h.sublist List.filter_sublist⟩,fun a ha b hb=>?_⟩
 have:=of_decide_eq_true (List.mem_filter.mp ha).2
 rcases List.mem_cons.mp hb with rfl | hb
 ·exact this
 ·have:=of_decide_eq_true (List.mem_filter.mp hb).2;omega
theorem ins_ok {m:Nat} {ks:List Nat} {k:Nat} (h:KeepOk m ks) (hk:k < m):KeepOk m (insN ks k):=⟨ins_rise h.1,fun j hj=>(ins_mem.mp hj).elim (h.2 j) fun e=>by omega⟩
theorem ins_sorted {ks:List Nat} {k:Nat} (h:ks.Pairwise (· < ·)) (hk:k ∉ ks) {ms:List Int} (p:ms.Perm (keepI ks++[(k:Int)])) (w:ms.Pairwise (·≤·)):ms=keepI (insN ks k):=by
 have nd:(ks++[k]).Nodup:=List.nodup_append.mpr ⟨h.imp fun h=>Nat.ne_of_lt h,(by simp),fun a ha b hb e=>by
  have:b=k:=by simpa using hb
  subst this;subst e;exact hk ha⟩
 have pf:(ks++[k]).Perm (insN ks k):=(List.perm_ext_iff_of_nodup nd ((ins_rise h).imp fun h=>Nat.ne_of_lt h)).mpr fun j=>by rw[ins_mem,List.mem_append,List.mem_singleton]
 have e:keepI ks++[(k:Int)]=keepI (ks++[k]):=by unfold keepI;rw[List.map_append];rfl
 rw[e] at p
 refine List.Perm.eq_of_pairwise (le:=(·≤·)) (fun a b _ _ h1 h2=>Int.le_antisymm h1 h2) w ?_ (p.trans (by unfold keepI;exact pf.map _))
 unfold keepI
 rw[List.pairwise_map]
 exact (ins_rise h).imp fun h=>by omega
end L3
namespace Far
def sumP:List Nat->Nat
 | []=>0
 | k::r=>2 ^ k + sumP r
theorem sumP_perm {S S':List Nat} (h:S.Perm S'):sumP S=sumP S':=by
 induction h with
 | nil=>rfl
 | cons x _ ih=>show _ + _=_ + _;rw[ih]
 | swap x y l=>show 2 ^ y + (2 ^ x + sumP l)=2 ^ x + (2 ^ y + sumP l);omega
 | trans _ _ h1 h2=>exact h1.trans h2
theorem sumP_append (S:List Nat):∀ T:List Nat,sumP (S++T)=sumP S + sumP T:=by
 intro T
 induction S with
 | nil=>show sumP T=0 + sumP T;omega
 | cons k r ih=>show 2 ^ k + sumP (r++T)=2 ^ k + sumP r + sumP T;rw[ih];omega
theorem sumP_lt:∀ (m:Nat) {S:List Nat},S.Nodup->(∀ k ∈ S,k < m)->sumP S < 2 ^ m
 | 0,S,_,h=>by
  cases S with
  | nil=>exact Nat.zero_lt_one
  | cons k r=>exact absurd (h k List.mem_cons_self) (Nat.not_lt_zero _)
 | m + 1,S,nd,h=>by
  have e:2 ^ (m + 1)=2 ^ m + 2 ^ m:=by rw[Nat.pow_succ];omega
  by_cases c:m ∈ S
  ·have p:=List.perm_cons_erase c
   have nd':(m::S.erase m).Nodup:=p.nodup_iff.mp nd
   have:=sumP_lt m (S:=S.erase m) (List.nodup_cons.mp nd').2 fun k hk=>by
    have h1:=h k (List.mem_of_mem_erase hk)
    have h2:k≠m:=fun z=>(List.nodup_cons.mp nd').1 (z ▸ hk)
    omega
   rw[sumP_perm p,e]
   show 2 ^ m + sumP (S.erase m) < _
   omega
  ·have:=sumP_lt m nd fun k hk=>by
    have h1:=h k hk
    have h2:k≠m:=fun z=>c (z ▸ hk)
    omega
   omega
theorem sumP_inj:∀ (m:Nat) {S S':List Nat},S.Nodup->S'.Nodup->(∀ k ∈ S,k < m)->(∀ k ∈ S',k < m)->sumP S=sumP S'->∀ k,k ∈ S->k ∈ S'
 | 0,S,S',_,_,h,_,_,k,hk=>absurd (h k hk) (Nat.not_lt_zero _)
 | m + 1,S,S',nd,nd',h,h',e,k,hk=>by
  have lower:∀ {T:List Nat},T.Nodup->(∀ k ∈ T,k < m + 1)->m ∉ T->sumP T < 2 ^ m:=fun {T} n1 n2 n3=>sumP_lt m n1 fun j hj=>by
   have h1:=n2 j hj
   have h2:j≠m:=fun z=>n3 (z ▸ hj)
   omega
  by_cases c:m ∈ S
  ·have p:=List.perm_cons_erase c
   have ndp:(m::S.erase m).Nodup:=p.nodup_iff.mp nd
   have e1:sumP S=2 ^ m + sumP (S.erase m):=sumP_perm p
   by_cases c':m ∈ S'
   ·have p':=List.perm_cons_erase c'
    have ndp':(m::S'.erase m).Nodup:=p'.nodup_iff.mp nd'
    have e2:sumP S'=2 ^ m + sumP (S'.erase m):=sumP_perm p'
    by_cases z:k=m
    ·rw[z];exact c'
    ·have lt:∀ {T:List Nat},(m::T.erase m).Nodup->(∀ k ∈ T,k < m + 1)->∀ j ∈ T.erase m,j < m:=fun {T} n1 n2 j hj=>by
      have h1:=n2 j (List.mem_of_mem_erase hj)
      have h2:j≠m:=fun y=>(List.nodup_cons.mp n1).1 (y ▸ hj)
      omega
     have:=sumP_inj m (List.nodup_cons.mp ndp).2 (List.nodup_cons.mp ndp').2 (lt ndp h) (lt ndp' h') (by omega) k ((List.mem_erase_of_ne z).mpr hk)
     exact List.mem_of_mem_erase this
   ·have:=lower nd' h' c'
    omega
  ·by_cases c':m ∈ S'
   ·have e2:sumP S'=2 ^ m + sumP (S'.erase m):=sumP_perm (List.perm_cons_erase c')
    have:=lower nd h c
    omega
   ·have lt:∀ {T:List Nat},(∀ k ∈ T,k < m + 1)->m ∉ T->∀ j ∈ T,j < m:=fun {T} n1 n2 j hj=>by
     have h1:=n1 j hj
     have h2:j≠m:=fun y=>n2 (y ▸ hj)
     omega
    exact sumP_inj m nd nd' (lt h c) (lt h' c') e k hk
abbrev Arc:=Nat × Nat × Int × Nat
inductive Rt (B:List Arc) (a:Nat):List Nat->List Nat->Nat->Int->Int->Prop
 | one:Rt B a [a] [] a 0 0
 | snoc {ws S:List Nat} {u v:Nat} {x y l:Int} {k:Nat}:Rt B a ws S u x y->(u,v,l,k) ∈ B->v ∉ ws->Rt B a (ws++[v]) (S++[k]) v (x + l) (y + 2 ^ k)
structure Keys (B:List Arc):Prop where
 sym:∀ u v l k,(u,v,l,k) ∈ B->(v,u,l,k) ∈ B
 key:∀ u v l u' v' l' k,(u,v,l,k) ∈ B->(u',v',l',k) ∈ B->l'=l∧((u'=u∧v'=v)∨(u'=v∧v'=u))
 ne:∀ u v l k,(u,v,l,k) ∈ B->u≠v
 pos:∀ u v l k,(u,v,l,k) ∈ B->1≤l
 few:∀ u v l k,(u,v,l,k) ∈ B->k < 60
variable {B:List Arc} {a b:Nat} {ws S:List Nat} {x y:Int}
theorem Rt.last (h:Rt B a ws S b x y):b ∈ ws:=by
 cases h with
 | one=>exact List.mem_singleton.mpr rfl
 | snoc _ _ _=>exact List.mem_append_right _ (List.mem_singleton.mpr rfl)
theorem Rt.ends (K:Keys B) (h:Rt B a ws S b x y):∀ k ∈ S,∃ u v l,(u,v,l,k) ∈ B∧u ∈ ws∧v ∈ ws:=by
 induction h with
 | one=>intro k hk;cases hk
 | @snoc ws S u v x y l k r m nv ih =>
  intro j hj
  rcases List.mem_append.mp hj with hj | hj
  ·obtain⟨p,q,l',h1,h2,h3⟩:=ih j hj
   exact⟨p,q,l',h1,List.mem_append_left _ h2,List.mem_append_left _ h3⟩
  ·rw[List.mem_singleton.mp hj]
   exact⟨u,v,l,m,List.mem_append_left _ r.last,List.mem_append_right _ (List.mem_singleton.mpr rfl)⟩
theorem Rt.fresh (K:Keys B) (h:Rt B a ws S b x y) {u v:Nat} {l:Int} {k:Nat} (m:(u,v,l,k) ∈ B) (nv:v ∉ ws):k ∉ S:=fun hk=>by
 obtain⟨p,q,l',m',hp,hq⟩:=h.ends K k hk
 rcases (K.key _ _ _ _ _ _ _ m m').2 with ⟨e1,e2⟩ | ⟨e1,e2⟩
 ·exact nv (e2 ▸ hq)
 ·exact nv (e1 ▸ hp)
theorem Rt.nodup (K:Keys B) (h:Rt B a ws S b x y):S.Nodup:=by
 induction h with
 | one=>exact List.nodup_nil
 | @snoc ws S u v x y l k r m nv ih =>
  refine List.nodup_append.mpr ⟨ih,by simp,fun p hp q hq z=>?_⟩
  rw[List.mem_singleton.mp hq] at z
  exact r.fresh K m nv (z ▸ hp)
theorem Rt.small (K:Keys B) (h:Rt B a ws S b x y):∀ k ∈ S,k < 60:=fun k hk=>let ⟨u,v,l,m,_⟩:=h.ends K k hk;K.few u v l k m
theorem Rt.sum (h:Rt B a ws S b x y):y=(sumP S:Nat):=by
 induction h with
 | one=>rfl
 | @snoc ws S u v x y l k r m nv ih =>
  rw[sumP_append,ih]
  show ((sumP S:Nat):Int) + 2 ^ k=((sumP S + (2 ^ k + 0):Nat):Int)
  have:((2 ^ k:Nat):Int)=(2:Int) ^ k:=by norm_cast
  omega
theorem Rt.lt (K:Keys B) (h:Rt B a ws S b x y):0≤y∧y < 2 ^ 60:=by
 have e:=h.sum
 have:=sumP_lt 60 (h.nodup K) (h.small K)
 have e2:((2 ^ 60:Nat):Int)=(2:Int) ^ 60:=by norm_cast
 omega
/-- the same sum of powers: the same route -/
theorem Rt.unique (K:Keys B) (h:Rt B a ws S b x y):∀ {ws' S':List Nat} {x':Int},Rt B a ws' S' b x' y->ws'=ws∧x'=x:=by
 induction h with
 | one =>
  intro ws' S' x' r
  generalize ey:(0:Int)=yy at r
  cases r with
  | one=>exact⟨rfl,rfl⟩
  | @snoc ws0 S0 u _ x0 y0 l k r m nv =>
   have p:=r.lt K
   have:(0:Int) < 2 ^ k:=Int.pow_pos (by decide)
   omega
 | @snoc ws0 S0 u v x0 y0 l k r m nv ih =>
  intro ws' S' x' r'
  have full:Rt B a (ws0++[v]) (S0++[k]) v (x0 + l) (y0 + 2 ^ k):=.snoc r m nv
  have se:sumP S'=sumP (S0++[k]):=by
   have e1:=r'.sum
   have e2:=full.sum
   omega
  have sub:=sumP_inj 60 (r'.nodup K) (full.nodup K) (r'.small K) (full.small K) se
  generalize ey:y0 + 2 ^ k=yy at r'
  cases r' with
  | one =>
   have p:=r.lt K
   have:(0:Int) < 2 ^ k:=Int.pow_pos (by decide)
   omega
  | @snoc ws1 S1 u1 _ x1 y1 l1 k1 r1 m1 nv1 =>
   have in1:=sub k1 (List.mem_append_right _ (List.mem_singleton.mpr rfl))
   have k1k:k1=k:=by
    rcases List.mem_append.mp in1 with z | z
    ·exact absurd z (r.fresh K m1 nv)
    ·exact List.mem_singleton.mp z
   subst k1k
   obtain⟨el,eu⟩:=K.key _ _ _ _ _ _ _ m m1
   have uu:u1=u:=by
    rcases eu with ⟨e,_⟩ | ⟨e,e'⟩
    ·exact e
    ·exact absurd e' (K.ne _ _ _ _ m).symm
   subst uu
   have yy1:y1=y0:=by omega
   subst yy1
   obtain⟨e1,e2⟩:=ih r1
   exact⟨by rw[e1],by rw[e2,el]⟩
theorem Rt.cons (K:Keys B) {u:Nat} {l:Int} {k:Nat} (m:(u,a,l,k) ∈ B) (h:Rt B a ws S b x y):u ∉ ws->Rt B u (u::ws) (k::S) b (x + l) (y + 2 ^ k):=by
 induction h with
 | one =>
  intro nu
  have:Rt B u ([u]++[a]) ([]++[k]) a (0 + l) (0 + 2 ^ k):=.snoc .one m (fun z=>nu (by rw[List.mem_singleton] at z ⊢;exact z.symm))
  exact this
 | @snoc ws S w v x y l' k' r m' nv ih =>
  intro nu
  have r2:=ih fun z=>nu (List.mem_append_left _ z)
  have:Rt B u ((u::ws)++[v]) ((k::S)++[k']) v (x + l + l') (y + 2 ^ k + 2 ^ k'):=.snoc r2 m' fun z=>by
   rcases List.mem_cons.mp z with z | z
   ·exact nu (List.mem_append_right _ (List.mem_singleton.mpr z.symm))
   ·exact nv z
  rw[Int.add_right_comm x l l',Int.add_right_comm y] at this
  exact this
theorem Rt.back (K:Keys B) (h:Rt B a ws S b x y):Rt B b ws.reverse S.reverse a x y:=by
 induction h with
 | one=>exact .one
 | @snoc ws S u v x y l k r m nv ih =>
  rw[List.reverse_append,List.reverse_append]
  exact ih.cons K (K.sym _ _ _ _ m) (fun z=>nv (List.mem_reverse.mp z))
end Far
namespace Far
structure Best (B:List Arc) (n s:Nat) (cs:List (Option (Int × Int))) (as:List (Option Nat)):Prop where
 len:cs.length=n
 alen:as.length=n
 start:get cs s=some (0,0)
 root:get as s=none
 has:∀ v c,get cs v=some c->v≠s->get as v≠none
 nn:∀ v c,get cs v=some c->0≤c.1
 stab:∀ u v l k c,(u,v,l,k) ∈ B->get cs u=some c->∃ c',get cs v=some c'∧¬ lt2 (c.1 + l,c.2 + 2 ^ k) c'
 arc:∀ v u,get as v=some u->∃ l k cu,(u,v,l,k) ∈ B∧get cs u=some cu∧get cs v=some (cu.1 + l,cu.2 + 2 ^ k)
/-- the way by the tree, from its root -/
inductive TPw (as:List (Option Nat)) (s:Nat):List Nat->Nat->Prop
 | root:TPw as s [s] s
 | step {ws:List Nat} {u v:Nat}:get as v=some u->TPw as s ws u->TPw as s (ws++[v]) v
section
variable {B:List Arc} {n s:Nat} {cs:List (Option (Int × Int))} {as:List (Option Nat)}
theorem Best.route (K:Keys B) (h:Best B n s cs as):∀ (m:Nat) (v:Nat) (c:Int × Int),get cs v=some c->c.1.toNat≤m->∃ ws S,Rt B s ws S v c.1 c.2∧TPw as s ws v∧∀ w ∈ ws,∃ cw,get cs w=some cw∧cw.1≤c.1:=by
 intro m
 induction m using Nat.strongRecOn with
 | ind m ih =>
  intro v c e hm
  by_cases vs:v=s
  ·subst vs
   rw[h.start] at e;cases e
   exact⟨[v],[],.one,.root,fun w hw=>by rw[List.mem_singleton.mp hw];exact⟨_,h.start,Int.le_refl _⟩⟩
  ·cases ea:get as v with
   | none=>exact absurd ea (h.has v c e vs)
   | some u =>
    obtain⟨l,k,cu,ma,eu,ev⟩:=h.arc v u ea
    rw[e] at ev;cases ev
    have l1:=K.pos _ _ _ _ ma
    have c0:=h.nn _ _ eu
    simp only at hm
    obtain⟨ws,S,r,tp,all⟩:=ih cu.1.toNat (by omega) u cu eu (Nat.le_refl _)
    have nv:v ∉ ws:=fun z=>by
     obtain⟨cw,e1,h1⟩:=all v z
     rw[e] at e1;cases e1
     simp only at h1;omega
    refine⟨ws++[v],S++[k],.snoc r ma nv,.step ea tp,fun w hw=>?_⟩
    rcases List.mem_append.mp hw with hw | hw
    ·obtain⟨cw,e1,h1⟩:=all w hw
     exact⟨cw,e1,by show cw.1≤cu.1 + l;omega⟩
    ·rw[List.mem_singleton.mp hw]
     exact⟨_,e,Int.le_refl _⟩
theorem Best.small (K:Keys B) (h:Best B n s cs as) {v:Nat} {c:Int × Int} (e:get cs v=some c):0≤c.2∧c.2 < 2 ^ 60:=by
 obtain⟨ws,S,r,_⟩:=h.route K _ v c e (Nat.le_refl _)
 exact r.lt K
/-- no route is less -/
theorem Best.least (h:Best B n s cs as) {ws S:List Nat} {v:Nat} {x y:Int} (r:Rt B s ws S v x y):∃ c,get cs v=some c∧¬ lt2 (x,y) c:=by
 induction r with
 | one=>exact⟨_,h.start,fun z=>by unfold lt2 at z;simp only at z;omega⟩
 | @snoc ws S u v x y l k r m nv ih =>
  obtain⟨c,e,hc⟩:=ih
  obtain⟨c',e',hc'⟩:=h.stab _ _ _ _ _ m e
  refine⟨c',e',fun z=>?_⟩
  unfold lt2 at *
  simp only at *
  omega
/-- both ways about the same -/
theorem Best.both (K:Keys B) {s':Nat} {cs':List (Option (Int × Int))} {as':List (Option Nat)} (h:Best B n s cs as) (h':Best B n s' cs' as'):get cs s'=get cs' s:=by
 have one:∀ {a b:Nat} {c1 c2:List (Option (Int × Int))} {a1 a2:List (Option Nat)} {d:Int × Int},Best B n a c1 a1->Best B n b c2 a2->get c1 b=some d->∃ d',get c2 a=some d'∧¬ lt2 d d':=fun {a b c1 c2 a1 a2 d} g1 g2 e=>by
  obtain⟨ws,S,r,_⟩:=g1.route K _ b d e (Nat.le_refl _)
  exact g2.least (r.back K)
 cases e:get cs s' with
 | none =>
  cases e':get cs' s with
  | none=>rfl
  | some d=>obtain⟨d',e2,_⟩:=one h' h e';rw[e] at e2;cases e2
 | some d =>
  obtain⟨d',e2,n1⟩:=one h h' e
  obtain⟨d2,e3,n2⟩:=one h' h e2
  rw[e] at e3;cases e3
  rw[e2]
  congr 1
  unfold lt2 at n1 n2
  exact Prod.ext (by omega) (by omega)
/-- the way by the one tree is the way by the other, turned about -/
theorem Best.turned (K:Keys B) {s':Nat} {cs':List (Option (Int × Int))} {as':List (Option Nat)} (h:Best B n s cs as) (h':Best B n s' cs' as') {ws ws':List Nat} (t:TPw as s ws s') (t':TPw as' s' ws' s) {c:Int × Int} (e:get cs s'=some c):ws'=ws.reverse:=by
 have tp_unique:∀ {as:List (Option Nat)} {s v:Nat} {ws ws':List Nat},get as s=none->TPw as s ws v->TPw as s ws' v->ws'=ws:=by
  intro as s v ws ws' hr t
  induction t generalizing ws' with
  | root =>
   intro t'
   cases t' with
   | root=>rfl
   | step e _=>rw[hr] at e;cases e
  | step e t ih =>
   intro t'
   cases t' with
   | root=>rw[hr] at e;cases e
   | step e' t'=>rw[e] at e';cases e';rw[ih t']
 obtain⟨w1,S1,r1,p1,_⟩:=h.route K _ s' c e (Nat.le_refl _)
 have e':get cs' s=some c:=by rw[← h.both K h'];exact e
 obtain⟨w2,S2,r2,p2,_⟩:=h'.route K _ s c e' (Nat.le_refl _)
 rw[tp_unique h.root p1 t,tp_unique h'.root p2 t']
 have:=(r2.unique K (r1.back K)).1
 exact this.symm
/-- the tree is told by its weights -/
theorem Best.tree (K:Keys B) (h:Best B n s cs as) {u v:Nat} {l:Int} {k:Nat} {cu:Int × Int} (m:(u,v,l,k) ∈ B) (eu:get cs u=some cu) (ev:get cs v=some (cu.1 + l,cu.2 + 2 ^ k)):get as v=some u:=by
 have l1:=K.pos _ _ _ _ m
 have c0:=h.nn _ _ eu
 have vs:v≠s:=fun z=>by
  rw[z,h.start] at ev
  have:(0:Int)=cu.1 + l:=congrArg (fun o:Option (Int × Int)=>(o.getD (0,0)).1) ev
  omega
 cases ea:get as v with
 | none=>exact absurd ea (h.has v _ ev vs)
 | some u0 =>
  obtain⟨l0,k0,c0',m0,e0,ev0⟩:=h.arc v u0 ea
  have mk:∀ {u:Nat} {l:Int} {k:Nat} {cu:Int × Int},(u,v,l,k) ∈ B->get cs u=some cu->get cs v=some (cu.1 + l,cu.2 + 2 ^ k)->∃ r S,Rt B s (r++[u]++[v]) S v (cu.1 + l) (cu.2 + 2 ^ k):=fun {u l k cu} m eu ev=>by
   obtain⟨ws,S,r,tp,all⟩:=h.route K _ u cu eu (Nat.le_refl _)
   have nv:v ∉ ws:=fun z=>by
    obtain⟨cw,e1,h1⟩:=all v z
    rw[ev] at e1;cases e1
    have:=K.pos _ _ _ _ m
    simp only at h1;omega
   obtain⟨q,rfl⟩:∃ q,ws=q++[u]:=by
    cases tp with
    | root=>exact⟨[],rfl⟩
    | step _ _=>exact⟨_,rfl⟩
   exact⟨q,_,.snoc r m nv⟩
  obtain⟨r1,S1,t1⟩:=mk m eu ev
  obtain⟨r2,S2,t2⟩:=mk m0 e0 ev0
  have e2:c0'.2 + 2 ^ k0=cu.2 + 2 ^ k:=congrArg (fun o:Option (Int × Int)=>(o.getD (0,0)).2) (ev0.symm.trans ev)
  rw[e2] at t2
  have:=(t1.unique K t2).1
  have z1:(r2++[u0])=(r1++[u]):=List.append_cancel_right this
  have z2:=congrArg List.getLast? z1
  simp at z2
  rw[z2]
end
/-- lengths and powers in one number -/
def comb (c:Int × Int):Int:=c.1 * 2 ^ 61 + c.2
def arcsC (B:List Arc):List (Nat × Nat × Int):=B.map fun b=>(b.1,b.2.1,b.2.2.1 * 2 ^ 61 + 2 ^ b.2.2.2)
theorem arcsC_mem {B:List Arc} {u v:Nat} {L:Int}:(u,v,L) ∈ arcsC B↔∃ l k,(u,v,l,k) ∈ B∧L=l * 2 ^ 61 + 2 ^ k:=by
 unfold arcsC
 rw[List.mem_map]
 constructor
 ·rintro ⟨⟨a,b,l,k⟩,h,e⟩
  cases e
  exact⟨l,k,h,rfl⟩
 ·rintro ⟨l,k,h,rfl⟩
  exact⟨(u,v,l,k),h,rfl⟩
section
variable {B:List Arc} {n s:Nat} {cs:List (Option (Int × Int))} {as:List (Option Nat)}
theorem two_pos (k:Nat):(1:Int)≤2 ^ k:=Int.pow_pos (by decide)
theorem arcsC_sym (K:Keys B):Sym (arcsC B):=fun u v L h=>by
 obtain⟨l,k,m,rfl⟩:=arcsC_mem.mp h
 exact arcsC_mem.mpr ⟨l,k,K.sym _ _ _ _ m,rfl⟩
theorem Best.dst (K:Keys B) (h:Best B n s cs as) (v:Nat):Dst (arcsC B) s v ((get cs v).map comb):=by
 refine⟨fun y e=>?_,fun L w=>?_⟩
 ·cases ec:get cs v with
  | none=>rw[ec] at e;cases e
  | some c =>
   rw[ec] at e;cases e
   obtain⟨ws,S,r,_⟩:=h.route K _ v c ec (Nat.le_refl _)
   have go:∀ {ws S:List Nat} {v:Nat} {x y:Int},Rt B s ws S v x y->Walk (arcsC B) s v (comb (x,y)):=by
    intro ws S v x y r
    induction r with
    | one=>exact .nil
    | @snoc ws S u v x y l k r m nv ih =>
     have:=Walk.snoc ih (arcsC_mem.mpr ⟨l,k,m,rfl⟩)
     have e:comb (x + l,y + 2 ^ k)=comb (x,y) + (l * 2 ^ 61 + 2 ^ k):=by unfold comb;simp only;omega
     rw[e];exact this
   exact go r
 ·have:∃ c,get cs v=some c∧comb c≤L:=by
   induction w with
   | nil=>exact⟨_,h.start,by decide⟩
   | @snoc u v l x w m ih =>
    obtain⟨c,e,hc⟩:=ih
    obtain⟨l',k,m',rfl⟩:=arcsC_mem.mp m
    obtain⟨c',e',hc'⟩:=h.stab _ _ _ _ _ m' e
    refine⟨c',e',?_⟩
    have s1:=h.small K e
    have s2:=h.small K e'
    have:=two_pos k
    unfold comb at *
    unfold lt2 at hc'
    simp only at hc'
    omega
  obtain⟨c,e,hc⟩:=this
  exact⟨comb c,by rw[e];rfl,hc⟩
theorem comb_inj {c d:Int × Int} (hc:0≤c.2∧c.2 < 2 ^ 61) (hd:0≤d.2∧d.2 < 2 ^ 61) (e:comb c=comb d):c=d:=by
 unfold comb at e
 exact Prod.ext (by omega) (by omega)
end
end Far
namespace Far
def arcsF (B:List Arc):List (Nat × Nat × Int):=B.map fun b=>(b.1,b.2.1,b.2.2.1)
theorem arcsF_mem {B:List Arc} {u v:Nat} {l:Int}:(u,v,l) ∈ arcsF B↔∃ k,(u,v,l,k) ∈ B:=by
 unfold arcsF
 rw[List.mem_map]
 constructor
 ·rintro ⟨⟨a,b,l',k⟩,h,e⟩
  cases e
  exact⟨k,h⟩
 ·rintro ⟨k,h⟩
  exact⟨(u,v,l,k),h,rfl⟩
section
variable {B:List Arc} {n s:Nat} {cs:List (Option (Int × Int))} {as:List (Option Nat)} {a b:Nat} {ws S:List Nat} {x y:Int}
theorem tp_unique {v:Nat} {ws ws':List Nat} (hr:get as s=none) (t:TPw as s ws v):TPw as s ws' v->ws'=ws:=by
 induction t generalizing ws' with
 | root =>
  intro t'
  cases t' with
  | root=>rfl
  | step e _=>rw[hr] at e;cases e
 | step e t ih =>
  intro t'
  cases t' with
  | root=>rw[hr] at e;cases e
  | step e' t'=>rw[e] at e';cases e';rw[ih t']
theorem Best.rt (K:Keys B) (h:Best B n s cs as) {v:Nat} {c:Int × Int} (t:TPw as s ws v) (e:get cs v=some c):∃ S,Rt B s ws S v c.1 c.2:=by
 obtain⟨w1,S1,r1,p1,_⟩:=h.route K _ v c e (Nat.le_refl _)
 rw[tp_unique h.root p1 t]
 exact⟨S1,r1⟩
theorem Rt.walk (r:Rt B a ws S b x y):Walk (arcsF B) a b x:=by
 induction r with
 | one=>exact .nil
 | snoc r m nv ih=>exact .snoc ih (arcsF_mem.mpr ⟨_,m⟩)
theorem Rt.tr (r:Rt B a ws S b x y):Tr (arcsF B) a ws b x:=by
 induction r with
 | one=>exact .one
 | snoc r m nv ih=>exact .snoc ih (arcsF_mem.mpr ⟨_,m⟩)
theorem Rt.len (r:Rt B a ws S b x y):ws.length=S.length + 1:=by
 induction r with
 | one=>rfl
 | snoc r m nv ih=>rw[List.length_append,List.length_append,ih];rfl
theorem Rt.unlike (r:Rt B a ws S b x y):ws.Nodup:=by
 induction r with
 | one=>simp
 | snoc r m nv ih =>
  refine List.nodup_append.mpr ⟨ih,by simp,fun p hp q hq z=>?_⟩
  rw[List.mem_singleton.mp hq] at z
  exact nv (z ▸ hp)
theorem Rt.foot (r:Rt B a ws S b x y):∃ q,ws=q++[b]:=by
 cases r with
 | one=>exact⟨[],rfl⟩
 | snoc r m nv=>exact⟨_,rfl⟩
theorem Rt.step (r:Rt B a ws S b x y):∀ {i k:Nat},S[i]?=some k->∃ u v l,ws[i]?=some u∧ws[i + 1]?=some v∧(u,v,l,k) ∈ B:=by
 induction r with
 | one=>intro i k h;cases h
 | @snoc ws S u v x y l k r m nv ih =>
  intro i j h
  have len:=r.len
  by_cases c:i < S.length
  ·rw[List.getElem?_append_left c] at h
   obtain⟨p,q,l',h1,h2,h3⟩:=ih h
   exact⟨p,q,l',by rw[List.getElem?_append_left (by omega)];exact h1,by rw[List.getElem?_append_left (by omega)];exact h2,h3⟩
  ·have hi:i < (S++[k]).length:=(List.getElem?_eq_some_iff.mp h).1
   rw[List.length_append,List.length_singleton] at hi
   have e:i=S.length:=by omega
   subst e
   rw[List.getElem?_append_right (Nat.le_refl _),Nat.sub_self] at h
   cases h
   obtain⟨q,rfl⟩:=r.foot
   rw[List.length_append,List.length_singleton] at len
   refine⟨u,v,l,?_,?_,m⟩
   ·rw[List.getElem?_append_left (by rw[List.length_append,List.length_singleton];omega),List.getElem?_append_right (by omega)]
    rw[show S.length - q.length=0 by omega];rfl
   ·rw[List.getElem?_append_right (by rw[List.length_append,List.length_singleton];omega),List.length_append,List.length_singleton]
    rw[show S.length + 1 - (q.length + 1)=0 by omega];rfl
theorem Rt.places (r:Rt B a ws S b x y) {N:Nat} (ha:a < N) (inn:∀ u v l k,(u,v,l,k) ∈ B->u < N∧v < N):∀ p ∈ ws,p < N:=by
 induction r with
 | one=>intro p hp;rw[List.mem_singleton.mp hp];exact ha
 | snoc r m nv ih =>
  intro p hp
  rcases List.mem_append.mp hp with hp | hp
  ·exact ih p hp
  ·rw[List.mem_singleton.mp hp];exact (inn _ _ _ _ m).2
/-- the least of the routes from a to b -/
structure Uni (B:List Arc) (a b:Nat) (ws S:List Nat) (x y:Int):Prop where
 rt:Rt B a ws S b x y
 least:∀ ws' S' x' y',Rt B a ws' S' b x' y'->¬ lt2 (x',y') (x,y)
theorem Uni.unique (K:Keys B) {ws' S':List Nat} {x' y':Int} (h:Uni B a b ws S x y) (h':Uni B a b ws' S' x' y'):ws'=ws∧x'=x:=by
 have n1:=h.least _ _ _ _ h'.rt
 have n2:=h'.least _ _ _ _ h.rt
 have e:y'=y:=by unfold lt2 at n1 n2;simp only at n1 n2;omega
 have r':=h'.rt
 rw[e] at r'
 exact h.rt.unique K r'
end
end Far
namespace Far
section
variable {B:List Arc} {n s a b:Nat} {ws S:List Nat} {x y:Int} {cs:List (Option (Int × Int))} {as:List (Option Nat)}
theorem Rt.walkC (r:Rt B a ws S b x y):Walk (arcsC B) a b (comb (x,y)):=by
 induction r with
 | one=>exact .nil
 | @snoc ws S u v x y l k r m nv ih =>
  have:=Walk.snoc ih (arcsC_mem.mpr ⟨l,k,m,rfl⟩)
  have e:comb (x + l,y + 2 ^ k)=comb (x,y) + (l * 2 ^ 61 + 2 ^ k):=by unfold comb;simp only;omega
  rw[e];exact this
theorem Rt.split (r:Rt B a ws S b x y):∀ {p q:List Nat} {u:Nat},ws=p++u::q->∃ S1 S2 x1 x2 y1 y2,Rt B a (p++[u]) S1 u x1 y1∧Rt B u (u::q) S2 b x2 y2∧x=x1 + x2∧y=y1 + y2:=by
 induction r with
 | one =>
  intro p q u e
  cases p with
  | nil =>
   injection e with e1 e2
   subst e1 e2
   exact⟨[],[],0,0,0,0,.one,.one,rfl,rfl⟩
  | cons z p=>injection e with e1 e2;cases p <;> cases e2
 | @snoc ws S u0 v x y l k r m nv ih =>
  intro p q u e
  rcases List.eq_nil_or_concat q with rfl | ⟨q',v',rfl⟩
  ·have e':ws++[v]=p++[u]:=e
   obtain⟨e1,e2⟩:=List.append_inj' e' rfl
   cases e2
   subst e1
   exact⟨S++[k],[],x + l,0,y + 2 ^ k,0,r.snoc m nv,.one,by omega,by omega⟩
  ·have e':ws++[v]=(p++u::q')++[v']:=by rw[e,List.append_assoc];simp
   obtain⟨e1,e2⟩:=List.append_inj' e' rfl
   cases e2
   obtain⟨S1,S2,x1,x2,y1,y2,r1,r2,ex,ey⟩:=ih e1
   have nv2:v ∉ u::q':=fun h=>nv (by rw[e1];exact List.mem_append_right _ h)
   have r3:=r2.snoc m nv2
   refine⟨S1,S2++[k],x1,x2 + l,y1,y2 + 2 ^ k,r1,?_,by omega,by omega⟩
   simpa using r3
/-- the least of all walks, and a route -/
def MinW (B:List Arc) (a b:Nat) (ws:List Nat):Prop:=∃ S x y,Rt B a ws S b x y∧∀ L,Walk (arcsC B) a b L->comb (x,y)≤L
theorem MinW.unique (K:Keys B) {ws':List Nat} (h:MinW B a b ws) (h':MinW B a b ws'):ws'=ws:=by
 obtain⟨S,x,y,r,l⟩:=h
 obtain⟨S',x',y',r',l'⟩:=h'
 have e1:=l _ r'.walkC
 have e2:=l' _ r.walkC
 have b1:=r.lt K
 have b2:=r'.lt K
 have e:=comb_inj (c:=(x,y)) (d:=(x',y')) ⟨b1.1,Int.lt_trans b1.2 (by decide)⟩ ⟨b2.1,Int.lt_trans b2.2 (by decide)⟩ (by omega)
 injection e with ex ey
 subst ey
 exact (r.unique K r').1
theorem comb_add (x1 x2 y1 y2:Int):comb (x1 + x2,y1 + y2)=comb (x1,y1) + comb (x2,y2):=by unfold comb;simp only;omega
theorem MinW.sub (h:MinW B a b ws) {p m q:List Nat} {u v:Nat} {m1 m2:List Nat} (e:ws=p++m++q) (e1:m=u::m1) (e2:m=m2++[v]):MinW B u v m:=by
 obtain⟨S,x,y,r,l⟩:=h
 obtain⟨S1,S2,x1,x2,y1,y2,r1,r2,ex,ey⟩:=r.split (p:=p) (u:=u) (q:=m1++q) (by rw[e,e1,List.append_assoc];rfl)
 obtain⟨S3,S4,x3,x4,y3,y4,r3,r4,ex2,ey2⟩:=r2.split (p:=m2) (u:=v) (q:=q) (by
  have:u::(m1++q)=m++q:=by rw[e1];rfl
  rw[this,e2,List.append_assoc];rfl)
 rw[← e2] at r3
 refine⟨S3,x3,y3,r3,fun L w=>?_⟩
 have:=l _ ((r1.walkC.trans w).trans r4.walkC)
 subst ex ey ex2 ey2
 rw[comb_add,comb_add] at this
 omega
theorem MinW.back (K:Keys B) (h:MinW B a b ws):MinW B b a ws.reverse:=by
 obtain⟨S,x,y,r,l⟩:=h
 exact⟨S.reverse,x,y,r.back K,fun L w=>l L (w.back (arcsC_sym K))⟩
theorem MinW.nodup (h:MinW B a b ws):ws.Nodup:=by
 obtain⟨S,x,y,r,l⟩:=h
 exact r.unlike
end
end Far
namespace Far
inductive W2 (B:List Arc) (s:Nat):Nat->Int->Int->Prop
 | nil:W2 B s s 0 0
 | snoc {u v:Nat} {x y l:Int} {k:Nat}:W2 B s u x y->(u,v,l,k) ∈ B->W2 B s v (x + l) (y + 2 ^ k)
theorem W2.nonneg {B:List Arc} (K:Keys B) {s v:Nat} {x y:Int} (h:W2 B s v x y):0≤x∧0≤y:=by
 induction h with
 | nil=>exact⟨Int.le_refl _,Int.le_refl _⟩
 | @snoc u v x y l k h m ih =>
  have h1:=K.pos _ _ _ _ m
  have h2:=two_pos k
  omega
end Far
namespace Stb
open PySem
def Asc (xs:Array Nat):Prop:=∀ i j,i < j->j < xs.size->xs.getD i 0 < xs.getD j 0
theorem go_spec (xs:Array Nat) (j:Nat) (asc:Asc xs):∀ (fuel lo hi:Nat),lo≤hi->hi≤xs.size->hi - lo≤fuel->(∀ i,i < lo->xs.getD i 0 < j)->(∀ i,hi≤i->i < xs.size->j≤xs.getD i 0) ->
  (∀ i,i < SetTable.below.go xs j fuel lo hi->xs.getD i 0 < j)∧(∀ i,SetTable.below.go xs j fuel lo hi≤i->i < xs.size->j≤xs.getD i 0)∧SetTable.below.go xs j fuel lo hi≤xs.size
 | 0,lo,hi,h1,h2,h3,a,b=>by
  have e:lo=hi:=by omega
  subst e
  exact⟨a,b,h2⟩
 | fuel + 1,lo,hi,h1,h2,h3,a,b=>by
  unfold SetTable.below.go
  by_cases c:lo < hi
  ·rw[if_pos c]
   have hm:(lo + hi) / 2 < xs.size:=by omega
   have eg:xs.getD ((lo + hi) / 2) j=xs.getD ((lo + hi) / 2) 0:=by rw[Array.getD_eq_getD_getElem?,Array.getD_eq_getD_getElem?,Array.getElem?_eq_getElem hm];rfl
   by_cases d:xs.getD ((lo + hi) / 2) j < j
   ·simp only [if_pos d]
    refine go_spec xs j asc fuel _ hi (by omega) h2 (by omega) (fun i hi'=>?_) b
    rcases Nat.lt_or_eq_of_le (Nat.le_of_lt_succ hi') with z | z
    ·have:=asc i _ z hm;omega
    ·rw[z];omega
   ·simp only [if_neg d]
    refine go_spec xs j asc fuel lo _ (by omega) (by omega) (by omega) a (fun i hi' hs=>?_)
    rcases Nat.lt_or_eq_of_le hi' with z | z
    ·have:=asc _ i z hs;omega
    ·rw[← z];omega
  ·rw[if_neg c]
   have e:lo=hi:=by omega
   subst e
   exact⟨a,b,h2⟩
theorem below_spec (xs:Array Nat) (j:Nat) (asc:Asc xs):(∀ i,i < SetTable.below xs j->xs.getD i 0 < j)∧(∀ i,SetTable.below xs j≤i->i < xs.size->j≤xs.getD i 0)∧SetTable.below xs j≤xs.size:=by
 unfold SetTable.below
 exact go_spec xs j asc _ 0 xs.size (Nat.zero_le _) (Nat.le_refl _) (by omega) (fun i h=>by omega) (fun i h1 h2=>by omega)
theorem Asc.list {xs:Array Nat}:Asc xs↔xs.toList.Pairwise (· < ·):=by
 rw[List.pairwise_iff_getElem]
 have g:∀ i (h:i < xs.toList.length),xs.getD i 0=xs.toList[i]:=fun i h=>by
  have h':i < xs.size:=by simpa using h
  rw[Array.getD_eq_getD_getElem?,Array.getElem?_eq_getElem h'];simp
 constructor
 ·intro a i j hi hj ij
  have:=a i j ij (by simpa using hj)
  rw[g i hi,g j hj] at this
  exact this
 ·intro a i j ij hj
  have hj':j < xs.toList.length:=by simpa using hj
  have:=a i j (by omega) hj' ij
  rw[g i (by omega),g j hj']
  exact this
theorem asc_insert {xs:Array Nat} {j:Nat} (asc:Asc xs) (new:xs[SetTable.below xs j]?≠some j):Asc (SetTable.insertAt xs (SetTable.below xs j) j):=by
 obtain⟨h1,h2,h3⟩:=below_spec xs j asc
 rw[Asc.list,SetTable.toList_insertAt]
 have al:=Asc.list.mp asc
 have g:∀ i (h:i < xs.size),xs.getD i 0=xs[i]:=fun i h=>by rw[Array.getD_eq_getD_getElem?,Array.getElem?_eq_getElem h];rfl
 have lo:∀ x ∈ xs.toList.take (SetTable.below xs j),x < j:=fun x hx=>by
  obtain⟨i,hi,e⟩:=List.getElem_of_mem hx
  rw[List.length_take] at hi
  have hs:i < xs.size:=by simp at hi;omega
  have:=h1 i (by omega)
  rw[g i hs] at this
  rw[List.getElem_take] at e
  have e':xs[i]=x:=by simpa using e
  omega
 have hi:∀ x ∈ xs.toList.drop (SetTable.below xs j),j < x:=fun x hx=>by
  obtain⟨i,hi,e⟩:=List.getElem_of_mem hx
  rw[List.length_drop] at hi
  have hs:SetTable.below xs j + i < xs.size:=by simp at hi;omega
  have:=h2 (SetTable.below xs j + i) (by omega) hs
  rw[g _ hs] at this
  rw[List.getElem_drop] at e
  have e':xs[SetTable.below xs j + i]=x:=by simpa using e
  rcases Nat.lt_or_eq_of_le this with z | z
  ·omega
  ·exfalso
   rcases Nat.eq_zero_or_pos i with i0 | i0
   ·subst i0
    apply new
    rw[Array.getElem?_eq_getElem (by omega)]
    simp at z
    rw[← z]
   ·have b0:SetTable.below xs j < xs.size:=by omega
    have q1:=h2 (SetTable.below xs j) (Nat.le_refl _) b0
    have q2:=asc (SetTable.below xs j) (SetTable.below xs j + i) (by omega) hs
    rw[g _ hs] at q2
    omega
 refine List.pairwise_append.mpr ⟨al.sublist (List.take_sublist _ _),List.pairwise_cons.mpr ⟨fun x hx=>hi x hx,al.sublist (List.drop_sublist _ _)⟩,fun a ha b hb=>?_⟩
 rcases List.mem_cons.mp hb with z | z
 ·rw[z];exact lo a ha
 ·have:=lo a ha;have:=hi b z;omega
theorem asc_range (n:Nat):Asc (Array.range n):=by
 rw[Asc.list]
 simpa using List.pairwise_lt_range
/-- what holds of each table that was made by adding -/
def TI (b:Bool) (t:SetTable):Prop:=Asc t.place∧t.led=b
theorem ti_fresh (b:Bool):TI b (.fresh 0 0 b):=⟨fun i j _ h=>by simp [SetTable.fresh] at h,rfl⟩
theorem ti_standIn {b:Bool} {t:SetTable} (h:TI b t) (n:Nat):TI b (t.standIn n):=⟨asc_range n,h.2⟩
theorem ti_or {b:Bool} {t:SetTable} (h:TI b t) (n:Nat):TI b (t.orStandIn n):=by
 unfold SetTable.orStandIn
 split
 ·exact h
 ·exact ti_standIn h n
theorem ti_plain {b:Bool} {t:SetTable} (h:TI b t):TI b { t with plain:=false }:=h
theorem slot_new {t:SetTable} {j:Nat} (h:t.slot j=.empty∨t.slot j=.dummy):t.place[SetTable.below t.place j]?≠some j:=fun e=>by
 unfold SetTable.slot at h
 have c:(t.place[SetTable.below t.place j]? == some j)=true:=by rw[e];simp
 simp only [c,if_true] at h
 rcases h with h | h <;> cases h
theorem probe_free (t:SetTable) (hashAt:Nat->Int) (h:Int):∀ (f:Nat) (p:SetTable.Probe),(∀ d,p.dummy=some d->t.slot d=.dummy)->∀ j dm,SetTable.probe.go t hashAt h f p=some (.empty j dm)->t.slot j=.empty∧∀ d,dm=some d->t.slot d=.dummy
 | 0,p,_,j,dm,e=>by cases e
 | f + 1,p,hp,j,dm,e=>by
  have adv:∀ q:SetTable.Probe,(t.advance q).dummy=q.dummy:=fun q=>by
   unfold SetTable.advance
   split <;> rfl
  unfold SetTable.probe.go at e
  split at e
  ·rename_i hs
   injection e with e
   injection e with e1 e2
   subst e1;subst e2
   exact⟨hs,hp⟩
  ·rename_i hs
   refine probe_free t hashAt h f _ (fun d hd=>?_) j dm e
   rw[adv] at hd
   have:p.j=d:=by simpa using hd
   rw[← this];exact hs
  ·split at e
   ·cases e
   ·refine probe_free t hashAt h f _ (fun d hd=>?_) j dm e
    rw[adv] at hd
    exact hp d hd
theorem free_new {t:SetTable} {h:Int} {s:Nat} {w:Bool} (e:t.freeSlot h=some (s,w)):t.place[SetTable.below t.place s]?≠some s:=by
 unfold SetTable.freeSlot at e
 split at e
 ·rename_i j dm hm
  unfold SetTable.probe at hm
  obtain⟨h1,h2⟩:=probe_free t _ h _ _ (fun d hd=>by cases hd) j dm hm
  injection e with e
  injection e with e1 _
  cases dm with
  | none=>exact slot_new (.inl (by rw[← e1];exact h1))
  | some d=>exact slot_new (.inr (by rw[← e1];exact h2 d rfl))
 ·cases e
theorem ti_layNew {b:Bool} {t:SetTable} (h:TI b t) (es:Array (Int × Value)) (k:Int) (x:Value):TI b (layNew t es k x).2.1:=by
 unfold layNew
 split
 ·rename_i s w e
  exact ti_or (t:=(t.put s).1) ⟨asc_insert h.1 (free_new e),h.2⟩ _
 ·exact ti_standIn h _
theorem fm_sub {f:Nat->Option Nat} (hf:∀ j y,f j=some y->y=j):∀ l:List Nat,(l.filterMap f).Sublist l
 | []=>.slnil
 | j::l=>by
  rw[List.filterMap_cons]
  cases e:f j with
  | none=>exact (fm_sub hf l).cons j
  | some y=>rw[hf j y e];exact (fm_sub hf l).cons₂ j
theorem ti_relay {b:Bool} {t:SetTable} (h:TI b t) (es:Array (Int × Value)) (wanted:Nat):TI b (relayAll t es wanted).2.1:=by
 unfold relayAll
 split
 ·rename_i t' order e
  dsimp only
  split
  ·unfold SetTable.relaid SetTable.laid at e
   simp only [Option.bind_eq_bind,Option.bind_eq_some_iff] at e
   obtain⟨owner,_,e⟩:=e
   injection e with e
   injection e with e1 _
   rw[← e1]
   refine⟨?_,h.2⟩
   rw[Asc.list]
   simp only [List.map_filterMap]
   refine List.pairwise_lt_range.sublist (fm_sub (fun j y hy=>?_) _)
   cases c:owner.getD j none with
   | none=>rw[c] at hy;cases hy
   | some z=>rw[c] at hy;exact (Option.some.inj hy).symm
  ·exact ti_standIn h _
 ·exact ti_standIn h _
end Stb
namespace Stb
open PySem PyProof.Rows
/-- whether sets of this world are led -/
def ledOf (w:World):Bool:=!w.params.followText "set-order"
/-- the table of the set at a -/
def TIat (w:World) (h:Heap) (a:Addr):Prop:=∃ o es ep t,h.get? a=some o∧o.data=.set es ep t∧TI (ledOf w) t
abbrev SetT (P:Program) (w:World) (h:Heap) (a:Addr) (S:Int->Bool) (n:Nat):Prop:=h.SetOf (intKind P w) a S n∧TIat w h a
section
variable {prog:Program} {w:World} {A:Around} {E:Value->Shared->Prop} {s:Shared}
theorem SetT.keep {h h':Heap} {a:Addr} {S:Int->Bool} {n:Nat} (x:SetT prog w h a S n) (k:∀ o,h.get? a=some o->h'.get? a=some o):SetT prog w h' a S n:=by
 obtain⟨⟨o,es,ep,t,ho,r⟩,o',es',ep',t',ho',r'⟩:=x
 exact⟨⟨o,es,ep,t,k _ ho,r⟩,o',es',ep',t',k _ ho',r'⟩
/-- what is behind the finding of a place -/
theorem lay_tail {g:Bool->Sem Unit} (gp:∀ (b:Bool) (z:Shared) (U:Unit->Shared->Prop),U () z->wpAny (model prog w) A (g b) U E z) {S':Int->Bool}
  {a:Addr} {o:Obj} {es es1:Array (Int × Value)} {ep:Nat} {t t2:SetTable} (ho:s.heap.get? a=some o) (ox:o.ExactSet) (od:o.data=.set es ep t)
  (el:ElemsOf (intKind prog w) es1.toList) (me:∀ k,S' k=true↔∃ e ∈ es1.toList,(intKind prog w).is k e.2=true) (small:es1.size < scanBound) (fit:t2.fits es1.size=true) (ti:TI (ledOf w) t2) {dum:Bool} {R:Option Bool->Shared->Prop}
  (fin:∀ h',Heap.SameBut a s.heap h'->SetT prog w h' a S' es1.size->R (some true) { s with heap:=h' }) :
  wpAny (model prog w) A (do
      storeSet a es1 t2
      if (!dum && t2.tooFull) = true then do
          g (relayAll t2 es1 (SetTable.grown es1.size)).2.2
          storeSet a (relayAll t2 es1 (SetTable.grown es1.size)).1 (relayAll t2 es1 (SetTable.grown es1.size)).2.1
          pure (some true)
        else pure (some true)) R E s:=by
 refine wpAny_bind (wpAny_storeSet_of ho od ?_ (fits_of_scanBound small))
 obtain⟨g1,s1⟩:=SetOf_store (knd:=intKind prog w) ho ox od el me small fit
 have sb:=Heap.SameBut.update s.heap a (Obj.putSet es1 t2)
 split
 ·have pm:=relayAll_perm t2 es1 (SetTable.grown es1.size)
  have fr:=relayAll_fits t2 es1 (SetTable.grown es1.size)
  have tr:=ti_relay ti es1 (SetTable.grown es1.size)
  generalize relayAll t2 es1 (SetTable.grown es1.size)=Rl at pm fr tr ⊢
  obtain⟨es2,t3,gv⟩:=Rl
  dsimp only at pm fr tr ⊢
  have sz:es2.size=es1.size:=by rw[← Array.length_toList,pm.length_eq,Array.length_toList]
  have sm2:es2.size < scanBound:=sz ▸ small
  refine wpAny_bind (gp _ _ _ (wpAny_bind (wpAny_storeSet_of g1 rfl ?_ (fits_of_scanBound sm2))))
  obtain⟨g2,s2⟩:=SetOf_store (knd:=intKind prog w) g1 ox rfl (el.perm pm) (fun k=>(me k).trans ⟨fun ⟨e,he,q⟩=>⟨e,pm.mem_iff.mpr he,q⟩,fun ⟨e,he,q⟩=>⟨e,pm.mem_iff.mp he,q⟩⟩) sm2 fr
  rw[sz] at s2
  exact wpAny_pure (fin _ (sb.trans (Heap.SameBut.update _ a _)) ⟨s2,_,_,_,_,g2,rfl,tr⟩)
 ·exact wpAny_pure (fin _ sb ⟨s1,_,_,_,_,g1,rfl,ti⟩)
/-- one more -/
theorem add_T {a:Addr} {S:Int->Bool} {n:Nat} {k:Int} {x:Value} {Q:Bool->Shared->Prop} (kx:(intKind prog w).is k x=true) (sx:x.scannable=true) (st:SetT prog w s.heap a S n) (room:n + 1 < scanBound)
  (fin:∀ h',Heap.SameBut a s.heap h'->SetT prog w h' a (fun y=>S y || decide (y=k)) (if S k then n else n + 1)->Q (!S k) { s with heap:=h' }) :
  wpAny (model prog w) A (setAddHashed a x ((intKind prog w).hash k)) Q E s:=by
 obtain⟨⟨o,es,ep,t,ho,ox,od,el,me,small,fit,en⟩,o',es',ep',t',ho',od',ti⟩:=st
 rw[ho] at ho';cases ho'
 rw[od] at od';cases od'
 have small1:es.size + 1 < scanBound:=en ▸ room
 unfold setAddHashed setAddHashedIn
 refine wpAny_holding (wpAny_bind (wpAny_setState_of ho od fit ?_))
 dsimp only
 rw[byScan_of sx small el,if_pos rfl]
 unfold setAddByScan
 refine wpAny_bind (wpAny_bind (wpAny_rule (wpAny_bind (wpAny_setScan_of kx ho od fit el ?_))))
 cases fd:List.findIdx? (fun e=>(intKind prog w).is k e.2) es.toList with
 | some j =>
  dsimp only
  obtain⟨jl,jp,_⟩:=List.findIdx?_eq_some_iff_getElem.mp fd
  have sk:S k=true:=(me k).mpr ⟨es.toList[j],List.getElem_mem jl,jp⟩
  refine wpAny_pure (wpAny_pure ?_)
  have es0:s={ s with heap:=s.heap }:=by cases s;rfl
  have q:=fin s.heap (Heap.SameBut.refl a s.heap) ⟨⟨o,es,ep,t,ho,ox,od,el,fun y=>by
   rw[Bool.or_eq_true,decide_eq_true_eq,← me y]
   exact⟨fun z=>z.elim id (fun e=>e ▸ sk),.inl⟩,small,fit,by rw[sk];exact en⟩,o,es,ep,t,ho,od,ti⟩
  rw[sk] at q;rw[es0];exact q
 | none =>
  dsimp only
  have sk:S k=false:=by
   cases c:S k with
   | false=>rfl
   | true=>obtain⟨e,he,hp⟩:=(me k).mp c;have:=List.findIdx?_eq_none_iff.mp fd e he;rw[hp] at this;cases this
  have pm:=layNew_perm t es ((intKind prog w).hash k) x
  have ft:=layNew_fits t es ((intKind prog w).hash k) x
  have tl:=ti_layNew ti es ((intKind prog w).hash k) x
  generalize layNew t es ((intKind prog w).hash k) x=L at pm ft tl ⊢
  obtain⟨es1,t1,dum,gv⟩:=L
  dsimp only at pm ft tl ⊢
  rw[Array.toList_push] at pm
  have el1:ElemsOf (intKind prog w) es1.toList:=(el.push kx sx).perm pm
  have me1:∀ y,(S y || decide (y=k))=true↔∃ e ∈ es1.toList,(intKind prog w).is y e.2=true:=mem_push_iff kx me pm
  have ez:es1.size=es.size + 1:=by rw[← Array.length_toList,pm.length_eq,List.length_append,Array.length_toList];rfl
  have small2:es1.size < scanBound:=ez ▸ small1
  have gw:∀ (b:Bool) (z:Shared) (U:Unit->Shared->Prop),U () z->wpAny (model prog w) A (match b with | true=>rule "set.scan.the-table-gave-way" | false=>pure ()) U E z :=
   fun b z U hq=>by cases b <;> first | exact wpAny_pure hq | exact wpAny_rule hq
  refine wpAny_bind (gw _ _ _ ?_)
  have last:∀ h',Heap.SameBut a s.heap h'->SetT prog w h' a (fun y=>S y || decide (y=k)) es1.size->Q true { s with heap:=h' }:=fun h' sb z=>by
   have q:=fin h' sb;rw[sk] at q;rw[ez,en] at z;exact q z
  split
  ·refine wpAny_bind ?_
   rw[hashByValue_scannable 8 sx]
   refine wpAny_pure (lay_tail (fun b z U hq=>?_) ho ox od el1 me1 small2 ?_ ?_ fun h' sb z=>?_)
   ·cases b <;> first | exact wpAny_pure hq | exact wpAny_rule hq
   ·split
    ·exact ft
    ·exact SetTable.fits_plain_off ft
   ·split
    ·exact tl
    ·exact ti_plain tl
   ·dsimp only;exact wpAny_pure (last h' sb z)
  ·refine wpAny_bind (wpAny_pure ?_)
   simp only [↓reduceIte]
   refine lay_tail (fun b z U hq=>?_) ho ox od el1 me1 small2 ft tl fun h' sb z=>?_
   ·cases b <;> first | exact wpAny_pure hq | exact wpAny_rule hq
   ·dsimp only;exact wpAny_pure (last h' sb z)
/-- all that an iterator gives -/
theorem fill_T {R:Result->Shared->Prop} {I:Addr} {fp wr:List Addr} {G:Array GenState->Array GenState->Prop} {n:Nat} {P:Nat->Value->Prop} {St:Nat->Shared->Prop} (W:WalksS prog w A.in1 I fp wr G n P St) (a:Addr) (af:a ∉ fp)
  (val:Nat->Int) (hv:∀ i v,P i v->∃ t,v=.int (val i) t) (hb:n + 1 < scanBound) :
  ∀ (k i:Nat) (s:Shared),n - i=k->i≤n->St i s->SetT prog w s.heap a (fun y=>(firstMet val i).any (· == y)) (firstMet val i).length ->
   (∀ s',Moved (a::wr) G s s'->SetT prog w s'.heap a (fun y=>(firstMet val n).any (· == y)) (firstMet val n).length->R (.ok (.ret .none)) s') ->
   codeAny (model prog w) A (.builtin "set.update.loop" ⟨[.ref a,.ref I],[]⟩) R s:=by
 have aw:a ∉ wr:=fun h=>af (W.sub _ h)
 have up:∀ b ∈ wr,b ∈ a::wr:=fun b hb=>List.mem_cons_of_mem _ hb
 intro k
 induction k with
 | zero =>
  intro i s hk hi st x fin
  obtain rfl:i=n:=by omega
  refine codeAny_builtin PyProof.Rows.F.entry_set_update_loop ?_
  rw[Around.under_plainId PyProof.Rows.F.plain_set_update_loop _]
  show wpAny _ A.in1 (pyNext (.ref I) >>= _) _ _ s
  refine wpAny_bind (W.done s _ _ st fun s' hm=>?_)
  show wpAny _ A.in1 (ret Value.none) _ _ s'
  exact wpAny_pure (fin s' (hm.mono up) (x.keep fun o e=>hm.heap a o aw e))
 | succ k ih =>
  intro i s hk hi st x fin
  have lt:i < n:=by omega
  refine codeAny_builtin PyProof.Rows.F.entry_set_update_loop ?_
  rw[Around.under_plainId PyProof.Rows.F.plain_set_update_loop _]
  show wpAny _ A.in1 (pyNext (.ref I) >>= _) _ _ s
  refine wpAny_bind (W.item i s _ _ lt st fun v s' hP st' hm=>?_)
  obtain⟨t,rfl⟩:=hv i v hP
  have x':=x.keep (prog:=prog) fun o e=>hm.heap a o aw e
  show wpAny _ A.in1 (holding [Value.int (val i) t] (setAdd a (.int (val i) t)) >>= _) _ _ s'
  refine wpAny_bind (wpAny_holding ?_)
  unfold setAdd
  refine wpAny_holding (wpAny_bind ((intKind prog w).pyHash (k:=val i) (intKind_is _ _ _ _) ?_))
  refine add_T (s:={ s' with toks:=s'.toks + 1 }) (intKind_is _ _ _ _) rfl x' (by have:=firstMet_length_le val i;omega) fun h' sb x2=>?_
  have x3:SetT prog w h' a (fun y=>(firstMet val (i + 1)).any (· == y)) (firstMet val (i + 1)).length :=
   ⟨SetOf_congr x2.1 (fun y=>by rw[firstMet_succ,step_any]) (by rw[firstMet_succ,step_length]),x2.2⟩
  refine wpAny_pure ⟨plainId_quiet PyProof.Rows.F.plain_set_update_loop _,ih (i + 1) _ (by omega) lt (W.frame _ s' _ _ st' (Nat.le_succ _) fun b hb o e=>?_) x3 fun s'' hm2 x4=>?_⟩
  ·rw[sb.2 b (fun h:b=a=>af (by rw[← h];exact hb))];exact e
  ·refine fin s'' (Moved.trans W.gtrans ((hm.mono up).then_heap (Nat.le_succ _) fun b o hb e=>?_) hm2) x4
   rw[sb.2 b (fun h:b=a=>hb (by rw[h];exact List.mem_cons_self))];exact e
end
end Stb
namespace HT
open PySem PyProof.Rows
section
variable {prog:Program} {w:World} {A:Around} {E:Value->Shared->Prop} {s:Shared}
/-- what set(..) of ns holds, how many -/
abbrev setS (ns:List Int) (m:Nat):Int->Bool:=fun x=>(firstMet (fun i=>ns.getD i 0) m).any fun y=>y == x
abbrev setN (ns:List Int) (m:Nat):Nat:=(firstMet (fun i=>ns.getD i 0) m).length
end
end HT
namespace Stb
open PySem PyProof.Rows
section
variable {prog:Program} {w:World} {A:Around} {E:Value->Shared->Prop} {s:Shared}
/-- an empty set -/
abbrev emp (w:World):Obj:={ cls:=.type "set",dict:=none,data:=.set #[] 0 (.fresh 0 0 (ledOf w)) }
theorem new_T (x:Value) {U:Value->Shared->Prop} (fin:U (.ref s.heap.objs.size) { s with heap:=s.heap.push (emp w) }) :
  codeAny (model prog w) A (.call (.builtin "set.__new__") ⟨[.type "set",x],[]⟩) (wants U E) s:=by
 refine codeAny_of_tree ?_
 show wpAny _ A.in1 (checkBuiltinCall "set.__new__" ⟨[.type "set",x],[]⟩ >>= fun _=>again (.builtin "set.__new__" ⟨[.type "set",x],[]⟩)) _ _ s
 refine wpAny_bind (wpAny_of_eq (PySem.F.newCall_set_1 x) (wpAny_pure ⟨plainId_quiet PySem.F.plain_set_new _,codeAny_builtin PySem.F.entry_set_new ?_⟩))
 rw[Around.under_plainId PySem.F.plain_set_new _]
 unfold Builtin.«set.__new__» Builtin.Frozenset.newClass
 have sub1:=PySem.sub_set_self
 obtain⟨hp,g,d,tk,os⟩:=s
 dsimp only
 wp_walk
 refine wpAny_askSetting (wpAny_pure ?_)
 simp only [newObj]
 exact wpAny_bind (wpAny_alloc (wpAny_pure (wpAny_pure fin)))
theorem emp_T (h:Heap):SetT prog w (h.push (emp w)) h.objs.size (fun y=>(firstMet (fun i=>([]:List Int).getD i 0) 0).any (· == y)) 0 :=
 ⟨SetOf_congr ((setObjOf_fresh (knd:=intKind prog w) (ledOf w)).setOf (Heap.get?_push_size _ rfl) (by unfold scanBound;omega)) (fun _=>rfl) rfl,_,_,_,_,Heap.get?_push_size _ rfl,rfl,ti_fresh _⟩
end
end Stb
namespace Stb
open PySem PyProof.Rows
section
variable {prog:Program} {w:World} {A:Around} {E:Value->Shared->Prop} {s:Shared}
end
end Stb
namespace Stb
open PySem PyProof.Rows
section
variable {prog:Program} {w:World} {A:Around} {E:Value->Shared->Prop} {s:Shared} {a I:Addr} {es:Array (Int × Value)} {ep:Nat} {t:SetTable}
section
variable {Q:Option Value->Shared->Prop} {i:Nat}
end
end
end Stb
namespace Stb
open PySem PyProof.Rows
section
variable {prog:Program} {w:World} {A:Around} {E:Value->Shared->Prop} {s:Shared} {a I:Addr} {es:Array (Int × Value)} {ep:Nat} {t:SetTable}
end
end Stb
namespace Stb
open PySem PyProof.Rows
section
variable {prog:Program} {w:World} {A:Around} {E:Value->Shared->Prop} {s:Shared} {a:Addr} {es:Array (Int × Value)} {ep:Nat} {t:SetTable}
end
end Stb
namespace Far
variable {B:List Arc} {A:List (Nat × Nat × Int)} {n s:Nat}
structure Run (B:List Arc) (s:Nat) (cs:List (Option (Int × Int))) (as:List (Option Nat)):Prop where
 len:as.length=cs.length
 start:get cs s=some (0,0)
 root:get as s=none
 has:∀ v c,get cs v=some c->v≠s->get as v≠none
 arc:∀ v u,get as v=some u->∃ l k cu cv,(u,v,l,k) ∈ B∧get cs u=some cu∧get cs v=some cv∧¬ lt2 cv (cu.1 + l,cu.2 + 2 ^ k)
theorem Run.step {u v:Nat} {l:Int} {k:Nat} {cs:List (Option (Int × Int))} {as:List (Option Nat)} {c:Int × Int} (P:Pos A) (g:Good A n s cs) (a:Run B s cs as) (m:(u,v,l) ∈ A) (mB:(u,v,l,k) ∈ B) (hv:v < n) (hu:get cs u=some c)
  (h:get cs v=none∨∃ c',get cs v=some c'∧lt2 (c.1 + l,c.2 + 2 ^ k) c'):Run B s (cs.set v (some (c.1 + l,c.2 + 2 ^ k))) (as.set v (some u)):=by
 have hc:v < cs.length:=by rw[g.len];exact hv
 have ha:v < as.length:=by rw[a.len];exact hc
 have l1:=P _ _ _ m
 have c0:=(g.walk _ _ hu).nonneg P
 have vs:v≠s:=fun z=>by
  rw[z] at h
  rcases h with h | ⟨c',h,hl⟩
  ·rw[a.start] at h;cases h
  ·rw[a.start] at h;cases h
   unfold lt2 at hl;simp only at hl;omega
 have uv:u≠v:=fun z=>by
  rcases h with h | ⟨c',h,hl⟩
  ·rw[← z,hu] at h;cases h
  ·rw[← z,hu] at h;cases h
   unfold lt2 at hl;simp only at hl;omega
 refine⟨by rw[List.length_set,List.length_set];exact a.len,by rw[get_set hc,if_neg (Ne.symm vs)];exact a.start,?_,fun x d e hx=>?_,fun x y e=>?_⟩
 ·rw[get_set ha,if_neg (Ne.symm vs)];exact a.root
 ·rw[get_set ha]
  split
  ·exact fun z=>by cases z
  ·rename_i xv
   rw[get_set hc,if_neg xv] at e
   exact a.has x d e hx
 ·rw[get_set ha] at e
  split at e
  ·rename_i z;subst z;cases e
   refine⟨l,k,c,_,mB,by rw[get_set hc,if_neg uv];exact hu,by rw[get_set hc,if_pos rfl],fun z=>?_⟩
   unfold lt2 at z;omega
  ·rename_i xv
   obtain⟨l',k',cu,cv,m',e1,e2,hle⟩:=a.arc x y e
   by_cases yv:y=v
   ·subst yv
    refine⟨l',k',_,cv,m',by rw[get_set hc,if_pos rfl],by rw[get_set hc,if_neg xv];exact e2,fun z=>?_⟩
    rcases h with h | ⟨c',h,hl⟩
    ·rw[h] at e1;cases e1
    ·rw[h] at e1;cases e1
     unfold lt2 at hl hle z
     simp only at hl hle z
     omega
   ·exact⟨l',k',cu,cv,m',by rw[get_set hc,if_neg yv];exact e1,by rw[get_set hc,if_neg xv];exact e2,hle⟩
theorem Run.first (hs:s < n):Run B s ((List.replicate n none).set s (some (0,0))) (List.replicate n none):=by
 have hl:s < (List.replicate n (none:Option (Int × Int))).length:=by rw[List.length_replicate];exact hs
 refine⟨by rw[List.length_set,List.length_replicate,List.length_replicate],by rw[get_set hl,if_pos rfl],get_rep _ _,fun v c e hv=>?_,fun v u e=>?_⟩
 ·rw[get_set hl,if_neg hv,get_rep] at e;cases e
 ·rw[get_rep] at e;cases e
def PS2 (c0:List (Option (Int × Int))) (R:Arc->Prop) (cs:List (Option (Int × Int))) (ag:Bool):Prop :=
 (ag=false∧cs=c0∧∀ u v l k c,R (u,v,l,k)->get c0 u=some c->∃ c',get c0 v=some c'∧¬ lt2 (c.1 + l,c.2 + 2 ^ k) c')∨(ag=true∧mu cs < mu c0)
def plusA (R:Arc->Prop) (a:Arc):Arc->Prop:=fun b=>R b∨b=a
section
variable {c0 cs:List (Option (Int × Int))} {R R':Arc->Prop} {ag:Bool} {u v k:Nat} {l:Int}
theorem PS2.less (h:PS2 c0 R cs ag) (z:∀ a,R' a->R a):PS2 c0 R' cs ag:=h.elim (fun ⟨a,b,c⟩=>.inl ⟨a,b,fun u v l k c' y=>c u v l k c' (z _ y)⟩) .inr
theorem PS2.no (h:PS2 c0 R cs ag) (hu:get cs u=none):PS2 c0 (plusA R (u,v,l,k)) cs ag:=by
 rcases h with ⟨a,b,c⟩ | h
 ·refine .inl ⟨a,b,fun u' v' l' k' c' z e=>?_⟩
  rcases z with z | z
  ·exact c _ _ _ _ _ z e
  ·cases z;rw[← b,hu] at e;cases e
 ·exact .inr h
theorem PS2.old (h:PS2 c0 R cs ag) {c d:Int × Int} (hu:get cs u=some c) (hv:get cs v=some d) (hn:¬ lt2 (c.1 + l,c.2 + 2 ^ k) d):PS2 c0 (plusA R (u,v,l,k)) cs ag:=by
 rcases h with ⟨a,b,z⟩ | h
 ·refine .inl ⟨a,b,fun u' v' l' k' c' y e=>?_⟩
  rcases y with y | y
  ·exact z _ _ _ _ _ y e
  ·cases y
   subst b
   rw[hu] at e;cases e
   exact⟨d,hv,hn⟩
 ·exact .inr h
theorem PS2.put (h:PS2 c0 R cs ag) {cs':List (Option (Int × Int))} (hm:mu cs' < mu cs):PS2 c0 (plusA R (u,v,l,k)) cs' true:=by
 rcases h with ⟨a,b,c⟩ | h
 ·exact .inr ⟨rfl,by rw[← b];exact hm⟩
 ·exact .inr ⟨rfl,Nat.lt_trans hm h.2⟩
end
end Far
namespace L3
open PySem PySem.Spec PyProof.Rows L2
def arcs2B (t:Tie) (k:Nat):List Far.Arc:=[(t.1.toNat,t.2.1.toNat,t.2.2,k),(t.2.1.toNat,t.1.toNat,t.2.2,k)]
def arcsB (ts:List Tie) (ks:List Nat):List Far.Arc:=ks.flatMap fun k=>arcs2B (tieAt ts k) k
theorem arcsB_mem {ts:List Tie} {ks:List Nat} {a:Far.Arc}:a ∈ arcsB ts ks↔∃ k,k ∈ ks∧a ∈ arcs2B (tieAt ts k) k:=by
 unfold arcsB;rw[List.mem_flatMap]
theorem arcs2B_mem {t:Tie} {k:Nat} {a:Far.Arc}:a ∈ arcs2B t k↔a=(t.1.toNat,t.2.1.toNat,t.2.2,k)∨a=(t.2.1.toNat,t.1.toNat,t.2.2,k):=by
 unfold arcs2B;simp
theorem arcsB_keys {n:Int} {ts:List Tie} {ks:List Nat} (ok:WebOk n ts) (ko:KeepOk ts.length ks):Far.Keys (arcsB ts ks):=by
 have at_:∀ {u v l k},(u,v,l,k) ∈ arcsB ts ks->k < ts.length∧((u=(tieAt ts k).1.toNat∧v=(tieAt ts k).2.1.toNat)∨(u=(tieAt ts k).2.1.toNat∧v=(tieAt ts k).1.toNat))∧l=(tieAt ts k).2.2∧k ∈ ks:=fun {u v l k} h=>by
  obtain⟨j,hj,m⟩:=arcsB_mem.mp h
  rcases arcs2B_mem.mp m with e | e <;> cases e
  ·exact⟨ko.2 _ hj,.inl ⟨rfl,rfl⟩,rfl,hj⟩
  ·exact⟨ko.2 _ hj,.inr ⟨rfl,rfl⟩,rfl,hj⟩
 refine⟨fun u v l k h=>?_,fun u v l u' v' l' k h h'=>?_,fun u v l k h=>?_,fun u v l k h=>?_,fun u v l k h=>?_⟩
 ·obtain⟨_,e,rfl,hk⟩:=at_ h
  refine arcsB_mem.mpr ⟨k,hk,arcs2B_mem.mpr ?_⟩
  rcases e with ⟨rfl,rfl⟩ | ⟨rfl,rfl⟩
  ·exact .inr rfl
  ·exact .inl rfl
 ·obtain⟨_,e,rfl,_⟩:=at_ h
  obtain⟨_,e',rfl,_⟩:=at_ h'
  refine⟨rfl,?_⟩
  rcases e with ⟨rfl,rfl⟩ | ⟨rfl,rfl⟩ <;> rcases e' with ⟨rfl,rfl⟩ | ⟨rfl,rfl⟩
  ·exact .inl ⟨rfl,rfl⟩
  ·exact .inr ⟨rfl,rfl⟩
  ·exact .inr ⟨rfl,rfl⟩
  ·exact .inl ⟨rfl,rfl⟩
 ·obtain⟨hk,e,_,_⟩:=at_ h
  have:=ok.tie _ (tieAt_in hk).2
  rcases e with ⟨rfl,rfl⟩ | ⟨rfl,rfl⟩ <;> omega
 ·obtain⟨hk,_,e,_⟩:=at_ h
  have:=ok.tie _ (tieAt_in hk).2
  omega
 ·obtain⟨hk,_⟩:=at_ h
  have:=ok.few
  omega
end L3
namespace L3
open PySem PySem.Spec PyProof.Rows L2
section
variable {X:Cx}
theorem call_lenS:CallR X (.builtin "len") (fun xs H Q=>∃ (p:Addr) (S:Int->Bool) (n:Nat),xs=[.ref p]∧H p=some (.set S n)∧Q (.int (n:Int)) H):=by
 intro pins s σ H xs us Q I r h
 obtain⟨p,S,n,rfl,hp,q⟩:=h
 obtain⟨u,rfl,rx⟩:=vals1 r
 cases rx
 obtain⟨o,es,ep,t,ho,hex,hd,_,_,hb,hf,hn⟩:=(show ObjOk X.prog X.w H s.heap p (.set S n) from I.hok p _ hp)
 refine call_len_set ho hex hd hf (by unfold scanBound at hb;omega) ⟨.int (n:Int),H,I.tok _,⟨s.toks + 1,by rw[hn]⟩,q⟩
end
end L3
namespace Srt
open PySem PySem.Spec PyProof.Rows PySem.W
section
variable {prog:Program} {w:World} {A:Around} {E:Value->Shared->Prop} {s:Shared}
end
end Srt
namespace L3
open PySem PySem.Spec PyProof.Rows L2
/-- a set that can be walked -/
def SetO (P:Program) (w:World) (a:Addr) (S:Int->Bool) (n:Nat):HO:=.ext fun h=>Stb.SetT P w h a S n
section
variable {X:Cx}
end
end L3
namespace L3
open PySem PySem.Spec PyProof.Rows L2
theorem best_least (val:Nat->Int):∀ k,argBest (fun i j=>decide (val i < val j)) k≤k∧∀ i,i≤k->val (argBest (fun i j=>decide (val i < val j)) k)≤val i
 | 0=>⟨Nat.le_refl _,fun i hi=>by rw[show i=0 by omega];exact Int.le_refl _⟩
 | k + 1=>by
  obtain⟨h1,h2⟩:=best_least val k
  show (if decide (val (k + 1) < val (argBest _ k))=true then k + 1 else argBest _ k)≤k + 1∧∀ i,i≤k + 1->val (if decide (val (k + 1) < val (argBest _ k))=true then k + 1 else argBest _ k)≤val i
  by_cases c:val (k + 1) < val (argBest (fun i j=>decide (val i < val j)) k)
  ·rw[if_pos (decide_eq_true c)]
   refine⟨Nat.le_refl _,fun i hi=>?_⟩
   rcases Nat.lt_or_ge i (k + 1) with z | z
   ·have:=h2 i (by omega);omega
   ·rw[show i=k + 1 by omega];exact Int.le_refl _
  ·rw[if_neg (fun z=>c (of_decide_eq_true z))]
   refine⟨by omega,fun i hi=>?_⟩
   rcases Nat.lt_or_ge i (k + 1) with z | z
   ·exact h2 i (by omega)
   ·rw[show i=k + 1 by omega];omega
end L3
namespace L3
open PySem PySem.Spec PyProof.Rows L2
def iAny (K:PySem.W.Frag) (tl:TE):TI:=fun σ H R=>tl σ H fun x H1=>∃ a,x=.ref a∧∃ t:Bool,(∃ xs,SqX t K H1 a xs)∧R (if t=true then Itt K a else Itl K a) H1
theorem pi_any {X:Cx} {tg l:Expr} {tl:TE} (hl:PE X l tl):PI X tg l (iAny X.K tl):=by
 intro pins s σ H R I h
 refine thn (hl pins s σ H _ I h) fun v s1 ⟨x,H1,I1,r1,q1⟩=>?_
 obtain⟨a,rfl,t,⟨xs,hq⟩,q⟩:=q1
 cases r1
 have fp:∀ b ∈ [s1.heap.objs.size],FpOk X pins H1 b:=fun b hb=>by
  rw[List.mem_singleton.mp hb];exact I1.fpOk (Nat.le_refl _) (I1.hok.fresh (Nat.le_refl _))
 cases t with
 | true =>
  obtain⟨its,_,p,_⟩:=I1.tuple (xs:=xs) hq
  exact wpAny_pyIter_tuple (show s1.heap.IsTuple a its.toArray from p) ⟨_,_,_,_,H1,rfl,I1.kept (t':=s1.toks) fun b o e=>Heap.get?_push_of_some _ e,turn_tuple a _,⟨_,Heap.get?_push_size _ rfl,rfl,rfl⟩,fp,q⟩
 | false =>
  obtain⟨its,_,p,_⟩:=I1.list (xs:=xs) hq
  exact wpAny_pyIter_list p.isList ⟨_,_,_,_,H1,rfl,I1.kept (t':=s1.toks) fun b o e=>Heap.get?_push_of_some _ e,turn_list a _,⟨_,Heap.get?_push_size _ rfl,rfl,rfl⟩,fp,q⟩
theorem for_any {K:PySem.W.Frag} {a:Addr} {xs:List V} {t:Bool} {g:TG} {tb:TS} {D:Ends} {σ:L2.St} {H:Hp} (Pv:Nat->L2.St->Hp->Prop) (h0:Pv 0 σ H) (hl:∀ i σ H,i≤xs.length->Pv i σ H->SqX t K H a xs)
  (hs:∀ i x σ H,xs[i]?=some x->Pv i σ H->g x σ H fun σ2 H2=>tb { D with nx:=Pv (i + 1),ct:=Pv (i + 1),bk:=D.nx } σ2 H2) (hd:∀ σ H,Pv xs.length σ H->D.nx σ H) :
  ∃ W:Nat->Nat->L2.St->Hp->Prop,(∃ m,W 0 m σ H)∧∀ i m σ H,W i m σ H ->
   ((if t=true then Itt K a else Itl K a).stop i H∧D.nx σ H)∨((if t=true then Itt K a else Itl K a).go i H∧∃ N:L2.St->Hp->Prop,(∀ σ' H',N σ' H'->∃ m',m' < m∧W (i + 1) m' σ' H')∧∀ x H',(if t=true then Itt K a else Itl K a).yld i H x H'->g x σ H' fun σ2 H2=>tb { D with nx:=N,ct:=N,bk:=D.nx } σ2 H2):=by
 cases t with
 | true=>exact for_tup Pv h0 hl hs hd
 | false=>exact for_list Pv h0 hl hs hd
end L3
namespace L3
open PySem PySem.Spec PyProof.Rows L2
theorem arcsF_eq (ts:List Tie) (ks:List Nat):Far.arcsF (arcsB ts ks)=arcs ts ks:=by
 unfold arcs Far.arcsF arcsB
 rw[List.map_flatMap]
 rfl
theorem arcs_symm {n:Int} {ts:List Tie} {ks:List Nat} (ok:WebOk n ts) (ko:KeepOk ts.length ks):Far.Sym (arcs ts ks):=fun u v l h=>by
 rw[← arcsF_eq] at h ⊢
 obtain⟨k,m⟩:=Far.arcsF_mem.mp h
 exact Far.arcsF_mem.mpr ⟨k,(arcsB_keys ok ko).sym _ _ _ _ m⟩
section
variable {own:List Str} {js:List Nat} {g:TG} {te:TE} {σ:L2.St} {Q:VK} {H1:Hp}
end
end L3
namespace L3
open PySem PySem.Spec PyProof.Rows L2
end L3
namespace L3
open PySem PySem.Spec PyProof.Rows L2
end L3
namespace HT
open PySem PyProof.Rows
section
variable {prog:Program} {w:World} {A:Around} {R:Result->Shared->Prop} {I:Addr} {fp wr:List Addr} {G:Array GenState->Array GenState->Prop} {St:Nat->Shared->Prop} {its:List Value} {ns:List Int}
end
section
variable {prog:Program} {w:World} {A:Around} {E:Value->Shared->Prop} {s:Shared}
end
end HT
namespace L3
open PySem PySem.Spec PyProof.Rows L2
end L3
namespace L3
open PySem PySem.Spec PyProof.Rows L2
theorem IsAll.at_ {K:PySem.W.Frag} {H:Hp}:∀ {ds:List PyData} {vs:List V} {i:Nat} {d:PyData},IsAll K H ds vs->ds[i]?=some d->∃ v,vs[i]?=some v∧Is K H d v
 | [],vs,i,d,_,h=>by cases h
 | d0::ds,vs,0,d,⟨v,r,e,h1,_⟩,h=>by
  cases h
  exact⟨v,by rw[e];rfl,h1⟩
 | d0::ds,vs,i + 1,d,⟨v,r,e,_,h2⟩,h=>by
  obtain⟨u,e1,e2⟩:=IsAll.at_ (i:=i) h2 h
  exact⟨u,by rw[e];exact e1,e2⟩
section
variable {own:List Str} {js:List Nat} {g:TG} {tt:TT} {te:TE} {σ:L2.St} {Q:VK} {H1:Hp}
end
end L3
namespace L3
open PySem PySem.Spec PyProof.Rows L2
def lvl (ls:List (List Nat)) (i:Nat):List Nat:=ls.getD i []
structure LevOk (n:Nat) (ls:List (List Nat)):Prop where
 one:1≤ls.length
 six:ls.length≤6
 first:lvl ls 0=List.range n
 rise:∀ i,(lvl ls i).Pairwise (· < ·)
 inn:∀ i,∀ p ∈ lvl ls i,p < n
 down:∀ i,∀ p ∈ lvl ls (i + 1),p ∈ lvl ls i
theorem lvl_out {ls:List (List Nat)} {i:Nat} (h:ls.length≤i):lvl ls i=[]:=by unfold lvl;rw[List.getD_eq_getElem?_getD,List.getElem?_eq_none h];rfl
theorem LevOk.len {n:Nat} {ls:List (List Nat)} (h:LevOk n ls) (i:Nat):(lvl ls i).length≤n:=KeepOk.len (m:=n) (ks:=lvl ls i) ⟨h.rise i,h.inn i⟩
def IsTop (ls:List (List Nat)) (w b:Nat):Prop:=b < ls.length∧w ∈ lvl ls b∧∀ i,i < ls.length->w ∈ lvl ls i->i≤b
theorem IsTop.unique {ls:List (List Nat)} {w b b':Nat} (h:IsTop ls w b) (h':IsTop ls w b'):b'=b:=by
 have:=h.2.2 b' h'.1 h'.2.1
 have:=h'.2.2 b h.1 h.2.1
 omega
def Bun (ls:List (List Nat)) (D:List (Option Int)) (w:Nat):Prop:=∃ x,Far.get D w=some x∧∀ b p y,IsTop ls w b->p ∈ lvl ls (b + 1)->Far.get D p=some y->x < y
noncomputable def bunB (ls:List (List Nat)) (D:List (Option Int)) (w:Nat):Bool:=@decide (Bun ls D w) (Classical.propDecidable _)
theorem bunB_iff {ls:List (List Nat)} {D:List (Option Int)} {w:Nat}:bunB ls D w=true↔Bun ls D w:=by unfold bunB;exact @decide_eq_true_iff _ (Classical.propDecidable _)
/-- how far all places are, in the web -/
def FarsOf (ts:List Tie) (n s:Nat) (D:List (Option Int)):Prop:=D.length=n∧∀ u,u < n->Far.Dst (arcs ts (List.range ts.length)) s u (Far.get D u)
theorem FarsOf.unique {ts:List Tie} {n s:Nat} {D D':List (Option Int)} (h:FarsOf ts n s D) (h':FarsOf ts n s D'):D'=D:=List.ext_getElem? fun i=>by
 by_cases hi:i < n
 ·have z:=(h'.2 i hi).unique (h.2 i hi)
  have l1:=h.1
  have l2:=h'.1
  unfold Far.get at z
  rw[List.getD_eq_getElem?_getD,List.getElem?_eq_getElem (by omega),List.getD_eq_getElem?_getD,List.getElem?_eq_getElem (by omega)] at z
  rw[List.getElem?_eq_getElem (by omega),List.getElem?_eq_getElem (by omega)]
  exact congrArg some z
 ·have l1:=h.1
  have l2:=h'.1
  rw[List.getElem?_eq_none (by omega),List.getElem?_eq_none (by omega)]
def FarsT (H:Hp) (p lf:Addr) (n:Nat) (ts:List Tie):Prop:=∃ ys,H lf=some (.lst ys)∧lf≠p∧ys.length=n∧∀ i v,ys[i]?=some v->∃ l D,v=.ref l∧l≠p∧H l=some (.lst (D.map ov))∧FarsOf ts n i D
theorem FarsT.same {H H':Hp} {p lf:Addr} {n:Nat} {ts:List Tie} (S:Same H H') (h:FarsT H p lf n ts):FarsT H' p lf n ts:=by
 obtain⟨ys,e,ne,ly,hy⟩:=h
 exact⟨ys,S _ _ e,ne,ly,fun i v ev=>let ⟨l,D,e1,e2,e3,e4⟩:=hy i v ev;⟨l,D,e1,e2,S _ _ e3,e4⟩⟩
theorem FarsT.but {H H':Hp} {p lf:Addr} {n:Nat} {ts:List Tie} (S:But p H H') (h:FarsT H p lf n ts):FarsT H' p lf n ts:=by
 obtain⟨ys,e,ne,ly,hy⟩:=h
 exact⟨ys,S _ _ ne e,ne,ly,fun i v ev=>let ⟨l,D,e1,e2,e3,e4⟩:=hy i v ev;⟨l,D,e1,e2,S _ _ e2 e3,e4⟩⟩
/-- a place is in its own bunch -/
theorem bun_self {n:Int} {ts:List Tie} {ls:List (List Nat)} {D:List (Option Int)} {s:Nat} (ok:WebOk n ts) (hs:s < n.toNat) (F:FarsOf ts n.toNat s D) (lo:LevOk n.toNat ls):bunB ls D s=true∧Far.get D s=some 0:=by
 have P:=arcs_pos ok (⟨List.pairwise_lt_range,fun k hk=>List.mem_range.mp hk⟩:KeepOk ts.length (List.range ts.length))
 have e0:Far.get D s=some 0:=by
  obtain⟨y,e,le⟩:=(F.2 s hs).2 0 .nil
  have:=((F.2 s hs).1 y e).nonneg P
  rw[e,show y=0 by omega]
 refine⟨bunB_iff.mpr ⟨0,e0,fun b p y t hp ep=>?_⟩,e0⟩
 have hpn:=lo.inn _ p hp
 have w:=(F.2 p hpn).1 y ep
 cases hw:w with
 | nil =>
  have bl:b + 1 < ls.length:=by
   rcases Nat.lt_or_ge (b + 1) ls.length with z | z
   ·exact z
   ·rw[lvl_out z] at hp;cases hp
  have:=t.2.2 (b + 1) bl hp
  omega
 | @snoc u _ l x w' m =>
  have:=P _ _ _ m
  have:=w'.nonneg P
  omega
end L3
namespace HT
open PySem PyProof.Rows
section
variable {prog:Program} {w:World} {A:Around} {R:Result->Shared->Prop} {I:Addr} {fp wr:List Addr} {G:Array GenState->Array GenState->Prop} {St:Nat->Shared->Prop} {its:List Value} {ks:List (List Int)}
end
section
variable {prog:Program} {w:World} {A:Around} {E:Value->Shared->Prop} {s:Shared}
end
end HT
namespace L3
open PySem PySem.Spec PyProof.Rows L2
end L3
namespace L3
open PySem PySem.Spec PyProof.Rows L2
noncomputable def topN (ls:List (List Nat)) (w:Nat):Nat:=@dite _ (∃ b,IsTop ls w b) (Classical.propDecidable _) (fun h=>Classical.choose h) (fun _=>0)
theorem topN_eq {ls:List (List Nat)} {w b:Nat} (h:IsTop ls w b):topN ls w=b:=by
 unfold topN
 rw[dif_pos ⟨b,h⟩]
 exact h.unique (Classical.choose_spec (⟨b,h⟩:∃ b,IsTop ls w b))
theorem top_exists {n:Nat} {ls:List (List Nat)} (lo:LevOk n ls) {w:Nat} (hw:w < n):IsTop ls w (topN ls w):=by
 have ex:∃ b,IsTop ls w b:=by
  have go:∀ m,m < ls.length->∃ b,b≤m∧w ∈ lvl ls b∧∀ i,i≤m->w ∈ lvl ls i->i≤b:=fun m=>by
   induction m with
   | zero=>intro _;exact⟨0,Nat.le_refl _,by rw[lo.first];exact List.mem_range.mpr hw,fun i hi _=>hi⟩
   | succ m ih =>
    intro hm
    obtain⟨b,h1,h2,h3⟩:=ih (by omega)
    by_cases c:w ∈ lvl ls (m + 1)
    ·exact⟨m + 1,Nat.le_refl _,c,fun i hi _=>hi⟩
    ·refine⟨b,by omega,h2,fun i hi hm=>?_⟩
     rcases Nat.lt_or_ge i (m + 1) with z | z
     ·exact h3 i (by omega) hm
     ·rw[show i=m + 1 by omega] at hm;exact absurd hm c
  have one:=lo.one
  obtain⟨b,h1,h2,h3⟩:=go (ls.length - 1) (by omega)
  exact⟨b,by omega,h2,fun i hi hm=>h3 i (by omega) hm⟩
 obtain⟨b,hb⟩:=ex
 rw[topN_eq hb];exact hb
/-- the nearest place of a level, of several one of the greatest top, of these the least -/
structure IsPiv (ls:List (List Nat)) (m:Nat) (D:List (Option Int)) (o:Option Nat):Prop where
 no:o=none->∀ q ∈ lvl ls m,Far.get D q=none
 yes:∀ p,o=some p->p ∈ lvl ls m∧∃ x,Far.get D p=some x∧∀ q ∈ lvl ls m,∀ y,Far.get D q=some y->x≤y∧(y=x->topN ls q≤topN ls p∧(topN ls q=topN ls p->p≤q))
theorem IsPiv.unique {ls:List (List Nat)} {m:Nat} {D:List (Option Int)} {o o':Option Nat} (h:IsPiv ls m D o) (h':IsPiv ls m D o'):o'=o:=by
 cases o with
 | none =>
  cases o' with
  | none=>rfl
  | some p =>
   obtain⟨hp,x,ex,_⟩:=h'.yes p rfl
   rw[h.no rfl p hp] at ex;cases ex
 | some p =>
  obtain⟨hp,x,ex,a⟩:=h.yes p rfl
  cases o' with
  | none=>rw[h'.no rfl p hp] at ex;cases ex
  | some p' =>
   obtain⟨hp',x',ex',a'⟩:=h'.yes p' rfl
   have h1:=a p' hp' x' ex'
   have h2:=a' p hp x ex
   have e:x'=x:=by omega
   obtain⟨t1,l1⟩:=h1.2 e
   obtain⟨t2,l2⟩:=h2.2 e.symm
   have e2:topN ls p'=topN ls p:=by omega
   have:=l1 e2
   have:=l2 e2.symm
   rw[show p'=p by omega]
theorem lev_down {n:Nat} {ls:List (List Nat)} (lo:LevOk n ls):∀ {j m:Nat},m≤j->∀ p ∈ lvl ls j,p ∈ lvl ls m
 | 0,m,h,p,hp=>by rw[show m=0 by omega];exact hp
 | j + 1,m,h,p,hp=>by
  rcases Nat.lt_or_ge m (j + 1) with z | z
  ·exact lev_down lo (j:=j) (by omega) p (lo.down j p hp)
  ·rw[show m=j + 1 by omega];exact hp
/-- a pivot is in the bunch -/
theorem piv_bun {n:Nat} {ls:List (List Nat)} {m p:Nat} {D:List (Option Int)} (lo:LevOk n ls) (hm:m < ls.length) (h:IsPiv ls m D (some p)):bunB ls D p=true:=by
 obtain⟨hp,x,ex,a⟩:=h.yes p rfl
 have tp:=top_exists lo (lo.inn m p hp)
 refine bunB_iff.mpr ⟨x,ex,fun b q y t hq ey=>?_⟩
 have eb:=topN_eq t
 have mb:m≤b:=t.2.2 m hm hp
 have hqm:=lev_down lo (show m≤b + 1 by omega) q hq
 obtain⟨h1,h2⟩:=a q hqm y ey
 have tq:=top_exists lo (lo.inn _ q hq)
 have bl:b + 1 < ls.length:=by
  rcases Nat.lt_or_ge (b + 1) ls.length with z | z
  ·exact z
  ·rw[lvl_out z] at hq;cases hq
 have:=tq.2.2 (b + 1) bl hq
 by_cases c:y=x
 ·have:=(h2 c).1;omega
 ·omega
def tupI (k:List Int):PyData:=.tuple (k.map .int)
section
variable {own:List Str} {js:List Nat} {g:TG} {tt:TT} {te:TE} {σ:L2.St} {Q:VK} {H1:Hp}
end
end L3
namespace L3
open PySem PySem.Spec PyProof.Rows L2
noncomputable def pivN (ls:List (List Nat)) (m:Nat) (D:List (Option Int)):Nat:=@dite _ (∃ p,IsPiv ls m D (some p)) (Classical.propDecidable _) (fun h=>Classical.choose h) (fun _=>0)
theorem pivN_eq {ls:List (List Nat)} {m p:Nat} {D:List (Option Int)} (h:IsPiv ls m D (some p)):pivN ls m D=p:=by
 unfold pivN
 rw[dif_pos ⟨p,h⟩]
 exact Option.some.inj (h.unique (Classical.choose_spec (⟨p,h⟩:∃ p,IsPiv ls m D (some p))))
noncomputable def clN (ls:List (List Nat)):Nat->Nat->Nat->Nat->List (Option Int)->List (Option Int)->Int->List (List Int)
 | 0,w,a,b,_,_,x=>[[(w:Int),(a:Int),(b:Int),x]]
 | f + 1,w,a,b,Da,Db,x=>[(w:Int),(a:Int),(b:Int),x]::(if bunB ls Db w=true then [] else clN ls f (pivN ls (topN ls w + 1) Db) b a Db Da ((Far.get Db (pivN ls (topN ls w + 1) Db)).getD 0))
theorem clN_done {ls:List (List Nat)} {f w a b:Nat} {Da Db:List (Option Int)} {x:Int} (h:bunB ls Db w=true):clN ls (f + 1) w a b Da Db x=[[(w:Int),(a:Int),(b:Int),x]]:=by
 rw[clN,if_pos h]
theorem clN_more {ls:List (List Nat)} {f w a b p:Nat} {Da Db:List (Option Int)} {x x':Int} (h:bunB ls Db w=false) (pv:IsPiv ls (topN ls w + 1) Db (some p)) (e:Far.get Db p=some x'):clN ls (f + 1) w a b Da Db x=[(w:Int),(a:Int),(b:Int),x]::clN ls f p b a Db Da x':=by
 rw[clN,if_neg (by rw[h];decide),pivN_eq pv,e];rfl
structure Cs (ts:List Tie) (n:Nat) (ls:List (List Nat)) (d:Int) (j w a b:Nat) (Da Db:List (Option Int)) (x:Int):Prop where
 fa:FarsOf ts n a Da
 fb:FarsOf ts n b Db
 wn:w < n
 an:a < n
 bn:b < n
 xa:Far.get Da w=some x
 lim:x≤j * d
 ab:Far.get Da b=some d
 ba:Far.get Db a=some d
 yb:∃ y,Far.get Db w=some y
 tp:j≤topN ls w
 bu:bunB ls Da w=true
section
variable {n:Int} {ts:List Tie} {ls:List (List Nat)} {d x:Int} {j w a b:Nat} {Da Db:List (Option Int)}
theorem allOk (ts:List Tie):KeepOk ts.length (List.range ts.length):=⟨List.pairwise_lt_range,fun k hk=>List.mem_range.mp hk⟩
theorem Cs.start (ok:WebOk n ts) (lo:LevOk n.toNat ls) (fa:FarsOf ts n.toNat a Da) (fb:FarsOf ts n.toNat b Db) (an:a < n.toNat) (bn:b < n.toNat) (ab:Far.get Da b=some d):Cs ts n.toNat ls d 0 a a b Da Db 0:=by
 obtain⟨bs,e0⟩:=bun_self ok an fa lo
 have ba:Far.get Db a=some d:=by
  have h1:=(fa.2 b bn).back (arcs_symm ok (allOk ts))
  rw[ab] at h1
  exact (fb.2 a an).unique h1
 exact⟨fa,fb,an,an,bn,e0,by simp,ab,ba,⟨d,ba⟩,Nat.zero_le _,bs⟩
theorem Cs.more (lo:LevOk n.toNat ls) (h:Cs ts n.toNat ls d j w a b Da Db x) (nb:bunB ls Db w=false):topN ls w + 1 < ls.length∧∃ q y y',q ∈ lvl ls (topN ls w + 1)∧Far.get Db w=some y∧Far.get Db q=some y'∧y'≤y:=by
 obtain⟨y,ey⟩:=h.yb
 have ex:∃ b' p z,IsTop ls w b'∧p ∈ lvl ls (b' + 1)∧Far.get Db p=some z∧z≤y:=by
  apply Classical.byContradiction
  intro c
  have:bunB ls Db w=true:=bunB_iff.mpr ⟨y,ey,fun b' p z t hp ez=>by
   rcases Int.lt_or_le y z with l | l
   ·exact l
   ·exact absurd ⟨b',p,z,t,hp,ez,l⟩ c⟩
  rw[nb] at this;cases this
 obtain⟨b',p,z,t,hp,ez,le⟩:=ex
 rw[← topN_eq t] at hp
 refine⟨?_,p,y,z,hp,ey,ez,le⟩
 rcases Nat.lt_or_ge (topN ls w + 1) ls.length with z | z
 ·exact z
 ·rw[lvl_out z] at hp;cases hp
theorem Cs.step (ok:WebOk n ts) (lo:LevOk n.toNat ls) (h:Cs ts n.toNat ls d j w a b Da Db x) (nb:bunB ls Db w=false) {o:Option Nat} (pv:IsPiv ls (topN ls w + 1) Db o):∃ p x',o=some p∧Far.get Db p=some x'∧Cs ts n.toNat ls d (j + 1) p b a Db Da x':=by
 obtain⟨ml,q,y,y',hq,ey,ez,le⟩:=h.more lo nb
 cases o with
 | none=>rw[pv.no rfl q hq] at ez;cases ez
 | some p =>
  obtain⟨hp,x',ex',al⟩:=pv.yes p rfl
  have pn:=lo.inn _ p hp
  have sy:=arcs_symm ok (allOk ts)
  have P:=arcs_pos ok (allOk ts)
  have w1:=(h.fa.2 w h.wn).1 x h.xa
  have w2:=(h.fb.2 a h.an).1 d h.ba
  obtain⟨y2,e2,l2⟩:=(h.fb.2 w h.wn).2 _ (w2.trans w1)
  rw[ey] at e2;cases e2
  have l1:=(al q hq y' ez).1
  have w3:=(h.fb.2 p pn).1 x' ex'
  have w4:=(h.fa.2 b h.bn).1 d h.ab
  obtain⟨z,ez',_⟩:=(h.fa.2 p pn).2 _ (w4.trans w3)
  have tp:=top_exists lo pn
  have t1:=tp.2.2 _ ml hp
  have:=h.tp
  have lim:=h.lim
  refine⟨p,x',rfl,ex',h.fb,h.fa,pn,h.bn,h.an,ex',?_,h.ba,h.ab,⟨z,ez'⟩,by omega,piv_bun lo ml pv⟩
  have e:((j + 1:Nat):Int) * d=j * d + d:=by rw[Int.natCast_add,Int.add_mul];simp
  omega
end
/-- the rows of a climb -/
structure RowsOk (ls:List (List Nat)) (n:Nat) (d:Int) (Du Dv:List (Option Int)) (rows:List (List Int)):Prop where
 few:rows.length≤ls.length
 lim:∀ (i:Nat) (r:List Int),rows[i]?=some r->∃ p a b x:Int,r=[p,a,b,x]∧x≤i * d
 last:∃ (pre:List (List Int)) (w:Nat) (a b x:Int),rows=pre++[[(w:Int),a,b,x]]∧w < n∧bunB ls Du w=true∧bunB ls Dv w=true
def ClimbV (K:PySem.W.Frag) (H:Hp) (ls:List (List Nat)) (n u v:Nat) (Du Dv:List (Option Int)) (r:V):Prop:=(r=.non∧Far.get Du v=none)∨∃ t ys d,r=.ref t∧Far.get Du v=some d∧H t=some (.tup ys)∧IsAll K H ((clN ls ls.length u u v Du Dv 0).map tupI) ys∧RowsOk ls n d Du Dv (clN ls ls.length u u v Du Dv 0)
/-- how far all places are from all, as a list of lists -/
def FarsM (H:Hp) (lf:Addr) (n:Nat) (ts:List Tie):Prop:=∃ ys,H lf=some (.lst ys)∧ys.length=n∧∀ i v,ys[i]?=some v->∃ l D,v=.ref l∧H l=some (.lst (D.map ov))∧FarsOf ts n i D
theorem FarsM.same {H H':Hp} {lf:Addr} {n:Nat} {ts:List Tie} (S:Same H H') (h:FarsM H lf n ts):FarsM H' lf n ts:=by
 obtain⟨ys,e,ly,hy⟩:=h
 exact⟨ys,S _ _ e,ly,fun i v ev=>let ⟨l,D,e1,e3,e4⟩:=hy i v ev;⟨l,D,e1,S _ _ e3,e4⟩⟩
theorem FarsT.m {H:Hp} {p lf:Addr} {n:Nat} {ts:List Tie} (h:FarsT H p lf n ts):FarsM H lf n ts:=by
 obtain⟨ys,e,ne,ly,hy⟩:=h
 exact⟨ys,e,ly,fun i v ev=>let ⟨l,D,e1,e2,e3,e4⟩:=hy i v ev;⟨l,D,e1,e3,e4⟩⟩
theorem FarsM.at {H:Hp} {lf:Addr} {n:Nat} {ts:List Tie} (h:FarsM H lf n ts):∃ ys,H lf=some (.lst ys)∧∀ i,i < n->∃ l D,atI ys (i:Int)=some (.ref l)∧H l=some (.lst (D.map ov))∧FarsOf ts n i D∧∀ k,k < n->atI (D.map ov) (k:Int)=some (ov (Far.get D k)):=by
 obtain⟨ys,e,ly,hy⟩:=h
 refine⟨ys,e,fun i hi=>?_⟩
 obtain⟨l,D,e1,e2,F⟩:=hy i ys[i] (List.getElem?_eq_getElem (by omega))
 refine⟨l,D,atI_toNat (Int.natCast_nonneg _) (by rw[Int.toNat_natCast,List.getElem?_eq_getElem (by omega),e1]),e2,F,fun k hk=>atI_toNat (Int.natCast_nonneg _) (by rw[Int.toNat_natCast];exact ov_at (by have:=F.1;omega))⟩
/-- where a climb stands: the rows so far, and what is still to come -/
structure Clb (ts:List Tie) (n:Int) (ls:List (List Nat)) (d:Int) (u v:Nat) (Du Dv:List (Option Int)) (pre:List (List Int)) (w a b:Nat) (Da Db:List (Option Int)) (x:Int):Prop where
 cs:Cs ts n.toNat ls d pre.length w a b Da Db x
 sides:(Da=Du∧Db=Dv)∨(Da=Dv∧Db=Du)
 lim:∀ (i:Nat) (r:List Int),(pre++[[(w:Int),(a:Int),(b:Int),x]])[i]?=some r->∃ p a b x:Int,r=[p,a,b,x]∧x≤i * d
 rest:pre++clN ls (ls.length - pre.length) w a b Da Db x=clN ls ls.length u u v Du Dv 0
section
variable {n:Int} {ts:List Tie} {ls:List (List Nat)} {d x:Int} {u v w a b:Nat} {Du Dv Da Db:List (Option Int)} {pre:List (List Int)}
theorem Clb.first (ok:WebOk n ts) (lo:LevOk n.toNat ls) (fa:FarsOf ts n.toNat u Du) (fb:FarsOf ts n.toNat v Dv) (an:u < n.toNat) (bn:v < n.toNat) (ab:Far.get Du v=some d):Clb ts n ls d u v Du Dv [] u u v Du Dv 0:=by
 refine⟨Cs.start ok lo fa fb an bn ab,.inl ⟨rfl,rfl⟩,fun i r e=>?_,rfl⟩
 cases i with
 | zero=>cases e;exact⟨_,_,_,_,rfl,by simp⟩
 | succ i=>cases e
theorem Clb.lt (lo:LevOk n.toNat ls) (h:Clb ts n ls d u v Du Dv pre w a b Da Db x):pre.length < ls.length:=by
 have t:=(top_exists lo h.cs.wn).1
 have:=h.cs.tp
 omega
theorem Clb.next (ok:WebOk n ts) (lo:LevOk n.toNat ls) (h:Clb ts n ls d u v Du Dv pre w a b Da Db x) (nb:bunB ls Db w=false) {o:Option Nat} (pv:IsPiv ls (topN ls w + 1) Db o):∃ p x',o=some p∧p < n.toNat∧Far.get Db p=some x'∧Clb ts n ls d u v Du Dv (pre++[[(w:Int),(a:Int),(b:Int),x]]) p b a Db Da x':=by
 obtain⟨p,x',rfl,ex,c'⟩:=h.cs.step ok lo nb pv
 have lt:=h.lt lo
 have le:(pre++[[(w:Int),(a:Int),(b:Int),x]]).length=pre.length + 1:=by rw[List.length_append,List.length_singleton]
 refine⟨p,x',rfl,c'.wn,ex,by rw[le];exact c',h.sides.elim (fun ⟨e1,e2⟩=>.inr ⟨e2,e1⟩) (fun ⟨e1,e2⟩=>.inl ⟨e2,e1⟩),fun i r e=>?_,?_⟩
 ·by_cases hi:i < pre.length + 1
  ·rw[List.getElem?_append_left (by omega)] at e
   exact h.lim i r e
  ·rw[List.getElem?_append_right (by omega)] at e
   have hi2:=(List.getElem?_eq_some_iff.mp e).1
   rw[List.length_singleton] at hi2
   have ei:i=pre.length + 1:=by omega
   subst ei
   rw[le,Nat.sub_self] at e
   cases e
   exact⟨_,_,_,_,rfl,c'.lim⟩
 ·rw[le,← h.rest]
  rw[show ls.length - pre.length=(ls.length - (pre.length + 1)) + 1 by omega,clN_more nb pv ex,List.append_assoc]
  rfl
theorem Clb.done (lo:LevOk n.toNat ls) (h:Clb ts n ls d u v Du Dv pre w a b Da Db x) (bd:bunB ls Db w=true):pre++[[(w:Int),(a:Int),(b:Int),x]]=clN ls ls.length u u v Du Dv 0∧RowsOk ls n.toNat d Du Dv (clN ls ls.length u u v Du Dv 0):=by
 have lt:=h.lt lo
 have e:pre++[[(w:Int),(a:Int),(b:Int),x]]=clN ls ls.length u u v Du Dv 0:=by
  rw[← h.rest,show ls.length - pre.length=(ls.length - (pre.length + 1)) + 1 by omega,clN_done bd]
 refine⟨e,?_⟩
 rw[← e]
 refine⟨by rw[List.length_append,List.length_singleton];omega,h.lim,pre,w,_,_,_,rfl,h.cs.wn,?_⟩
 rcases h.sides with ⟨e1,e2⟩ | ⟨e1,e2⟩
 ·rw[← e1,← e2];exact⟨h.cs.bu,bd⟩
 ·rw[← e1,← e2];exact⟨bd,h.cs.bu⟩
end
end L3
namespace L3
open PySem PySem.Spec PyProof.Rows L2
section
variable {K:PySem.W.Frag} {J J':Hp} {ls:List (List Nat)} {n u v:Nat} {Du Dv:List (Option Int)} {r r1 r2:V}
theorem ClimbV.same (S:Same J J') (h:ClimbV K J ls n u v Du Dv r):ClimbV K J' ls n u v Du Dv r:=by
 rcases h with h | ⟨t,ys,d,e,ed,ht,ia,ro⟩
 ·exact .inl h
 ·exact .inr ⟨t,ys,d,e,ed,S _ _ ht,IsAll.same S _ ia,ro⟩
end
end L3
namespace PySem.SeqAt
open PySem.Spec PySem.MeetsSeq PySem.MeetsSeq2 PySem.MeetsSeq3 PySem.SeqRoads2
open AutoSeq1 (wpAny_loadPart')
end PySem.SeqAt
namespace L3
open PySem PySem.Spec PyProof.Rows L2
section
variable {X:Cx} {o e:Expr} {es:List Expr} {to:TE} {t:TA} {name:Str} {apos cpos:Pos} {id:String} {r:V->List V->Hp->VK->Prop}
end
/-- which parts of a slice that goes back are meant: t[::-1] leaves none out, t[:0:-1] the first -/
def bk (hi:Option Int) (n j:Nat):Prop:=(hi=none∧j=0)∨(hi=some 0∧j=1∧1≤n)
section
variable {prog:Program} {w:World} {A:Around} {E:Value->Shared->Prop} {s:Shared}
end
section
variable {X:Cx} {e st:Expr} {te ts:TE} {lo hi:Option Expr} {th:TO} {pos p2:Pos}
end
end L3
namespace L3
open PySem PySem.Spec PyProof.Rows L2
/-- the way from a to b, the least of all walks -/
def WayM (H:Hp) (ts:List Tie) (ks:List Nat) (a b:Nat) (v:V):Prop:=(v=.non∧Far.Dst (arcs ts ks) a b none)∨∃ t ws x,v=.ref t∧H t=some (.tup (natV ws))∧ws.length≤24∧Far.MinW (arcsB ts ks) a b ws∧Far.Tr (arcs ts ks) a ws b x∧Far.Dst (arcs ts ks) a b (some x)
end L3
namespace L3
open PySem PySem.Spec PyProof.Rows L2
theorem WK.but {K:PySem.W.Frag} {J J':Hp} {l:Addr} {n:Int} {ts:List Tie} {ks:List Nat} {wv kv:V} {xs:List V} (wk:WK K J n ts ks wv kv) (b:But l J J') (e:J l=some (.lst xs)):WK K J' n ts ks wv kv :=
 ⟨Is.but b e _ (tup_web n ts) wk.1,wk.2.1,Is.but b e _ (tup_keep ks) wk.2.2.1,wk.2.2.2⟩
/-- the ways that were told so far -/
def WaysL (J:Hp) (ts:List Tie) (ks:List Nat) (ys:List V):Prop:=∀ v ∈ ys,∃ t W a b,v=.ref t∧J t=some (.tup (natV W))∧W.length≤24∧Far.MinW (arcsB ts ks) a b W
theorem WaysL.but {J J':Hp} {l:Addr} {ts:List Tie} {ks:List Nat} {ys xs:List V} (h:WaysL J ts ks ys) (b:But l J J') (e:J l=some (.lst xs)):WaysL J' ts ks ys:=fun v hv=>by
 obtain⟨t,W,a,b',e1,e2,r⟩:=h v hv
 exact⟨t,W,a,b',e1,b _ _ (fun z=>by rw[z,e] at e2;cases e2) e2,r⟩
theorem WaysL.same {J J':Hp} {ts:List Tie} {ks:List Nat} {ys:List V} (h:WaysL J ts ks ys) (s:Same J J'):WaysL J' ts ks ys:=fun v hv=>by
 obtain⟨t,W,a,b',e1,e2,r⟩:=h v hv
 exact⟨t,W,a,b',e1,s _ _ e2,r⟩
theorem WaysL.snoc {J:Hp} {ts:List Tie} {ks:List Nat} {ys:List V} {t:Addr} {W:List Nat} {a b:Nat} (h:WaysL J ts ks ys) (e:J t=some (.tup (natV W))) (l:W.length≤24) (m:Far.MinW (arcsB ts ks) a b W):WaysL J ts ks (ys++[.ref t]):=fun v hv=>by
 rcases List.mem_append.mp hv with z | z
 ·exact h v z
 ·rw[List.mem_singleton.mp z];exact⟨t,W,a,b,rfl,e,l,m⟩
end L3
namespace L3
open PySem PySem.Spec PyProof.Rows L2
/-- a web and a keep of it that is a list -/
def WKL (K:PySem.W.Frag) (H:Hp) (n:Int) (ts:List Tie) (ks:List Nat) (wv:V) (kp:Addr):Prop:=Is K H (webD n ts) wv∧WebOk n ts∧H kp=some (.lst ((keepI ks).map V.int))∧KeepOk ts.length ks
theorem WKL.same {K:PySem.W.Frag} {H H':Hp} {n:Int} {ts:List Tie} {ks:List Nat} {wv:V} {kp:Addr} (h:WKL K H n ts ks wv kp) (s:Same H H'):WKL K H' n ts ks wv kp:=⟨Is.same s _ h.1,h.2.1,s _ _ h.2.2.1,h.2.2.2⟩
end L3
namespace Far
def chn (R:Nat->Nat->Prop):List Nat->Prop
 | []=>True
 | [_]=>True
 | a::b::r=>R a b∧chn R (b::r)
section
variable {R:Nat->Nat->Prop}
theorem chn_join:∀ {l m:List Nat} {x y:Nat},chn R (l++[x])->R x y->chn R (y::m)->chn R (l++[x]++y::m)
 | [],m,x,y,_,r,h=>⟨r,h⟩
 | [a],m,x,y,h1,r,h=>⟨h1.1,chn_join (l:=[]) (x:=x) (y:=y) h1.2 r h⟩
 | a::b::l,m,x,y,h1,r,h=>⟨h1.1,chn_join (l:=b::l) (x:=x) (y:=y) h1.2 r h⟩
theorem chn_split:∀ {l m:List Nat} {x:Nat},chn R (l++x::m)->chn R (l++[x])∧chn R (x::m)
 | [],m,x,h=>⟨trivial,h⟩
 | [a],m,x,h=>⟨⟨h.1,trivial⟩,h.2⟩
 | a::b::l,m,x,h=>⟨⟨h.1,(chn_split (l:=b::l) (x:=x) h.2).1⟩,(chn_split (l:=b::l) (x:=x) h.2).2⟩
theorem chn_rev (sy:∀ u v,R u v->R v u):∀ {l:List Nat},chn R l->chn R l.reverse
 | [],_=>trivial
 | [_],_=>trivial
 | a::b::r,h=>by
  have ih:=chn_rev sy h.2
  rw[List.reverse_cons] at ih
  rw[List.reverse_cons,List.reverse_cons]
  exact chn_join (l:=r.reverse) (m:=[]) ih (sy _ _ h.1) trivial
theorem chn_at:∀ {l:List Nat} {i u v:Nat},chn R l->l[i]?=some u->l[i + 1]?=some v->R u v
 | [],i,u,v,_,e,_=>by cases e
 | [a],i,u,v,_,_,e=>by cases e
 | a::b::r,0,u,v,h,e1,e2=>by cases e1;cases e2;exact h.1
 | a::b::r,i + 1,u,v,h,e1,e2=>chn_at (l:=b::r) h.2 e1 e2
theorem Rt.chn {B:List Arc} {a b:Nat} {ws S:List Nat} {x y:Int} (hR:∀ u v l k,(u,v,l,k) ∈ B->R u v) (r:Rt B a ws S b x y):chn R ws:=by
 induction r with
 | one=>exact trivial
 | @snoc ws S u v x y l k r m nv ih =>
  obtain⟨q,e⟩:=r.foot
  rw[e] at ih ⊢
  exact chn_join (m:=[]) ih (hR _ _ _ _ m) trivial
/-- a way made a ring: turned so that h stands first, one way about or the other -/
def RingOf (ws:List Nat) (h:Nat) (tl:List Nat):Prop:=∃ p q,ws=p++h::q∧(tl=q++p∨tl=(q++p).reverse)
theorem RingOf.mem {ws tl:List Nat} {h:Nat} (r:RingOf ws h tl) {x:Nat}:x ∈ h::tl↔x ∈ ws:=by
 obtain⟨p,q,e,t⟩:=r
 rw[e]
 rcases t with t | t
 ·rw[t];simp only [List.mem_cons,List.mem_append];constructor
  ·rintro (z | z | z)
   ·exact .inr (.inl z)
   ·exact .inr (.inr z)
   ·exact .inl z
  ·rintro (z | z | z)
   ·exact .inr (.inr z)
   ·exact .inl z
   ·exact .inr (.inl z)
 ·rw[t];simp only [List.mem_cons,List.mem_append,List.mem_reverse];constructor
  ·rintro (z | z | z)
   ·exact .inr (.inl z)
   ·exact .inr (.inr z)
   ·exact .inl z
  ·rintro (z | z | z)
   ·exact .inr (.inr z)
   ·exact .inl z
   ·exact .inr (.inl z)
theorem RingOf.len {ws tl:List Nat} {h:Nat} (r:RingOf ws h tl):tl.length + 1=ws.length:=by
 obtain⟨p,q,e,t⟩:=r
 rw[e]
 rcases t with t | t
 ·rw[t];simp only [List.length_append,List.length_cons];omega
 ·rw[t];simp only [List.length_append,List.length_cons,List.length_reverse];omega
theorem RingOf.nodup {ws tl:List Nat} {h:Nat} (r:RingOf ws h tl) (nd:ws.Nodup):(h::tl).Nodup:=by
 obtain⟨p,q,e,t⟩:=r
 rw[e] at nd
 have n1:(h::(q++p)).Nodup:=by
  have:(h::q++p).Nodup:=(List.perm_append_comm.nodup_iff).mp nd
  simpa using this
 rcases t with t | t
 ·rw[t];exact n1
 ·rw[t]
  rw[List.nodup_cons] at n1 ⊢
  exact⟨fun z=>n1.1 (List.mem_reverse.mp z),(List.reverse_perm _).nodup_iff.mpr n1.2⟩
theorem RingOf.chn (sy:∀ u v,R u v->R v u) {ws tl:List Nat} {h a b:Nat} {w1 w2:List Nat} (r:RingOf ws h tl) (c:chn R ws) (e1:ws=a::w1) (e2:ws=w2++[b]) (l:R b a):Far.chn R (h::tl++[h]):=by
 obtain⟨p,q,e,t⟩:=r
 have key:Far.chn R (h::(q++p)++[h]):=by
  obtain⟨c1,c2⟩:=chn_split (l:=p) (x:=h) (m:=q) (by rw[← e];exact c)
  obtain⟨q2,eq⟩:∃ q2,h::q=q2++[b]:=by
   rcases List.eq_nil_or_concat q with rfl | ⟨q',z,rfl⟩
   ·have:w2++[b]=p++[h]:=by rw[← e2,e]
    obtain⟨_,z⟩:=List.append_inj' this rfl
    cases z
    exact⟨[],rfl⟩
   ·have:w2++[b]=(p++h::q')++[z]:=by rw[← e2,e];simp
    obtain⟨_,y⟩:=List.append_inj' this rfl
    cases y
    exact⟨h::q',by simp⟩
  cases p with
  | nil =>
   have:a=h:=by rw[e] at e1;injection e1 with z _;exact z.symm
   subst this
   rw[List.append_nil,eq]
   rw[eq] at c2
   exact chn_join (m:=[]) c2 l trivial
  | cons a' p' =>
   have:a=a':=by rw[e] at e1;injection e1 with z _;exact z.symm
   subst this
   have e3:h::(q++a::p')++[h]=(h::q)++(a::(p'++[h])):=by simp
   rw[e3,eq]
   rw[eq] at c2
   exact chn_join c2 l c1
 rcases t with t | t
 ·rw[t];exact key
 ·have e4:h::tl++[h]=(h::(q++p)++[h]).reverse:=by rw[t];simp
  rw[e4]
  exact chn_rev sy key
end
end Far
namespace L3
open PySem PySem.Spec PyProof.Rows L2
/-- min of a tuple of whole numbers -/
theorem call_minTu {X:Cx} (hh:X.calm=true):CallR X (.builtin "min") (fun xs H Q=>∃ (p:Addr) (ns:List Int),xs=[.ref p]∧H p=some (.tup (ns.map V.int))∧ns≠[]∧∀ b,b ∈ ns->(∀ x ∈ ns,b≤x)->Q (.int b) H):=by
 intro pins s σ H xs us Q I r h
 obtain⟨p,ns,rfl,hq,hne,q⟩:=h
 obtain⟨u,rfl,rx⟩:=vals1 r
 cases rx
 obtain⟨its,rv,pl,hz⟩:=I.tuple (SqT.of hq)
 have it:s.heap.IsTuple p its.toArray:=pl
 have hl:=rv.length
 rw[List.length_map] at hl
 have hI:IntsAre its ns:=intsAre_of rv
 have lt:p≠s.heap.objs.size:=by obtain⟨o,e,_⟩:=it;exact Nat.ne_of_lt (Heap.lt_size e)
 refine call_min_walkS (wpAny_pyIter_tuple it ?_)
 have W:=(Walks.tuple (prog:=X.prog) (w:=X.w) (A:=X.A.in1) (show X.A.in1.handled=none from I.ok.hd hh) s.heap.objs.size p lt its.toArray).toS
 have npos:0 < ns.length:=List.length_pos_iff.mpr hne
 have esz:its.toArray.size=ns.length:=by rw[List.size_toArray,← hl]
 have hv:∀ (i:Nat) (v:Value),its.toArray[i]?=some v->∃ t,v=Value.int (ns.getD i 0) t:=fun i v hv=>IntsAre.int_at hI i v (by simpa using hv)
 refine⟨s.heap.objs.size,_,_,_,_,_,_,(fun i j=>decide (ns.getD i 0 < ns.getD j 0)),rfl,W,⟨⟨_,Heap.get?_push_size _ rfl,rfl,rfl⟩,it.push _⟩,fun b hb=>?_,by rw[esz];exact npos,CmpOf.ints_lt (fun i=>ns.getD i 0) hv,fun v s' hP hm=>?_⟩
 ·obtain⟨o,e,_⟩:=it
  have hlt:p < s.heap.objs.size:=Heap.lt_size e
  show b < (s.heap.push _).objs.size
  rw[Heap.size_push]
  simp only [List.mem_cons,List.not_mem_nil,or_false] at hb
  rcases hb with z | z
  ·rw[z];exact Nat.lt_succ_self _
  ·rw[z];exact Nat.lt_succ_of_lt hlt
 ·obtain⟨t,rfl⟩:=hv _ _ hP
  obtain⟨b1,b2⟩:=best_least (fun i=>ns.getD i 0) (its.toArray.size - 1)
  rw[Moved.eq_with hm]
  refine⟨.int _,H,I.kept (t':=s'.toks) fun b o e=>hm.heap b o (fun z=>?_) (Heap.get?_push_of_some _ e),⟨t,rfl⟩,q _ ?_ fun x hx=>?_⟩
  ·have:b=s.heap.objs.size:=by simpa using z
   exact absurd (Heap.lt_size e) (by rw[this];exact Nat.lt_irrefl _)
  ·have:argBest (fun i j=>decide (ns.getD i 0 < ns.getD j 0)) (its.toArray.size - 1) < ns.length:=by omega
   rw[List.getD_eq_getElem?_getD,List.getElem?_eq_getElem this];exact List.getElem_mem this
  ·obtain⟨i,hi,e⟩:=List.getElem_of_mem hx
   have:=b2 i (by omega)
   have g:ns.getD i 0=ns[i]:=by rw[List.getD_eq_getElem?_getD,List.getElem?_eq_getElem hi];rfl
   rw[← e,← g];exact this
/-- two places with a tie of the keep between them -/
def adjK (ts:List Tie) (ks:List Nat) (u v:Nat):Prop:=∃ k,k ∈ ks∧tbN ts u v=some k
theorem tb_comm (ts:List Tie) (u v:Nat):tbN ts u v=tbN ts v u:=by
 unfold tbN
 congr 1
 funext k
 unfold isTB
 rw[Int.min_comm,Int.max_comm]
theorem adjK.sym {ts:List Tie} {ks:List Nat} (u v:Nat) (h:adjK ts ks u v):adjK ts ks v u:=by
 obtain⟨k,hk,e⟩:=h
 exact⟨k,hk,by rw[tb_comm];exact e⟩
/-- a ring in its least turn -/
def Turn (h:Nat) (tl:List Nat):Prop:=(∀ x ∈ tl,h≤x)∧∀ u v p q,tl=u::p->tl=q++[v]->u≤v
end L3
namespace L3
open PySem PySem.Spec PyProof.Rows L2
theorem best_mostM (val:Nat->Int):∀ k,argBest (fun i j=>decide (val i > val j)) k≤k∧∀ i,i≤k->val i≤val (argBest (fun i j=>decide (val i > val j)) k)
 | 0=>⟨Nat.le_refl _,fun i hi=>by rw[show i=0 by omega];exact Int.le_refl _⟩
 | k + 1=>by
  obtain⟨h1,h2⟩:=best_mostM val k
  show (if decide (val (k + 1) > val (argBest _ k))=true then k + 1 else argBest _ k)≤k + 1∧∀ i,i≤k + 1->val i≤val (if decide (val (k + 1) > val (argBest _ k))=true then k + 1 else argBest _ k)
  by_cases c:val (k + 1) > val (argBest (fun i j=>decide (val i > val j)) k)
  ·rw[if_pos (decide_eq_true c)]
   refine⟨Nat.le_refl _,fun i hi=>?_⟩
   rcases Nat.lt_or_ge i (k + 1) with z | z
   ·have:=h2 i (by omega);omega
   ·rw[show i=k + 1 by omega];exact Int.le_refl _
  ·rw[if_neg (fun z=>c (of_decide_eq_true z))]
   refine⟨by omega,fun i hi=>?_⟩
   rcases Nat.lt_or_ge i (k + 1) with z | z
   ·exact h2 i (by omega)
   ·rw[show i=k + 1 by omega];omega
end L3
namespace L3
open PySem PySem.Spec PyProof.Rows L2
/-- max of a tuple of whole numbers -/
theorem call_maxTu {X:Cx} (hh:X.calm=true):CallR X (.builtin "max") (fun xs H Q=>∃ (p:Addr) (ns:List Int),xs=[.ref p]∧H p=some (.tup (ns.map V.int))∧ns≠[]∧∀ b,b ∈ ns->(∀ x ∈ ns,x≤b)->Q (.int b) H):=by
 intro pins s σ H xs us Q I r h
 obtain⟨p,ns,rfl,hq,hne,q⟩:=h
 obtain⟨u,rfl,rx⟩:=vals1 r
 cases rx
 obtain⟨its,rv,pl,hz⟩:=I.tuple (SqT.of hq)
 have it:s.heap.IsTuple p its.toArray:=pl
 have hl:=rv.length
 rw[List.length_map] at hl
 have hI:IntsAre its ns:=intsAre_of rv
 have lt:p≠s.heap.objs.size:=by obtain⟨o,e,_⟩:=it;exact Nat.ne_of_lt (Heap.lt_size e)
 refine call_max_walkS (wpAny_pyIter_tuple it ?_)
 have W:=(Walks.tuple (prog:=X.prog) (w:=X.w) (A:=X.A.in1) (show X.A.in1.handled=none from I.ok.hd hh) s.heap.objs.size p lt its.toArray).toS
 have npos:0 < ns.length:=List.length_pos_iff.mpr hne
 have esz:its.toArray.size=ns.length:=by rw[List.size_toArray,← hl]
 have hv:∀ (i:Nat) (v:Value),its.toArray[i]?=some v->∃ t,v=Value.int (ns.getD i 0) t:=fun i v hv=>IntsAre.int_at hI i v (by simpa using hv)
 refine⟨s.heap.objs.size,_,_,_,_,_,_,(fun i j=>decide (ns.getD i 0 > ns.getD j 0)),rfl,W,⟨⟨_,Heap.get?_push_size _ rfl,rfl,rfl⟩,it.push _⟩,fun b hb=>?_,by rw[esz];exact npos,CmpOf.ints_gt (fun i=>ns.getD i 0) hv,fun v s' hP hm=>?_⟩
 ·obtain⟨o,e,_⟩:=it
  have hlt:p < s.heap.objs.size:=Heap.lt_size e
  show b < (s.heap.push _).objs.size
  rw[Heap.size_push]
  simp only [List.mem_cons,List.not_mem_nil,or_false] at hb
  rcases hb with z | z
  ·rw[z];exact Nat.lt_succ_self _
  ·rw[z];exact Nat.lt_succ_of_lt hlt
 ·obtain⟨t,rfl⟩:=hv _ _ hP
  obtain⟨b1,b2⟩:=best_mostM (fun i=>ns.getD i 0) (its.toArray.size - 1)
  rw[Moved.eq_with hm]
  refine⟨.int _,H,I.kept (t':=s'.toks) fun b o e=>hm.heap b o (fun z=>?_) (Heap.get?_push_of_some _ e),⟨t,rfl⟩,q _ ?_ fun x hx=>?_⟩
  ·have:b=s.heap.objs.size:=by simpa using z
   exact absurd (Heap.lt_size e) (by rw[this];exact Nat.lt_irrefl _)
  ·have:argBest (fun i j=>decide (ns.getD i 0 > ns.getD j 0)) (its.toArray.size - 1) < ns.length:=by omega
   rw[List.getD_eq_getElem?_getD,List.getElem?_eq_getElem this];exact List.getElem_mem this
  ·obtain⟨i,hi,e⟩:=List.getElem_of_mem hx
   have:=b2 i (by omega)
   have g:ns.getD i 0=ns[i]:=by rw[List.getD_eq_getElem?_getD,List.getElem?_eq_getElem hi];rfl
   rw[← e,← g];exact this
theorem firstMet_nodup (val:Nat->Int):∀ i,(firstMet val i).Nodup∧∀ k,k ∈ firstMet val i↔k ∈ (List.range i).map val
 | 0=>⟨by rw[firstMet_zero];exact List.nodup_nil,fun k=>by rw[firstMet_zero];simp⟩
 | i + 1=>by
  obtain⟨h1,h2⟩:=firstMet_nodup val i
  rw[firstMet_succ,List.range_succ,List.map_append]
  unfold step_dedup
  by_cases c:(firstMet val i).any (fun y=>y == val i)=true
  ·rw[if_pos c]
   obtain⟨y,hy,e⟩:=List.any_eq_true.mp c
   have e':y=val i:=by simpa using e
   refine⟨h1,fun k=>?_⟩
   rw[h2 k,List.mem_append]
   refine⟨.inl,fun z=>z.elim id fun z=>?_⟩
   have:k=val i:=by simpa using z
   rw[this,← e',← h2 y];exact hy
  ·rw[if_neg c]
   refine⟨List.nodup_append.mpr ⟨h1,by simp,fun a ha b hb e=>c (List.any_eq_true.mpr ⟨a,ha,?_⟩)⟩,fun k=>by rw[List.mem_append,List.mem_append,h2 k];simp⟩
   have:b=val i:=by simpa using hb
   simp [e,this]
end L3
namespace L3
open PySem PySem.Spec PyProof.Rows L2
end L3
namespace L3
open PySem PySem.Spec PyProof.Rows L2
end L3
namespace L3
open PySem PySem.Spec PyProof.Rows L2
section
variable {g:TG} {tt:TT} {te:TE} {own:List Str} {js:List Nat} {σ:L2.St} {H1:Hp} {Q:VK}
end
/-- a row of whole numbers, of so many at the most -/
def RowV (lo hi:Nat) (J:Hp) (v:V):Prop:=∃ (p:Addr) (ns:List Int),v=.ref p∧J p=some (.tup (ns.map V.int))∧lo≤ns.length∧ns.length≤hi
theorem RowV.tk {lo hi:Nat} {J J':Hp} {v:V} (k:TupKeep J J') (h:RowV lo hi J v):RowV lo hi J' v:=let ⟨p,ns,e,e1,r⟩:=h;⟨p,ns,e,k _ _ e1,r⟩
end L3
namespace L3
open PySem PySem.Spec PyProof.Rows L2
end L3
namespace L3
open PySem PySem.Spec PyProof.Rows L2
mutual
theorem Is.tk {K:PySem.W.Frag} {H H':Hp} (e:TupKeep H H'):∀ (d:PyData) {v:V},tupD d=true->Is K H d v->Is K H' d v
 | .none,_,_,h=>h
 | .bool _,_,_,h=>h
 | .int _,_,_,h=>h
 | .str _,_,_,h=>h
 | .tuple ds,_,t,h=>let ⟨q,vs,q1,q2,q3⟩:=h;⟨q,vs,q1,e _ _ q2,IsAll.tk e ds t q3⟩
 | .list ds,_,t,h=>by cases t
 | .dict _,_,t,h=>by cases t
theorem IsAll.tk {K:PySem.W.Frag} {H H':Hp} (e:TupKeep H H'):∀ (ds:List PyData) {vs:List V},tupAll ds=true->IsAll K H ds vs->IsAll K H' ds vs
 | [],_,_,h=>h
 | d::ds,_,t,h=>by
  have t':(tupD d && tupAll ds)=true:=t
  rw[Bool.and_eq_true] at t'
  obtain⟨v,r,q1,q2,q3⟩:=h
  exact⟨v,r,q1,Is.tk e d t'.1 q2,IsAll.tk e ds t'.2 q3⟩
end
end L3
namespace Stb
open PySem PyProof.Rows
section
variable {prog:Program} {w:World} {A:Around} {E:Value->Shared->Prop} {s:Shared}
/-- set(t), t a list of whole numbers -/
theorem of_lst {t:Addr} {xs:Array Value} {ns:List Int} {Q:Value->Shared->Prop} (hh:A.handled=none) (ht:s.heap.IsList t xs) (hi:IntsAre xs.toList ns) (hb:xs.size + 1 < scanBound)
  (fin:∀ (h':Heap) (tk:Nat),SetT prog w h' s.heap.objs.size (HT.setS ns xs.size) (HT.setN ns xs.size)->(∀ b o,b < s.heap.objs.size->s.heap.get? b=some o->h'.get? b=some o)->Q (.ref s.heap.objs.size) { s with heap:=h',toks:=tk }) :
  wpAny (model prog w) A (call (.type "set") [.ref t]) Q E s:=by
 obtain⟨c,tl,hmro⟩:=PySem.F.called_set.mro
 have hmade:=PySem.F.called_set.made;have hsub:=PySem.F.called_set.sub
 refine wpAny_call (codeAny_of_tree ?_);show wpAny _ _ (callAny (.type "set") _) _ _ _
 refine wpAny_pure ⟨Code.quiet_builtin _ (by decide +kernel),codeAny_builtin PySem.F.entry_type_call ?_⟩
 rw[Around.under_plain (PySem.weight_type_call_type "set" [.ref t] []) rfl]
 have h1:=PySem.F.called_set.notType;have h2:=PySem.F.called_set.canCreate;have hct:=PySem.F.typeCall_set_1 (.ref t)
 repeat (any_goals (first | assumption | wp_step))
 refine codeAny_mono (new_T (.ref t) (E:=E) (U:=fun obj s₁=>obj=.ref s.heap.objs.size∧s₁={ s with heap:=s.heap.push (emp w) }) ⟨rfl,rfl⟩) fun r s₁ hr=>?_
 match r,hr with
 | .error e,hr=>exact hr
 | .ok .next,hr=>exact hr.elim
 | .ok .brk,hr=>exact hr.elim
 | .ok .cont,hr=>exact hr.elim
 | .ok (.ret obj),hr =>
  obtain⟨rfl,rfl⟩:=hr
  have gS:(s.heap.push (emp w)).get? s.heap.objs.size=some (emp w):=Heap.get?_push_size _ rfl
  have hT:Shared.TypeIs { s with heap:=s.heap.push (emp w) } (.ref s.heap.objs.size) "set":=⟨_,gS,rfl⟩
  have hli:=PySem.F.called_set.init.lookup;have hbi:=PySem.F.called_set.init.bind (.ref s.heap.objs.size)
  repeat (any_goals (first | assumption | wp_step))
  refine codeAny_mono (codeAny_call_builtin (R:=wants (fun r s₂=>r=.none∧∃ h' tk,s₂={ s with heap:=h',toks:=tk }∧SetT prog w h' s.heap.objs.size (HT.setS ns xs.size) (HT.setN ns xs.size)∧(∀ b o,b < s.heap.objs.size->s.heap.get? b=some o->h'.get? b=some o)) E) PySem.F.called_set.init.plain PySem.F.entry_set_init (PySem.check_set_init_1 hT ?_)) fun r₂ s₂ hr₂=>?_
  ·obtain⟨ot,ho,hc,m,hd⟩:=id ht
   obtain⟨ocls,odict,odata,oslots⟩:=ot
   simp only at hc hd;subst hc hd
   have ho':(s.heap.push (emp w)).get? t=some { cls:=.type "list",dict:=odict,data:=.seq xs m,slots:=oslots }:=Heap.get?_push_of_some _ ho
   have f1:=PySem.F.sub_list_set;have f2:=PySem.F.sub_list_frozenset
   have f3:(Value.type "list" == Value.type "dict")=false:=by decide
   have it1:(s.heap.push (emp w)).IsList t xs:=⟨_,ho',rfl,m,rfl⟩
   unfold Builtin.«set.__init__» noKeywords Builtin.Frozenset.updateFrom
   generalize hPI:pyIter=PI
   wp_walk;subst hPI
   refine wpAny_pyIter_list it1 (wpAny_bind (wpAny_runValue ?_))
   have lt:t < s.heap.objs.size:=Heap.lt_size ho
   have hh3:A.in1.in1.in1.handled=none:=by simp [hh]
   have sz1:(s.heap.push (emp w)).objs.size=s.heap.objs.size + 1:=Heap.size_push ..
   have tI:t≠(s.heap.push (emp w)).objs.size:=by rw[sz1];exact Nat.ne_of_lt (Nat.lt_succ_of_lt lt)
   have Sfp:s.heap.objs.size ∉ [(s.heap.push (emp w)).objs.size,t]:=by
    rw[sz1];simp only [List.mem_cons,List.not_mem_nil,or_false,not_or];exact⟨Nat.ne_of_lt (Nat.lt_succ_self _),(Nat.ne_of_lt lt).symm⟩
   have vals:∀ (i:Nat) (v:Value),xs[i]?=some v->∃ u,v=.int ((fun i=>ns.getD i 0) i) u:=fun i v hv=>IntsAre.int_at hi i v (by rw[Array.getElem?_toList];exact hv)
   refine fill_T ((Walks.list hh3 _ t tI xs).toS) s.heap.objs.size Sfp (fun i=>ns.getD i 0) vals hb (xs.size - 0) 0 _ (by omega) (Nat.zero_le _) ?st ?s0 ?fin
   case st=>exact⟨⟨_,Heap.get?_push_size _ rfl,rfl,rfl⟩,it1.push _⟩
   case s0=>exact (emp_T s.heap).keep fun o e=>Heap.get?_push_of_some _ e
   case fin =>
    rintro ⟨h',g',d',tk',os'⟩ hm hS'
    obtain rfl:g'=s.gens:=hm.gens
    obtain rfl:d'=s.drawn:=hm.drawn
    obtain rfl:os'=s.os:=hm.os
    refine wpAny_pure (wpAny_pure ⟨rfl,h',tk',rfl,hS',fun b o hlt e=>hm.heap b o ?_ (Heap.get?_push_of_some _ (Heap.get?_push_of_some _ e))⟩)
    rw[sz1];simp only [List.mem_cons,List.not_mem_nil,or_false,not_or]
    exact⟨Nat.ne_of_lt hlt,Nat.ne_of_lt (Nat.lt_succ_of_lt hlt)⟩
  ·match r₂,hr₂ with
   | .error e,hr₂=>exact hr₂
   | .ok .next,hr₂=>exact hr₂.elim
   | .ok .brk,hr₂=>exact hr₂.elim
   | .ok .cont,hr₂=>exact hr₂.elim
   | .ok (.ret v),hr₂ =>
    obtain⟨rfl,h',tk,rfl,hS',hk⟩:=hr₂
    repeat (any_goals (first | assumption | wp_step))
    exact fin h' tk hS' hk
end
end Stb
namespace L3
open PySem PySem.Spec PyProof.Rows L2
section
variable {X:Cx}
end
end L3
namespace Far
variable {A:List (Nat × Nat × Int)} {s:Nat}
def Unit1 (A:List (Nat × Nat × Int)):Prop:=∀ u v l,(u,v,l) ∈ A->l=1
/-- k steps away, and no fewer -/
def AtK (A:List (Nat × Nat × Int)) (s k v:Nat):Prop:=Walk A s v (k:Int)∧∀ x,Walk A s v x->(k:Int)≤x
theorem Unit1.pos (U:Unit1 A):Pos A:=fun u v l h=>by rw[U u v l h];exact Int.le_refl 1
theorem Walk.nat (U:Unit1 A) {v:Nat} {x:Int} (h:Walk A s v x):∃ k:Nat,x=k:=⟨x.toNat,(Int.toNat_of_nonneg (h.nonneg U.pos)).symm⟩
theorem AtK.one {j k v:Nat} (h:AtK A s j v) (h':AtK A s k v):j=k:=by
 have a:=h.2 _ h'.1
 have b:=h'.2 _ h.1
 omega
theorem AtK.ex (U:Unit1 A) {v:Nat}:∀ (k:Nat),Walk A s v (k:Int)->∃ j,j≤k∧AtK A s j v:=fun k=>by
 induction k using Nat.strongRecOn with
 | _ k ih =>
  intro h
  by_cases c:∃ x,Walk A s v x∧x < (k:Int)
  ·obtain⟨x,hx,lt⟩:=c
   obtain⟨j,rfl⟩:=hx.nat U
   obtain⟨i,hi,a⟩:=ih j (by omega) hx
   exact⟨i,by omega,a⟩
  ·exact⟨k,Nat.le_refl _,h,fun x hx=>by
    rcases Int.lt_or_le x k with z | z
    ·exact absurd ⟨x,hx,z⟩ c
    ·exact z⟩
theorem Walk.last (U:Unit1 A) {v:Nat} {x:Int} (h:Walk A s v x):(v=s∧x=0)∨∃ u,Walk A s u (x - 1)∧(u,v,1) ∈ A:=by
 cases h with
 | nil=>exact .inl ⟨rfl,rfl⟩
 | @snoc u v l x h m =>
  have e:=U _ _ _ m
  subst e
  exact .inr ⟨u,by rw[Int.add_sub_cancel];exact h,m⟩
theorem AtK.zero (U:Unit1 A) {v:Nat}:AtK A s 0 v↔v=s:=by
 constructor
 ·intro h
  rcases h.1.last U with ⟨e,_⟩ | ⟨u,h',_⟩
  ·exact e
  ·have:=h'.nonneg U.pos
   have:((0:Nat):Int)=0:=rfl
   omega
 ·rintro rfl
  exact⟨Walk.nil,fun x hx=>hx.nonneg U.pos⟩
theorem AtK.next (U:Unit1 A) {k v:Nat}:AtK A s (k + 1) v↔(∃ u,AtK A s k u∧(u,v,1) ∈ A)∧∀ j,j≤k->¬ AtK A s j v:=by
 constructor
 ·intro h
  refine⟨?_,fun j hj a=>by have:=a.one h;omega⟩
  rcases h.1.last U with ⟨_,e⟩ | ⟨u,h',m⟩
  ·exfalso
   have:((k + 1:Nat):Int)=0:=e
   omega
  ·have e:((k + 1:Nat):Int) - 1=(k:Int):=by omega
   rw[e] at h'
   refine⟨u,⟨h',fun x hx=>?_⟩,m⟩
   have:=h.2 _ (hx.snoc m)
   omega
 ·rintro ⟨⟨u,a,m⟩,no⟩
  have h:=a.1.snoc m
  have e:(k:Int) + 1=((k + 1:Nat):Int):=by omega
  rw[e] at h
  refine⟨h,fun x hx=>?_⟩
  obtain⟨y,rfl⟩:=hx.nat U
  obtain⟨j,hj,aj⟩:=AtK.ex U y hx
  rcases Nat.lt_or_ge j (k + 1) with z | z
  ·exact absurd aj (no j (by omega))
  ·omega
theorem AtK.dst {k v:Nat} (h:AtK A s k v):Dst A s v (some (k:Int)):=⟨fun y e=>(by cases e;exact h.1),fun L hL=>⟨_,rfl,h.2 L hL⟩⟩
theorem AtK.none (U:Unit1 A) {v:Nat} (h:∀ k,¬ AtK A s k v):Dst A s v Option.none:=by
 refine⟨fun y e=>(by cases e),fun L hL=>?_⟩
 obtain⟨k,rfl⟩:=hL.nat U
 obtain⟨j,_,a⟩:=AtK.ex U k hL
 exact absurd a (h j)
/-- a place of each number of steps below -/
theorem AtK.chain (U:Unit1 A):∀ {k v:Nat},AtK A s k v->∃ us:List Nat,us.length=k + 1∧us.Nodup∧∀ u ∈ us,∃ j,j≤k∧AtK A s j u
 | 0,v,h=>⟨[v],rfl,by simp,fun u hu=>by rw[List.mem_singleton.mp hu];exact⟨0,Nat.le_refl _,h⟩⟩
 | k + 1,v,h=>by
  obtain⟨⟨u,a,_⟩,_⟩:=(AtK.next U).mp h
  obtain⟨us,h1,h2,h3⟩:=AtK.chain U a
  refine⟨v::us,by simp [h1],List.nodup_cons.mpr ⟨fun m=>?_,h2⟩,fun w hw=>?_⟩
  ·obtain⟨j,hj,aj⟩:=h3 v m
   have:=aj.one h
   omega
  ·rcases List.mem_cons.mp hw with rfl | hw
   ·exact⟨k + 1,Nat.le_refl _,h⟩
   ·obtain⟨j,hj,aj⟩:=h3 w hw
    exact⟨j,by omega,aj⟩
/-- i rings gone through -/
structure Bfs (A:List (Nat × Nat × Int)) (s i:Nat) (D:Nat->Option Nat) (ring:List Nat):Prop where
 found:∀ v d,D v=some d↔AtK A s d v∧d < i
 ring:∀ v,v ∈ ring↔AtK A s i v
theorem Bfs.start (U:Unit1 A):Bfs A s 0 (fun _=>none) [s]:=⟨fun v d=>by simp,fun v=>by rw[AtK.zero U];simp⟩
theorem Bfs.step (U:Unit1 A) {i:Nat} {D D':Nat->Option Nat} {ring ring':List Nat} (b:Bfs A s i D ring) (hD:∀ v,D' v=if v ∈ ring then some i else D v) (hr:∀ c,c ∈ ring'↔(∃ u,u ∈ ring∧(u,c,1) ∈ A)∧D' c=none):Bfs A s (i + 1) D' ring':=by
 have fd:∀ v d,D' v=some d↔AtK A s d v∧d < i + 1:=fun v d=>by
  rw[hD v]
  by_cases m:v ∈ ring
  ·rw[if_pos m]
   have a:=(b.ring v).mp m
   constructor
   ·intro e;cases e;exact⟨a,Nat.lt_succ_self _⟩
   ·rintro ⟨a',_⟩;rw[a'.one a]
  ·rw[if_neg m,b.found v d]
   constructor
   ·rintro ⟨a,lt⟩;exact⟨a,by omega⟩
   ·rintro ⟨a,lt⟩
    refine⟨a,?_⟩
    rcases Nat.lt_or_ge d i with z | z
    ·exact z
    ·have e:d=i:=by omega
     subst e
     exact absurd ((b.ring v).mpr a) m
 refine⟨fd,fun c=>?_⟩
 rw[hr c,AtK.next U]
 have e1:(∃ u,u ∈ ring∧(u,c,1) ∈ A)↔∃ u,AtK A s i u∧(u,c,1) ∈ A:=⟨fun ⟨u,m,e⟩=>⟨u,(b.ring u).mp m,e⟩,fun ⟨u,m,e⟩=>⟨u,(b.ring u).mpr m,e⟩⟩
 have e2:D' c=none↔∀ j,j≤i->¬ AtK A s j c:=by
  constructor
  ·intro e j hj a
   have:=(fd c j).mpr ⟨a,by omega⟩
   rw[e] at this;cases this
  ·intro h
   cases e:D' c with
   | none=>rfl
   | some d =>
    have:=(fd c d).mp e
    exact absurd this.1 (h d (by omega))
 rw[e1,e2]
end Far
namespace Lr
open Far (chn chn_join chn_split chn_rev chn_at RingOf)
section
variable {R:Nat->Nat->Prop}
theorem chn_mono {R':Nat->Nat->Prop} (h:∀ u v,R u v->R' u v):∀ {l:List Nat},chn R l->chn R' l
 | [],_=>trivial
 | [_],_=>trivial
 | _::_::_,c=>⟨h _ _ c.1,chn_mono h c.2⟩
/-- a ring: h, then tl, and back to h -/
structure Rg (R:Nat->Nat->Prop) (h:Nat) (tl:List Nat):Prop where
 len:2≤tl.length
 nd:(h::tl).Nodup
 ch:chn R (h::tl++[h])
/-- a ring told as it should be: from its least place on, the smaller neighbour first -/
def Cano (h:Nat) (tl:List Nat):Prop:=(∀ v ∈ tl,h < v)∧∃ x m y,tl=x::(m++[y])∧x < y
theorem two_ends {tl:List Nat} (h:2≤tl.length):∃ x m y,tl=x::(m++[y]):=by
 match tl,h with
 | x::y::r,_ =>
  rcases List.eq_nil_or_concat (y::r) with e | ⟨m,z,e⟩
  ·cases e
  ·exact⟨x,m,z,by rw[e,List.concat_eq_append]⟩
theorem least_of:∀ {l:List Nat},l≠[]->∃ m ∈ l,∀ v ∈ l,m≤v
 | [],h=>absurd rfl h
 | [a],_=>⟨a,List.mem_cons_self,fun v hv=>by rw[List.mem_singleton.mp hv];exact Nat.le_refl _⟩
 | a::b::r,_=>by
  obtain⟨m,hm,h⟩:=least_of (l:=b::r) (by simp)
  by_cases c:a≤m
  ·refine⟨a,List.mem_cons_self,fun v hv=>?_⟩
   rcases List.mem_cons.mp hv with z | z
   ·rw[z];exact Nat.le_refl _
   ·exact Nat.le_trans c (h v z)
  ·refine⟨m,List.mem_cons_of_mem _ hm,fun v hv=>?_⟩
   rcases List.mem_cons.mp hv with z | z
   ·rw[z];omega
   ·exact h v z
/-- a ring turned -/
theorem Rg.turn (sy:∀ u v,R u v->R v u) {a:Nat} {w:List Nat} (r:Rg R a w) {h:Nat} {tl:List Nat} (o:RingOf (a::w) h tl):Rg R h tl:=by
 obtain⟨x,m,y,e⟩:=two_ends r.len
 have c:=r.ch
 have c0:chn R (a::w):=(chn_split (l:=a::w) (m:=[]) (x:=a) c |>.1 |> fun _=>by
  rcases List.eq_nil_or_concat w with z | ⟨w',z,ez⟩
  ·rw[z];trivial
  ·rw[ez,List.concat_eq_append] at c ⊢
   have:=(chn_split (l:=a::w') (x:=z) (m:=[a]) (by simpa using c)).1
   simpa using this)
 have cl:R y a:=by
  rw[e] at c
  have:=(chn_split (l:=a::x::m) (x:=y) (m:=[a]) (by simpa using c)).2
  exact this.1
 refine⟨?_,o.nodup r.nd,o.chn sy c0 (a:=a) (b:=y) (w1:=w) (w2:=a::x::m) rfl (by rw[e];simp) cl⟩
 have:=o.len
 have:=r.len
 simp at *
 omega
theorem Rg.cano (sy:∀ u v,R u v->R v u) {a:Nat} {w:List Nat} (r:Rg R a w):∃ h tl,Rg R h tl∧Cano h tl∧tl.length=w.length∧∀ v,v ∈ h::tl↔v ∈ a::w:=by
 obtain⟨h,hm,hl⟩:=least_of (l:=a::w) (by simp)
 obtain⟨p,q,e⟩:=List.append_of_mem hm
 have fin:∀ tl,RingOf (a::w) h tl->(∀ v ∈ tl,h < v)∧tl.length=w.length∧∀ v,v ∈ h::tl↔v ∈ a::w:=fun tl o=>by
  have nd:=o.nodup r.nd
  refine⟨fun v hv=>?_,?_,fun v=>o.mem⟩
  ·have:=hl v (o.mem.mp (List.mem_cons_of_mem _ hv))
   have ne:h≠v:=fun z=>(List.nodup_cons.mp nd).1 (z ▸ hv)
   omega
  ·have:=o.len
   simp at this;omega
 have o1:RingOf (a::w) h (q++p):=⟨p,q,e,.inl rfl⟩
 have o2:RingOf (a::w) h (q++p).reverse:=⟨p,q,e,.inr rfl⟩
 have r1:=r.turn sy o1
 obtain⟨x,m,y,e1⟩:=two_ends r1.len
 have ne:x≠y:=fun z=>by
  have nd:=(List.nodup_cons.mp r1.nd).2
  rw[e1] at nd
  exact (List.nodup_cons.mp nd).1 (by rw[z];simp)
 obtain⟨f1,f2,f3⟩:=fin _ o1
 obtain⟨g1,g2,g3⟩:=fin _ o2
 by_cases lt:x < y
 ·exact⟨h,_,r1,⟨f1,x,m,y,e1,lt⟩,f2,f3⟩
 ·refine⟨h,_,r.turn sy o2,⟨g1,y,m.reverse,x,?_,by omega⟩,g2,g3⟩
  rw[e1];simp
theorem chn_left:∀ {l m:List Nat},chn R (l++m)->chn R l
 | [],_,_=>trivial
 | [_],_,_=>trivial
 | a::b::l,m,h=>⟨h.1,chn_left (l:=b::l) h.2⟩
def stepW (rows:Nat->List Nat) (w:List Nat):List (List Nat):=((rows (w.getLast?.getD 0)).filter fun o=>decide (w.headD 0 < o) && !decide (o ∈ w)).map fun o=>w++[o]
def ways (rows:Nat->List Nat) (n:Nat):Nat->List (List Nat)
 | 0=>(List.range n).map fun v=>[v]
 | s + 1=>(ways rows n s).flatMap (stepW rows)
structure PW (R:Nat->Nat->Prop) (n:Nat) (w:List Nat):Prop where
 ne:w≠[]
 nd:w.Nodup
 ch:chn R w
 lt:∀ v ∈ w,v < n
 up:∀ h t,w=h::t->∀ v ∈ t,h < v
theorem snoc_parts {w:List Nat} (h:w≠[]):∃ p x,w=p++[x]:=by
 rcases List.eq_nil_or_concat w with z | ⟨p,x,e⟩
 ·exact absurd z h
 ·exact⟨p,x,by rw[e,List.concat_eq_append]⟩
section
variable {rows:Nat->List Nat} {n:Nat}
theorem PW.init {w:List Nat} {o:Nat} (hw:w≠[]) (h:PW R n (w++[o])):PW R n w :=
 ⟨hw,(List.nodup_append.mp h.nd).1,chn_left h.ch,fun v hv=>h.lt v (List.mem_append_left _ hv),fun a b e v hv=>h.up a (b++[o]) (by rw[e];rfl) v (List.mem_append_left _ hv)⟩
end
end
end Lr
namespace Lr
open Far (chn chn_join chn_split chn_rev chn_at RingOf)
/-- at most, as rows of numbers -/
def lle:List Nat->List Nat->Prop
 | [],_=>True
 | _::_,[]=>False
 | a::l,b::m=>a < b∨(a=b∧lle l m)
theorem lle_init:∀ {l m:List Nat} {x y:Nat},l.length=m.length->lle (l++[x]) (m++[y])->lle l m
 | [],_,_,_,_,_=>trivial
 | a::l,[],_,_,e,_=>by cases e
 | a::l,b::m,x,y,e,h=>h.imp id fun z=>⟨z.1,lle_init (by simpa using e) z.2⟩
section
variable {R:Nat->Nat->Prop}
/-- a shortest chain from v to z -/
structure Sh (R:Nat->Nat->Prop) (z v:Nat) (l:List Nat):Prop where
 ch:chn R (v::l)
 last:(v::l).getLast?=some z
 min:∀ l',chn R (v::l')->(v::l').getLast?=some z->l.length≤l'.length
theorem last_cons {u v:Nat} {l:List Nat}:(v::u::l).getLast?=(u::l).getLast?:=by simp
theorem Sh.tail {z v u:Nat} {l:List Nat} (h:Sh R z v (u::l)):Sh R z u l :=
 ⟨h.ch.2,by rw[← last_cons (v:=v)];exact h.last,fun l' c e=>by
  have:=h.min (u::l') ⟨h.ch.1,c⟩ (by rw[last_cons];exact e)
  simpa using this⟩
theorem Sh.nodup {z:Nat}:∀ {l:List Nat} {v:Nat},Sh R z v l->(v::l).Nodup
 | [],v,_=>by simp
 | u::l,v,h=>by
  refine List.nodup_cons.mpr ⟨fun m=>?_,h.tail.nodup⟩
  obtain⟨p,q,e⟩:=List.append_of_mem m
  have c:=h.ch
  have la:=h.last
  rw[e] at c la
  have c2:chn R (v::q):=(chn_split (l:=v::p) (x:=v) (m:=q) (by simpa using c)).2
  have l2:(v::q).getLast?=some z:=by
   rw[← la,← List.cons_append,List.getLast?_append]
   have:(v::q).getLast?=some ((v::q).getLast (by simp)):=List.getLast?_eq_some_getLast (by simp)
   rw[this];rfl
  have:=h.min q c2 l2
  have le:=congrArg List.length e
  simp only [List.length_append,List.length_cons] at this le
  omega
/-- how far, in steps -/
def Ds (R:Nat->Nat->Prop) (z:Nat) (D:Nat->Option Nat):Prop:=∀ v,(∀ m,D v=some m->∃ l,chn R (v::l)∧(v::l).getLast?=some z∧l.length=m)∧∀ l,chn R (v::l)->(v::l).getLast?=some z->∃ m,D v=some m∧m≤l.length
theorem Ds.sh {z:Nat} {D:Nat->Option Nat} (d:Ds R z D) {v m:Nat} {l:List Nat} (e:D v=some m) (c:chn R (v::l)) (la:(v::l).getLast?=some z):Sh R z v l↔l.length=m:=by
 constructor
 ·intro h
  obtain⟨l',c',e',len⟩:=(d v).1 m e
  have h1:=h.min l' c' e'
  obtain⟨m',em,le⟩:=(d v).2 l c la
  rw[e] at em
  cases em
  omega
 ·intro h
  refine⟨c,la,fun l' c' e'=>?_⟩
  obtain⟨m',em,le⟩:=(d v).2 l' c' e'
  rw[e] at em
  cases em
  omega
/-- without the tie between a and b -/
def Rm (R:Nat->Nat->Prop) (a b u v:Nat):Prop:=R u v∧¬ (u=a∧v=b)∧¬ (u=b∧v=a)
theorem Rm.sy (sy:∀ u v,R u v->R v u) {a b:Nat} (u v:Nat) (h:Rm R a b u v):Rm R a b v u:=⟨sy _ _ h.1,fun z=>h.2.2 ⟨z.2,z.1⟩,fun z=>h.2.1 ⟨z.2,z.1⟩⟩
theorem chn_imp {R':Nat->Nat->Prop} {z:Nat}:∀ {l:List Nat},(∀ u v,u ∈ l->R u v->R' u v)->chn R (l++[z])->chn R' (l++[z])
 | [],_,_=>trivial
 | [a],h,c=>⟨h _ _ List.mem_cons_self c.1,trivial⟩
 | a::b::l,h,c=>⟨h _ _ List.mem_cons_self c.1,chn_imp (l:=b::l) (fun u v hu=>h u v (List.mem_cons_of_mem _ hu)) c.2⟩
/-- a ring gives a chain round its first tie -/
theorem Rg.round {h x:Nat} {t:List Nat} (r:Rg R h (x::t)):chn (Rm R h x) (x::(t++[h]))∧(x::(t++[h])).getLast?=some h∧R h x:=by
 have nd:=r.nd
 have c:=r.ch
 have hx:h ∉ x::t:=(List.nodup_cons.mp nd).1
 have xt:x ∉ t:=(List.nodup_cons.mp (List.nodup_cons.mp nd).2).1
 refine⟨?_,by rw[← List.cons_append,List.getLast?_append];simp,c.1⟩
 have len:=r.len
 match t,len with
 | y::t',_ =>
  have c2:chn R (x::y::t'++[h]):=c.2
  refine⟨⟨c2.1,fun z=>hx (by rw[← z.1];simp),fun z=>hx (by rw[← z.2];simp)⟩,?_⟩
  refine chn_imp (l:=y::t') (fun u v hu ruv=>⟨ruv,fun z=>hx (by rw[← z.1];exact List.mem_cons_of_mem _ hu),fun z=>xt (by rw[← z.1];exact hu)⟩) c2.2
/-- and a shortest chain round a tie gives a ring -/
theorem Sh.ring {a b:Nat} {l:List Nat} (ab:R a b) (ne:a≠b) (s:Sh (Rm R a b) a b l):∃ m,l=m++[a]∧Rg R a (b::m):=by
 have la:=s.last
 cases l with
 | nil=>exact absurd (by simpa using la.symm) ne
 | cons y t =>
  obtain⟨m,x,e⟩:=snoc_parts (w:=y::t) (by simp)
  have ex:x=a:=by
   rw[last_cons,e] at la
   simpa using la
  subst ex
  refine⟨m,e,?_⟩
  have c:=s.ch
  rw[e] at c
  have nd:=s.nodup
  rw[e] at nd
  refine⟨?_,?_,?_⟩
  ·cases m with
   | nil=>exact absurd ⟨rfl,rfl⟩ c.1.2.2
   | cons _ _=>simp
  ·have p:(x::b::m).Perm (b::(m++[x])):=(List.perm_append_singleton x (b::m)).symm.trans (by simp)
   exact p.nodup_iff.mpr nd
  ·exact⟨ab,chn_mono (fun u v h=>h.1) c⟩
end
end Lr
namespace Lr
open Far (chn chn_join chn_split chn_rev chn_at RingOf)
structure Ties (R:Nat->Nat->Prop) (ks:List Nat) (ends:Nat->Nat × Nat):Prop where
 sy:∀ u v,R u v->R v u
 of:∀ k ∈ ks,(ends k).1 < (ends k).2∧R (ends k).1 (ends k).2
 to:∀ u v,R u v->u < v->∃ k ∈ ks,ends k=(u,v)
 up:∀ k ∈ ks,∀ j ∈ ks,k≤j->(ends k).1 < (ends j).1∨((ends k).1=(ends j).1∧(ends k).2≤(ends j).2)
section
variable {R:Nat->Nat->Prop} {ks:List Nat} {ends:Nat->Nat × Nat}
/-- a ring told as it should be has its first tie, and a chain round it -/
theorem Ties.first (T:Ties R ks ends) {h:Nat} {tl:List Nat} (r:Rg R h tl) (up:∀ v ∈ tl,h < v):∃ k ∈ ks,∃ x t,tl=x::t∧ends k=(h,x)∧chn (Rm R (ends k).1 (ends k).2) ((ends k).2::(t++[h]))∧((ends k).2::(t++[h])).getLast?=some (ends k).1∧(t++[h]).length=tl.length:=by
 obtain⟨x,m,y,e⟩:=two_ends r.len
 rw[e] at r
 obtain⟨c,la,rx⟩:=r.round
 obtain⟨k,hk,ek⟩:=T.to h x rx (up x (by rw[e];exact List.mem_cons_self))
 refine⟨k,hk,x,m++[y],e,ek,?_,?_,?_⟩
 ·rw[ek];exact c
 ·rw[ek];exact la
 ·rw[e];simp
theorem Ties.none (T:Ties R ks ends) (hno:∀ k ∈ ks,∀ l,chn (Rm R (ends k).1 (ends k).2) ((ends k).2::l)->((ends k).2::l).getLast?=some (ends k).1->False) (h:Nat) (tl:List Nat):¬ Rg R h tl:=fun r=>by
 obtain⟨h',tl',r',cn,_⟩:=r.cano T.sy
 obtain⟨k,hk,x,t,_,_,c,la,_⟩:=T.first r' cn.1
 exact hno k hk _ c la
theorem Ties.least (T:Ties R ks ends) {k0:Nat} (hk0:k0 ∈ ks) {l:List Nat} (sh:Sh (Rm R (ends k0).1 (ends k0).2) (ends k0).1 (ends k0).2 l) (lx:∀ l',Sh (Rm R (ends k0).1 (ends k0).2) (ends k0).1 (ends k0).2 l'->lle l l')
  (hm:∀ k ∈ ks,∀ l',chn (Rm R (ends k).1 (ends k).2) ((ends k).2::l')->((ends k).2::l').getLast?=some (ends k).1->l.length≤l'.length∧(k < k0->l.length < l'.length)) :
  ∃ m,l=m++[(ends k0).1]∧Rg R (ends k0).1 ((ends k0).2::m)∧Cano (ends k0).1 ((ends k0).2::m)∧(∀ h tl,Rg R h tl->((ends k0).2::m).length≤tl.length)∧∀ h tl,Rg R h tl->Cano h tl->tl.length=((ends k0).2::m).length->lle ((ends k0).1::(ends k0).2::m) (h::tl):=by
 obtain⟨ab,rab⟩:=T.of k0 hk0
 obtain⟨m,em,rg⟩:=sh.ring rab (Nat.ne_of_lt ab)
 have ll:l.length=((ends k0).2::m).length:=by rw[em];simp
 have low:∀ h tl,Rg R h tl->(∀ v ∈ tl,h < v)->l.length≤tl.length∧(tl.length=l.length->∃ x t,tl=x::t∧((ends k0).1 < h∨((ends k0).1=h∧(ends k0).2≤x))∧(x=(ends k0).2->h=(ends k0).1->Sh (Rm R (ends k0).1 (ends k0).2) (ends k0).1 (ends k0).2 (t++[h]))):=fun h tl r up=>by
  obtain⟨k,hk,x,t,e,ek,c,la,len⟩:=T.first r up
  have q:=hm k hk _ c la
  rw[len] at q
  refine⟨q.1,fun el=>⟨x,t,e,?_,fun ex eh=>?_⟩⟩
  ·have le:k0≤k:=Nat.le_of_not_lt fun z=>by have:=q.2 z;omega
   have:=T.up k0 hk0 k hk le
   rw[ek] at this
   exact this
  ·rw[ek] at c la
   simp only at c la
   rw[ex,eh] at c la
   refine⟨?_,?_,fun l' c' e'=>?_⟩
   ·rw[eh];exact c
   ·rw[eh];exact la
   ·have:=(hm k0 hk0 l' c' e').1
    rw[len,el];exact this
 have least:∀ v ∈ (ends k0).2::m,(ends k0).1 < v:=by
  obtain⟨h',tl',r',cn,len,mem⟩:=rg.cano T.sy
  obtain⟨_,q⟩:=low h' tl' r' cn.1
  obtain⟨x,t,e,o,_⟩:=q (by rw[len,ll])
  have ha:(ends k0).1 ∈ h'::tl':=(mem _).mpr List.mem_cons_self
  have hle:h'≤(ends k0).1:=by
   rcases List.mem_cons.mp ha with z | z
   ·rw[z];exact Nat.le_refl _
   ·exact Nat.le_of_lt (cn.1 _ z)
  have eh:h'=(ends k0).1:=by omega
  intro v hv
  have hv':v ∈ h'::tl':=(mem v).mpr (List.mem_cons_of_mem _ hv)
  rcases List.mem_cons.mp hv' with z | z
  ·exfalso
   rw[eh] at z
   exact (List.nodup_cons.mp rg.nd).1 (z ▸ hv)
  ·rw[← eh];exact cn.1 v z
 obtain⟨x,m',y,e⟩:=two_ends rg.len
 have ex:x=(ends k0).2:=by injection e with e _;exact e.symm
 have r2:Rg R (ends k0).1 ((ends k0).2::m).reverse:=rg.turn T.sy ⟨[],(ends k0).2::m,rfl,.inr (by simp)⟩
 have cano:Cano (ends k0).1 ((ends k0).2::m):=by
  refine⟨least,x,m',y,e,?_⟩
  obtain⟨_,q⟩:=low _ _ r2 fun v hv=>least v (List.mem_reverse.mp hv)
  obtain⟨x2,t,e2,o,_⟩:=q (by rw[List.length_reverse,ll])
  have ey:x2=y:=by
   rw[e] at e2
   simp at e2
   exact e2.1.symm
  have nd:=(List.nodup_cons.mp rg.nd).2
  rw[e] at nd
  have ne:x≠y:=fun z=>(List.nodup_cons.mp nd).1 (by rw[z];simp)
  omega
 refine⟨m,em,rg,cano,fun h tl r=>?_,fun h tl r cn el=>?_⟩
 ·obtain⟨h',tl',r',cn,len,_⟩:=r.cano T.sy
  have:=(low h' tl' r' cn.1).1
  omega
 ·obtain⟨_,q⟩:=low h tl r cn.1
  obtain⟨x,t,e,o,s2⟩:=q (by omega)
  rcases o with o | ⟨o1,o2⟩
  ·exact .inl o
  ·refine .inr ⟨o1,?_⟩
   rw[e]
   rcases Nat.lt_or_eq_of_le o2 with z | z
   ·exact .inl z
   ·refine .inr ⟨z,?_⟩
    have:=lx _ (s2 z.symm o1.symm)
    rw[em] at this
    refine lle_init ?_ this
    rw[e] at el
    simpa using el.symm
end
section
variable {R:Nat->Nat->Prop} {rows:Nat->List Nat} {n:Nat}
end
end Lr
namespace L3
open PySem PySem.Spec PyProof.Rows L2
section
variable {own:List Str} {js:List Nat} {g:TG} {te:TE} {σ:L2.St} {Q:VK} {H1:Hp}
end
/-- the list at l holds the lists at as, each its own, with these rows -/
structure Bes (H:Hp) (l:Addr) (as:List Addr) (rows:Nat->List V):Prop where
 top:H l=some (.lst (as.map V.ref))
 nd:as.Nodup
 own:l ∉ as
 row:∀ i a,as[i]?=some a->H a=some (.lst (rows i))
theorem Bes.new {H:Hp} {l:Addr} {as:List Addr} (h:H l=some (.lst (as.map V.ref))) (nd:as.Nodup) (no:l ∉ as) (r:∀ a ∈ as,H a=some (.lst [])):Bes H l as fun _=>[]:=⟨h,nd,no,fun _ a e=>r a (List.mem_of_getElem? e)⟩
theorem Bes.same {H H':Hp} {l:Addr} {as:List Addr} {rows:Nat->List V} (b:Bes H l as rows) (S:Same H H'):Bes H' l as rows:=⟨S _ _ b.top,b.nd,b.own,fun i a e=>S _ _ (b.row i a e)⟩
theorem Bes.ix {H:Hp} {l:Addr} {as:List Addr} {rows:Nat->List V} (b:Bes H l as rows) {i:Nat} (h:i < as.length):∃ a,as[i]?=some a∧(as.map V.ref)[i]?=some (.ref a)∧H a=some (.lst (rows i)):=by
 refine⟨as[i],List.getElem?_eq_getElem h,by rw[List.getElem?_map,List.getElem?_eq_getElem h];rfl,b.row i _ (List.getElem?_eq_getElem h)⟩
theorem Bes.put {H H':Hp} {l:Addr} {as:List Addr} {rows:Nat->List V} (b:Bes H l as rows) {i:Nat} {a:Addr} {xs:List V} (ha:as[i]?=some a) (B:But a H H') (e:H' a=some (.lst xs)):Bes H' l as fun j=>if j=i then xs else rows j:=by
 have nl:l≠a:=fun z=>b.own (z ▸ List.mem_of_getElem? ha)
 refine⟨B _ _ nl b.top,b.nd,b.own,fun j c hc=>?_⟩
 by_cases z:j=i
 ·subst z
  rw[hc] at ha;cases ha
  rw[if_pos rfl];exact e
 ·rw[if_neg z]
  refine B _ _ (fun x=>z ?_) (b.row j c hc)
  subst x
  obtain⟨h1,e1⟩:=List.getElem?_eq_some_iff.mp hc
  obtain⟨h2,e2⟩:=List.getElem?_eq_some_iff.mp ha
  have pw:=List.pairwise_iff_getElem.mp b.nd
  rcases Nat.lt_trichotomy j i with z | z | z
  ·exact absurd (e1.trans e2.symm) (pw j i h1 h2 z)
  ·exact z
  ·exact absurd (e2.trans e1.symm) (pw i j h2 h1 z)
/-- two ties with the same ends are one -/
theorem tie_oneB {n:Int} {ts:List Tie} (ok:WebOk n ts) {k k' a b:Nat} {l l':Int} (hk:k < ts.length) (hk':k' < ts.length) (h:(a,b,l) ∈ arcs2 (tieAt ts k)) (h':(a,b,l') ∈ arcs2 (tieAt ts k')):k=k':=by
 have t1:=ok.tie _ (tieAt_in hk).2
 have t2:=ok.tie _ (tieAt_in hk').2
 have E:=fun z=>ends_eq t1.1 t1.2.1 t2.1 t2.2.1 z
 have e:(tieAt ts k).1=(tieAt ts k').1∧(tieAt ts k).2.1=(tieAt ts k').2.1:=by
  rcases arcs2_mem.mp h with e | e <;> rcases arcs2_mem.mp h' with e' | e' <;> injection e with e1 e2 <;> injection e2 with e2 _ <;> injection e' with e3 e4 <;> injection e4 with e4 _
  ·exact E (.inl ⟨e1.symm.trans e3,e2.symm.trans e4⟩)
  ·exact E (.inr ⟨e1.symm.trans e3,e2.symm.trans e4⟩)
  ·exact E (.inr ⟨e2.symm.trans e4,e1.symm.trans e3⟩)
  ·exact E (.inl ⟨e2.symm.trans e4,e1.symm.trans e3⟩)
 exact tie_ends ok hk hk' e.1 e.2
/-- m unlike places beside j -/
def Uniq (ts:List Tie) (ks:List Nat) (j m:Nat):Prop:=∃ cs:List Nat,cs.Nodup∧cs.length=m∧∀ c ∈ cs,∃ k ∈ ks,∃ l,(j,c,l) ∈ arcs2 (tieAt ts k)
theorem Uniq.nil {ts:List Tie} {ks:List Nat} {j:Nat}:Uniq ts ks j 0:=⟨[],List.nodup_nil,rfl,fun c h=>by cases h⟩
theorem Uniq.same {ts:List Tie} {ks ks':List Nat} {j m:Nat} (h:Uniq ts ks j m) (s:∀ k ∈ ks,k ∈ ks'):Uniq ts ks' j m:=let ⟨cs,h1,h2,h3⟩:=h;⟨cs,h1,h2,fun c hc=>let ⟨k,hk,r⟩:=h3 c hc;⟨k,s k hk,r⟩⟩
theorem Uniq.more {n:Int} {ts:List Tie} {ks:List Nat} {j m c k:Nat} {l:Int} (ok:WebOk n ts) (ko:∀ k ∈ ks,k < ts.length) (hk:k < ts.length) (nk:k ∉ ks) (h:Uniq ts ks j m) (e:(j,c,l) ∈ arcs2 (tieAt ts k)):Uniq ts (ks++[k]) j (m + 1):=by
 obtain⟨cs,h1,h2,h3⟩:=h
 have nc:c ∉ cs:=fun z=>by
  obtain⟨k',hk',l',e'⟩:=h3 c z
  exact nk (tie_oneB ok hk (ko k' hk') e e' ▸ hk')
 refine⟨cs++[c],List.nodup_append.mpr ⟨h1,(by simp),fun a ha b hb x=>?_⟩,by rw[List.length_append,h2];rfl,fun d hd=>?_⟩
 ·have:b=c:=by simpa using hb
  subst this;subst x;exact nc ha
 ·rcases List.mem_append.mp hd with z | z
  ·obtain⟨k',hk',r⟩:=h3 d z
   exact⟨k',List.mem_append_left _ hk',r⟩
  ·rw[List.mem_singleton.mp z]
   exact⟨k,List.mem_append_right _ List.mem_cons_self,l,e⟩
theorem Uniq.few {n:Int} {ts:List Tie} {ks:List Nat} {j m:Nat} (ok:WebOk n ts) (ko:KeepOk ts.length ks) (h:Uniq ts ks j m):m≤n.toNat:=by
 obtain⟨cs,h1,h2,h3⟩:=h
 rw[← h2]
 exact Peel.len_below _ cs h1 fun c hc=>by
  obtain⟨k,hk,l,e⟩:=h3 c hc
  exact (arcs_in ok ko _ _ _ (arcs_mem.mpr ⟨k,hk,e⟩)).2
section
variable {X:Cx}
end
end L3
namespace L3
open PySem PySem.Spec PyProof.Rows L2
def Adj (ts:List Tie) (ks:List Nat) (u v:Nat):Prop:=∃ k ∈ ks,(u,v,(tieAt ts k).2.2) ∈ arcs2 (tieAt ts k)
def en (ts:List Tie) (k:Nat):Nat × Nat:=((tieAt ts k).1.toNat,(tieAt ts k).2.1.toNat)
section
variable {n:Int} {ts:List Tie} {ks:List Nat} {u v k:Nat}
end
theorem is_nkeepL {K:PySem.W.Frag} {H:Hp} {p:Addr} {ks:List Nat} (h:H p=some (.tup (natV ks))):Is K H (keepD ks) (.ref p):=⟨p,_,rfl,h,by rw[natV_keep];exact IsAll.ints _⟩
def IsLR (ts:List Tie) (ks:List Nat) (h:Nat) (tl:List Nat):Prop:=Lr.Rg (Adj ts ks) h tl∧Lr.Cano h tl∧(∀ h' tl',Lr.Rg (Adj ts ks) h' tl'->tl.length≤tl'.length)∧∀ h' tl',Lr.Rg (Adj ts ks) h' tl'->Lr.Cano h' tl'->tl'.length=tl.length->Lr.lle (h::tl) (h'::tl')
theorem lle_anti:∀ {l m:List Nat},l.length=m.length->Lr.lle l m->Lr.lle m l->l=m
 | [],[],_,_,_=>rfl
 | [],_::_,e,_,_=>by cases e
 | _::_,[],e,_,_=>by cases e
 | a::l,b::m,e,h1,h2=>by
  rcases h1 with z | ⟨z,h1⟩
  ·rcases h2 with y | ⟨y,_⟩ <;> omega
  ·subst z
   rcases h2 with y | ⟨_,h2⟩
   ·omega
   ·rw[lle_anti (by simpa using e) h1 h2]
theorem IsLR.one {ts:List Tie} {ks:List Nat} {h h':Nat} {tl tl':List Nat} (a:IsLR ts ks h tl) (b:IsLR ts ks h' tl'):h::tl=h'::tl':=by
 have l1:=a.2.2.1 _ _ b.1
 have l2:=b.2.2.1 _ _ a.1
 have e:tl.length=tl'.length:=Nat.le_antisymm l1 l2
 exact lle_anti (by simp [e]) (a.2.2.2 _ _ b.1 b.2.1 e.symm) (b.2.2.2 _ _ a.1 a.2.1 e)
end L3
namespace L3
open PySem PySem.Spec PyProof.Rows L2
section
variable {J:It} {g:TG} {tt:TT} {te:TE} {own:List Str} {js:List Nat} {σ:L2.St} {H1:Hp} {Q:VK}
end
end L3
namespace L3
end L3
namespace L3
open PySem PySem.Spec PyProof.Rows L2
theorem Bes.but {H H':Hp} {l c:Addr} {as:List Addr} {rows:Nat->List V} (b:Bes H l as rows) (nl:l≠c) (na:c ∉ as) (B:But c H H'):Bes H' l as rows:=⟨B _ _ nl b.top,b.nd,b.own,fun i a e=>B _ _ (fun z=>na (z ▸ List.mem_of_getElem? e)) (b.row i a e)⟩
theorem natV_length (a:List Nat):(natV a).length=a.length:=by unfold natV;rw[List.length_map]
theorem get_set (E:List (Option Nat)) {i v:Nat} (x:Nat) (h:i < E.length):Far.get (E.set i (some x)) v=if v=i then some x else Far.get E v:=by
 unfold Far.get
 rw[List.getD_eq_getElem?_getD,List.getD_eq_getElem?_getD]
 by_cases z:v=i
 ·subst z
  rw[if_pos rfl,List.getElem?_set_self h];rfl
 ·rw[if_neg z,List.getElem?_set_ne (Ne.symm z)]
section
variable {n g:Int} {ts:List Tie} {ks:List Nat} {k:Nat}
end
def tupH (hs:List Int):PyData:=.tuple (hs.map .int)
end L3
namespace Far
theorem Best.one {B:List Arc} (K:Keys B) {n s:Nat} {cs cs':List (Option (Int × Int))} {as as':List (Option Nat)} (h:Best B n s cs as) (h':Best B n s cs' as'):as=as':=by
 have ec:∀ v,get cs v=get cs' v:=fun v=>by
  have e:=(h.dst K v).unique (h'.dst K v)
  cases e1:get cs v with
  | none =>
   cases e2:get cs' v with
   | none=>rfl
   | some c=>rw[e1,e2] at e;cases e
  | some c =>
   cases e2:get cs' v with
   | none=>rw[e1,e2] at e;cases e
   | some d =>
    rw[e1,e2] at e
    have a:=h.small K e1
    have b:=h'.small K e2
    rw[comb_inj ⟨a.1,Int.lt_trans a.2 (by decide)⟩ ⟨b.1,Int.lt_trans b.2 (by decide)⟩ (Option.some.inj e)]
 have ea:∀ {cs cs':List (Option (Int × Int))} {as as':List (Option Nat)},Best B n s cs as->Best B n s cs' as'->(∀ v,get cs v=get cs' v)->∀ v u,get as v=some u->get as' v=some u:=fun h h' ec v u e=>by
  obtain⟨l,k,cu,m,e1,e2⟩:=h.arc v u e
  exact h'.tree K m (by rw[← ec];exact e1) (by rw[← ec];exact e2)
 refine List.ext_getElem? fun v=>?_
 by_cases hv:v < n
 ·have g:get as v=get as' v:=by
   cases e1:get as v with
   | some u=>exact (ea h h' ec v u e1).symm
   | none =>
    cases e2:get as' v with
    | none=>rfl
    | some u=>rw[ea h' h (fun v=>(ec v).symm) v u e2] at e1;cases e1
  have l1:=h.alen
  have l2:=h'.alen
  unfold get at g
  rw[List.getD_eq_getElem?_getD,List.getD_eq_getElem?_getD,List.getElem?_eq_getElem (by omega),List.getElem?_eq_getElem (by omega)] at g
  rw[List.getElem?_eq_getElem (by omega),List.getElem?_eq_getElem (by omega)]
  exact congrArg some g
 ·rw[List.getElem?_eq_none (by have:=h.alen;omega),List.getElem?_eq_none (by have:=h'.alen;omega)]
end Far
namespace L3
open PySem PySem.Spec PyProof.Rows L2
section
variable {n:Int} {ts:List Tie}
end
end L3
namespace L2
open PySem PySem.Spec PyProof.Rows
section
variable {X:Cx} {k v:Expr} {pos:Pos} {tk tv:TE}
end
end L2
namespace HT
open PySem PyProof.Rows
open Sem (wp)
theorem tuple_mulW1 (l:Addr) (items:Array Value) (n:Nat) (u:Tok) (dd:Option Addr) (sl:Array (Option Value)) :
  Meets (Builtin.«tuple.__mul__» ⟨[.ref l,.int 1 u],[]⟩) (fun _ R s=>s.heap.get? l=some { cls:=.type "tuple",dict:=dd,data:=.seq items n,slots:=sl }∧R (.ok (.ret (Value.ref l))) s) :=
 .of_wp fun prog w A R s h=>by
  obtain⟨hp,g,d,tk,os⟩:=s;obtain⟨hl,h⟩:=h;have f1:=AutoSeq1.idx_int;have f2:=AutoSeq1.sub_tuple_tuple
  have e:(items.isEmpty || (1:Int) == 1)=true:=by simp
  wp_walk using wpAny_loadPart' hl
  first | exact⟨_,rfl,h⟩ | trace_state
section
variable {prog:Program} {w:World} {A:Around} {E:Value->Shared->Prop} {s:Shared}
theorem mul_tuple1 {l:Addr} {items:Array Value} {u:Tok} {Q:Value->Shared->Prop} (hl:IsTup s.heap l items) (h:Q (.ref l) s):wpAny (model prog w) A (binaryOp .Mult (.ref l) (.int 1 u)) Q E s:=by
 obtain⟨⟨cls,dd,data,sl⟩,ho,hc,n,hd⟩:=id hl
 simp only at hc hd
 subst hc hd
 exact wpAny_binaryOp_repeat_ref (T:="tuple") (U:="int") (by decide) ⟨_,ho,rfl⟩ (fun s'=>typeIs_int s' 1 u) noFill_tuple_mul F.fills_int_mul F.slot_int_rmul repeat_tuple F.slot_int_index.lookup
  (call_meets F.slot_int_rmul (typeIs_int s 1 u) F.entry_int_rmul (F.args_int_rmul_2 _ _) (int_rmul_tuple 1 u l items n dd sl)
   ⟨ho,rfl,⟨_,ho,rfl⟩,call_meets F.slot_tuple_mul ⟨_,ho,rfl⟩ F.entry_tuple_mul (F.args_tuple_mul_2 _ _) (tuple_mulW1 l items n u dd sl) ⟨ho,h⟩⟩)
end
end HT
namespace L3
open PySem PySem.Spec PyProof.Rows L2
/-- t * k, k one or more -/
def rRepTn:R2:=fun x y H Q=>∃ a k xs,x=.ref a∧y=.int k∧H a=some (.tup xs)∧1≤k∧k≤1000∧xs.length * k.toNat≤1000∧xs≠[]∧∀ p H',Same H H'->H' p=some (.tup (List.replicate k.toNat xs).flatten)->Q (.ref p) H'
theorem op_repTn {X:Cx}:OpR X (binaryOp .Mult) rRepTn:=by
 intro pins s σ H x y v u Q I rx ry h
 obtain⟨a,k,xs,rfl,rfl,ha,k1,k3,hz,hne,q⟩:=h
 by_cases k2:2≤k
 ·exact op_repT pins s σ H _ _ v u Q I rx ry ⟨a,k,xs,rfl,rfl,ha,k2,k3,hz,hne,q⟩
 have e:k=1:=by omega
 subst e
 cases rx
 obtain⟨t,rfl⟩:=ry
 obtain⟨its,rv,pt,hzz⟩:=I.tuple (SqT.of ha)
 refine HT.mul_tuple1 pt ?_
 refine⟨.ref a,H,I,rfl,q a H (Same.refl H) ?_⟩
 rw[ha]
 show some (HO.tup xs)=some (HO.tup (List.replicate 1 xs).flatten)
 simp
end L3
namespace L3
open PySem PySem.Spec PyProof.Rows L2
def PapV (H:Hp) (lo hi m:Nat) (v:V):Prop:=∃ p xs,v=.ref p∧H p=some (.tup xs)∧xs.length≤m∧∀ u ∈ xs,RowV lo hi H u
theorem PapV.tk {H H':Hp} {lo hi m:Nat} {v:V} (k:TupKeep H H') (h:PapV H lo hi m v):PapV H' lo hi m v:=let ⟨p,xs,e,e1,l,r⟩:=h;⟨p,xs,e,k _ _ e1,l,fun u hu=>(r u hu).tk k⟩
theorem Same.tk {H H':Hp} (s:Same H H'):TupKeep H H':=fun a xs e=>s _ _ e
theorem cut_part (xs:List V) (lo hi:Option Int):(cutV xs lo hi).length≤xs.length∧∀ u ∈ cutV xs lo hi,u ∈ xs:=by
 unfold cutV
 refine⟨by rw[List.length_take,List.length_drop];omega,fun u hu=>List.mem_of_mem_drop (List.mem_of_mem_take hu)⟩
end L3
namespace L3
open PySem PySem.Spec PyProof.Rows L2
section
variable {near kept:Nat->Nat->Option Int} {u v:Nat} {r:List (Nat × Nat)} {m:Int × Int × Int} {x y:Int}
end
/-- a web and a keep of it, a tuple or a list -/
def WKE (K:PySem.W.Frag) (H:Hp) (n:Int) (ts:List Tie) (ks:List Nat) (wv:V) (kp:Addr) (tp:Bool):Prop:=Is K H (webD n ts) wv∧WebOk n ts∧H kp=some (if tp=true then .tup (natV ks) else .lst (natV ks))∧KeepOk ts.length ks
theorem WKE.same {K:PySem.W.Frag} {H H':Hp} {n:Int} {ts:List Tie} {ks:List Nat} {wv:V} {kp:Addr} {tp:Bool} (h:WKE K H n ts ks wv kp tp) (s:Same H H'):WKE K H' n ts ks wv kp tp:=⟨Is.same s _ h.1,h.2.1,s _ _ h.2.2.1,h.2.2.2⟩
section
variable {g:TG} {tt:TT} {te:TE} {own:List Str} {js:List Nat} {σ:L2.St} {H1:Hp} {Q:VK}
end
end L3
namespace L3
open PySem PySem.Spec PyProof.Rows L2
section
variable {n:Int} {ts:List Tie} {ks:List Nat}
end
section
variable {own:List Str} {js:List Nat} {g:TG} {te:TE} {σ:L2.St} {Q:VK} {H1:Hp}
end
end L3
namespace L3
open PySem PySem.Spec PyProof.Rows L2
section
variable {n:Int} {ts:List Tie}
def hN (hs:List Int) (v:Nat):Int:=hs.getD v 0
end
theorem iteTe {b:Bool} {A B:Prop} (e:b=true) (h:A):if b=true then A else B:=by rw[if_pos e];exact h
theorem iteFe {b:Bool} {A B:Prop} (e:b=false) (h:B):if b=true then A else B:=by rw[e];exact h
end L3
namespace Srt
open PySem PyProof.Rows
section
variable {prog:Program} {w:World} {A:Around} {E:Value->Shared->Prop} {s:Shared} {a:Addr}
end
end Srt
namespace L3
open PySem PySem.Spec PyProof.Rows L2
section
variable {X:Cx}
end
end L3
namespace L3
open PySem PySem.Spec PyProof.Rows L2
section
variable {n:Int} {ts:List Tie}
/-- a way, or None -/
def WyV (H:Hp) (ts:List Tie) (o:Option (List Nat)) (v:V):Prop:=(o=none∧v=.non)∨∃ t ws,o=some ws∧v=.ref t∧H t=some (.tup (natV ws))∧ws.length≤24∧linked ts ws
theorem WyV.tk {H H':Hp} {o:Option (List Nat)} {v:V} (k:TupKeep H H') (h:WyV H ts o v):WyV H' ts o v:=by
 rcases h with h | ⟨t,ws,e,e1,e2,z⟩
 ·exact .inl h
 ·exact .inr ⟨t,ws,e,e1,k _ _ e2,z⟩
theorem WyV.same {H H':Hp} {o:Option (List Nat)} {v:V} (k:Same H H') (h:WyV H ts o v):WyV H' ts o v:=h.tk fun _ _ e=>k _ _ e
def wyD:Option (List Nat)->PyData
 | none=>.none
 | some ws=>tupH (keepI ws)
theorem WyV.is {K:PySem.W.Frag} {H:Hp} {o:Option (List Nat)} {v:V} (h:WyV H ts o v):Is K H (wyD o) v:=by
 rcases h with ⟨rfl,rfl⟩ | ⟨t,ws,rfl,rfl,e2,z⟩
 ·exact rfl
 ·exact⟨t,_,rfl,e2,by rw[natV_keep];exact IsAll.ints _⟩
end
end L3
namespace L3
open PySem PySem.Spec PyProof.Rows L2
theorem cut_tail (ws:List Nat):cutV (natV ws) (some 1) none=natV (ws.drop 1):=by
 unfold cutV
 have h1:HT.sIx (natV ws).length (natV ws).length none=(natV ws).length:=rfl
 rw[h1]
 by_cases z:ws=[]
 ·subst z;rfl
 ·have pos:=List.length_pos_iff.mpr z
  have lenW:(natV ws).length=ws.length:=by unfold natV;rw[List.length_map]
  have h0:HT.sIx (natV ws).length 0 (some 1)=1:=by
   unfold HT.sIx
   simp
   omega
  rw[h0,List.take_of_length_le (by rw[List.length_drop];exact Nat.le_refl _)]
  unfold natV
  rw[List.map_drop]
end L3
namespace L3
open PySem PySem.Spec PyProof.Rows L2
end L3
namespace Z3
open PySem
section
variable {prog:Program} {w:World} {A:Around} {E:Value->Shared->Prop} {s:Shared}
end
end Z3
namespace L3
open PySem PySem.Spec PyProof.Rows L2
end L3
namespace L3
open PySem PySem.Spec PyProof.Rows L2
def isE (ts:List Tie) (u v:Int) (k:Nat):Bool:=decide ((tieAt ts k).1=min u v) && decide ((tieAt ts k).2.1=max u v)
def lenI (ts:List Tie) (ks:List Nat) (u v:Int):Option Int:=(ks.find? (isE ts u v)).map fun k=>(tieAt ts k).2.2
section
variable {n:Int} {ts:List Tie} {ks:List Nat}
/-- the sum of a row's steps -/
def stepY (ts:List Tie) (ks:List Nat) (ws:List Int) (j:Nat):Option Int:=lenI ts ks (ws.getD j 0) (ws.getD (j + 1) 0)
def sumY (ts:List Tie) (ks:List Nat) (ws:List Int):Nat->Option Int
 | 0=>some 0
 | j + 1=>(sumY ts ks ws j).bind fun x=>(stepY ts ks ws j).map fun l=>x + l
def rightI (n:Int) (ts:List Tie) (ks:List Nat) (ws:List Int):Option Int:=if (ws≠[]∧ws.Nodup)∧ws.all (fun i=>decide (0≤i) && decide (i < n))=true then sumY ts ks ws (ws.length - 1) else none
noncomputable def wyK (ts:List Tie) (ks:List Nat) (a b:Nat):Option (List Nat):=@dite _ (∃ ws,Far.MinW (arcsB ts ks) a b ws) (Classical.propDecidable _) (fun h=>some (Classical.choose h)) (fun _=>none)
theorem WayM.v {H:Hp} {a b:Nat} {v:V} (h:WayM H ts ks a b v):WayV H (arcs ts ks) a b v:=by
 rcases h with h | ⟨t,ws,x,e,e1,l,m,tr,d⟩
 ·exact .inl h
 ·exact .inr ⟨t,ws,x,e,e1,l,tr,d⟩
noncomputable def dK (ts:List Tie) (ks:List Nat) (u v:Nat):Option Int:=Classical.epsilon fun o=>Far.Dst (arcs ts ks) u v o
noncomputable def dKL (n:Int) (ts:List Tie) (ks:List Nat) (u:Nat):List (Option Int):=(List.range n.toNat).map fun v=>dK ts ks u v
/-- heights of a tie -/
noncomputable def htK (n:Int) (ts:List Tie) (ks:List Nat) (t:Int) (k:Nat):List Int:=(dKL n ts ks (tieAt ts k).1.toNat).map (capO (t * (tieAt ts k).2.2 + 1))
end
def winK (ts:List Tie) (ks:List Nat) (t:Int) (k:Nat):Prop:=withinB t (tieAt ts k).2.2 (gO ts ks k)=true
noncomputable def wyT (ts:List Tie) (ks:List Nat) (k:Nat):Option (List Nat):=wyK ts ks (tieAt ts k).1.toNat (tieAt ts k).2.1.toNat
/-- the first that is too far -/
def FirstOut (ts:List Tie) (ks:List Nat) (t:Int) (i k:Nat):Prop:=(outs ts.length ks)[i]?=some k∧¬ winK ts ks t k∧∀ j k',j < i->(outs ts.length ks)[j]?=some k'->winK ts ks t k'
theorem FirstOut.one {ts:List Tie} {ks:List Nat} {t:Int} {i k i' k':Nat} (h:FirstOut ts ks t i k) (h':FirstOut ts ks t i' k'):k=k':=by
 rcases Nat.lt_trichotomy i i' with z | z | z
 ·exact absurd (h'.2.2 i k z h.1) h.2.1
 ·subst z
  exact Option.some.inj (h.1.symm.trans h'.1)
 ·exact absurd (h.2.2 i' k' z h'.1) h'.2.1
inductive TdD (n:Int) (ts:List Tie) (ks:List Nat) (t:Int):PyData->Prop
 | keeps:allIn ts ks t->TdD n ts ks t (.tuple [.str "keeps",.tuple ((outs ts.length ks).map fun k=>wyD (wyT ts ks k))])
 | far {i k:Nat}:FirstOut ts ks t i k->TdD n ts ks t (.tuple [.str "far",.int (k:Int),tupH (htK n ts ks t k)])
theorem FirstOut.not {ts:List Tie} {ks:List Nat} {t:Int} {i k:Nat} (h:FirstOut ts ks t i k):¬ allIn ts ks t:=fun a=>h.2.1 (a k (List.mem_of_getElem? h.1))
theorem TdD.one {n:Int} {ts:List Tie} {ks:List Nat} {t:Int} {d d':PyData} (h:TdD n ts ks t d) (h':TdD n ts ks t d'):d=d':=by
 cases h with
 | keeps a =>
  cases h' with
  | keeps _=>rfl
  | far f=>exact absurd a f.not
 | far f =>
  cases h' with
  | keeps a=>exact absurd a f.not
  | far f'=>rw[f.one f']
end L3
namespace L3
open PySem PySem.Spec PyProof.Rows L2
/-- a list of pairs -/
def PairsL (H:Hp) (xs ys zs:List V) (m:Nat):Prop:=zs.length=m∧∀ (j:Nat) (z:V),zs[j]?=some z->∃ (T:Addr) (x y:V),z=V.ref T∧xs[j]?=some x∧ys[j]?=some y∧H T=some (.tup [x,y])
theorem PairsL.tk {H H':Hp} {xs ys zs:List V} {m:Nat} (k:TupKeep H H') (h:PairsL H xs ys zs m):PairsL H' xs ys zs m:=⟨h.1,fun j z e=>let ⟨T,x,y,a,b,c,d⟩:=h.2 j z e;⟨T,x,y,a,b,c,k _ _ d⟩⟩
section
variable {X:Cx} {pins:List (Addr × Obj)} {σ:L2.St}
end
end L3
namespace L3
open PySem PySem.Spec PyProof.Rows L2
end L3
namespace L3
open PySem PySem.Spec PyProof.Rows L2
section
variable {n:Int} {ts:List Tie} {ks:List Nat}
end
end L3
namespace L3
open PySem PySem.Spec PyProof.Rows L2
section
variable {X:Cx}
end
end L3
namespace L3
open PySem PySem.Spec PyProof.Rows L2
def leadsI (n:Int) (ts:List Tie) (ks:List Nat) (a b:Int) (ws:List Int):Bool:=(rightI n ts ks ws).isSome && (decide (ws.getD 0 0=a) && decide (ws.getD (ws.length - 1) 0=b))
def goodW (n:Int) (ts:List Tie) (ks:List Nat) (t:Int) (k:Nat) (ws:List Int):Bool:=leadsI n ts ks (tieAt ts k).1 (tieAt ts k).2.1 ws && decide ((rightI n ts ks ws).getD 0≤t * (tieAt ts k).2.2)
def beyondI (n:Int) (ts:List Tie) (ks:List Nat) (t:Int) (k:Nat) (hs:List Int):Bool:=holdB n ts ks hs && decide (acrossI ts hs k > t * (tieAt ts k).2.2)
def waysB (n:Int) (ts:List Tie) (ks:List Nat) (t:Int) (W:List (List Int)):Bool:=decide (W.length=(outs ts.length ks).length) && (List.range (outs ts.length ks).length).all fun i=>goodW n ts ks t ((outs ts.length ks).getD i 0) (W.getD i [])
def farB (n:Int) (ts:List Tie) (ks:List Nat) (t:Int) (k:Int) (hs:List Int):Bool:=(decide (0≤k) && decide (k < (ts.length:Int))) && (!decide (k.toNat ∈ ks) && beyondI n ts ks t k.toNat hs)
inductive Ppr where
 | keeps (W:List (List Int)):Ppr
 | far (k:Int) (hs:List Int):Ppr
def Ppr.d:Ppr->PyData
 | .keeps W=>.tuple [.str "keeps",.tuple (W.map tupH)]
 | .far k hs=>.tuple [.str "far",.int k,tupH hs]
def Ppr.ok:Ppr->Prop
 | .keeps W=>W.length≤1000∧∀ ws ∈ W,ws.length≤40
 | .far _ hs=>hs.length≤1000
def Ppr.right (n:Int) (ts:List Tie) (ks:List Nat) (t:Int):Ppr->Bool
 | .keeps W=>waysB n ts ks t W
 | .far k hs=>farB n ts ks t k hs
end L3
namespace L3
open PySem PySem.Spec PyProof.Rows L2
def Cnt (M:List Nat) (m:Nat):Prop:=∃ ms:List Nat,ms.Nodup∧(∀ x,x ∈ ms↔x ∈ M)∧ms.length=m
theorem Cnt.one {M:List Nat} {m m':Nat} (h:Cnt M m) (k:Cnt M m'):m=m':=by
 obtain⟨ms,n1,e1,rfl⟩:=h
 obtain⟨ms',n2,e2,rfl⟩:=k
 exact ((List.perm_ext_iff_of_nodup n1 n2).mpr fun x=>(e1 x).trans (e2 x).symm).length_eq
theorem Cnt.range (n:Nat):Cnt (List.range n) n:=⟨List.range n,List.nodup_range,fun _=>Iff.rfl,List.length_range⟩
theorem Cnt.join {M:List Nat} {m p q:Nat} (h:Cnt M m) (hp:p ∈ M) (hq:q ∈ M) (ne:p≠q):1≤m∧Cnt (Frs.join M p q) (m - 1):=by
 obtain⟨ms,n1,e1,rfl⟩:=h
 have hqs:=(e1 q).mpr hq
 refine⟨List.length_pos_iff.mpr (List.ne_nil_of_mem hqs),ms.erase q,n1.erase q,fun x=>?_,List.length_erase_of_mem hqs⟩
 rw[n1.mem_erase_iff,e1]
 unfold Frs.join
 rw[List.mem_map]
 constructor
 ·rintro ⟨h1,h2⟩
  exact⟨x,h2,if_neg h1⟩
 ·rintro ⟨y,h1,h2⟩
  by_cases c:y=q
  ·rw[if_pos c] at h2;subst h2;exact⟨ne,hp⟩
  ·rw[if_neg c] at h2;subst h2;exact⟨c,h1⟩
theorem getD_mem {M:List Nat} {u:Nat} (h:u < M.length):M.getD u 0 ∈ M:=by
 rw[List.getD_eq_getElem?_getD,List.getElem?_eq_getElem h];exact List.getElem_mem h
theorem Cnt.like {M M':List Nat} {m:Nat} (h:Cnt M m) (l:M.length=M'.length) (e:∀ u v,u < M.length->v < M.length->(M.getD u 0=M.getD v 0↔M'.getD u 0=M'.getD v 0)):Cnt M' m:=by
 obtain⟨ms,n1,e1,rfl⟩:=h
 have ix:∀ x ∈ M,M.idxOf x < M.length∧M.getD (M.idxOf x) 0=x:=fun x hx=>by
  have h1:=List.idxOf_lt_length_of_mem hx
  exact⟨h1,by rw[List.getD_eq_getElem?_getD,List.getElem?_eq_getElem h1];exact List.getElem_idxOf h1⟩
 refine⟨ms.map fun x=>M'.getD (M.idxOf x) 0,?_,fun x=>?_,List.length_map _⟩
 ·rw[List.Nodup,List.pairwise_map]
  refine List.Pairwise.imp_of_mem ?_ n1
  intro a b ha hb ne z
  obtain⟨a1,a2⟩:=ix a ((e1 a).mp ha)
  obtain⟨b1,b2⟩:=ix b ((e1 b).mp hb)
  have:=(e _ _ a1 b1).mpr z
  rw[a2,b2] at this
  exact ne this
 ·rw[List.mem_map]
  constructor
  ·rintro ⟨y,hy,rfl⟩
   exact getD_mem (by rw[← l];exact (ix y ((e1 y).mp hy)).1)
  ·intro hx
   obtain⟨i,hi,ei⟩:=List.getElem_of_mem hx
   have hi':i < M.length:=by omega
   have mi:=getD_mem hi'
   refine⟨M.getD i 0,(e1 _).mpr mi,?_⟩
   obtain⟨a1,a2⟩:=ix _ mi
   have:=(e _ _ a1 hi').mp a2
   rw[this,List.getD_eq_getElem?_getD,List.getElem?_eq_getElem hi];exact ei
theorem Cnt.set {M:List Nat} {m:Nat} (h:Cnt M m):HT.setN (keepI M) (keepI M).length=m:=by
 obtain⟨ms,n1,e1,rfl⟩:=h
 obtain⟨h1,h2⟩:=firstMet_nodup (fun i=>(keepI M).getD i 0) (keepI M).length
 rw[L3.range_getD (keepI M) 0] at h2
 have nd:(keepI ms).Nodup:=by
  unfold keepI
  rw[List.Nodup,List.pairwise_map]
  exact n1.imp fun ne z=>ne (by omega)
 have e:((firstMet (fun i=>(keepI M).getD i 0) (keepI M).length)).Perm (keepI ms):=(List.perm_ext_iff_of_nodup h1 nd).mpr fun x=>by
  rw[h2]
  unfold keepI
  rw[List.mem_map,List.mem_map]
  exact⟨fun ⟨y,a,b⟩=>⟨y,(e1 y).mpr a,b⟩,fun ⟨y,a,b⟩=>⟨y,(e1 y).mp a,b⟩⟩
 have:=e.length_eq
 show (firstMet (fun i=>(keepI M).getD i 0) (keepI M).length).length=ms.length
 rw[this];unfold keepI;rw[List.length_map]
theorem rg_snoc {ts:List Tie} {k:Nat}:∀ {os done:List Nat},rgN ts done (os++[k])=rgN ts done os++(if cnB ts (done++os) k=true then [] else [k])
 | [],done=>by
  show (if cnB ts done k=true then rgN ts (done++[k]) [] else k::rgN ts (done++[k]) [])=[]++_
  rw[List.append_nil,List.nil_append]
  split <;> rfl
 | j::r,done=>by
  have ih:=rg_snoc (ts:=ts) (k:=k) (os:=r) (done:=done++[j])
  rw[List.append_assoc] at ih
  show (if cnB ts done j=true then rgN ts (done++[j]) (r++[k]) else j::rgN ts (done++[j]) (r++[k]))=(if cnB ts done j=true then rgN ts (done++[j]) r else j::rgN ts (done++[j]) r)++_
  by_cases c:cnB ts done j=true
  ·rw[if_pos c,if_pos c,ih];rfl
  ·rw[if_neg c,if_neg c,ih];rfl
theorem rev_ind {P:List Nat->Prop} (h0:P []) (h1:∀ l k,P l->P (l++[k])) (l:List Nat):P l:=by
 have:∀ l,P (List.reverse l):=fun l=>by
  induction l with
  | nil=>exact h0
  | cons k r ih=>rw[List.reverse_cons];exact h1 _ _ ih
 have:=this l.reverse
 rwa [List.reverse_reverse] at this
/-- marks for a row of ties, and how many are unlike -/
theorem marks_of {n:Int} {ts:List Tie} (ok:WebOk n ts) (os:List Nat):(∀ k ∈ os,k < ts.length)->∃ M,Frs.Mk n.toNat (os.map (t2 ts)) M∧(rgN ts [] os).length≤n.toNat∧Cnt M (n.toNat - (rgN ts [] os).length):=by
 refine rev_ind (P:=fun os=>(∀ k ∈ os,k < ts.length)->∃ M,Frs.Mk n.toNat (os.map (t2 ts)) M∧(rgN ts [] os).length≤n.toNat∧Cnt M (n.toNat - (rgN ts [] os).length)) (fun _=>⟨_,Frs.Mk.first,Nat.zero_le _,Cnt.range _⟩) (fun l k ih h=>?_) os
 obtain⟨M,mk,le,c⟩:=ih fun j hj=>h j (List.mem_append_left _ hj)
 have tk:=ok.tie _ (tieAt_in (h k (List.mem_append_right _ List.mem_cons_self))).2
 have ha:(t2 ts k).1 < n.toNat:=tk_a tk
 have hb:(t2 ts k).2 < n.toNat:=tk_b tk
 have em:(l++[k]).map (t2 ts)=l.map (t2 ts)++[((t2 ts k).1,(t2 ts k).2)]:=by rw[List.map_append];rfl
 rw[em,rg_snoc,List.nil_append]
 by_cases e:M.getD (t2 ts k).1 0=M.getD (t2 ts k).2 0
 ·have cB:cnB ts l k=true:=cnB_iff.mpr ((mk.2 _ _ ha hb).mp e)
  rw[if_pos cB,List.append_nil]
  exact⟨M,mk.same ha hb e,le,c⟩
 ·have cB:¬ cnB ts l k=true:=fun z=>e ((mk.2 _ _ ha hb).mpr (cnB_iff.mp z))
  rw[if_neg cB,List.length_append,List.length_singleton]
  obtain⟨p1,c1⟩:=c.join (getD_mem (by rw[mk.1];exact ha)) (getD_mem (by rw[mk.1];exact hb)) e
  exact⟨_,mk.join ha hb e,by omega,by rw[Nat.sub_add_eq];exact c1⟩
/-- how many pieces -/
noncomputable def pcN (n:Int) (ts:List Tie) (ks:List Nat):Nat:=n.toNat - (rgN ts [] ks).length
theorem mk_like {n:Nat} {E E':List Frs.T2} {M M':List Nat} (h:Frs.Mk n E M) (k:Frs.Mk n E' M') (e:∀ t,t ∈ E↔t ∈ E') (u v:Nat) (hu:u < n) (hv:v < n):M.getD u 0=M.getD v 0↔M'.getD u 0=M'.getD v 0:=(h.2 u v hu hv).trans ((Frs.Cn.iff e).trans (k.2 u v hu hv).symm)
theorem map_like {ts:List Tie} {ks ks':List Nat} (h:∀ j,j ∈ ks↔j ∈ ks') (t:Frs.T2):t ∈ ks.map (t2 ts)↔t ∈ ks'.map (t2 ts):=by
 rw[List.mem_map,List.mem_map]
 exact⟨fun ⟨j,a,b⟩=>⟨j,(h j).mp a,b⟩,fun ⟨j,a,b⟩=>⟨j,(h j).mpr a,b⟩⟩
theorem marks_cnt {n:Int} {ts:List Tie} (ok:WebOk n ts) {os ks:List Nat} (ho:∀ k ∈ os,k < ts.length) {M:List Nat} (mk:Frs.Mk n.toNat (ks.map (t2 ts)) M) (e:∀ j,j ∈ os↔j ∈ ks):Cnt M (pcN n ts os):=by
 obtain⟨M0,m0,_,c0⟩:=marks_of ok os ho
 refine c0.like (by rw[m0.1,mk.1]) fun u v hu hv=>?_
 rw[m0.1] at hu hv
 exact mk_like m0 mk (map_like e) u v hu hv
theorem pc_set {n:Int} {ts:List Tie} (ok:WebOk n ts) {os ks:List Nat} (ho:∀ k ∈ os,k < ts.length) (e:∀ j,j ∈ os↔j ∈ ks):pcN n ts os=pcN n ts ks:=by
 obtain⟨M0,m0,_,c0⟩:=marks_of ok ks fun k hk=>ho k ((e k).mpr hk)
 exact (marks_cnt ok ho m0 e).one c0
theorem rg_len {n:Int} {ts:List Tie} (ok:WebOk n ts) {os:List Nat} (ho:∀ k ∈ os,k < ts.length):((rgN ts [] os).length:Int)=n - (pcN n ts os:Int):=by
 obtain⟨_,_,le,_⟩:=marks_of ok os ho
 have n1:=ok.n1
 unfold pcN;omega
def TD:Nat->PyData->Prop
 | 0,d=>(∃ i,d=.int i)∨∃ x,d=.str x∧PyData.strOk x=true
 | m + 1,d=>(∃ i,d=.int i)∨(∃ x,d=.str x∧PyData.strOk x=true)∨∃ ds,d=.tuple ds∧ds.length≤100∧∀ x ∈ ds,TD m x
theorem TD.int (m:Nat) (i:Int):TD m (.int i):=by cases m <;> exact .inl ⟨i,rfl⟩
theorem TD.str (m:Nat) {x:Str} (h:PyData.strOk x=true):TD m (.str x):=by
 cases m with
 | zero=>exact .inr ⟨x,rfl,h⟩
 | succ m=>exact .inr (.inl ⟨x,rfl,h⟩)
theorem TD.up:∀ {m:Nat} {d:PyData},TD m d->TD (m + 1) d
 | 0,d,h=>h.elim (fun ⟨i,e⟩=>.inl ⟨i,e⟩) fun ⟨x,e⟩=>.inr (.inl ⟨x,e⟩)
 | m + 1,d,h=>h.elim .inl fun h=>.inr (h.elim .inl fun ⟨ds,e,l,a⟩=>.inr ⟨ds,e,l,fun x hx=>TD.up (a x hx)⟩)
theorem TD.mono {m m':Nat} {d:PyData} (h:TD m d) (le:m≤m'):TD m' d:=by
 obtain⟨j,rfl⟩:=Nat.exists_eq_add_of_le le
 clear le
 induction j with
 | zero=>exact h
 | succ j ih=>exact ih.up
theorem TD.ints (m:Nat) {hs:List Int} (h:hs.length≤100):TD (m + 1) (.tuple (hs.map .int)):=.inr (.inr ⟨_,rfl,by rw[List.length_map];exact h,fun x hx=>by
 obtain⟨i,_,rfl⟩:=List.mem_map.mp hx
 exact TD.int _ _⟩)
theorem TD.all {m:Nat} {ds:List PyData} (h:TD (m + 1) (.tuple ds)):ds.length≤100∧∀ x ∈ ds,TD m x:=by
 rcases h with ⟨i,e⟩ | ⟨x,e,_⟩ | ⟨ds',e,l,a⟩
 ·cases e
 ·cases e
 ·cases e;exact⟨l,a⟩
theorem TD.none {m:Nat}:¬ TD m .none:=by
 cases m with
 | zero=>rintro (⟨i,e⟩ | ⟨x,e,_⟩) <;> cases e
 | succ m=>rintro (⟨i,e⟩ | ⟨x,e,_⟩ | ⟨ds,e,_⟩) <;> cases e
theorem TD.bool {m:Nat} {b:Bool}:¬ TD m (.bool b):=by
 cases m with
 | zero=>rintro (⟨i,e⟩ | ⟨x,e,_⟩) <;> cases e
 | succ m=>rintro (⟨i,e⟩ | ⟨x,e,_⟩ | ⟨ds,e,_⟩) <;> cases e
theorem TD.list {m:Nat} {ds:List PyData}:¬ TD m (.list ds):=by
 cases m with
 | zero=>rintro (⟨i,e⟩ | ⟨x,e,_⟩) <;> cases e
 | succ m=>rintro (⟨i,e⟩ | ⟨x,e,_⟩ | ⟨ds,e,_⟩) <;> cases e
theorem TD.dict {m:Nat} {ds:List (PyData × PyData)}:¬ TD m (.dict ds):=by
 cases m with
 | zero=>rintro (⟨i,e⟩ | ⟨x,e,_⟩) <;> cases e
 | succ m=>rintro (⟨i,e⟩ | ⟨x,e,_⟩ | ⟨ds,e,_⟩) <;> cases e
theorem lay_all:∀ {ds:List PyData},(∀ x ∈ ds,x.canLay0=true)->PyData.canLayAll0 ds=true
 | [],_=>rfl
 | d::r,h=>by
  show (PyData.canLay0 d && PyData.canLayAll0 r)=true
  rw[h d List.mem_cons_self,lay_all fun x hx=>h x (List.mem_cons_of_mem _ hx)];rfl
theorem TD.lay:∀ {m:Nat} {d:PyData},TD m d->d.canLay0=true
 | 0,d,h=>by
  rcases h with ⟨i,rfl⟩ | ⟨x,rfl,e⟩
  ·rfl
  ·exact e
 | m + 1,d,h=>by
  rcases h with ⟨i,rfl⟩ | ⟨x,rfl,e⟩ | ⟨ds,rfl,_,a⟩
  ·rfl
  ·exact e
  ·show PyData.canLayAll0 ds=true
   exact lay_all fun x hx=>(a x hx).lay
theorem tup_all:∀ {ds:List PyData},(∀ x ∈ ds,tupD x=true)->tupAll ds=true
 | [],_=>rfl
 | d::r,h=>by
  show (tupD d && tupAll r)=true
  rw[h d List.mem_cons_self,tup_all fun x hx=>h x (List.mem_cons_of_mem _ hx)];rfl
theorem TD.tup:∀ {m:Nat} {d:PyData},TD m d->tupD d=true
 | 0,d,h=>by rcases h with ⟨i,rfl⟩ | ⟨x,rfl,e⟩ <;> rfl
 | m + 1,d,h=>by
  rcases h with ⟨i,rfl⟩ | ⟨x,rfl,e⟩ | ⟨ds,rfl,_,a⟩
  ·rfl
  ·rfl
  ·exact tup_all fun x hx=>(a x hx).tup
def toI:PyData->Int
 | .int i=>i
 | _=>0
def undD (m:Nat) (ks os:List Nat):PyData->Bool
 | .int k=>(decide (0≤k) && decide (k < (m:Int))) && (!decide (k.toNat ∈ ks) && !decide (k.toNat ∈ os))
 | _=>false
noncomputable def holdD (n:Int) (ts:List Tie) (ks:List Nat):PyData->Bool
 | .tuple hs=>wholesB (.tuple hs) && holdB n ts ks (hs.map toI)
 | _=>false
noncomputable def beyD (n:Int) (ts:List Tie) (ks:List Nat) (t:Int) (k:Nat):PyData->Bool
 | .tuple hs=>wholesB (.tuple hs) && beyondI n ts ks t k (hs.map toI)
 | _=>false
noncomputable def farD (n:Int) (ts:List Tie) (t:Int) (os:List Nat) (e h:PyData):Bool:=match e with
 | .int k=>((decide (0≤k) && decide (k < (ts.length:Int))) && decide (k.toNat ∈ os)) && beyD n ts (outs ts.length os) t k.toNat h
 | _=>false
noncomputable def keptF (ts:List Tie) (ks:List Nat):Int:=(ks.length:Int) + ((rgN ts [] (List.range ts.length)).length:Int) - ((rgN ts [] ks).length:Int)
def both:Option Int->Option Int->Option Int
 | some x,some y=>some (if y < x then y else x)
 | _,_=>none
noncomputable def shB (n:Int) (ts:List Tie) (t:Int) (r:PyData->List Nat->List Nat->Option Int) (d:PyData) (ks os:List Nat):Option Int:=match d with
 | .tuple [.str w]=>if w="kept" then some (keptF ts ks) else none
 | .tuple [.str w,e,h]=>if w="far" then (if farD n ts t os e h=true then some ((ts.length:Int) + 1) else none) else none
 | .tuple [.str w,e,a,b]=>if w="tie" then (if undD ts.length ks os e=true then both (r a (ks++[(toI e).toNat]) os) (r b ks (os++[(toI e).toNat])) else none) else none
 | _=>none
noncomputable def shF (n:Int) (ts:List Tie) (t:Int):Nat->PyData->List Nat->List Nat->Option Int
 | 0,_,_,_=>none
 | m + 1,d,ks,os=>shB n ts t (shF n ts t m) d ks os
theorem outs_set {m:Nat} {os os':List Nat} (h:∀ j,j ∈ os↔j ∈ os'):outs m os=outs m os':=by
 unfold outs
 exact List.filter_congr fun k _=>by rw[decide_eq_decide];exact not_congr (h k)
theorem far_set {n:Int} {ts:List Tie} {t:Int} {os os':List Nat} (h:∀ j,j ∈ os↔j ∈ os') (e a:PyData):farD n ts t os e a=farD n ts t os' e a:=by
 cases e <;> try rfl
 rename_i k
 show (((decide (0≤k) && decide (k < (ts.length:Int))) && decide (k.toNat ∈ os)) && beyD n ts (outs ts.length os) t k.toNat a)=(((decide (0≤k) && decide (k < (ts.length:Int))) && decide (k.toNat ∈ os')) && beyD n ts (outs ts.length os') t k.toNat a)
 rw[outs_set h,decide_eq_decide.mpr (h k.toNat)]
theorem und_set {m:Nat} {ks ks' os os':List Nat} (hk:∀ j,j ∈ ks↔j ∈ ks') (h:∀ j,j ∈ os↔j ∈ os') (e:PyData):undD m ks os e=undD m ks' os' e:=by
 cases e <;> try rfl
 rename_i k
 show ((decide (0≤k) && decide (k < (m:Int))) && (!decide (k.toNat ∈ ks) && !decide (k.toNat ∈ os)))=((decide (0≤k) && decide (k < (m:Int))) && (!decide (k.toNat ∈ ks') && !decide (k.toNat ∈ os')))
 rw[decide_eq_decide.mpr (h k.toNat),decide_eq_decide.mpr (hk k.toNat)]
theorem und_of {m:Nat} {ks os:List Nat} {e:PyData} (h:undD m ks os e=true):∃ k:Nat,e=.int (k:Int)∧k < m∧k ∉ ks∧k ∉ os∧(toI e).toNat=k:=by
 cases e with
 | int k =>
  have h':((decide (0≤k) && decide (k < (m:Int))) && (!decide (k.toNat ∈ ks) && !decide (k.toNat ∈ os)))=true:=h
  simp only [Bool.and_eq_true,decide_eq_true_eq,Bool.not_eq_true',decide_eq_false_iff_not] at h'
  exact⟨k.toNat,by rw[show ((k.toNat:Nat):Int)=k by omega],by omega,h'.2.1,h'.2.2,rfl⟩
 | _=>cases h
theorem kept_set {n:Int} {ts:List Tie} (ok:WebOk n ts) {ks ks':List Nat} (p:ks.Perm ks') (h:∀ k ∈ ks,k < ts.length):keptF ts ks=keptF ts ks':=by
 unfold keptF
 rw[p.length_eq,rg_len ok h,rg_len ok (os:=ks') (fun k hk=>h k (p.mem_iff.mpr hk)),pc_set ok h fun j=>p.mem_iff]
theorem sh_set {n:Int} {ts:List Tie} {t:Int} (ok:WebOk n ts):∀ (m:Nat) (d:PyData) (ks ks' os os':List Nat),ks.Perm ks'->os.Perm os'->(∀ k ∈ ks,k < ts.length)->shF n ts t m d ks os=shF n ts t m d ks' os'
 | 0,_,_,_,_,_,_,_,_=>rfl
 | m + 1,d,ks,ks',os,os',pk,po,h=>by
  have ek:∀ j,j ∈ ks↔j ∈ ks':=fun j=>pk.mem_iff
  have eo:∀ j,j ∈ os↔j ∈ os':=fun j=>po.mem_iff
  show shB n ts t (shF n ts t m) d ks os=shB n ts t (shF n ts t m) d ks' os'
  unfold shB
  split
  ·rw[kept_set ok pk h]
  ·rw[far_set eo]
  ·rename_i w e a b
   rw[und_set ek eo e]
   by_cases c:w="tie"
   ·rw[if_pos c,if_pos c]
    by_cases c2:undD ts.length ks' os' e=true
    ·rw[if_pos c2,if_pos c2]
     obtain⟨k,rfl,kl,_⟩:=und_of c2
     rw[sh_set ok m a _ _ os os' (pk.append_right [(toI (.int (k:Int))).toNat]) po fun j hj=>?_,sh_set ok m b ks ks' _ _ pk (po.append_right [(toI (.int (k:Int))).toNat]) h]
     rcases List.mem_append.mp hj with z | z
     ·exact h j z
     ·rw[List.mem_singleton.mp z];exact kl
    ·rw[if_neg c2,if_neg c2]
   ·rw[if_neg c,if_neg c]
  ·rfl
/-- more fuel, the same -/
theorem sh_fuel {n:Int} {ts:List Tie} {t:Int}:∀ (m:Nat) {d:PyData} {ks os:List Nat} {x:Int},shF n ts t m d ks os=some x->shF n ts t (m + 1) d ks os=some x
 | 0,_,_,_,_,h=>by cases h
 | m + 1,d,ks,os,x,h=>by
  replace h:shB n ts t (shF n ts t m) d ks os=some x:=h
  show shB n ts t (shF n ts t (m + 1)) d ks os=some x
  unfold shB at h ⊢
  split at h
  ·exact h
  ·exact h
  ·rename_i w e a b
   by_cases c:w="tie"
   ·rw[if_pos c] at h
    show (if w="tie" then _ else _)=_
    rw[if_pos c]
    by_cases c2:undD ts.length ks os e=true
    ·rw[if_pos c2] at h
     rw[if_pos c2]
     cases e1:shF n ts t m a (ks++[(toI e).toNat]) os with
     | none=>rw[e1] at h;cases h
     | some y =>
      cases e2:shF n ts t m b ks (os++[(toI e).toNat]) with
      | none=>rw[e1,e2] at h;cases h
      | some z=>rw[sh_fuel m e1,sh_fuel m e2];rw[e1,e2] at h;exact h
    ·rw[if_neg c2] at h;cases h
   ·rw[if_neg c] at h;cases h
  ·cases h
theorem sh_more {n:Int} {ts:List Tie} {t:Int} {m m':Nat} {d:PyData} {ks os:List Nat} {x:Int} (h:shF n ts t m d ks os=some x) (le:m≤m'):shF n ts t m' d ks os=some x:=by
 obtain⟨j,rfl⟩:=Nat.exists_eq_add_of_le le
 clear le
 induction j with
 | zero=>exact h
 | succ j ih=>exact sh_fuel _ ih
end L3
namespace L3
open PySem PySem.Spec PyProof.Rows L2
theorem call_intB {X:Cx}:CallR X (.type "int") (fun xs H Q=>∃ b,xs=[.bl b]∧Q (.int (if b then 1 else 0)) H):=by
 intro pins s σ H xs us Q I r h
 obtain⟨b,rfl,q⟩:=h
 obtain⟨u,rfl,rx⟩:=vals1 r
 cases rx
 exact PySem.call_int_bool ⟨.int _,H,I.tok _,⟨_,rfl⟩,q⟩
end L3
namespace L3
open PySem PySem.Spec PyProof.Rows L2
section
variable {X:Cx}
/-- set(l), l a list of whole numbers, for len -/
theorem call_setTL (hh:X.calm=true):CallR X (.type "set") (fun xs H Q=>∃ (p:Addr) (ns:List Int),xs=[.ref p]∧H p=some (.lst (ns.map V.int))∧ns.length≤1000∧∀ q H',Same H H'->H q=none->H' q=some (.set (HT.setS ns ns.length) (HT.setN ns ns.length))->Q (.ref q) H'):=by
 intro pins s σ H xs us Q I r h
 obtain⟨p,ns,rfl,hp,hl,q⟩:=h
 obtain⟨u,rfl,rx⟩:=vals1 r
 cases rx
 obtain⟨its,rv,pt,hz⟩:=I.list (SqL.of hp)
 have hlen:=rv.length
 rw[List.length_map] at hlen
 have fr:H s.heap.objs.size=none:=I.hok.fresh (Nat.le_refl _)
 have esz:its.toArray.size=ns.length:=by rw[List.size_toArray,← hlen]
 refine Stb.of_lst (ns:=ns) (I.ok.hd hh) (show s.heap.IsList p its.toArray from pt.isList) (by simpa using intsAre_of rv) (by rw[esz];unfold scanBound;omega) fun h' tk hS hk=>?_
 rw[esz] at hS
 exact⟨.ref s.heap.objs.size,_,I.laid (a:=s.heap.objs.size) (o:=.set (HT.setS ns ns.length) (HT.setN ns ns.length)) (t':=tk) (fun b o e=>hk b o (Heap.lt_size e) e) (Nat.le_refl _) hS.1,rfl,q _ _ (same_new fr) fr upd_same⟩
end
end L3
namespace L3
open PySem PySem.Spec PyProof.Rows L2
section
variable {X:Cx}
end
end L3
namespace L3
open PySem PySem.Spec PyProof.Rows L2
section
variable {X:Cx}
theorem star_Tuple {elts es:List Expr} {c:Nat} {p:Pos} {env:Env}:starEach (.Tuple elts c p::es) env=(false,eval (.Tuple elts c p) env)::starEach es env:=by rfl
theorem pa_consT {elts es:List Expr} {c:Nat} {p:Pos} {te:TE} {t:TA} (ha:PE X (.Tuple elts c p) te) (hr:PA X es t):PA X (.Tuple elts c p::es) (tCons te t):=pa_cons ha hr star_Tuple
theorem ba_consT {elts es:List Expr} {c:Nat} {p:Pos} {te:TE} {t:TA} (a:BE X (.Tuple elts c p) te) (b:BA X es t):BA X (.Tuple elts c p::es) (tCons te t):=⟨pa_consT a.h b.h⟩
theorem ba_consC {cv:Const} {c:Nat} {p:Pos} {es:List Expr} {te:TE} {t:TA} (a:BE X (.Constant cv c p) te) (b:BA X es t):BA X (.Constant cv c p::es) (tCons te t):=⟨pa_cons a.h b.h (by rfl)⟩
theorem ba_consB {l r:Expr} {op:Operator} {p:Pos} {es:List Expr} {te:TE} {t:TA} (a:BE X (.BinOp l op r p) te) (b:BA X es t):BA X (.BinOp l op r p::es) (tCons te t):=⟨pa_cons a.h b.h (by rfl)⟩
theorem ba_consN {x:Str} {p:Pos} {es:List Expr} {te:TE} {t:TA} (a:BE X (.Name x p) te) (b:BA X es t):BA X (.Name x p::es) (tCons te t):=⟨pa_cons a.h b.h (by rfl)⟩
theorem ba_consK {f:Expr} {as:List Expr} {kw:List Keyword} {p:Pos} {es:List Expr} {te:TE} {t:TA} (a:BE X (.Call f as kw p) te) (b:BA X es t):BA X (.Call f as kw p::es) (tCons te t):=⟨pa_cons a.h b.h (by rfl)⟩
theorem ba_consS {l r:Expr} {p:Pos} {es:List Expr} {te:TE} {t:TA} (a:BE X (.Subscript l r p) te) (b:BA X es t):BA X (.Subscript l r p::es) (tCons te t):=⟨pa_cons a.h b.h (by rfl)⟩
theorem bs_if {c:Expr} {a b:List Stmt} {tc:TT} {t u:TS} {pos:Pos} (hc:PT X c tc) (ha:BSs X a t) (hb:BSs X b u):BS X (.If c a b pos) (tIfS tc t u):=⟨ps_if hc ha.h hb.h⟩
theorem bss_nil:BSs X [] tNext:=⟨pss_nil⟩
theorem bs_ret {e:Expr} {te:TE} {pos:Pos} (he:BE X e te):BS X (.Return (some e) pos) (tRet te):=⟨ps_ret he.h⟩
theorem be_ix {a b:Expr} {ta tb:TE} {pos:Pos} {r:R2} (hr:IxR X r) (ha:BE X a ta) (hb:BE X b tb) (hs:PlainIx b):BE X (.Subscript a b pos) (tOp r ta tb):=⟨pe_ix hr ha.h hb.h hs⟩
end
end L3
namespace Tx
open PySem PySem.Builtin PySem.Builtin.Str PySem.StrLaws PyProof.Rows
end Tx
namespace L3
open PySem PySem.Spec PyProof.Rows L2
section
variable {X:Cx} {tg:Expr} {pos:Pos}
end
section
variable {X:Cx} {own:List Str} {js:List Nat} {g:TG} {te:TE} {σ:L2.St} {Q:VK} {H1:Hp}
end
end L3
namespace L3
open PySem PySem.Spec PyProof.Rows L2
section
variable {X:Cx}
theorem op_mulS:OpR X (binaryOp .Mult) (fun x y H Q=>∃ (z:Str) (n:Int),x=.str z∧y=.int n∧1 < n∧n≤1000∧z.length=1∧Q (.str ⟨(List.replicate n.toNat z.cps).foldl (·++·) #[]⟩) H):=by
 intro pins s σ H x y v u Q I rx ry h
 obtain⟨z,n,rfl,rfl,h1,h2,hz,q⟩:=h
 obtain⟨t,rfl⟩:=rx
 obtain⟨t',rfl⟩:=ry
 have e1:(n == 1 || z.length == 0)=false:=by
  rw[hz];simp;omega
 refine P.mul_str (by
  have a:¬ n < -(2 ^ 63:Int):=by omega
  have b:¬ n ≥ 2 ^ 63:=by omega
  rw[decide_eq_false a,decide_eq_false b];rfl) (fun _ _=>?_) (fun _ _=>?_) ?_
 ·rw[hz]
  have:(1:Int)≤(2 ^ 63 - 1) / n:=Int.le_ediv_of_mul_le (by omega) (by omega)
  show ¬ ((1:Nat):Int) > _
  omega
 ·rw[hz,Nat.one_mul]
  unfold Builtin.Str.tooLong
  exact decide_eq_false (by rw[sizeLine_eq];omega)
 ·rw[if_neg (by omega),e1]
  have hl:((List.replicate n.toNat z.cps).foldl (·++·) #[]).size=n.toNat:=by
   have:∀ (k:Nat) (acc:Array Nat),((List.replicate k z.cps).foldl (·++·) acc).size=acc.size + k:=fun k=>by
    induction k with
    | zero=>intro acc;rfl
    | succ k ih=>intro acc;rw[List.replicate_succ,List.foldl_cons,ih,Array.size_append];have:z.cps.size=1:=hz;omega
   rw[this];simp
  refine⟨?_,.str _,H,I.tok _,⟨_,rfl⟩,q⟩
  show ((List.replicate n.toNat z.cps).foldl (·++·) #[]).size≤sizeLine
  rw[hl,sizeLine_eq];omega
end
section
variable {X:Cx} {a b c d:Expr} {ta tb tc td:TE} {pos:Pos}
end
section
variable {own:List Str} {js:List Nat} {g:TG} {tt:TT} {te:TE} {σ:L2.St} {Q:VK} {H1:Hp}
end
end L3
namespace Hx
open PySem PySem.W
/-- a statement of the top: its number, the first address and the first token it takes, the module's name (statement, token), for a class the chunk of its base -/
structure Ch where
 i:Nat
 a:Nat
 t:Nat
 j:Nat
 u:Nat
 b:Nat:=0
def stt (p:Program) (i:Nat):Stmt:=p.main.body.getD i (.Pass ⟨0,0,0,0⟩)
def fileS:Str:=Str.ofString "/claim/cut.py"
def mdV (p:Program) (c:Ch):Value:=match stt p c.j with
 | .Assign _ (.Constant (.str x) _ _) _=>.str x c.u
 | _=>.str (Str.ofString "__main__") c.u
def sT (xs:List Value):Obj:=⟨.type "tuple",none,.seq xs.toArray 0,#[]⟩
def fE (xs:List Value):Obj:=⟨.none,none,.fields xs.toArray,#[]⟩
def tks:List Str->Nat->List Value
 | [],_=>[]
 | v::r,t=>.str v t::tks r (t + 1)
def z:Value:=.int 0 0
def cdO (nm q:Str) (t:Nat) (l:Int) (na fl:Int) (k:Value) (fn:Bool) (tb vs cs tp:Value) (u:Nat):Obj :=
 ⟨.type "code",none,.fields #[.str nm t,.str q (t + 1),.str fileS (t + 2),.int l 0,.int na 0,z,z,.int fl 0,k,.bool fn,.int 181 0,tb,.none,vs,cs,tp,.int u 0,.int l 0,.str fileS (u + 1)],#[]⟩
def ent (P:Params) (s:Str) (t:Nat) (v:Value):DictEntry:=⟨PyData.keyHash P s,.str s t,v⟩
def dO (es:List DictEntry) (n:Nat):Obj:=⟨.type "dict",none,.dict es.toArray n,#[]⟩
structure Got where
 os:List Obj
 en:List DictEntry
 tb:List Value
def fO (P:Params) (md:Value) (a t:Nat) (name:Str) (args:Arguments) (body:List Stmt) (scope:Scope) (bind:Str) (pos:Pos):Got :=
 let fd:FuncData:=⟨name,bind,args,.stmts body,scope,0,[],.none,.none,.none,.none,none,.none,.none,0⟩
 let k (vs cs:Value) (b u:Nat) (h:List Obj):Got :=
  ⟨h++[⟨.none,none,.func fd,#[]⟩,cdO name bind t pos.line args.args.length 3 (.ref a) true (.ref (a + 1)) vs cs (.ref b) u,
   ⟨.type "function",none,.func ⟨name,bind,args,.stmts body,scope,3,[],.none,.none,.none,md,none,.ref (b + 1),.none,0⟩,#[]⟩],
   [ent P name (u + 2) (.ref (b + 2))],[.int pos.line 0,.int pos.col 0,.ref (b + 1)]⟩
 match localNames args scope (.stmts body) with
 | none=>k .none .none (a + 2) (t + 3) [sT [],fE []]
 | some (vs,cs)=>k (.ref (a + 2)) (.ref (a + 3)) (a + 4) (t + 3 + vs.length + cs.length) [sT [],fE [],sT (tks vs (t + 3)),sT (tks cs (t + 3 + vs.length))]
/-- the base class's address, and its bases; none: ValueError -/
def mro0:List Value:=[.type "ValueError",.type "Exception",.type "BaseException",.type "object"]
def clO (P:Params) (md:Value) (a t:Nat) (base:Option Nat) (sub:List Value) (name bind:Str) (pos:Pos):Got :=
 let l:Int:=pos.line
 let w:=base.isNone
 let C:=a + 9 - (if w then 0 else 0)
 let bs:Value:=match base with | none=>.type "ValueError" | some b=>.ref b
 let e1:=ent P (Str.ofString "__module__") (t + 7) md
 let e2:=ent P (Str.ofString "__firstlineno__") (t + 11) (.int l (t + 10))
 let e3:=ent P (Str.ofString "__static_attributes__") (t + 12) (.ref (a + 7))
 ⟨[sT [bs],⟨.type "builtin_function_or_method",none,.fields #[.builtin "type.__prepare__",.type "type"],#[]⟩,
  dO [e1,ent P (Str.ofString "__qualname__") (t + 9) (.str bind (t + 8)),e2,e3] 4,sT [],fE [],
  cdO name bind (t + 2) l 0 0 (.ref (a + 3)) false (.ref (a + 4)) .none .none .none (t + 5),
  ⟨.type "frame",none,.plain,#[some (.ref (a + 5)),some (.ref 3),some (.ref (a + 2)),none,some md,none,some (.ref 0)]⟩,sT [],
  dO (e1::e2::e3::(if w then [ent P (Str.ofString "__weakref__") (t + 14) (.ref (a + 10)),ent P (Str.ofString "__doc__") (t + 15) .none] else [ent P (Str.ofString "__doc__") (t + 13) .none])) (if w then 3 else 2),
  ⟨.type "type",none,.cls ⟨name,[bs],.ref C::(match base with | none=>mro0 | some b=>.ref b::mro0),a + 8,bind,true,[],sub,false,none,false⟩,
   #[some (.ref a),none,some (.str name t),some (.str bind (t + 8)),some (.builtin "ValueError.__new__"),some (.bool true)]⟩] ++
  (if w then [⟨.type "getset_descriptor",none,.fields #[.str (Str.ofString "__weakref__") (t + 13),.ref C,.builtin "ExceptionGroup.__weakref__",.none],#[]⟩] else []) ++
  [⟨.type "super",none,.fields #[.ref C,.ref C,.ref C],#[]⟩,⟨.type "builtin_function_or_method",none,.fields #[.builtin "object.__init_subclass__",.ref C],#[]⟩],
  [ent P name (t + (if w then 17 else 15)) (.ref C)],[.int l 0,.int pos.col 0,.ref (a + 5)]⟩
/-- what a statement leaves, where the chunks cs are behind it -/
def got (p:Program) (P:Params) (cs:List Ch) (c:Ch):Got:=match stt p c.i with
 | .FunctionDef name args body _ _ _ scope _ bind pos=>fO P (mdV p c) c.a c.t name args body scope bind pos
 | .ClassDef name _ _ _ _ _ _ _ bind _ pos=>clO P (mdV p c) c.a c.t (if c.b == 0 then none else some c.b) (cs.filterMap fun d=>if d.b == c.a + 9 then some (.ref (d.a + 9)) else none) name bind pos
 | _=>⟨[],[],[]⟩
/-- the module's name as the last statement set it -/
def nameNow (p:Program) (cs:List Ch):Option Value:=match cs.getLast? with
 | some c=>some (mdV p { c with j:=c.j,u:=c.u })
 | none=>none
def setName (P:Params) (v:Option Value):List DictEntry->List DictEntry
 | e::r=>(match v with | some v=>{ e with val:=v } | none=>e)::r
 | []=>[]
def globO (p:Program) (P:Params) (cs:List Ch) (en:List DictEntry):Obj->Obj
 | ⟨c,d,.dict es n,s⟩=>⟨c,d,.dict (setName P (nameNow p cs) es.toList++en).toArray (n + en.length),s⟩
 | o=>o
/-- the objects behind the chunks cs, where B are those of the boot -/
def objs (p:Program) (P:Params) (B:List Obj) (cs:List Ch):List Obj :=
 let gs:=cs.map (got p P cs)
 match B with
 | b0::b1::b2::b3::r=>b0::b1::b2::globO p P cs (gs.flatMap (·.en)) b3::(r++(sT []::fE (gs.flatMap (·.tb)) ::
  cdO (Str.ofString "<module>") (Str.ofString "<module>") 182 1 0 0 (.ref 11) false (.ref 12) .none .none .none 185 ::
  ⟨.type "frame",none,.plain,#[some (.ref 13),some (.ref 3),some (.ref 3),none,some (.str (Str.ofString "__main__") 164),none,some (.ref 0)]⟩::gs.flatMap (·.os)))
 | _=>[]
def spl:List Obj->List Obj × List Obj
 | []=>([],[])
 | x::r=>(x::(spl r).2,(spl r).1)
def braun:Nat->List Obj->BT
 | 0,_=>.nil
 | _ + 1,[]=>.nil
 | f + 1,o::r=>.node o (braun f (spl r).1) (braun f (spl r).2)
/-- where a piece ends: the statements behind, the next address, the next token -/
structure Cut where
 k:Nat
 n:Nat
 t:Nat
def hpT (p:Program) (B:Params->List Obj) (cs:List Ch) (c:Cut) (P:Params):Heap:=absHeap (braun 12 (objs p P (B P) (cs.take c.k))) c.n {}
def stT (p:Program) (B:Params->List Obj) (D:Drawn) (cs:List Ch) (c:Cut) (w:World) (os:OsState):SharedT :=
 ⟨braun 12 (objs p w.params (B w.params) (cs.take c.k)),c.n,{},Array.mk [],D,c.t,os⟩
def env (p:Program):Env:={ scope:=p.main.scope,locals:=mainNs,globals:=mainNs,cells:=[],code:=.ref 13,frame:=some 14 }
def cE (p:Program):Code:=.body p.main.body (env p)
def pos0:Pos:=⟨0,0,0,0⟩
def posOf (p:Program):Nat->Pos
 | 0=>pos0
 | k + 1=>match stt p k with
  | .Assign [.Name _ q] _ _=>q
  | .FunctionDef _ _ _ _ _ _ _ _ _ q=>q
  | .ClassDef _ _ _ _ _ _ _ _ _ _ q=>q
  | _=>pos0
def ann0:Option Value:=some (.ref 6)
def PieceT (p:Program) (B:Params->List Obj) (D:Drawn) (cs:List Ch) (a b:Cut) (N:Nat):Prop:=∀ w:World,
 (fun os=>segRunT treeTable p w 11 ann0 1 N (stT p B D cs a w os) (piecesOf ((p.main.body.drop a.k).take (b.k - a.k)) (env p) (cE p) (posOf p a.k) [topFrame pos0]))=fun os=>some (Flow.next,stT p B D cs b w os,cE p,posOf p b.k)
def PreT (p:Program) (B:Params->List Obj) (D:Drawn) (h:Params->Heap) (t:Nat) (cs:List Ch) (a:Cut):Prop:=∀ w:World,
 (fun os=>topGo treeTable p w 11 ann0 12 ⟨h w.params,Array.mk [],D,t,os⟩ (topStub p))=fun os=>some ((stT p B D cs a w os).abs,⟨denote treeTable (cE p),cE p,pos0,[topFrame pos0]⟩)
def BlockT (p:Program):Prop:=∀ (w:World) (s:Shared),segRun treeTable p w 11 ann0 1 1 s (blockOf p.main.body (env p) (cE p) pos0 [topFrame pos0])=some (.next,s,cE p,pos0)
noncomputable def boots (P:Params):List Obj:=[boot_o_0 P,boot_o_1 P,boot_o_2 P,boot_o_3 P,boot_o_4 P,boot_o_5 P,boot_o_6 P,boot_o_7 P,boot_o_8 P,boot_o_9 P,boot_o_10 P]
/-- the statements of the view -/
def qv (p:Program) (is:List Nat):Program:={ p with main:={ p.main with body:=is.map (stt p) } }
def nmO:Stmt->Option Str
 | .FunctionDef n ..=>some n
 | .ClassDef n ..=>some n
 | _=>none
def lz (p:Program) (is:List Nat) (n:Nat):List Str:=(List.range n).filterMap fun i=>if is.contains i then none else nmO (stt p i)
/-- what the law's run never changes: the globals, each def's code and object, each class with its names -/
def kk (a:Nat) (g:Got):List (Nat × Obj):=match g.os with
 | [_,_,_,c,f]=>[(a + 3,c),(a + 4,f)]
 | [_,_,_,_,_,c,f]=>[(a + 5,c),(a + 6,f)]
 | _::_::_::_::_::_::_::_::d::C::_=>[(a + 8,d),(a + 9,C)]
 | _=>[]
def Kf (p:Program) (B:Params->List Obj) (cs:List Ch) (P:Params):Frag :=
 let gs:=cs.map (got p P cs)
 (3,globO p P cs (gs.flatMap (·.en)) ((B P).getD 3 (sT [])))::(cs.zip gs).flatMap fun c=>kk c.1.a c.2
def LookA (p:Program) (B:Params->List Obj) (D:Drawn) (h:Params->Heap) (cs:List Ch) (c:Cut):Prop:=∀ w:World,(fun os =>
  (staticsOk (importedModules p.main.body) (h w.params) (hpT p B cs c w.params) && namesBound p (hpT p B cs c w.params) && gensDone ⟨hpT p B cs c w.params,Array.mk [],D,c.t,os⟩ && laidKept (h w.params) (hpT p B cs c w.params)))=fun _:OsState=>true
def LookB (p:Program) (B:Params->List Obj) (D:Drawn) (cs:List Ch) (c:Cut) (is:List Nat) (rc:WRecords):Prop:=∀ w:World,(fun os =>
  openSeen (qv p is) (lz p is c.k) (importedModules p.main.body) (fun s=>xlAt (qv p is) [] s && recOk rc s) true ⟨hpT p B cs c w.params,Array.mk [],D,c.t,os⟩)=fun _:OsState=>openGood (qv p is) (lz p is c.k)
def LookC (p:Program) (B:Params->List Obj) (cs:List Ch) (c:Cut) (as:List Nat):Prop:=∀ w:World,as.map (hpT p B cs c w.params).get?=(Kf p B cs w.params).map fun p=>some p.2
section
variable {p:Program} {D:Drawn} {cs:List Ch}
theorem fin_any {w:World} {s:Shared} {c:Code} {q:Pos}:topRun treeTable p w 11 ann0 2 s ⟨doneF .next,c,q,[topFrame pos0]⟩=some s:=rfl
theorem chain_end {w:World} {os:OsState} {c:Cut} (h:p.main.body.drop c.k=[]) :
  topRun treeTable p w 11 ann0 2 (stT p boots boot_drawn cs c w os).abs (restOf (p.main.body.drop c.k) (env p) (cE p) (posOf p c.k) [topFrame pos0])=some (stT p boots boot_drawn cs c w os).abs:=by
 rw[h];exact piece_nil fin_any
theorem chain {w:World} {os:OsState} {a b:Cut} {N M:Nat} {r:Shared} (h:PieceT p boots boot_drawn cs a b N) (le:a.k≤b.k)
  (k:topRun treeTable p w 11 ann0 M (stT p boots boot_drawn cs b w os).abs (restOf (p.main.body.drop b.k) (env p) (cE p) (posOf p b.k) [topFrame pos0])=some r) :
  topRun treeTable p w 11 ann0 (N + M) (stT p boots boot_drawn cs a w os).abs (restOf (p.main.body.drop a.k) (env p) (cE p) (posOf p a.k) [topFrame pos0])=some r:=by
 have e:p.main.body.drop a.k=(p.main.body.drop a.k).take (b.k - a.k)++p.main.body.drop b.k:=by
  have x:=(List.take_append_drop (b.k - a.k) (p.main.body.drop a.k)).symm
  rw[List.drop_drop,Nat.add_sub_cancel' le] at x;exact x
 rw[e];exact piece_app (segRun_of (congrFun (h w) os)) k
theorem run_all {w:World} {os:OsState} {M:Nat} {r:Shared} (pre:PreT p boots boot_drawn boot_heap boot_toks cs ⟨0,15,187⟩) (bl:BlockT p)
  (k:topRun treeTable p w 11 ann0 M (stT p boots boot_drawn cs ⟨0,15,187⟩ w os).abs (restOf (p.main.body.drop 0) (env p) (cE p) (posOf p 0) [topFrame pos0])=some r) :
  topRun treeTable p w 11 ann0 (12 + (1 + M)) ⟨boot_heap w.params,Array.mk [],boot_drawn,boot_toks,os⟩ (topStub p)=some r :=
 go_top (congrFun (pre w) os) (piece_block (bl w _) k)
theorem left_of {is as:List Nat} {rc:WRecords} {c:Cut} {M N:Nat} {e:∀ P,as=(Kf p boots cs P).map (·.1)}
  (op:opening p=plainProg p.main.scope.names) (hN:Nat.ble 600 N=true) (fe:∀ s,fenceModules? p s=some s)
  (size:∀ w:World,((boot_heap w.params).isNs mainGlobals && (Array.mk []:Array GenState).size == 0,(boot_heap w.params).objs.size,(boot_heap w.params).nsMap mainGlobals "__annotations__")=(true,11,ann0))
  (run:∀ (w:World) (os:OsState),topRun treeTable p w 11 ann0 M ⟨boot_heap w.params,Array.mk [],boot_drawn,boot_toks,os⟩ (topStub p)=some (stT p boots boot_drawn cs c w os).abs) (le:Nat.ble M N=true)
  (hA:LookA p boots boot_drawn boot_heap cs c) (hB:LookB p boots boot_drawn cs c is rc) (hC:LookC p boots cs c as) :
  LeftO p (qv p is) (lz p is c.k) (fun s=>xlAt (qv p is) [] s && recOk rc s) (Hook.obs (kHook (Kf p boots cs) as e)) (Hook.val (kHook (Kf p boots cs) as e)) N :=
 LeftO.of_pieces (H₀:=boot_heap) (H₁:=hpT p boots cs c) (boot_open op hN fe) size run le fun w=>funext fun os=>by
  have a:=congrFun (hA w) os
  have b:=congrFun (hB w) os
  have c:=hC w
  exact looks_pair a (looks_pair b c)
end
end Hx
namespace Me
open PySem PySem.Spec PyProof.Rows L2 L3
def top (i:Nat):Stmt:=PySem.Challenge.pw_thinways_k41_trees_spoilt.main.body.getD i (.Pass ⟨0,0,0,0⟩)
abbrev s_is_whole:Stmt:=top 1
theorem sc_is_whole:FnScope ["thing"] ["thing"] (defScope s_is_whole):=⟨rfl,rfl,rfl,by decide +kernel,rfl,by decide +kernel,by decide +kernel⟩
abbrev s_is_wholes:Stmt:=top 2
theorem sc_is_wholes:FnScope ["thing"] ["thing"] (defScope s_is_wholes):=⟨rfl,rfl,rfl,by decide +kernel,rfl,by decide +kernel,by decide +kernel⟩
abbrev s_is_tuple_of:Stmt:=top 3
theorem sc_is_tuple_of:FnScope ["thing","many"] ["thing","many"] (defScope s_is_tuple_of):=⟨rfl,rfl,rfl,by decide +kernel,rfl,by decide +kernel,by decide +kernel⟩
abbrev s_is_told:Stmt:=top 4
theorem sc_is_told:FnScope ["thing","word","many"] ["thing","word","many"] (defScope s_is_told):=⟨rfl,rfl,rfl,by decide +kernel,rfl,by decide +kernel,by decide +kernel⟩
abbrev s_is_tie_number:Stmt:=top 9
theorem sc_is_tie_number:FnScope ["web","thing"] ["web","thing"] (defScope s_is_tie_number):=⟨rfl,rfl,rfl,by decide +kernel,rfl,by decide +kernel,by decide +kernel⟩
abbrev s_whole:Stmt:=top 10
theorem sc_whole:FnScope ["web"] ["web"] (defScope s_whole):=⟨rfl,rfl,rfl,by decide +kernel,rfl,by decide +kernel,by decide +kernel⟩
abbrev s_across:Stmt:=top 12
theorem sc_across:FnScope ["web","tie","heights","a","b","length"] ["web","tie","heights"] (defScope s_across):=⟨rfl,rfl,rfl,by decide +kernel,rfl,by decide +kernel,by decide +kernel⟩
abbrev s_heights_hold:Stmt:=top 13
theorem sc_heights_hold:FnScope ["web","keep","heights"] ["web","keep","heights"] (defScope s_heights_hold):=⟨rfl,rfl,rfl,by decide +kernel,rfl,by decide +kernel,by decide +kernel⟩
abbrev s_need_times:Stmt:=top 15
theorem sc_need_times:FnScope ["t"] ["t"] (defScope s_need_times):=⟨rfl,rfl,rfl,by decide +kernel,rfl,by decide +kernel,by decide +kernel⟩
abbrev s_heights_beyond:Stmt:=top 16
theorem sc_heights_beyond:FnScope ["web","keep","tie","t","heights"] ["web","keep","tie","t","heights"] (defScope s_heights_beyond):=⟨rfl,rfl,rfl,by decide +kernel,rfl,by decide +kernel,by decide +kernel⟩
abbrev s_ringless:Stmt:=top 18
theorem sc_ringless:FnScope ["web","ties","marks","told","tie","a","b","length","one","other"] ["web","ties"] (defScope s_ringless):=⟨rfl,rfl,rfl,by decide +kernel,rfl,by decide +kernel,by decide +kernel⟩
abbrev s_with_tie:Stmt:=top 20
theorem sc_with_tie:FnScope ["keep","tie"] ["keep","tie"] (defScope s_with_tie):=⟨rfl,rfl,rfl,by decide +kernel,rfl,by decide +kernel,by decide +kernel⟩
abbrev s_kept_show:Stmt:=top 22
theorem sc_kept_show:FnScope ["web","kept"] ["web","kept"] (defScope s_kept_show):=⟨rfl,rfl,rfl,by decide +kernel,rfl,by decide +kernel,by decide +kernel⟩
abbrev s_not_among:Stmt:=top 23
theorem sc_not_among:FnScope ["web","out"] ["web","out"] (defScope s_not_among):=⟨rfl,rfl,rfl,by decide +kernel,rfl,by decide +kernel,by decide +kernel⟩
abbrev s_far_show:Stmt:=top 24
theorem sc_far_show:FnScope ["web","t","out","tie","heights"] ["web","t","out","tie","heights"] (defScope s_far_show):=⟨rfl,rfl,rfl,by decide +kernel,rfl,by decide +kernel,by decide +kernel⟩
abbrev s_is_undecided:Stmt:=top 25
theorem sc_is_undecided:FnScope ["web","kept","out","tie"] ["web","kept","out","tie"] (defScope s_is_undecided):=⟨rfl,rfl,rfl,by decide +kernel,rfl,by decide +kernel,by decide +kernel⟩
abbrev s_shown:Stmt:=top 26
theorem sc_shown:FnScope ["web","t","tree","kept","out","one","other"] ["web","t","tree","kept","out"] (defScope s_shown):=⟨rfl,rfl,rfl,by decide +kernel,rfl,by decide +kernel,by decide +kernel⟩
abbrev s_cases_show:Stmt:=top 27
theorem sc_cases_show:FnScope ["web","t","tree"] ["web","t","tree"] (defScope s_cases_show):=⟨rfl,rfl,rfl,by decide +kernel,rfl,by decide +kernel,by decide +kernel⟩
abbrev s__law_pot:Stmt:=top 29
theorem sc__law_pot:FnScope ["script","k","cell","prime"] ["script","k"] (defScope s__law_pot):=⟨rfl,rfl,rfl,by decide +kernel,rfl,by decide +kernel,by decide +kernel⟩
abbrev s__law_take:Stmt:=top 30
theorem sc__law_take:FnScope ["pot","many","found"] ["pot","many"] (defScope s__law_take):=⟨rfl,rfl,rfl,by decide +kernel,rfl,by decide +kernel,by decide +kernel⟩
abbrev s__law_length:Stmt:=top 31
theorem sc__law_length:FnScope ["pot","way"] ["pot","way"] (defScope s__law_length):=⟨rfl,rfl,rfl,by decide +kernel,rfl,by decide +kernel,by decide +kernel⟩
abbrev s__law_tied:Stmt:=top 32
theorem sc__law_tied:FnScope ["pot","n","style","a","b","beside"] ["pot","n","style","a","b"] (defScope s__law_tied):=⟨rfl,rfl,rfl,by decide +kernel,rfl,by decide +kernel,by decide +kernel⟩
abbrev s__law_order:Stmt:=top 33
theorem sc__law_order:FnScope ["pot","many","left","found","turn"] ["pot","many"] (defScope s__law_order):=⟨rfl,rfl,rfl,by decide +kernel,rfl,by decide +kernel,by decide +kernel⟩
abbrev s__law_web:Stmt:=top 34
theorem sc__law_web:FnScope ["pot","most","n","style","way","names","ties","b","a","one","other"] ["pot","most"] (defScope s__law_web):=⟨rfl,rfl,rfl,by decide +kernel,rfl,by decide +kernel,by decide +kernel⟩
abbrev s__law_fars:Stmt:=top 35
theorem sc__law_fars:FnScope ["web","keep","start","found","turn","number","a","b","length","one","other","more"] ["web","keep","start"] (defScope s__law_fars):=⟨rfl,rfl,rfl,by decide +kernel,rfl,by decide +kernel,by decide +kernel⟩
abbrev s__law_holds:Stmt:=top 36
theorem sc__law_holds:FnScope ["web","keep","heights","number","a","b","length"] ["web","keep","heights"] (defScope s__law_holds):=⟨rfl,rfl,rfl,by decide +kernel,rfl,by decide +kernel,by decide +kernel⟩
abbrev s__law_parts:Stmt:=top 37
theorem sc__law_parts:FnScope ["web","keep","names","number","a","b","length","one","other"] ["web","keep"] (defScope s__law_parts):=⟨rfl,rfl,rfl,by decide +kernel,rfl,by decide +kernel,by decide +kernel⟩
abbrev s__law_rest:Stmt:=top 38
theorem sc__law_rest:FnScope ["web","left"] ["web","left"] (defScope s__law_rest):=⟨rfl,rfl,rfl,by decide +kernel,rfl,by decide +kernel,by decide +kernel⟩
abbrev s__law_is_number:Stmt:=top 39
theorem sc__law_is_number:FnScope ["thing"] ["thing"] (defScope s__law_is_number):=⟨rfl,rfl,rfl,by decide +kernel,rfl,by decide +kernel,by decide +kernel⟩
abbrev s__law_leaf:Stmt:=top 40
theorem sc__law_leaf:FnScope ["web","t","tree","left","tie","heights","a","b","length"] ["web","t","tree","left"] (defScope s__law_leaf):=⟨rfl,rfl,rfl,by decide +kernel,rfl,by decide +kernel,by decide +kernel⟩
abbrev s__law_shown:Stmt:=top 41
theorem sc__law_shown:FnScope ["web","t","tree","kept","left","tie","one","other"] ["web","t","tree","kept","left"] (defScope s__law_shown):=⟨rfl,rfl,rfl,by decide +kernel,rfl,by decide +kernel,by decide +kernel⟩
abbrev s__law_far_leaf:Stmt:=top 42
theorem sc__law_far_leaf:FnScope ["web","t","left","tie","a","b","length","roof","heights"] ["web","t","left","tie"] (defScope s__law_far_leaf):=⟨rfl,rfl,rfl,by decide +kernel,rfl,by decide +kernel,by decide +kernel⟩
abbrev s__law_tree:Stmt:=top 43
theorem sc__law_tree:FnScope ["pot","web","t","kept","left","deep","some","tie","one"] ["pot","web","t","kept","left","deep"] (defScope s__law_tree):=⟨rfl,rfl,rfl,by decide +kernel,rfl,by decide +kernel,by decide +kernel⟩
abbrev s__law_times:Stmt:=top 44
theorem sc__law_times:FnScope ["pot"] ["pot"] (defScope s__law_times):=⟨rfl,rfl,rfl,by decide +kernel,rfl,by decide +kernel,by decide +kernel⟩
abbrev s__law_road:Stmt:=top 45
theorem sc__law_road:FnScope ["pot","tree","found"] ["pot","tree"] (defScope s__law_road):=⟨rfl,rfl,rfl,by decide +kernel,rfl,by decide +kernel,by decide +kernel⟩
abbrev s__law_at:Stmt:=top 46
theorem sc__law_at:FnScope ["tree","road","part"] ["tree","road"] (defScope s__law_at):=⟨rfl,rfl,rfl,by decide +kernel,rfl,by decide +kernel,by decide +kernel⟩
abbrev s__law_put:Stmt:=top 47
theorem sc__law_put:FnScope ["tree","road","other","row"] ["tree","road","other"] (defScope s__law_put):=⟨rfl,rfl,rfl,by decide +kernel,rfl,by decide +kernel,by decide +kernel⟩
abbrev s__law_heights_off:Stmt:=top 48
theorem sc__law_heights_off:FnScope ["pot","heights","way","at","other"] ["pot","heights"] (defScope s__law_heights_off):=⟨rfl,rfl,rfl,by decide +kernel,rfl,by decide +kernel,by decide +kernel⟩
abbrev s__law_tie_off:Stmt:=top 49
theorem sc__law_tie_off:FnScope ["pot","web","tie"] ["pot","web","tie"] (defScope s__law_tie_off):=⟨rfl,rfl,rfl,by decide +kernel,rfl,by decide +kernel,by decide +kernel⟩
abbrev s__law_case_off:Stmt:=top 50
theorem sc__law_case_off:FnScope ["pot","web","case","way","word","some"] ["pot","web","case"] (defScope s__law_case_off):=⟨rfl,rfl,rfl,by decide +kernel,rfl,by decide +kernel,by decide +kernel⟩
abbrev s__law_right:Stmt:=top 51
theorem sc__law_right:FnScope ["web","t","tree","due","found"] ["web","t","tree"] (defScope s__law_right):=⟨rfl,rfl,rfl,by decide +kernel,rfl,by decide +kernel,by decide +kernel⟩
abbrev s_law:Stmt:=top 52
theorem sc_law:FnScope ["script","k","pot","web","t","tree","turn","road","other","both"] ["script"] (defScope s_law):=⟨rfl,rfl,rfl,by decide +kernel,rfl,by decide +kernel,by decide +kernel⟩
section
variable {P:Program} {w:World} {K:PySem.W.Frag} {mg:Str->Option Value} {base:Heap}
theorem ok__law_take (T:Bi mg) (D:DefOk K mg "_law_take" s__law_take ["pot","many"]):Ok P w K mg base 1 "_law_take" ["pot","many"] spTake:=by
 refine mk_ok (k:=0) D sc__law_take (fun vs H Q E h=>?_) (fun f cdv A outer s H vs Q E hr h=>?_)
 ·obtain⟨p,m,rfl,_⟩:=h
  rfl
 obtain⟨p,m,rfl,⟨a,b,hp,ha,hb,hb2⟩,hm,hm2,q⟩:=h
 have nd:=sc__law_take.nd
 refine⟨_,(pss_cons (ps_if (pt_cmpR op_gt (pe_ix ix_list (pv 0) pe_int (fun _ _=>rfl)) pe_int (nomark _)) (pss_cons (ps_set (i:=2) nd rfl (Or.inl rfl) (pe_op op_mod (pe_ix ix_list (pv 0) pe_int (fun _ _=>rfl)) (pv 1))) (pss_cons (ps_asg (pe_op op_fdiv (pe_ix ix_list (pv 0) pe_int (fun _ _=>rfl)) (pv 1)) (pg_sub (pv 0) pe_int set_list)) (pss_one (ps_ret (pv 2))))) pss_nil) (pss_cons (ps_asg (pe_op op_mod (pe_op op_add (pe_op op_mul (pe_ix ix_list (pv 0) pe_int (fun _ _=>rfl)) pe_int) pe_int) pe_int) (pg_sub (pv 0) pe_int set_list)) (pss_one (ps_ret (pe_op op_mod (pe_op op_fdiv (pe_op op_mod (pe_op op_pow (pe_ix ix_list (pv 0) pe_int (fun _ _=>rfl)) pe_int) pe_int) pe_int) (pv 1)))))),?_⟩
 refine⟨_,rfl,p,_,_,_,rfl,rfl,SqL.of hp,rfl,_,_,rfl,rfl,_,rfl,?_⟩
 refine ite2 (fun c=>?_) (fun c=>?_)
 ·refine⟨_,rfl,p,_,_,_,rfl,rfl,SqL.of hp,rfl,_,rfl,_,_,rfl,rfl,hm,?_⟩
  refine⟨_,rfl,p,_,_,_,rfl,rfl,SqL.of hp,rfl,_,rfl,_,_,rfl,rfl,⟨hm,hm2⟩,?_⟩
  refine⟨_,rfl,p,_,0,0,rfl,rfl,hp,rfl,_,rfl,?_⟩
  refine q _ _ (Int.emod_nonneg _ (by omega)) (Int.emod_lt_of_pos _ hm) But.upd ⟨a / m,b,upd_same,Int.ediv_nonneg ha (by omega),hb,hb2⟩
 ·refine⟨_,rfl,p,_,_,_,rfl,rfl,SqL.of hp,rfl,_,_,rfl,rfl,.inr ⟨by decide,by decide⟩,_,_,rfl,rfl,_,_,rfl,rfl,(by show (0:Int) < 2147483647;decide),?_⟩
  refine⟨_,rfl,p,_,1,1,rfl,rfl,hp,rfl,?_⟩
  have n1:0≤(b * 48271 + 12820163) % 2147483647:=Int.emod_nonneg _ (by decide)
  have n2:(b * 48271 + 12820163) % 2147483647 < 2147483647:=Int.emod_lt_of_pos _ (by decide)
  refine⟨_,rfl,p,_,_,_,rfl,rfl,SqL.of upd_same,rfl,_,_,rfl,rfl,⟨by decide,by decide,by omega⟩,_,_,rfl,rfl,(by show (0:Int) < 2147483629;decide),_,_,rfl,rfl,⟨by decide,by decide⟩,_,rfl,_,_,rfl,rfl,hm,?_⟩
  exact q _ _ (Int.emod_nonneg _ (by omega)) (Int.emod_lt_of_pos _ hm) But.upd ⟨a,_,upd_same,ha,n1,n2⟩
theorem ok__law_pot (T:Bi mg) (D:DefOk K mg "_law_pot" s__law_pot ["script","k"]):Ok P w K mg base 1 "_law_pot" ["script","k"] (spPot K):=by
 refine mk_ok (k:=0) D sc__law_pot (fun vs H Q E h=>?_) (fun f cdv A outer s H vs Q E hr h=>?_)
 ·obtain⟨a,k,ns,rfl,_⟩:=h
  rfl
 obtain⟨a,k,ns,rfl,hS,hk0,hk1,q⟩:=h
 have nd:=sc__law_pot.nd
 have hl:(ns.map V.int).length=ns.length:=List.length_map _
 refine⟨_,(pss_cons (ps_set (i:=2) nd rfl (Or.inl rfl) pe_int) (pss_cons (ps_if (pt_cmpR op_lt (pv 1) (pe_callB call_len_seq rfl T.z_len (by decide +kernel) (pa_cons (pv 0) pa_nil)) (nomark _)) (pss_one (ps_set (i:=2) nd rfl (Or.inl rfl) (pe_op op_mod (pe_ix ix_list (pv 0) (pv 1) (fun _ _=>rfl)) (pe_op op_mulB (pe_op op_mulB (pe_op op_pow pe_int pe_int) (pe_op op_pow pe_int pe_int)) (pe_op op_pow pe_int pe_int))))) pss_nil) (pss_cons (ps_set (i:=3) nd rfl (Or.inl rfl) (pe_ix ix_list (pe_lst (pa_cons pe_int (pa_cons pe_int (pa_cons pe_int (pa_cons pe_int (pa_cons pe_int pa_nil)))))) (pe_op op_mod (pv 1) pe_int) (fun _ _=>rfl))) (pss_one (ps_ret (pe_lst (pa_cons (pe_callB (call_max2 rfl) rfl T.z_max (by decide +kernel) (pa_cons pe_int (pa_cons (pe_op op_sub (pv 2) (pe_op op_pow pe_int pe_int)) pa_nil))) (pa_cons (pe_op op_mod (pe_op op_pow (pe_op op_add (pe_op op_add (pe_op op_mod (pv 2) (pv 3)) (pe_op op_mul pe_int (pv 1))) pe_int) pe_int) pe_int) pa_nil)))))))),?_⟩
  -- behind the test: cell is some number that is not below nought
 have rest : ∀ (cell : Int), 0 ≤ cell → ∀ (σ : L2.St), σ = [some (.ref a), some (.int k), some (.int cell), none] →
     (tSeq (tAsg (tOp (rIxL K) (tLst (tCons (tC (.int 2147483629)) (tCons (tC (.int 2147483587)) (tCons (tC (.int 2147483579)) (tCons (tC (.int 2147483563)) (tCons (tC (.int 2147483549)) tNil)))))) (tOp (rI (fun _ j=>0 < j) fun i j=>.int (i % j)) (tVar 1) (tC (.int 5)))) (gName 3))
       (tRet (tLst (tCons (tCB (fun xs H Q=>∃ i j,xs=[.int i,.int j]∧Q (.int (if j > i then j else i)) H) (tCons (tC (.int 0)) (tCons (tOp (rI0 fun i j=>.int (i - j)) (tVar 2) (tOp (rI CPow fun i j=>.int (i ^ j.toNat)) (tC (.int 10)) (tC (.int 18)))) tNil)))
         (tCons (tOp (rI (fun _ j=>0 < j) fun i j=>.int (i % j)) (tOp (rI CPow fun i j=>.int (i ^ j.toNat)) (tOp (rI0 fun i j=>.int (i + j)) (tOp (rI0 fun i j=>.int (i + j)) (tOp (rI (fun _ j=>0 < j) fun i j=>.int (i % j)) (tVar 2) (tVar 3)) (tOp (rI CMul fun i j=>.int (i * j)) (tC (.int 7919)) (tVar 1))) (tC (.int 11))) (tC (.int 3))) (tC (.int 2147483647))) tNil)))))
       { nx:=fun _ H'=>Q .non H',rt:=Q } σ H:=by
  intro cell hc σ hσ
  subst hσ
  refine⟨(by show 5≤sizeLine;decide),fun l hl=>?_⟩
  refine⟨_,rfl,_,_,rfl,rfl,(by show (0:Int) < 5;decide),?_⟩
  have m0:0≤k % 5:=Int.emod_nonneg _ (by decide)
  have m1:k % 5 < 5:=Int.emod_lt_of_pos _ (by decide)
  have pr:∃ v:Int,atI [V.int 2147483629,V.int 2147483587,V.int 2147483579,V.int 2147483563,V.int 2147483549] (k % 5)=some (.int v)∧2147483549≤v∧v≤2147483629:=by
   have:k % 5=0∨k % 5=1∨k % 5=2∨k % 5=3∨k % 5=4:=by omega
   rcases this with e | e | e | e | e <;> rw[e] <;> exact⟨_,rfl,by decide,by decide⟩
  obtain⟨v,hv,v1,v2⟩:=pr
  refine⟨l,_,_,_,rfl,rfl,SqL.of upd_same,hv,?_⟩
  have S1:Same H (upd H l (.lst [V.int 2147483629,V.int 2147483587,V.int 2147483579,V.int 2147483563,V.int 2147483549])):=same_new hl
  refine⟨_,rfl,_,_,rfl,rfl,⟨by decide,by decide,by decide⟩,_,_,rfl,rfl,_,_,rfl,?_⟩
  refine⟨_,rfl,_,rfl,_,_,rfl,rfl,(by show (0:Int) < v;omega),_,rfl,_,_,rfl,rfl,.inl ⟨by decide,by decide⟩,_,_,rfl,rfl,_,_,rfl,rfl,_,_,rfl,rfl,⟨by decide,by decide,?_⟩,_,_,rfl,rfl,(by show (0:Int) < 2147483647;decide),?_⟩
  ·have c0:0≤cell % v:=Int.emod_nonneg _ (by omega)
   have c1:cell % v < v:=Int.emod_lt_of_pos _ (by omega)
   omega
  refine⟨(by show 2≤sizeLine;decide),fun l2 hl2=>?_⟩
  refine q l2 _ (S1.trans (same_new hl2)) (S1.free hl2) ⟨_,_,upd_same,?_,Int.emod_nonneg _ (by decide),Int.emod_lt_of_pos _ (by decide)⟩
  split <;> omega
 refine⟨_,rfl,_,rfl,a,_,rfl,.inl hS,_,_,rfl,rfl,_,rfl,?_⟩
 refine ite2 (fun c=>?_) (fun c=>?_)
 ·have c':k < (((ns.map V.int).length:Nat):Int):=of_decide_eq_true c
  rw[hl] at c'
  obtain⟨v,hv⟩:∃ v:Int,atI (ns.map V.int) k=some (.int v):=by
   have hk:k.toNat < ns.length:=by omega
   have ek:k=((k.toNat:Nat):Int):=by omega
   have z:atI (ns.map V.int) ((k.toNat:Nat):Int)=some (.int ns[k.toNat]):=atI_nat (by rw[List.getElem?_map,List.getElem?_eq_getElem hk] <;> rfl)
   rw[← ek] at z
   exact⟨_,z⟩
  refine⟨_,rfl,_,rfl,a,_,_,_,rfl,rfl,hS,hv,?_⟩
  refine⟨_,_,rfl,rfl,⟨by decide,by decide,by decide⟩,_,_,rfl,rfl,⟨by decide,by decide,by decide⟩,_,_,rfl,rfl,mulB,_,_,rfl,rfl,⟨by decide,by decide,by decide⟩,_,_,rfl,rfl,mulB2,_,_,rfl,rfl,posB,?_⟩
  exact rest _ (Int.emod_nonneg _ (by have:=posB;omega)) _ rfl
 ·exact rest 5 (by decide) _ rfl
theorem ok__law_length (T:Bi mg) (D:DefOk K mg "_law_length" s__law_length ["pot","way"]) (O__law_take:Ok P w K mg base 1 "_law_take" ["pot","many"] spTake):Ok P w K mg base 2 "_law_length" ["pot","way"] spLength:=by
 refine mk_ok (k:=1) D sc__law_length (fun vs H Q E h=>?_) (fun f cdv A outer s H vs Q E hr h=>?_)
 ·obtain⟨p,y,rfl,_⟩:=h
  rfl
 obtain⟨p,y,rfl,hp,hy0,hy5,q⟩:=h
 have nd:=sc__law_length.nd
 refine⟨_,(pss_cons (ps_if (pt_cmpR op_lt (pv 1) pe_int (nomark _)) (pss_one (ps_ret (pe_ix ix_list (pe_lst (pa_cons pe_int (pa_cons (pe_op op_add pe_int (pe_callD O__law_take hr rfl (pa_cons (pv 0) (pa_cons pe_int pa_nil)))) pa_nil))) (pv 1) (fun _ _=>rfl)))) pss_nil) (pss_cons (ps_if (pt_cmpR op_eq (pv 1) pe_int (nomark _)) (pss_one (ps_ret (pe_op op_add pe_int (pe_callD O__law_take hr rfl (pa_cons (pv 0) (pa_cons pe_int pa_nil)))))) pss_nil) (pss_cons (ps_if (pt_cmpR op_eq (pv 1) pe_int (nomark _)) (pss_one (ps_ret (pe_ix ix_list (pe_lst (pa_cons pe_int (pa_cons pe_int (pa_cons pe_int (pa_cons (pe_op op_pow pe_int pe_int) (pa_cons (pe_op op_sub (pe_op op_pow pe_int pe_int) pe_int) (pa_cons (pe_op op_pow pe_int pe_int) pa_nil))))))) (pe_callD O__law_take hr rfl (pa_cons (pv 0) (pa_cons pe_int pa_nil))) (fun _ _=>rfl)))) pss_nil) (pss_one (ps_ret (pe_op op_add pe_int (pe_op op_mul (pe_callD O__law_take hr rfl (pa_cons (pv 0) (pa_cons (pe_op op_pow pe_int pe_int) pa_nil))) (pe_callD O__law_take hr rfl (pa_cons (pv 0) (pa_cons (pe_op op_add (pe_op op_pow pe_int pe_int) pe_int) pa_nil)))))))))),?_⟩
 refine⟨_,rfl,_,_,rfl,rfl,_,rfl,?_⟩
 refine ite2 (fun c=>?_) (fun c=>?_)
 ·have c':y < 2:=of_decide_eq_true c
  refine⟨_,rfl,p,3,rfl,hp,by decide,by decide,fun r H1 r0 r1 b1 p1=>?_⟩
  refine⟨_,_,rfl,rfl,(by show 2≤sizeLine;decide),fun l hl=>?_⟩
  have at_:∃ v:Int,atI [V.int 1,V.int (1 + r)] y=some (.int v)∧1≤v∧v≤10 ^ 18:=by
   have:y=0∨y=1:=by omega
   rcases this with e | e <;> rw[e]
   ·exact⟨1,rfl,by decide +kernel,by decide +kernel⟩
   ·exact⟨1 + r,rfl,by omega,by omega⟩
  obtain⟨v,hv,v0,v1⟩:=at_
  refine⟨_,rfl,l,_,_,_,rfl,rfl,SqL.of upd_same,hv,?_⟩
  obtain⟨a',b',e',z⟩:=p1
  exact q v _ v0 v1 (b1.trans (But.new hl)) ⟨a',b',(same_new hl) _ _ e',z⟩
 refine⟨_,rfl,rfl,_,rfl,?_⟩
 refine ite2 (fun c2=>?_) (fun c2=>?_)
 ·refine⟨_,rfl,p,50,rfl,hp,by decide,by decide,fun r H1 r0 r1 b1 p1=>?_⟩
  exact⟨_,_,rfl,rfl,q _ _ (by omega) (by omega) b1 p1⟩
 refine⟨_,rfl,rfl,_,rfl,?_⟩
 refine ite2 (fun c3=>?_) (fun c3=>?_)
 ·refine⟨_,_,rfl,rfl,⟨by decide,by decide,by decide⟩,_,_,rfl,rfl,⟨by decide,by decide,by decide⟩,_,_,rfl,rfl,_,_,rfl,rfl,⟨by decide,by decide,by decide⟩,(by show 6≤sizeLine;decide),fun l hl=>?_⟩
  have hp':Pot (upd H l (.lst [V.int 1,V.int 2,V.int 3,V.int ((10:Int) ^ (18:Int).toNat),V.int ((10:Int) ^ (18:Int).toNat - 1),V.int ((10:Int) ^ (17:Int).toNat)])) p:=by
   obtain⟨a',b',e',z⟩:=hp
   exact⟨a',b',(same_new hl) _ _ e',z⟩
  have lp:l≠p:=by
   obtain⟨a',b',e',z⟩:=hp
   exact fun e=>by rw[e,e'] at hl;cases hl
  refine⟨_,rfl,p,6,rfl,hp',by decide,by decide,fun r H1 r0 r1 b1 p1=>?_⟩
  have at_:∃ v:Int,atI [V.int 1,V.int 2,V.int 3,V.int ((10:Int) ^ (18:Int).toNat),V.int ((10:Int) ^ (18:Int).toNat - 1),V.int ((10:Int) ^ (17:Int).toNat)] r=some (.int v)∧1≤v∧v≤10 ^ 18:=by
   have:r=0∨r=1∨r=2∨r=3∨r=4∨r=5:=by omega
   rcases this with e | e | e | e | e | e <;> rw[e] <;> exact⟨_,rfl,by decide +kernel,by decide +kernel⟩
  obtain⟨v,hv,v0,v1⟩:=at_
  refine⟨l,_,_,_,rfl,rfl,SqL.of (b1 _ _ lp upd_same),hv,?_⟩
  exact q v _ v0 v1 ((But.new hl).trans b1) p1
 ·refine⟨_,rfl,_,_,rfl,rfl,⟨by decide,by decide,by decide⟩,p,_,rfl,hp,by decide,by decide,fun r H1 r0 r1 b1 p1=>?_⟩
  refine⟨_,rfl,_,_,rfl,rfl,⟨by decide,by decide,by decide⟩,_,_,rfl,rfl,p,_,rfl,p1,by decide,by decide,fun r2 H2 r20 r21 b2 p2=>?_⟩
  have e9:((10:Int) ^ (9:Int).toNat)=1000000000:=by decide
  rw[e9] at r1 r21
  refine⟨_,_,rfl,rfl,.inl ⟨by omega,by omega⟩,_,_,rfl,rfl,?_⟩
  have m0:0≤r * r2:=Int.mul_nonneg r0 r20
  have m1:r * r2≤999999999 * 1000000000:=Int.mul_le_mul (by omega) (by omega) r20 (by decide)
  exact q _ _ (by omega) (by omega) (b1.trans b2) p2
theorem ok__law_tied (T:Bi mg) (D:DefOk K mg "_law_tied" s__law_tied ["pot","n","style","a","b"]) (O__law_take:Ok P w K mg base 1 "_law_take" ["pot","many"] spTake):Ok P w K mg base 2 "_law_tied" ["pot","n","style","a","b"] spTied:=by
 refine mk_ok (k:=1) D sc__law_tied (fun vs H Q E h=>?_) (fun f cdv A outer s H vs Q E hr h=>?_)
 ·obtain⟨p,n,y,a,b,rfl,_⟩:=h
  rfl
 obtain⟨p,n,y,a,b,rfl,hp,q⟩:=h
 have nd:=sc__law_tied.nd
 have q0:∀ k,Q (.bl k) H:=fun k=>q k H But.refl hp
 refine⟨_,(pss_cons (ps_set (i:=5) nd rfl (Or.inl rfl) (pe_or (pe_cmpR op_eq (pe_op op_sub (pv 4) (pv 3)) pe_int (nomark _)) (pe_one (pe_cmpR op_eq (pe_op op_sub (pv 4) (pv 3)) (pe_op op_sub (pv 1) pe_int) (nomark _))))) (pss_cons (ps_if (pt_cmpR op_lt (pv 2) pe_int (nomark _)) (pss_one (ps_ret (pe_or (pv 5) (pe_one (pe_and (pe_cmpR op_eq (pv 2) pe_int (nomark _)) (pe_one (pe_cmpR op_eq (pe_callD O__law_take hr rfl (pa_cons (pv 0) (pa_cons pe_int pa_nil))) pe_int (nomark _)))))))) pss_nil) (pss_cons (ps_if (pt_cmpR op_lt (pv 2) pe_int (nomark _)) (pss_one (ps_ret (pe_cmpR op_eq (pe_cmpR op_gt (pe_callD O__law_take hr rfl (pa_cons (pv 0) (pa_cons pe_int pa_nil))) pe_int (nomark _)) (pe_cmpR op_eq (pv 2) pe_int (nomark _)) (nomark _)))) pss_nil) (pss_cons (ps_if (pt_cmpR op_eq (pv 2) pe_int (nomark _)) (pss_one (ps_ret (pe_or (pe_cmpR op_eq (pe_op op_sub (pv 4) (pv 3)) pe_int (nomark _)) (pe_one (pe_and (pe_cmpR op_eq (pe_op op_sub (pv 4) (pv 3)) pe_int (nomark _)) (pe_one (pe_cmpR op_gt (pe_op op_mod (pv 4) pe_int) pe_int (nomark _)))))))) pss_nil) (pss_cons (ps_if (pt_cmpR op_lt (pv 2) pe_int (nomark _)) (pss_one (ps_ret (pe_and (pe_cmpR op_eq (pe_cmpR op_eq (pe_op op_mod (pv 3) pe_int) (pe_op op_mod (pv 4) pe_int) (nomark _)) (pe_cmpR op_eq (pv 2) pe_int (nomark _)) (nomark _)) (pe_one (pe_cmpR op_gt (pe_callD O__law_take hr rfl (pa_cons (pv 0) (pa_cons pe_int pa_nil))) pe_int (nomark _)))))) pss_nil) (pss_one (ps_ret pe_bl))))))),?_⟩
 refine⟨_,rfl,_,rfl,_,_,rfl,rfl,rfl,_,rfl,?_⟩
 refine ite2 (fun c=>?_) (fun c=>?_)
 all_goals (try refine⟨_,rfl,_,rfl,_,_,rfl,rfl,_,rfl,_,_,rfl,rfl,rfl,?_⟩)
 all_goals
  refine⟨_,rfl,_,_,rfl,rfl,_,rfl,?_⟩
  refine ite2 (fun c1=>?_) (fun c1=>?_)
  ·refine⟨_,rfl,_,rfl,?_⟩
   refine ite2 (fun d=>?_) (fun d=>?_)
   ·exact q0 _
   ·refine⟨_,rfl,rfl,_,rfl,?_⟩
    refine ite2 (fun d=>?_) (fun d=>?_)
    ·exact⟨_,rfl,p,_,rfl,hp,by decide,by decide,fun r H' _ _ b1 p1=>⟨rfl,q _ _ b1 p1⟩⟩
    ·exact q0 _
  refine⟨_,rfl,_,_,rfl,rfl,_,rfl,?_⟩
  refine ite2 (fun c2=>?_) (fun c2=>?_)
  ·exact⟨_,rfl,p,_,rfl,hp,by decide,by decide,fun r H' _ _ b1 p1=>⟨_,_,rfl,rfl,_,rfl,rfl,rfl,q _ _ b1 p1⟩⟩
  refine⟨_,rfl,rfl,_,rfl,?_⟩
  refine ite2 (fun c3=>?_) (fun c3=>?_)
  ·refine⟨_,rfl,_,rfl,_,_,rfl,rfl,rfl,_,rfl,?_⟩
   refine ite2 (fun d=>?_) (fun d=>?_)
   ·exact q0 _
   ·refine⟨_,rfl,_,rfl,_,_,rfl,rfl,rfl,_,rfl,?_⟩
    refine ite2 (fun d=>?_) (fun d=>?_)
    ·exact⟨_,rfl,_,_,rfl,rfl,(by show (0:Int) < 3;decide),_,_,rfl,rfl,q0 _⟩
    ·exact q0 _
  refine⟨_,rfl,_,_,rfl,rfl,_,rfl,?_⟩
  refine ite2 (fun c4=>?_) (fun c4=>?_)
  ·refine⟨_,rfl,_,_,rfl,rfl,(by show (0:Int) < 2;decide),_,rfl,_,_,rfl,rfl,(by show (0:Int) < 2;decide),rfl,_,rfl,rfl,rfl,_,rfl,?_⟩
   refine ite2 (fun d=>?_) (fun d=>?_)
   ·exact⟨_,rfl,p,_,rfl,hp,by decide,by decide,fun r H' _ _ b1 p1=>⟨_,_,rfl,rfl,q _ _ b1 p1⟩⟩
   ·exact q0 _
  ·exact q0 _
theorem ok__law_order (T:Bi mg) (D:DefOk K mg "_law_order" s__law_order ["pot","many"]) (O__law_take:Ok P w K mg base 1 "_law_take" ["pot","many"] spTake):Ok P w K mg base 2 "_law_order" ["pot","many"] spOrder:=by
 refine mk_ok (k:=1) D sc__law_order (fun vs H Q E h=>?_) (fun f cdv A outer s H vs Q E hr h=>?_)
 ·obtain⟨p,m,rfl,_⟩:=h
  rfl
 obtain⟨p,m,rfl,hp,hm0,hm1,q⟩:=h
 have nd:=sc__law_order.nd
 refine⟨_,(pss_cons (ps_set (i:=2) nd rfl (Or.inl rfl) (pe_callTy (call_list_rng rfl) rfl T.z_list (by decide +kernel) (pa_cons (pe_callTy call_range rfl T.z_range (by decide +kernel) (pa_cons (pv 1) pa_nil)) pa_nil))) (pss_cons (ps_set (i:=3) nd rfl (Or.inl rfl) (pe_lst pa_nil)) (pss_cons (ps_for PassesOwn.never rfl (pi_range1 rfl T.z_range (pa_cons (pv 1) pa_nil)) (pg_name (i:=4) nd rfl (Or.inl rfl)) (pss_one (ps_expr (pe_bm PySem.F.plainAttrs_list PySem.F.slot_list_append PySem.F.type_list_append mt_append (pv 3) (pa_cons (pe_bm PySem.F.plainAttrs_list PySem.F.slot_list_pop PySem.F.type_list_pop mt_popAt (pv 2) (pa_cons (pe_callD O__law_take hr rfl (pa_cons (pv 0) (pa_cons (pe_callB call_len_seq rfl T.z_len (by decide +kernel) (pa_cons (pv 2) pa_nil)) pa_nil))) pa_nil)) pa_nil))))) (pss_one (ps_ret (pv 3)))))),?_⟩
 refine⟨_,rfl,m,rfl,fun g hg=>?_⟩
 refine⟨g,m,rfl,upd_same,hm0,hm1,fun l hl=>?_⟩
 refine⟨(by show 0≤sizeLine;decide),fun l2 hl2=>?_⟩
 obtain⟨H0,eH0⟩:∃ H0,H0=upd (upd (upd H g (.rng 0 m)) l (.lst ((List.range m.toNat).map fun i:Nat=>V.int (i:Int)))) l2 (.lst []):=⟨_,rfl⟩
 rw[← eH0]
 have S1:Same H (upd H g (.rng 0 m)):=same_new hg
 have S2:=S1.trans (same_new (o:=.lst ((List.range m.toNat).map fun i:Nat=>V.int (i:Int))) hl)
 have S3:Same H H0:=by rw[eH0];exact S2.trans (same_new hl2)
 have fl:H l=none:=S1.free hl
 have fl2:H l2=none:=S2.free hl2
 have ll2:l≠l2:=fun e=>by rw[← e,upd_same] at hl2;cases hl2
 have el:H0 l=some (.lst ((List.range m.toNat).map fun i:Nat=>V.int (i:Int))):=by rw[eH0,upd_ne ll2,upd_same]
 have el2:H0 l2=some (.lst []):=by rw[eH0,upd_same]
 have hp0:Pot H0 p:=by
  obtain⟨a,b,e,z⟩:=hp
  exact⟨a,b,S3 _ _ e,z⟩
 have nlp:l≠p:=by
  obtain⟨a,b,e,z⟩:=hp
  exact fun x=>by rw[x,e] at fl;cases fl
 have nl2p:l2≠p:=by
  obtain⟨a,b,e,z⟩:=hp
  exact fun x=>by rw[x,e] at fl2;cases fl2
 refine⟨_,rfl,m,rfl,by omega,by omega,?_⟩
 refine for_range (n:=m.toNat) (fun i σ H'=>∃ (t:Option V) (ls ms:List Int),σ=[some (.ref p),some (.int m),some (.ref l),some (.ref l2),t]∧H' l=some (.lst (ls.map V.int))∧H' l2=some (.lst (ms.map V.int))∧Pot H' p ∧
  (∀ b o,b≠p->H b=some o->H' b=some o)∧(ms++ls).Perm ((List.range m.toNat).map fun i:Nat=>(i:Int))∧ms.length=i) ?start ?turn ?fin
 case start=>exact⟨none,(List.range m.toNat).map fun i:Nat=>(i:Int),[],rfl,by rw[el,List.map_map];rfl,el2,hp0,fun b o _ e=>S3 b o e,List.Perm.refl _,rfl⟩
 case turn =>
  rintro i σ H' hi ⟨t,ls,ms,rfl,e1,e2,hp',kp,pm,hl'⟩
  have hlen:ls.length=m.toNat - i:=by
   have:=pm.length_eq
   rw[List.length_append,List.length_map,List.length_range] at this
   omega
  refine⟨_,rfl,.inl ⟨rfl,_,SqL.of e2⟩,_,rfl,.inl ⟨rfl,_,SqL.of e1⟩,_,rfl,_,rfl,l,_,rfl,.inl (SqL.of e1),?_⟩
  refine⟨p,_,rfl,hp',(by rw[List.length_map];omega),(by rw[List.length_map];omega),fun r H1 r0 r1 b1 p1=>?_⟩
  rw[List.length_map] at r1
  have hr1:r.toNat < ls.length:=by omega
  have er:r=((r.toNat:Nat):Int):=by omega
  have six:seqIndex? r (ls.map V.int).length=some r.toNat:=(ixN_seq (by unfold ixN;rw[if_pos r0,if_pos (by rw[List.length_map];omega)])).1
  refine⟨l,_,r,r.toNat,.int ls[r.toNat],rfl,rfl,b1 _ _ nlp e1,by omega,by omega,six,by rw[List.getElem?_map,List.getElem?_eq_getElem hr1];rfl,?_⟩
  refine⟨l2,_,_,rfl,rfl,by rw[upd_ne ll2.symm];exact b1 _ _ nl2p e2,?_,?_⟩
  ·rw[List.length_map]
   exact Nat.lt_of_le_of_lt (by omega:ms.length≤1000) (by decide)
  ·refine⟨_,ls.eraseIdx r.toNat,ms++[ls[r.toNat]],rfl,?_,?_,?_,?_,?_,by rw[List.length_append,List.length_singleton];omega⟩
   ·rw[upd_ne ll2,upd_same,map_erase]
   ·rw[upd_same,List.map_append];rfl
   ·obtain⟨a,b,e,z⟩:=p1
    exact⟨a,b,by rw[upd_ne nl2p.symm,upd_ne nlp.symm];exact e,z⟩
   ·intro b o hb e
    have n1:b≠l:=fun x=>by rw[x,fl] at e;cases e
    have n2:b≠l2:=fun x=>by rw[x,fl2] at e;cases e
    rw[upd_ne n2,upd_ne n1]
    exact b1 _ _ hb (kp _ _ hb e)
   ·refine List.Perm.trans ?_ pm
    rw[List.append_assoc]
    refine List.Perm.append_left _ ?_
    show (ls[r.toNat]::ls.eraseIdx r.toNat).Perm ls
    exact erase_perm ls r.toNat hr1
 case fin =>
  rintro σ H' ⟨t,ls,ms,rfl,e1,e2,hp',kp,pm,hl'⟩
  have hlen:ls=[]:=by
   have:=pm.length_eq
   rw[List.length_append,List.length_map,List.length_range] at this
   exact List.eq_nil_of_length_eq_zero (by omega)
  subst hlen
  rw[List.append_nil] at pm
  exact⟨_,rfl,q l2 H' ms kp hp' fl2 nl2p e2 pm⟩
/-- between the turns of the web's loops -/
def WInv (H:Hp) (p ln lt:Addr) (m n st wy:Int) (ms:List Int) (b a:Nat) (σ:L2.St) (H':Hp):Prop :=
 ∃ (t7 t8 t9 t10:Option V) (ys:List V) (ties:List Tie),σ=[some (.ref p),some (.int m),some (.int n),some (.int st),some (.int wy),some (.ref ln),some (.ref lt),t7,t8,t9,t10] ∧
  H' ln=some (.lst (ms.map V.int))∧H' lt=some (.lst ys)∧TieL H' ys ties∧Pot H' p∧(∀ b o,b≠p->H b=some o->H' b=some o)∧Grown n.toNat ms b a ties
theorem ok__law_web (T:Bi mg) (D:DefOk K mg "_law_web" s__law_web ["pot","most"]) (O__law_take:Ok P w K mg base 2 "_law_take" ["pot","many"] spTake) (O__law_order:Ok P w K mg base 2 "_law_order" ["pot","many"] spOrder)
  (O__law_tied:Ok P w K mg base 2 "_law_tied" ["pot","n","style","a","b"] spTied) (O__law_length:Ok P w K mg base 2 "_law_length" ["pot","way"] spLength):Ok P w K mg base 3 "_law_web" ["pot","most"] (spWeb K):=by
 refine mk_ok (k:=2) D sc__law_web (fun vs H Q E h=>?_) (fun f cdv A outer s H vs Q E hr h=>?_)
 ·obtain⟨p,m,rfl,_⟩:=h
  rfl
 obtain⟨p,m,rfl,hp,hm0,hm1,q⟩:=h
 have nd:=sc__law_web.nd
 refine⟨_,(pss_cons (ps_set (i:=2) nd rfl (Or.inl rfl) (pe_op op_add pe_int (pe_callD O__law_take hr rfl (pa_cons (pv 0) (pa_cons (pv 1) pa_nil))))) (pss_cons (ps_set (i:=3) nd rfl (Or.inl rfl) (pe_callD O__law_take hr rfl (pa_cons (pv 0) (pa_cons pe_int pa_nil)))) (pss_cons (ps_set (i:=4) nd rfl (Or.inl rfl) (pe_callD O__law_take hr rfl (pa_cons (pv 0) (pa_cons pe_int pa_nil)))) (pss_cons (ps_set (i:=5) nd rfl (Or.inl rfl) (pe_callD O__law_order hr rfl (pa_cons (pv 0) (pa_cons (pv 2) pa_nil)))) (pss_cons (ps_set (i:=6) nd rfl (Or.inl rfl) (pe_lst pa_nil)) (pss_cons (ps_for PassesOwn.never rfl (pi_range1 rfl T.z_range (pa_cons (pv 2) pa_nil)) (pg_name (i:=7) nd rfl (Or.inl rfl)) (pss_one (ps_for PassesOwn.never rfl (pi_range1 rfl T.z_range (pa_cons (pv 7) pa_nil)) (pg_name (i:=8) nd rfl (Or.inl rfl)) (pss_one (ps_if (PW.pt (pw_and (pt_val (pe_callD O__law_tied hr rfl (pa_cons (pv 0) (pa_cons (pv 2) (pa_cons (pv 3) (pa_cons (pv 8) (pa_cons (pv 7) pa_nil))))))) (pw_and1 (pt_cmpR op_lt (pe_callB call_len_seq rfl T.z_len (by decide +kernel) (pa_cons (pv 6) pa_nil)) pe_int (nomark _))))) (pss_cons (ps_asg (pe_callB call_sortedI rfl T.z_sorted (by decide +kernel) (pa_cons (pe_lst (pa_cons (pe_ix ix_list (pv 5) (pv 8) (fun _ _=>rfl)) (pa_cons (pe_ix ix_list (pv 5) (pv 7) (fun _ _=>rfl)) pa_nil))) pa_nil)) (pg_lst (n:=2) rfl (pgs_cons (pg_name (i:=9) nd rfl (Or.inl rfl)) (pgs_cons (pg_name (i:=10) nd rfl (Or.inl rfl)) pgs_nil)))) (pss_one (ps_expr (pe_bm PySem.F.plainAttrs_list PySem.F.slot_list_append PySem.F.type_list_append mt_append (pv 6) (pa_cons (pe_tup (pa_cons (pv 9) (pa_cons (pv 10) (pa_cons (pe_callD O__law_length hr rfl (pa_cons (pv 0) (pa_cons (pv 4) pa_nil))) pa_nil)))) pa_nil))))) pss_nil))))) (pss_one (ps_ret (pe_tup (pa_cons (pv 2) (pa_cons (pe_callTy call_tuple_of rfl T.z_tuple (by decide +kernel) (pa_cons (pe_callB call_sortedT rfl T.z_sorted (by decide +kernel) (pa_cons (pv 6) pa_nil)) pa_nil)) pa_nil))))))))))),?_⟩
 refine⟨_,rfl,_,rfl,p,m,rfl,hp,by omega,by omega,fun r1 H1 r10 r11 b1 p1=>?_⟩
 refine⟨_,_,rfl,rfl,?_⟩
 refine⟨_,rfl,p,8,rfl,p1,by decide,by decide,fun st H2 _ _ b2 p2=>?_⟩
 refine⟨_,rfl,p,5,rfl,p2,by decide,by decide,fun wy H3 wy0 wy1 b3 p3=>?_⟩
 refine⟨_,rfl,_,rfl,p,_,rfl,p3,by omega,by omega,fun ln H4 ms b4 p4 f4 n4 e4 pm=>?_⟩
 obtain⟨n,en⟩:∃ n:Int,n=1 + r1:=⟨_,rfl⟩
 rw[← en] at pm
 have bt4:But p H H4:=b1.trans (b2.trans (b3.trans b4))
 have fln:H ln=none:=by
  cases e:H ln with
  | none=>rfl
  | some u=>rw[(b1.trans (b2.trans b3)) _ _ n4 e] at f4;cases f4
 refine⟨(by show 0≤sizeLine;decide),fun lt hlt=>?_⟩
 have flt:H lt=none:=by
  by_cases z:lt=p
  ·obtain⟨a',b',e',_⟩:=p4;rw[z,e'] at hlt;cases hlt
  ·cases e:H lt with
   | none=>rfl
   | some u=>rw[bt4 _ _ z e] at hlt;cases hlt
 have nlt:lt≠p:=by
  obtain⟨a',b',e',_⟩:=p4
  exact fun x=>by rw[x,e'] at hlt;cases hlt
 have nln:ln≠lt:=fun x=>by rw[← x,e4] at hlt;cases hlt
 have pm0:Perm0 n.toNat ms:=Perm0.of pm
 refine⟨_,rfl,n,by rw[en],by omega,by omega,?_⟩
 refine for_range (n:=n.toNat) (fun i σ H'=>WInv H p ln lt m n st wy ms i 0 σ H') ?start ?turn ?fin
 case start =>
  refine⟨none,none,none,none,[],[],by rw[en];rfl,by rw[upd_ne nln];exact e4,upd_same,.nil,?_,fun b o hb e=>?_,Grown.start⟩
  ·obtain⟨a',b',e',z⟩:=p4
   exact⟨a',b',by rw[upd_ne nlt.symm];exact e',z⟩
  ·rw[upd_ne (fun x=>by rw[x,flt] at e;cases e)]
   exact bt4 _ _ hb e
 case turn =>
  rintro i σ H' hi ⟨t7,t8,t9,t10,ys,ties,rfl,g1,g2,g3,g4,g5,g6⟩
  refine⟨_,rfl,_,rfl,by omega,by omega,?_⟩
  have ei:((0 + (i:Int)):Int).toNat=i:=by omega
  rw[ei]
  refine for_range (n:=i) (fun k σ H''=>(∃ t7,σ[7]?=some (some (.int (0 + (i:Int))))∧t7=())∧WInv H p ln lt m n st wy ms i k σ H'') ?start2 ?turn2 ?fin2
  case start2=>exact⟨⟨(),rfl,rfl⟩,some (.int (0 + (i:Int))),t8,t9,t10,ys,ties,rfl,g1,g2,g3,g4,g5,g6⟩
  case fin2 =>
   rintro σ H'' ⟨_,t7,t8,t9,t10,ys,ties,rfl,g1,g2,g3,g4,g5,g6⟩
   exact⟨t7,t8,t9,t10,ys,ties,rfl,g1,g2,g3,g4,g5,g6.down⟩
  case turn2 =>
   rintro k σ K1 hk ⟨⟨_,h7,_⟩,t7,t8,t9,t10,ys,ties,rfl,g1,g2,g3,g4,g5,g6⟩
   have e7:t7=some (.int (0 + (i:Int))):=by simpa using h7
   subst e7
   have again : ∀ {u8 u9 u10 : Option V} {ys' : List V} {ts : List Tie} {J : Hp}, J ln = some (.lst (ms.map V.int)) → J lt = some (.lst ys') → TieL J ys' ts → Pot J p → (∀ b o, b ≠ p → H b = some o → J b = some o) → Grown n.toNat ms i (k + 1) ts →
       (∃ t7,([some (.ref p),some (.int m),some (.int n),some (.int st),some (.int wy),some (.ref ln),some (.ref lt),some (.int (0 + (i:Int))),u8,u9,u10]:L2.St)[7]?=some (some (.int (0 + (i:Int))))∧t7=())∧WInv H p ln lt m n st wy ms i (k + 1) [some (.ref p),some (.int m),some (.int n),some (.int st),some (.int wy),some (.ref ln),some (.ref lt),some (.int (0 + (i:Int))),u8,u9,u10] J :=
    fun a1 a2 a3 a4 a5 a6=>⟨⟨(),rfl,rfl⟩,_,_,_,_,_,_,rfl,a1,a2,a3,a4,a5,a6⟩
   refine⟨_,rfl,_,rfl,_,rfl,_,rfl,_,rfl,p,_,_,_,_,rfl,g4,fun kk K2 c2 d2=>⟨kk,rfl,?_⟩⟩
   have nlnp:ln≠p:=n4
   have l1:K2 ln=some (.lst (ms.map V.int)):=c2 _ _ nlnp g1
   have l2:K2 lt=some (.lst ys):=c2 _ _ nlt g2
   have tup2:∀ a xs,K1 a=some (.tup xs)->K2 a=some (.tup xs):=fun a xs e=>c2 _ _ (fun x=>by
    obtain⟨a',b',e',_⟩:=g4
    rw[x,e'] at e;cases e) e
   have l3:TieL K2 ys ties:=g3.keep tup2
   have l5:∀ b o,b≠p->H b=some o->K2 b=some o:=fun b o hb e=>c2 _ _ hb (g5 _ _ hb e)
   have ylen:ys.length=ties.length:=Paired.length g3
   cases kk with
   | false =>
    refine iteF (iteF ?_)
    exact again l1 l2 l3 d2 l5 g6.skip
   | true =>
    refine iteT ?_
    refine⟨_,rfl,lt,_,rfl,.inl (SqL.of l2),_,_,rfl,rfl,_,rfl,?_⟩
    refine ite2 (fun c=>?_) (fun c=>?_)
    case refine_2=>exact again l1 l2 l3 d2 l5 g6.skip
    have c':((ys.length:Nat):Int) < 60:=of_decide_eq_true c
    have hkn:k < n.toNat:=by omega
    have at_:∀ j:Nat,j < n.toNat->atI (ms.map V.int) (j:Int)=some (.int (ms.getD j 0)):=fun j hj=>by
     have hj':j < ms.length:=by rw[pm0.len];exact hj
     refine atI_nat ?_
     rw[List.getElem?_map,List.getElem?_eq_getElem hj']
     simp [List.getD,hj']
    have ak:atI (ms.map V.int) (0 + (k:Int))=some (.int (ms.getD k 0)):=by rw[Int.zero_add];exact at_ k hkn
    have ai:atI (ms.map V.int) (0 + (i:Int))=some (.int (ms.getD i 0)):=by rw[Int.zero_add];exact at_ i hi
    refine⟨_,rfl,_,rfl,ln,_,_,_,rfl,rfl,SqL.of l1,ak,_,rfl,_,rfl,ln,_,_,_,rfl,rfl,SqL.of l1,ai,(by show 2≤sizeLine;decide),fun s1 hs1=>?_⟩
    refine⟨s1,[ms.getD k 0,ms.getD i 0],rfl,SqL.of upd_same,(by show 2 < 64;decide),fun zs pz wz s2 hs2=>?_⟩
    obtain⟨x,y,rfl,hxy,hor⟩:=two_sorted pz wz
    refine⟨s2,_,rfl,SqL.of upd_same,rfl,?_⟩
    refine⟨_,_,rfl,_,_,rfl,rfl,?_⟩
    have n1:∀ b o,K2 b=some o->b≠s1:=fun b o e=>ne_of_none e hs1
    have n2:∀ b o,K2 b=some o->b≠s2:=fun b o e=>ne_of_none (same_new hs1 b o e) hs2
    have up:∀ b o,K2 b=some o->upd (upd K2 s1 (.lst [.int (ms.getD k 0),.int (ms.getD i 0)])) s2 (.lst [.int x,.int y]) b=some o:=fun b o e=>by rw[upd_ne (n2 b o e),upd_ne (n1 b o e)];exact e
    refine⟨_,rfl,.inl ⟨rfl,_,SqL.of (up _ _ l2)⟩,_,rfl,_,rfl,_,rfl,_,rfl,?_⟩
    refine⟨p,wy,rfl,?_,wy0,wy1,fun len K5 ln0 ln1 c5 d5=>?_⟩
    ·obtain⟨a',b',e',z⟩:=d2
     exact⟨a',b',up _ _ e',z⟩
    refine⟨(by show 3≤sizeLine;decide),fun tp htp=>?_⟩
    have pl:∃ xs,K2 p=some (.lst xs):=d2.lst
    have up5:∀ b o,b≠p->K2 b=some o->upd K5 tp (.tup [.int x,.int y,.int len]) b=some o:=fun b o hb e=>by
     have e5:=c5 b o hb (up b o e)
     rw[upd_ne (ne_of_none e5 htp)];exact e5
    refine⟨lt,_,_,rfl,rfl,up5 _ _ nlt l2,?_,?_⟩
    ·exact Nat.lt_of_le_of_lt (by omega:ys.length≤1000) (by decide)
    have k5:∀ b o,b≠p->b≠lt->K2 b=some o->upd (upd K5 tp (.tup [.int x,.int y,.int len])) lt (.lst (ys++[.ref tp])) b=some o:=fun b o hb hb2 e=>by rw[upd_ne hb2];exact up5 b o hb e
    have ntp:tp≠lt:=fun z=>by
     have:=c5 _ _ nlt (up _ _ l2)
     rw[← z,htp] at this;cases this
    refine again (k5 _ _ nlnp nln l1) upd_same (TieL.snoc (TieL.keep l3 fun a xs e=>k5 _ _ ?_ ?_ e) ?_) ?_ (fun b o hb e=>k5 _ _ hb (fun z=>by rw[z,flt] at e;cases e) (l5 _ _ hb e))
     (g6.add (x:=x) (y:=y) (l:=len) pm0 hk hi (by omega) ln0 ln1 hor hxy)
    ·intro z
     obtain⟨xs',e'⟩:=pl
     rw[z,e'] at e;cases e
    ·intro z
     rw[z,l2] at e;cases e
    ·rw[upd_ne ntp,upd_same];rfl
    ·obtain⟨a',b',e',z⟩:=d5
     exact⟨a',b',by rw[upd_ne nlt.symm,upd_ne (ne_of_none e' htp)];exact e',z⟩
 case fin =>
  rintro σ H' ⟨t7,t8,t9,t10,ys,ties,rfl,g1,g2,g3,g4,g5,g6⟩
  have ylen:ys.length=ties.length:=Paired.length g3
  have few:=g6.few
  refine⟨_,rfl,_,rfl,lt,ys,ties.map tieI,rfl,SqL.of g2,by omega,paired_keys (fun y t ⟨a,e1,e2⟩=>⟨a,e1,SqT.of e2⟩) g3,fun k hk=>?_,fun qs pq wq l hl=>?_⟩
  ·obtain⟨t,_,rfl⟩:=List.mem_map.mp hk
   exact fun z=>by cases z
  obtain⟨ts,pt,tl,wt⟩:=tie_out g3 pq wq
  refine⟨l,_,rfl,.inl ⟨SqL.of upd_same,fun l' hl'=>?_⟩⟩
  refine⟨(by show 2≤sizeLine;decide),fun v hv=>?_⟩
  have S1:Same H' (upd H' l (.lst (qs.map (·.1)))):=same_new hl
  have S2:=S1.trans (same_new (o:=.tup (qs.map (·.1))) hl')
  have S3:=S2.trans (same_new (o:=.tup [.int n,.ref l']) hv)
  refine q (.ref v) _ n ts (fun b o hb e=>S3 _ _ (g5 _ _ hb e)) ?_ ⟨by omega,by omega,rise_of wt ((pt.pairwise_iff (fun {a b} h z=>h ⟨z.1.symm,z.2.symm⟩)).mpr g6.nd),by have:=pt.length_eq;omega,fun t ht=>?_⟩ (by omega) ?_
  ·obtain⟨a',b',e',z⟩:=g4
   exact⟨a',b',S3 _ _ e',z⟩
  ·have:=g6.ok t (pt.mem_iff.mp ht)
   have e:((n.toNat:Nat):Int)=n:=by omega
   rw[e] at this
   exact this
  ·refine⟨v,_,rfl,upd_same,_,_,rfl,rfl,_,_,rfl,⟨l',qs.map (·.1),rfl,?_,?_⟩,rfl⟩
   ·exact (same_new hv) _ _ upd_same
   ·exact TieL.is (tl.keep fun a xs e=>S3 _ _ e)
theorem ok_is_whole (T:Bi mg) (D:DefOk K mg "is_whole" s_is_whole ["thing"]):Ok P w K mg base 1 "is_whole" ["thing"] (spD1 K (fun _=>True) wholeB):=by
 refine mk_ok (k:=0) D sc_is_whole (fun vs H Q E h=>?_) (fun f cdv A outer s H vs Q E hr h=>?_)
 ·obtain⟨d,v,rfl,_⟩:=h
  rfl
 obtain⟨d,v,rfl,hd,_,q⟩:=h
 have nd:=sc_is_whole.nd
 have q0:=q H (Same.refl H)
 have ty:=ty_of hd
 refine⟨_,(pss_one (ps_ret (pe_and (pe_callB (call_isi (n:="int")) rfl T.z_isinstance (by decide +kernel) (pa_cons (pv 0) (pa_cons (pe_bltn (v:=.ty "int") rfl T.z_int (by decide +kernel) rfl) pa_nil))) (pe_one (pe_not (pe_callB (call_isi (n:="bool")) rfl T.z_isinstance (by decide +kernel) (pa_cons (pv 0) (pa_cons (pe_bltn (v:=.ty "bool") rfl T.z_bool (by decide +kernel) rfl) pa_nil)))))))),?_⟩
 cases d with
 | int i=>exact⟨_,rfl,_,_,_,rfl,ty,rfl,_,rfl,iteT ⟨_,rfl,_,_,_,rfl,ty,rfl,_,rfl,q0⟩⟩
 | bool b=>exact⟨_,rfl,_,_,_,rfl,ty,rfl,_,rfl,iteT ⟨_,rfl,_,_,_,rfl,ty,rfl,_,rfl,q0⟩⟩
 | none=>exact⟨_,rfl,_,_,_,rfl,ty,rfl,_,rfl,iteF q0⟩
 | str x=>exact⟨_,rfl,_,_,_,rfl,ty,rfl,_,rfl,iteF q0⟩
 | tuple ds=>exact⟨_,rfl,_,_,_,rfl,ty,rfl,_,rfl,iteF q0⟩
 | list ds=>exact⟨_,rfl,_,_,_,rfl,ty,rfl,_,rfl,iteF q0⟩
 | dict ds=>exact⟨_,rfl,_,_,_,rfl,ty,rfl,_,rfl,iteF q0⟩
theorem ok_is_wholes (T:Bi mg) (D:DefOk K mg "is_wholes" s_is_wholes ["thing"]) (O_is_whole:Ok P w K mg base 1 "is_whole" ["thing"] (spD1 K (fun _=>True) wholeB)):Ok P w K mg base 2 "is_wholes" ["thing"] (spD1 K few wholesB):=by
 refine mk_ok (k:=1) D sc_is_wholes (fun vs H Q E h=>?_) (fun f cdv A outer s H vs Q E hr h=>?_)
 ·obtain⟨d,v,rfl,_⟩:=h
  rfl
 obtain⟨d,v,rfl,hd,hfew,q⟩:=h
 have nd:=sc_is_wholes.nd
 have q0:=q H (Same.refl H)
 have ty:=ty_of hd
 refine⟨_,(pss_one (ps_ret (pe_and (pe_callB (call_isi (n:="tuple")) rfl T.z_isinstance (by decide +kernel) (pa_cons (pv 0) (pa_cons (pe_bltn (v:=.ty "tuple") rfl T.z_tuple (by decide +kernel) rfl) pa_nil))) (pe_one (pe_callB (call_all rfl) rfl T.z_all (by decide +kernel) (pa_cons (pe_comp (N:=["thing"]) (sc0:=defScope s_is_wholes) (own:=["part"]) (fr:=[]) (js:=[]) rfl (pi_tup (pv 0)) (fun _ _ _ _=>(pg_name (i:=0) (by show List.Nodup [("part":Str)];decide +kernel) rfl (Or.inl rfl))) (fun _ _ _ _=>pts_nil) (fun _ _ _ _=>(pe_callD O_is_whole hr rfl (pa_cons (pv 0) pa_nil)))) pa_nil)))))),?_⟩
 cases d with
 | int i=>exact⟨_,rfl,_,_,_,rfl,ty,rfl,_,rfl,iteF q0⟩
 | bool b=>exact⟨_,rfl,_,_,_,rfl,ty,rfl,_,rfl,iteF q0⟩
 | none=>exact⟨_,rfl,_,_,_,rfl,ty,rfl,_,rfl,iteF q0⟩
 | str x=>exact⟨_,rfl,_,_,_,rfl,ty,rfl,_,rfl,iteF q0⟩
 | list ds=>exact⟨_,rfl,_,_,_,rfl,ty,rfl,_,rfl,iteF q0⟩
 | dict ds=>exact⟨_,rfl,_,_,_,rfl,ty,rfl,_,rfl,iteF q0⟩
 | tuple ds =>
  refine⟨_,rfl,_,_,_,rfl,ty,rfl,_,rfl,iteT ?_⟩
  obtain⟨p,vs,rfl,hp,hall⟩:=hd
  have hl:=hall.length
  have hf:ds.length≤1000:=hfew
  refine⟨_,rfl,p,rfl,⟨_,SqT.of hp⟩,?_⟩
  refine comp_tup hp (fun σ'=>σ'.length=1) (fun i v _=>v=.bl (wholeB (ds.getD i .none))) (by omega) (by rfl) (fun _ _ _ _ _ h=>h) (fun i x σ' H' hx s sg C hC=>?_) (fun L ys H' hL s hH hly hys=>?_)
  ·obtain⟨d,hdi,hdx⟩:=hall.get' hx
   match σ',sg with
   | [o],_ =>
    refine⟨_,rfl,d,x,rfl,Is.same s d hdx,trivial,fun H5 s5=>hC _ _ _ rfl s5 ?_⟩
    simp [List.getD,hdi]
  ·refine⟨L,_,rfl,SqL.of (by rw[hH,bools_of (hly.trans hl) hys]),?_⟩
   have e:((List.range ds.length).map fun i=>wholeB (ds.getD i .none)).all id=ds.all wholeB:=by
    have:((List.range ds.length).map fun i=>wholeB (ds.getD i .none))=ds.map wholeB:=by
     have:=congrArg (List.map wholeB) (L3.range_getD ds .none)
     rw[List.map_map] at this
     exact this
    rw[this,List.all_map]
    rfl
   rw[e]
   exact q H' s
theorem nat_atI {M:List Nat} {i:Int} (h0:0≤i) (h:i.toNat < M.length):atI (natV M) i=some (.int ((M.getD i.toNat 0:Nat):Int)):=by
 refine atI_toNat h0 ?_
 unfold natV
 rw[List.getElem?_map,List.getElem?_eq_getElem h,List.getD_eq_getElem?_getD,List.getElem?_eq_getElem h];rfl
theorem dec_int (x y:Nat):decide (V.int (x:Int)=V.int (y:Int))=decide (x=y):=by
 by_cases e:x=y
 ·rw[decide_eq_true e,decide_eq_true (by rw[e])]
 ·rw[decide_eq_false e,decide_eq_false fun h=>e (by injection h with h;exact_mod_cast h)]
theorem ok_whole (T:Bi mg) (D:DefOk K mg "whole" s_whole ["web"]):Ok P w K mg base 1 "whole" ["web"] (spWhole K):=by
 refine mk_ok (k:=0) D sc_whole (fun vs H Q E h=>?_) (fun f cdv A outer s H vs Q E hr h=>?_)
 ·obtain⟨n,ts,v,rfl,_⟩:=h
  rfl
 obtain⟨n,ts,v,rfl,hw,few60,q⟩:=h
 have nd:=sc_whole.nd
 obtain⟨g0,g,ws,rfl,hg0,hg,hall,hlw⟩:=web_parts hw
 refine⟨_,(pss_one (ps_ret (pe_callTy (call_tuple_rng rfl) rfl T.z_tuple (by decide +kernel) (pa_cons (pe_callTy call_range rfl T.z_range (by decide +kernel) (pa_cons (pe_callB call_len_seq rfl T.z_len (by decide +kernel) (pa_cons (pe_ix ix_tup (pv 0) pe_int (fun _ _=>rfl)) pa_nil)) pa_nil)) pa_nil)))),?_⟩
 refine⟨_,rfl,g0,_,_,_,rfl,rfl,SqT.of hg0,rfl,g,_,rfl,.inr (SqT.of hg),_,rfl,fun r hr'=>?_⟩
 refine⟨r,_,rfl,upd_same,by omega,by omega,fun l H' S f e=>q l H' ((same_new hr').trans S) ((same_new (o:=.rng 0 _) hr').free f) ?_⟩
 rw[e,show ((ws.length:Nat):Int).toNat=ts.length by omega]
theorem ok_across (T:Bi mg) (D:DefOk K mg "across" s_across ["web","tie","heights"]):Ok P w K mg base 1 "across" ["web","tie","heights"] (spAcross K):=by
 refine mk_ok (k:=0) D sc_across (fun vs H Q E h=>?_) (fun f cdv A outer s H vs Q E hr h=>?_)
 ·obtain⟨n,ts,wv,k,p,hs,rfl,_⟩:=h
  rfl
 obtain⟨n,ts,wv,k,p,hs,rfl,isw,ok,hkl,ht,hlh,q⟩:=h
 have nd:=sc_across.nd
 obtain⟨g0,g,ws,rfl,hg0,hg,hall,hlw⟩:=web_parts isw
 obtain⟨ta,hta,htie⟩:=tie_val hall hkl
 have tk:=ok.tie _ (tieAt_in hkl).2
 refine⟨_,(pss_cons (ps_asg (pe_ix ix_tup (pe_ix ix_tup (pv 0) pe_int (fun _ _=>rfl)) (pv 1) (fun _ _=>rfl)) (pg_tup (n:=3) rfl (pgs_cons (pg_name (i:=3) nd rfl (Or.inl rfl)) (pgs_cons (pg_name (i:=4) nd rfl (Or.inl rfl)) (pgs_cons (pg_name (i:=5) nd rfl (Or.inl rfl)) pgs_nil))))) (pss_one (ps_ret (pe_callB call_abs rfl T.z_abs (by decide +kernel) (pa_cons (pe_op op_sub (pe_ix ix_tup (pv 2) (pv 3) (fun _ _=>rfl)) (pe_ix ix_tup (pv 2) (pv 4) (fun _ _=>rfl))) pa_nil))))),?_⟩
 refine⟨_,rfl,g0,_,_,_,rfl,rfl,SqT.of hg0,rfl,_,rfl,g,_,_,_,rfl,rfl,SqT.of hg,atI_toNat (Int.natCast_nonneg _) hta,ta,_,rfl,SqT.of htie,rfl,_,_,rfl,_,_,rfl,_,_,rfl,rfl,?_⟩
 exact⟨_,rfl,_,rfl,p,_,_,_,rfl,rfl,SqT.of ht.1,hAt_at (by omega) (by omega),_,rfl,_,rfl,p,_,_,_,rfl,rfl,SqT.of ht.1,hAt_at (by omega) (by omega),_,_,rfl,rfl,_,rfl,q⟩
theorem ok_need_times (T:Bi mg) (D:DefOk K mg "need_times" s_need_times ["t"]) (O_is_whole:Ok P w K mg base 1 "is_whole" ["thing"] (spD1 K (fun _=>True) wholeB)):Ok P w K mg base 2 "need_times" ["t"] (spNeed K):=by
 refine mk_ok (k:=1) D sc_need_times (fun vs H Q E h=>?_) (fun f cdv A outer s H vs Q E hr h=>?_)
 ·obtain⟨t,rfl,_⟩:=h
  rfl
 obtain⟨t,rfl,t1,t99,q⟩:=h
 have nd:=sc_need_times.nd
 refine⟨_,(pss_one (ps_if (PW.pt (pw_or (pt_not (pt_val (pe_callD O_is_whole hr rfl (pa_cons (pv 0) pa_nil)))) (pw_or1 (pt_not (pt_chain op_le op_le pe_int (pv 0) pe_int))))) (pss_one ps_never) pss_nil)),?_⟩
 refine⟨_,rfl,.int t,.int t,rfl,rfl,trivial,fun H1 s1=>⟨_,rfl,iteF ?_⟩⟩
 refine⟨_,rfl,_,_,rfl,rfl,_,rfl,?_⟩
 have e1:decide ((1:Int)≤t)=true:=decide_eq_true t1
 have e2:decide (t≤99)=true:=decide_eq_true t99
 rw[e1]
 refine iteT ⟨_,_,rfl,rfl,_,rfl,?_⟩
 rw[e2]
 exact iteF (q H1 s1)
theorem ok_ringless (T:Bi mg) (D:DefOk K mg "ringless" s_ringless ["web","ties"]):Ok P w K mg base 1 "ringless" ["web","ties"] (spRingless K):=by
 refine mk_ok (k:=0) D sc_ringless (fun vs H Q E h=>?_) (fun f cdv A outer s H vs Q E hr h=>?_)
 ·obtain⟨n,ts,os,wv,o,rfl,_⟩:=h
  rfl
 obtain⟨n,ts,os,wv,o,rfl,hw,ok,hos,l60,ho,q⟩:=h
 have nd:=sc_ringless.nd
 have n1:=ok.n1
 have n24:=ok.n24
 obtain⟨g0,g,ws,rfl,hg0,hg,hall,hlw⟩:=web_parts hw
 refine⟨_,(pss_cons (ps_set (i:=2) nd rfl (Or.inl rfl) (pe_callTy (call_list_rng rfl) rfl T.z_list (by decide +kernel) (pa_cons (pe_callTy call_range rfl T.z_range (by decide +kernel) (pa_cons (pe_ix ix_tup (pv 0) pe_int (fun _ _=>rfl)) pa_nil)) pa_nil))) (pss_cons (ps_set (i:=3) nd rfl (Or.inl rfl) (pe_lstG pa_nil)) (pss_cons (ps_for PassesOwn.never rfl (pi_tup (pv 1)) (pg_name (i:=4) nd rfl (Or.inl rfl)) (pss_cons (ps_asg (pe_ix ix_tup (pe_ix ix_tup (pv 0) pe_int (fun _ _=>rfl)) (pv 4) (fun _ _=>rfl)) (pg_tup (n:=3) rfl (pgs_cons (pg_name (i:=5) nd rfl (Or.inl rfl)) (pgs_cons (pg_name (i:=6) nd rfl (Or.inl rfl)) (pgs_cons (pg_name (i:=7) nd rfl (Or.inl rfl)) pgs_nil))))) (pss_cons (ps_set (i:=8) nd rfl (Or.inr rfl) (pe_ix ix_list (pv 2) (pv 5) (fun _ _=>rfl))) (pss_cons (ps_set (i:=9) nd rfl (Or.inr rfl) (pe_ix ix_list (pv 2) (pv 6) (fun _ _=>rfl))) (pss_one (ps_if (pt_cmpR op_ne (pv 8) (pv 9) (nomark _)) (pss_cons (ps_setcomp (i:=2) (N:=["web","ties","marks","told","tie","a","b","length","one","other"]) (sc0:=defScope s_ringless) (own:=["mark"]) (fr:=["other","one"]) (js:=[9,8]) rfl (pi_list (pv 2)) (fun _ _ _ _=>(pg_name (i:=0) (by show List.Nodup [("mark":Str),("other":Str),("one":Str)];decide +kernel) rfl (Or.inl rfl))) (fun _ _ _ _=>pts_nil) (fun _ _ _ _=>(pe_ifExp (pt_cmpR op_eq (pv 0) (pv 1) (nomark _)) (pv 2) (pv 0))) nd rfl (Or.inl rfl)) (pss_one (ps_expr (pe_bm PySem.F.plainAttrs_list PySem.F.slot_list_append PySem.F.type_list_append mt_appendG (pv 3) (pa_cons (pv 4) pa_nil))))) pss_nil)))))) (pss_one (ps_ret (pv 3)))))),?_⟩
 refine⟨_,rfl,g0,_,_,_,rfl,rfl,SqT.of hg0,rfl,_,rfl,fun r hr'=>⟨r,n,rfl,upd_same,by omega,by omega,fun lm hlm=>?_⟩⟩
 have S1:Same H (upd H r (.rng 0 n)):=same_new hr'
 have S2:Same (upd H r (.rng 0 n)) (upd (upd H r (.rng 0 n)) lm (.lst ((List.range n.toNat).map fun i:Nat=>V.int (i:Int)))):=same_new hlm
 have e2:upd (upd H r (.rng 0 n)) lm (.lst ((List.range n.toNat).map fun i:Nat=>V.int (i:Int))) lm=some (.lst (natV (List.range n.toNat))):=upd_same
 generalize upd (upd H r (.rng 0 n)) lm (.lst ((List.range n.toNat).map fun i:Nat=>V.int (i:Int)))=J2 at S2 e2
 refine⟨(by show 0≤1000;decide),fun lt J3 S3 f3 e3=>?_⟩
 have S03:=S1.trans (S2.trans S3)
 have fl:H lt=none:=(S1.trans S2).free f3
 have nlm:lm≠lt:=fun z=>by rw[← z,e2] at f3;cases f3
 refine⟨_,rfl,o,rfl,⟨_,SqT.of (S03 _ _ ho)⟩,?_⟩
 have len:(natV os).length=os.length:=by unfold natV;rw[List.length_map]
 refine for_tup (xs:=natV os) (fun i σ J=>∃ (lm:Addr) (M tl:List Nat) (y4 y5 y6 y7 y8 y9:Option V),σ=[some (.ref g0),some (.ref o),some (.ref lm),some (.ref lt),y4,y5,y6,y7,y8,y9]∧Same H J∧lm≠lt∧J lm=some (.lst (natV M))∧J lt=some (.lst (natV tl))∧tl.length≤i∧Frs.Mk n.toNat ((os.take i).map (t2 ts)) M∧tl++rgN ts (os.take i) (os.drop i)=rgN ts [] os) ⟨lm,_,[],none,none,none,none,none,none,rfl,S03,nlm,S3 _ _ e2,e3,Nat.zero_le _,Frs.Mk.first,rfl⟩ (fun i σ J _ h=>?_) (fun i x σ J hx h=>?_) (fun σ J h=>?_)
 ·obtain⟨lm,M,tl,y4,y5,y6,y7,y8,y9,rfl,sm,_⟩:=h
  exact SqT.of (sm _ _ ho)
 ·obtain⟨lm,M,tl,y4,y5,y6,y7,y8,y9,rfl,sm,nlm,hM,hT,ltl,mk,er⟩:=h
  obtain⟨k,hk,rfl⟩:=nat_at hx
  have hi:=List.getElem?_eq_some_iff.mp hk
  have hkl:k < ts.length:=hos k (List.mem_of_getElem? hk)
  obtain⟨ta,hta,htie⟩:=tie_val hall hkl
  have tk:=ok.tie _ (tieAt_in hkl).2
  obtain⟨t,et⟩:∃ t,t=tieAt ts k:=⟨_,rfl⟩
  rw[← et] at htie tk
  have lM:=mk.1
  have il:i < os.length:=hi.1
  have ha:t.1.toNat < n.toNat:=tk_a tk
  have hb:t.2.1.toNat < n.toNat:=tk_b tk
  have ed:os.drop i=k::os.drop (i + 1):=by rw[List.drop_eq_getElem_cons hi.1,hi.2]
  have et2:t2 ts k=(t.1.toNat,t.2.1.toNat):=by unfold t2;rw[← et]
  have tn:os.take (i + 1)=os.take i++[k]:=take_next hk
  have mE:(os.take (i + 1)).map (t2 ts)=(os.take i).map (t2 ts)++[(t.1.toNat,t.2.1.toNat)]:=by rw[tn,List.map_append,List.map_singleton,et2]
  refine⟨_,rfl,g0,_,_,_,rfl,rfl,SqT.of (sm _ _ hg0),rfl,_,rfl,g,_,_,_,rfl,rfl,SqT.of (sm _ _ hg),atI_toNat (Int.natCast_nonneg _) hta,ta,_,rfl,SqT.of (sm _ _ htie),rfl,_,_,rfl,_,_,rfl,_,_,rfl,rfl,?_⟩
  refine⟨_,rfl,_,rfl,lm,_,_,_,rfl,rfl,SqL.of hM,nat_atI tk.1 (by rw[lM];exact ha),?_⟩
  refine⟨_,rfl,_,rfl,lm,_,_,_,rfl,rfl,SqL.of hM,nat_atI (tk_0 tk) (by rw[lM];exact hb),?_⟩
  refine⟨_,rfl,_,rfl,rfl,_,rfl,?_⟩
  rw[dec_int]
  by_cases c:M.getD t.1.toNat 0=M.getD t.2.1.toNat 0
  ·refine iteNS c ⟨lm,M,tl,_,_,_,_,_,_,rfl,sm,nlm,hM,hT,by omega,by rw[mE];exact mk.same ha hb c,?_⟩
   rw[← er,ed,tn]
   have cB:cnB ts (os.take i) k=true:=cnB_iff.mpr (by rw[et2];exact (mk.2 _ _ ha hb).mp c)
   show _=tl++(if cnB ts (os.take i) k=true then _ else _)
   rw[if_pos cB]
  ·rw[decide_eq_false c]
   refine iteT ?_
   refine⟨_,rfl,lm,rfl,⟨_,SqL.of hM⟩,?_⟩
   have lnM:(natV M).length=n.toNat:=by unfold natV;rw[List.length_map];exact lM
   refine comp_lst hM (fun σ'=>∃ o,σ'=[o,some (.int ((M.getD t.2.1.toNat 0:Nat):Int)),some (.int ((M.getD t.1.toNat 0:Nat):Int))]) (fun i v _=>v=.int (((if M.getD i 0=M.getD t.2.1.toNat 0 then M.getD t.1.toNat 0 else M.getD i 0:Nat)):Int)) (by omega) (by exact⟨none,rfl⟩) (fun _ _ _ _ _ h=>h) (fun i2 x2 σ' H' hx2 s4 sg C hC=>?_) (fun L zs J4 hL S4 hH hly hys=>?_)
   ·obtain⟨o2,rfl⟩:=sg
    obtain⟨m,hm,rfl⟩:=nat_at hx2
    have em:M.getD i2 0=m:=by rw[List.getD_eq_getElem?_getD,hm];rfl
    rw[em] at hC
    refine⟨_,rfl,_,rfl,rfl,_,rfl,?_⟩
    rw[dec_int]
    refine ite2 (fun c2=>⟨_,rfl,hC _ _ _ ⟨_,rfl⟩ (Same.refl _) ?_⟩) (fun c2=>⟨_,rfl,hC _ _ _ ⟨_,rfl⟩ (Same.refl _) ?_⟩)
    ·rw[if_pos (of_decide_eq_true c2)]
    ·rw[if_neg (of_decide_eq_false (Bool.eq_false_iff.mpr c2))]
   have ez:zs=natV (Frs.join M (M.getD t.1.toNat 0) (M.getD t.2.1.toNat 0)):=by
    have lj:(natV (Frs.join M (M.getD t.1.toNat 0) (M.getD t.2.1.toNat 0))).length=n.toNat:=by unfold natV Frs.join;rw[List.length_map,List.length_map];exact lM
    refine List.ext_getElem (by omega) fun j h1 h2=>?_
    have:=hys j _ (List.getElem?_eq_getElem h1)
    rw[this]
    have hj:j < M.length:=by omega
    have e:=nat_atI (M:=Frs.join M (M.getD t.1.toNat 0) (M.getD t.2.1.toNat 0)) (i:=(j:Int)) (Int.natCast_nonneg _) (by unfold Frs.join;rw[List.length_map];simpa using hj)
    rw[Int.toNat_natCast,Frs.join_at hj] at e
    have e2:(natV (Frs.join M (M.getD t.1.toNat 0) (M.getD t.2.1.toNat 0)))[j]?=some (natV (Frs.join M (M.getD t.1.toNat 0) (M.getD t.2.1.toNat 0)))[j]:=List.getElem?_eq_getElem h2
    have e3:=atI_toNat (i:=(j:Int)) (Int.natCast_nonneg _) (by rw[Int.toNat_natCast];exact e2)
    rw[e] at e3
    exact (Option.some.inj e3)
   rw[ez] at hH
   have hT4:=S4 _ _ hT
   have nL:L≠lt:=fun z=>by rw[z,hT] at hL;cases hL
   have ltv:(natV tl).length=tl.length:=by unfold natV;rw[List.length_map]
   refine⟨_,rfl,.inl ⟨rfl,_,SqL.of hT4⟩,_,rfl,lt,_,_,rfl,rfl,hT4,by omega,fun J5 b5 e5=>?_⟩
   refine⟨L,_,tl++[k],_,_,_,_,_,_,rfl,fun b o' e=>b5 _ _ (ne_of_none e fl) ((sm.trans S4) _ _ e),nL,b5 _ _ nL hH,by rw[e5];unfold natV;rw[List.map_append];rfl,by rw[List.length_append,List.length_singleton];omega,by rw[mE];exact mk.join ha hb c,?_⟩
   rw[← er,ed,tn]
   have cB:¬ cnB ts (os.take i) k=true:=fun z=>c ((mk.2 _ _ ha hb).mpr (by have:=cnB_iff.mp z;rw[et2] at this;exact this))
   show _=tl++(if cnB ts (os.take i) k=true then _ else _)
   rw[if_neg cB,List.append_assoc];rfl
 ·obtain⟨lm,M,tl,y4,y5,y6,y7,y8,y9,rfl,sm,nlm,hM,hT,ltl,mk,er⟩:=h
  refine⟨_,rfl,q lt J sm fl ?_⟩
  rw[len,List.drop_length,List.take_length] at er
  rw[hT,← er]
  show some (HO.lst (natV tl))=some (HO.lst (natV (tl++[])))
  rw[List.append_nil]
theorem ok_is_tie_number (T:Bi mg) (D:DefOk K mg "is_tie_number" s_is_tie_number ["web","thing"]) (O_is_whole:Ok P w K mg base 1 "is_whole" ["thing"] (spD1 K (fun _=>True) wholeB)):Ok P w K mg base 2 "is_tie_number" ["web","thing"] (spNum K):=by
 refine mk_ok (k:=1) D sc_is_tie_number (fun vs H Q E h=>?_) (fun f cdv A outer s H vs Q E hr h=>?_)
 ·obtain⟨n,ts,d,v,u,rfl,_⟩:=h
  rfl
 obtain⟨n,ts,d,v,u,rfl,hw,hd,q⟩:=h
 have nd:=sc_is_tie_number.nd
 refine⟨_,(pss_one (ps_ret (pe_and (pe_callD O_is_whole hr rfl (pa_cons (pv 1) pa_nil)) (pe_one (pe_chain op_le op_lt pe_int (pv 1) (pe_callB call_len_seq rfl T.z_len (by decide +kernel) (pa_cons (pe_ix ix_tup (pv 0) pe_int (fun _ _=>rfl)) pa_nil))))))),?_⟩
 refine⟨_,rfl,d,u,rfl,hd,trivial,fun H1 s1=>⟨_,rfl,?_⟩⟩
 have q0:=q H1 s1
 cases d with
 | int i =>
  have e:u=.int i:=hd
  subst e
  obtain⟨p,g,ws,rfl,hp,hg,hall,hl⟩:=web_parts (Is.same s1 _ hw)
  refine iteT ⟨_,rfl,_,_,rfl,rfl,_,rfl,ite2 (fun c=>⟨_,rfl,p,_,_,_,rfl,rfl,SqT.of hp,rfl,g,_,rfl,.inr (SqT.of hg),_,_,rfl,rfl,?_⟩) (fun c=>?_)⟩
  ·have e:numB ts.length (.int i)=decide (i < (ws.length:Int)):=by show (decide (0≤i) && decide (i < (ts.length:Int)))=_;rw[show decide (0≤i)=true from c,hl];rfl
   rw[e] at q0;exact q0
  ·have e:numB ts.length (.int i)=false:=by show (decide (0≤i) && decide (i < (ts.length:Int)))=_;rw[show decide (0≤i)=false from Bool.eq_false_iff.mpr c];rfl
   rw[e] at q0;exact q0
 | bool b=>exact iteF q0
 | none=>exact iteF q0
 | str x=>exact iteF q0
 | tuple ds=>exact iteF q0
 | list ds=>exact iteF q0
 | dict ds=>exact iteF q0
def tupB:PyData->Nat->Bool
 | .tuple ds,m=>decide (ds.length=m)
 | _,_=>false
def toldB (y:Str) (m:Nat):PyData->Bool
 | .tuple (.str x::r)=>decide (r.length + 1=m) && decide (x=y)
 | _=>false
def spTupD (K:PySem.W.Frag):Sp:=fun vs H Q _=>∃ (d:PyData) (v:V) (m:Nat),vs=[v,.int (m:Int)]∧Is K H d v∧Q (.bl (tupB d m)) H
theorem ok_is_tuple_ofD (T:Bi mg) (D:DefOk K mg "is_tuple_of" s_is_tuple_of ["thing","many"]):Ok P w K mg base 1 "is_tuple_of" ["thing","many"] (spTupD K):=by
 refine mk_ok (k:=0) D sc_is_tuple_of (fun vs H Q E h=>?_) (fun f cdv A outer s H vs Q E hr h=>?_)
 ·obtain⟨d,v,m,rfl,_⟩:=h
  rfl
 obtain⟨d,v,m,rfl,hd,q⟩:=h
 have nd:=sc_is_tuple_of.nd
 have ty:=ty_of hd
 refine⟨_,(pss_one (ps_ret (pe_and (pe_callB (call_isi (n:="tuple")) rfl T.z_isinstance (by decide +kernel) (pa_cons (pv 0) (pa_cons (pe_bltn (v:=.ty "tuple") rfl T.z_tuple (by decide +kernel) rfl) pa_nil))) (pe_one (pe_cmpR op_eq (pe_callB call_len_seq rfl T.z_len (by decide +kernel) (pa_cons (pv 0) pa_nil)) (pv 1) (nomark _)))))),?_⟩
 cases d with
 | int i=>exact⟨_,rfl,_,_,_,rfl,ty,rfl,_,rfl,iteF q⟩
 | bool b=>exact⟨_,rfl,_,_,_,rfl,ty,rfl,_,rfl,iteF q⟩
 | none=>exact⟨_,rfl,_,_,_,rfl,ty,rfl,_,rfl,iteF q⟩
 | str x=>exact⟨_,rfl,_,_,_,rfl,ty,rfl,_,rfl,iteF q⟩
 | list ds=>exact⟨_,rfl,_,_,_,rfl,ty,rfl,_,rfl,iteF q⟩
 | dict ds=>exact⟨_,rfl,_,_,_,rfl,ty,rfl,_,rfl,iteF q⟩
 | tuple ds =>
  refine⟨_,rfl,_,_,_,rfl,ty,rfl,_,rfl,iteT ?_⟩
  obtain⟨p,vs,rfl,hp,hall⟩:=hd
  have hl:=hall.length
  refine⟨_,rfl,p,_,rfl,.inr (SqT.of hp),_,rfl,rfl,?_⟩
  have e:decide (V.int ((vs.length:Nat):Int)=V.int (m:Int))=decide (ds.length=m):=by
   by_cases z:ds.length=m
   ·rw[decide_eq_true z,decide_eq_true (by rw[hl,z])]
   ·rw[decide_eq_false z,decide_eq_false fun y=>z (by injection y with y;omega)]
  rw[e]
  exact q
theorem eqv_str {x y:Str}:PyData.eqv (.str x) (.str y)=decide (x=y):=by
 show (x == y)=_
 by_cases z:x=y
 ·subst z;rw[decide_eq_true rfl];exact beq_self_eq_true _
 ·rw[decide_eq_false z];exact beq_false_of_ne z
def spTolD (K:PySem.W.Frag):Sp:=fun vs H Q _=>∃ (M:Nat) (d:PyData) (v:V) (y:Str) (m:Nat),vs=[v,.str y,.int ((m + 1:Nat):Int)]∧Is K H d v∧TD M d∧PyData.strOk y=true∧Q (.bl (toldB y (m + 1) d)) H
theorem ok_is_toldD (T:Bi mg) (D:DefOk K mg "is_told" s_is_told ["thing","word","many"]) (O_is_tuple_of:Ok P w K mg base 1 "is_tuple_of" ["thing","many"] (spTupD K)):Ok P w K mg base 2 "is_told" ["thing","word","many"] (spTolD K):=by
 refine mk_ok (k:=1) D sc_is_told (fun vs H Q E h=>?_) (fun f cdv A outer s H vs Q E hr h=>?_)
 ·obtain⟨M,d,v,y,m,rfl,_⟩:=h
  rfl
 obtain⟨M,d,v,y,m,rfl,hd,td,sy,q⟩:=h
 have nd:=sc_is_told.nd
 have units:(A.deeper (envOfC "is_told" (defScope s_is_told) s.heap.objs.size f cdv)).units + 1 < cLine:=by have:=hr.units;omega
 refine⟨_,(pss_one (ps_ret (pe_and (pe_callD O_is_tuple_of hr rfl (pa_cons (pv 0) (pa_cons (pv 2) pa_nil))) (pe_one (pe_cmpR op_eqD (pe_ix ix_tup (pv 0) pe_int (fun _ _=>rfl)) (pv 1) (nomark _)))))),?_⟩
 refine⟨_,rfl,_,rfl,d,v,m + 1,rfl,hd,_,rfl,?_⟩
 cases d with
 | int i=>exact iteF q
 | bool b=>exact iteF q
 | none=>exact iteF q
 | str x=>exact iteF q
 | list ds=>exact iteF q
 | dict ds=>exact iteF q
 | tuple ds =>
  show if decide (ds.length=m + 1)=true then _ else _
  cases ds with
  | nil=>exact iteF q
  | cons d0 r =>
   obtain⟨p,vs,rfl,hp,v0,r0,rfl,h0,hr0⟩:=id hd
   cases e1:decide ((d0::r).length=m + 1) with
   | false =>
    refine iteF ?_
    have e:toldB y (m + 1) (.tuple (d0::r))=false:=by
     cases d0 <;> try rfl
     show (decide (r.length + 1=m + 1) && _)=false
     rw[show decide (r.length + 1=m + 1)=false from e1];rfl
    rw[e] at q;exact q
   | true =>
    have a0:atI (v0::r0) 0=some v0:=atI_toNat (Int.le_refl 0) (by rfl)
    have t0:TD M d0:=by
     cases M with
     | zero=>rcases td with ⟨i,e⟩ | ⟨x,e,_⟩ <;> cases e
     | succ M=>exact (td.all.2 d0 List.mem_cons_self).up
    have dp:∀ x:PyData,min x.depth (PyData.str y).depth=0:=fun x=>Nat.min_eq_zero_iff.mpr (.inr rfl)
    refine iteT ⟨_,rfl,p,_,_,_,rfl,rfl,SqT.of hp,a0,_,rfl,d0,.str y,h0,rfl,t0.lay,sy,?_,?_⟩
    ·rw[dp];exact Nat.lt_of_succ_lt units
    ·have e:toldB y (m + 1) (.tuple (d0::r))=PyData.eqv d0 (.str y):=by
      cases d0 with
      | str x =>
       rw[eqv_str]
       show (decide (r.length + 1=m + 1) && decide (x=y))=_
       rw[show decide (r.length + 1=m + 1)=true from e1];rfl
      | int i=>rfl
      | bool b=>rfl
      | none=>rfl
      | list ds=>rfl
      | dict ds=>rfl
      | tuple ds=>rfl
     rw[e] at q;exact q
theorem wholes_map {hs:List PyData} (h:wholesB (.tuple hs)=true):hs=(hs.map toI).map PyData.int:=by
 have h':hs.all wholeB=true:=h
 rw[List.map_map]
 conv=>lhs;rw[← List.map_id hs]
 refine List.map_congr_left fun x hx=>?_
 have:=List.all_eq_true.mp h' x hx
 cases x with
 | int i=>rfl
 | _=>cases this
def spHoldD (K:PySem.W.Frag):Sp:=fun vs H Q _=>∃ (M:Nat) (n:Int) (ts:List Tie) (ks:List Nat) (wv kv v:V) (d:PyData),vs=[wv,kv,v]∧WK K H n ts ks wv kv∧Is K H d v∧TD M d∧∀ H',Same H H'->Q (.bl (holdD n ts ks d)) H'
theorem ok_heights_holdD (T:Bi mg) (D:DefOk K mg "heights_hold" s_heights_hold ["web","keep","heights"]) (O_is_wholes:Ok P w K mg base 2 "is_wholes" ["thing"] (spD1 K few wholesB)) (O_across:Ok P w K mg base 2 "across" ["web","tie","heights"] (spAcross K)):Ok P w K mg base 3 "heights_hold" ["web","keep","heights"] (spHoldD K):=by
 refine mk_ok (k:=2) D sc_heights_hold (fun vs H Q E h=>?_) (fun f cdv A outer s H vs Q E hr h=>?_)
 ·obtain⟨M,n,ts,ks,wv,kv,v,d,rfl,_⟩:=h
  rfl
 obtain⟨M,n,ts,ks,wv,kv,v,d,rfl,⟨isw,ok,isk,ko⟩,hd,td,q⟩:=h
 have nd:=sc_heights_hold.nd
 have n1:=ok.n1
 have few60:=ok.few
 obtain⟨g0,g,ws,rfl,hg0,hg,hall,hlw⟩:=web_parts isw
 obtain⟨kp,rfl,hkp⟩:=keep_parts isk
 have fw:few d:=by
  cases d with
  | tuple ds =>
   cases M with
   | zero=>rcases td with ⟨i,e⟩ | ⟨x,e,_⟩ <;> cases e
   | succ M=>exact Nat.le_trans td.all.1 (by decide)
  | list ds=>exact absurd td TD.list
  | _=>trivial
 refine⟨_,(pss_cons (ps_if (PW.pt (pw_or (pt_not (pt_val (pe_callD O_is_wholes hr rfl (pa_cons (pv 2) pa_nil)))) (pw_or1 (pt_cmpR op_ne (pe_callB call_len_seq rfl T.z_len (by decide +kernel) (pa_cons (pv 2) pa_nil)) (pe_ix ix_tup (pv 0) pe_int (fun _ _=>rfl)) (nomark _))))) (pss_one (ps_ret pe_bl)) pss_nil) (pss_one (ps_ret (pe_callB (call_all rfl) rfl T.z_all (by decide +kernel) (pa_cons (pe_comp (N:=["web","keep","heights"]) (sc0:=defScope s_heights_hold) (own:=["tie"]) (fr:=["web","heights"]) (js:=[0,2]) rfl (pi_tup (pv 1)) (fun _ _ _ _=>(pg_name (i:=0) (by show List.Nodup [("tie":Str),("web":Str),("heights":Str)];decide +kernel) rfl (Or.inl rfl))) (fun _ _ _ _=>pts_nil) (fun _ _ _ _=>(pe_cmpR op_le (pe_callD O_across hr rfl (pa_cons (pv 1) (pa_cons (pv 0) (pa_cons (pv 2) pa_nil)))) (pe_ix ix_tupC (pe_ix ix_tupC (pe_ix ix_tupC (pv 1) pe_int (fun _ _=>rfl)) (pv 0) (fun _ _=>rfl)) pe_int (fun _ _=>rfl)) (nomark _)))) pa_nil))))),?_⟩
 refine⟨_,rfl,d,v,rfl,hd,fw,fun H1 s1=>⟨_,rfl,?_⟩⟩
 cases ew:wholesB d with
 | false =>
  refine iteT ?_
  have e:holdD n ts ks d=false:=by
   cases d with
   | tuple ds=>show (wholesB (.tuple ds) && _)=false;rw[ew];rfl
   | _=>rfl
  have q1:=q H1 s1
  rw[e] at q1;exact q1
 | true =>
 refine iteF ?_
 cases d with
 | tuple ds =>
  obtain⟨hs,ehs⟩:∃ hs,hs=ds.map toI:=⟨_,rfl⟩
  have eds:=wholes_map ew
  rw[← ehs] at eds
  have eH:holdD n ts ks (.tuple ds)=holdB n ts ks hs:=by show (wholesB (.tuple ds) && _)=_;rw[ew,Bool.true_and,ehs]
  rw[eH] at q
  have hs1000:hs.length≤1000:=by rw[ehs,List.length_map];exact fw
  obtain⟨p,xs,rfl,hp,hxs⟩:=hd
  rw[eds] at hxs
  have ht:IntT H p hs:=⟨by rw[hp,IsAll.of_ints hxs],hs1000⟩
  have t1:=ht.same s1
  refine⟨_,rfl,p,_,rfl,.inr (SqT.of t1.1),_,rfl,g0,_,_,_,rfl,rfl,SqT.of (s1 _ _ hg0),rfl,rfl,_,rfl,?_⟩
  by_cases hn:hs.length=n.toNat
  case neg =>
   have ne:decide (V.int (((hs.map V.int).length:Nat):Int)=V.int n)=false:=decide_eq_false fun e=>by
    have:(((hs.map V.int).length:Nat):Int)=n:=by injection e
    rw[List.length_map] at this
    omega
   rw[ne]
   refine iteT ?_
   have q1:=q H1 s1
   have e:holdB n ts ks hs=false:=by unfold holdB;rw[decide_eq_false hn];rfl
   rw[e] at q1;exact q1
  refine iteNS (by rw[List.length_map,hn];congr 1;omega) ?_
  refine⟨_,rfl,kp,rfl,⟨_,SqT.of (s1 _ _ hkp)⟩,?_⟩
  have lk:((keepI ks).map V.int).length=ks.length:=by unfold keepI;rw[List.length_map,List.length_map]
  have lks:=ko.len
  refine comp_tup (s1 _ _ hkp) (fun σ'=>∃ o,σ'=[o,some (.ref g0),some (.ref p)]) (fun i v _=>v=.bl (decide (acrossI ts hs (ks.getD i 0)≤(tieAt ts (ks.getD i 0)).2.2))) (by omega) (by exact⟨none,rfl⟩) (fun _ _ _ _ _ h=>h) (fun i x σ' H' hx s2 sg C hC=>?_) (fun L ys H2 hL s2 hH hly hys=>?_)
  ·obtain⟨o,rfl⟩:=sg
   obtain⟨k,hk,rfl⟩:=keep_at hx
   have hkl:k < ts.length:=ko.2 k (List.mem_of_getElem? hk)
   obtain⟨ta,hta,htie⟩:=tie_val hall hkl
   have s12:=s1.trans s2
   have ek:ks.getD i 0=k:=by rw[List.getD_eq_getElem?_getD,hk];rfl
   refine⟨_,rfl,_,rfl,_,rfl,n,ts,_,k,p,hs,rfl,Is.same s12 _ isw,ok,hkl,ht.same s12,hn,?_⟩
   refine⟨_,rfl,g0,_,_,_,rfl,rfl,SqT.of (s12 _ _ hg0),rfl,_,rfl,g,_,_,_,rfl,rfl,SqT.of (s12 _ _ hg),atI_toNat (Int.natCast_nonneg _) hta,ta,_,_,_,rfl,rfl,SqT.of (s12 _ _ htie),rfl,_,_,rfl,rfl,hC _ _ _ ⟨_,rfl⟩ (Same.refl _) ?_⟩
   rw[ek]
  ·refine⟨L,_,rfl,SqL.of (by rw[hH,bools_of (hly.trans lk) hys]),?_⟩
   have q1:=q H2 (s1.trans s2)
   have e:holdB n ts ks hs=((List.range ks.length).map fun i=>decide (acrossI ts hs (ks.getD i 0)≤(tieAt ts (ks.getD i 0)).2.2)).all id:=by
    unfold holdB
    rw[decide_eq_true hn,Bool.true_and]
    have z:=congrArg (List.map fun k=>decide (acrossI ts hs k≤(tieAt ts k).2.2)) (L3.range_getD ks 0)
    rw[List.map_map] at z
    have z':((List.range ks.length).map fun i=>decide (acrossI ts hs (ks.getD i 0)≤(tieAt ts (ks.getD i 0)).2.2))=ks.map fun k=>decide (acrossI ts hs k≤(tieAt ts k).2.2):=z
    rw[z',List.all_map];rfl
   rw[e] at q1;exact q1
 | _=>cases ew
def spBeyD (K:PySem.W.Frag):Sp:=fun vs H Q _=>∃ (M:Nat) (n:Int) (ts:List Tie) (ks:List Nat) (wv kv:V) (k:Nat) (t:Int) (v:V) (d:PyData),vs=[wv,kv,.int (k:Int),.int t,v]∧WK K H n ts ks wv kv∧k < ts.length∧1≤t∧t≤99∧Is K H d v∧TD M d∧∀ H',Same H H'->Q (.bl (beyD n ts ks t k d)) H'
theorem ok_heights_beyondD (T:Bi mg) (D:DefOk K mg "heights_beyond" s_heights_beyond ["web","keep","tie","t","heights"]) (O_heights_hold:Ok P w K mg base 3 "heights_hold" ["web","keep","heights"] (spHoldD K)) (O_across:Ok P w K mg base 3 "across" ["web","tie","heights"] (spAcross K)):Ok P w K mg base 4 "heights_beyond" ["web","keep","tie","t","heights"] (spBeyD K):=by
 refine mk_ok (k:=3) D sc_heights_beyond (fun vs H Q E h=>?_) (fun f cdv A outer s H vs Q E hr h=>?_)
 ·obtain⟨M,n,ts,ks,wv,kv,k,t,v,d,rfl,_⟩:=h
  rfl
 obtain⟨M,n,ts,ks,wv,kv,k,t,v,d,rfl,wk,hkl,t1,t99,hd,td,q⟩:=h
 have nd:=sc_heights_beyond.nd
 refine⟨_,(pss_one (ps_ret (pe_and (pe_callD O_heights_hold hr rfl (pa_cons (pv 0) (pa_cons (pv 1) (pa_cons (pv 4) pa_nil)))) (pe_one (pe_cmpR op_gt (pe_callD O_across hr rfl (pa_cons (pv 0) (pa_cons (pv 2) (pa_cons (pv 4) pa_nil)))) (pe_op op_mul (pv 3) (pe_ix ix_tup (pe_ix ix_tup (pe_ix ix_tup (pv 0) pe_int (fun _ _=>rfl)) (pv 2) (fun _ _=>rfl)) pe_int (fun _ _=>rfl))) (nomark _)))))),?_⟩
 refine⟨_,rfl,_,rfl,_,rfl,M,n,ts,ks,wv,kv,v,d,rfl,wk,hd,td,fun H1 s1=>⟨_,rfl,?_⟩⟩
 have q1:=q H1 s1
 cases e:holdD n ts ks d with
 | false =>
  have e2:beyD n ts ks t k d=false:=by
   cases d with
   | tuple hs =>
    have e':(wholesB (.tuple hs) && holdB n ts ks (hs.map toI))=false:=e
    show (wholesB (.tuple hs) && (holdB n ts ks (hs.map toI) && _))=false
    rw[← Bool.and_assoc,e'];rfl
   | _=>rfl
  rw[e2] at q1
  exact iteF q1
 | true =>
  cases d with
  | tuple ds =>
   have e':(wholesB (.tuple ds) && holdB n ts ks (ds.map toI))=true:=e
   rw[Bool.and_eq_true] at e'
   have eds:=wholes_map e'.1
   have e2:beyD n ts ks t k (.tuple ds)=decide (acrossI ts (ds.map toI) k > t * (tieAt ts k).2.2):=by
    show (wholesB (.tuple ds) && (holdB n ts ks (ds.map toI) && _))=_
    rw[e'.1,e'.2,Bool.true_and,Bool.true_and]
   rw[e2] at q1
   have hb:=e'.2
   have fw:ds.length≤1000:=by
    cases M with
    | zero=>rcases td with ⟨i,e⟩ | ⟨x,e,_⟩ <;> cases e
    | succ M=>exact Nat.le_trans td.all.1 (by decide)
   generalize ds.map toI=hs at eds hb q1
   obtain⟨p,xs,rfl,hp,hxs⟩:=hd
   rw[eds] at hxs
   have iT:IntT H p hs:=⟨by rw[hp,IsAll.of_ints hxs],by rw[eds,List.length_map] at fw;exact fw⟩
   have ln:hs.length=n.toNat:=by
    unfold holdB at hb
    rw[Bool.and_eq_true] at hb
    exact of_decide_eq_true hb.1
   obtain⟨g0,g,ws',rfl,hg0,hg,hall,hlw⟩:=web_parts wk.1
   obtain⟨ta,hta,htie⟩:=tie_val hall hkl
   refine iteT ⟨_,rfl,_,rfl,_,rfl,n,ts,_,k,p,hs,rfl,(wk.same s1).1,wk.2.1,hkl,iT.same s1,ln,_,rfl,_,rfl,g0,_,_,_,rfl,rfl,SqT.of (s1 _ _ hg0),rfl,_,rfl,g,_,_,_,rfl,rfl,SqT.of (s1 _ _ hg),atI_toNat (Int.natCast_nonneg _) hta,ta,_,_,_,rfl,rfl,SqT.of (s1 _ _ htie),rfl,_,_,rfl,rfl,.inl ⟨by omega,by omega⟩,_,_,rfl,rfl,q1⟩
  | _=>cases e
def WO (K:PySem.W.Frag) (H:Hp) (n:Int) (ts:List Tie) (wv:V):Prop:=Is K H (webD n ts) wv∧WebOk n ts
theorem WO.same {K:PySem.W.Frag} {H H':Hp} {n:Int} {ts:List Tie} {wv:V} (h:WO K H n ts wv) (s:Same H H'):WO K H' n ts wv:=⟨Is.same s _ h.1,h.2⟩
def spKeptS (K:PySem.W.Frag):Sp:=fun vs H Q _=>∃ (n:Int) (ts:List Tie) (ks:List Nat) (wv:V) (kp:Addr),vs=[wv,.ref kp]∧WO K H n ts wv∧H kp=some (.tup (natV ks))∧KeepOk ts.length ks∧∀ H',Same H H'->Q (.int (keptF ts ks)) H'
theorem ok_kept_show (T:Bi mg) (D:DefOk K mg "kept_show" s_kept_show ["web","kept"]) (O_whole:Ok P w K mg base 1 "whole" ["web"] (spWhole K)) (O_ringless:Ok P w K mg base 1 "ringless" ["web","ties"] (spRingless K)):Ok P w K mg base 2 "kept_show" ["web","kept"] (spKeptS K):=by
 refine mk_ok (k:=1) D sc_kept_show (fun vs H Q E h=>?_) (fun f cdv A outer s H vs Q E hr h=>?_)
 ·obtain⟨n,ts,ks,wv,kp,rfl,_⟩:=h
  rfl
 obtain⟨n,ts,ks,wv,kp,rfl,⟨isw,ok⟩,hkp,ko,q⟩:=h
 have nd:=sc_kept_show.nd
 have few60:=ok.few
 have lks:=ko.len
 refine⟨_,(pss_one (ps_ret (pe_op op_sub (pe_op op_add (pe_callB call_len_seq rfl T.z_len (by decide +kernel) (pa_cons (pv 1) pa_nil)) (pe_callB call_len_seq rfl T.z_len (by decide +kernel) (pa_cons (pe_callD O_ringless hr rfl (pa_cons (pv 0) (pa_cons (pe_callD O_whole hr rfl (pa_cons (pv 0) pa_nil)) pa_nil))) pa_nil))) (pe_callB call_len_seq rfl T.z_len (by decide +kernel) (pa_cons (pe_callD O_ringless hr rfl (pa_cons (pv 0) (pa_cons (pv 1) pa_nil))) pa_nil))))),?_⟩
 refine⟨_,rfl,kp,_,rfl,.inr (SqT.of hkp),_,rfl,_,rfl,n,ts,wv,rfl,isw,few60,fun l H1 S1 f1 e1=>?_⟩
 refine⟨n,ts,_,wv,l,rfl,Is.same S1 _ isw,ok,fun k hk=>List.mem_range.mp hk,by rw[List.length_range];exact few60,e1,fun l2 H2 S2 f2 e2=>?_⟩
 refine⟨l2,_,rfl,.inl (SqL.of e2),_,_,rfl,rfl,?_⟩
 have S12:=S1.trans S2
 refine⟨_,rfl,_,rfl,n,ts,ks,wv,kp,rfl,Is.same S12 _ isw,ok,ko.2,Nat.le_trans lks few60,S12 _ _ hkp,fun l3 H3 S3 f3 e3=>?_⟩
 refine⟨l3,_,rfl,.inl (SqL.of e3),_,_,rfl,rfl,?_⟩
 rw[natV_length,natV_length,natV_length]
 exact q H3 (S12.trans S3)
def spNotAm (K:PySem.W.Frag):Sp:=fun vs H Q _=>∃ (n:Int) (ts:List Tie) (os:List Nat) (wv:V) (op:Addr),vs=[wv,.ref op]∧WO K H n ts wv∧H op=some (.tup (natV os))∧∀ p H',Same H H'->H' p=some (.tup (natV (outs ts.length os)))->Q (.ref p) H'
theorem ok_not_among (T:Bi mg) (D:DefOk K mg "not_among" s_not_among ["web","out"]) (O_whole:Ok P w K mg base 1 "whole" ["web"] (spWhole K)):Ok P w K mg base 2 "not_among" ["web","out"] (spNotAm K):=by
 refine mk_ok (k:=1) D sc_not_among (fun vs H Q E h=>?_) (fun f cdv A outer s H vs Q E hr h=>?_)
 ·obtain⟨n,ts,os,wv,op,rfl,_⟩:=h
  rfl
 obtain⟨n,ts,os,wv,op,rfl,⟨isw,ok⟩,hop,q⟩:=h
 have nd:=sc_not_among.nd
 have few60:=ok.few
 refine⟨_,(pss_one (ps_ret (pe_callTy call_tupleG rfl T.z_tuple (by decide +kernel) (pa_cons (pe_comp (N:=["web","out"]) (sc0:=defScope s_not_among) (own:=["tie"]) (fr:=["out"]) (js:=[1]) rfl (pi_tup (pe_callD O_whole hr rfl (pa_cons (pv 0) pa_nil))) (fun _ _ _ _=>(pg_name (i:=0) (by show List.Nodup [("tie":Str),("out":Str)];decide +kernel) rfl (Or.inl rfl))) (fun _ _ _ _=>(pts_one (pt_cmpR op_notIn_seqC (pv 0) (pv 1) (by with_unfolding_all rfl)))) (fun _ _ _ _=>(pv 0))) pa_nil)))),?_⟩
 refine⟨_,rfl,n,ts,wv,rfl,isw,few60,fun l H1 s1 f1 e1=>?_⟩
 refine⟨l,rfl,⟨_,SqT.of e1⟩,?_⟩
 have len:(natV (List.range ts.length)).length=ts.length:=by unfold natV;rw[List.length_map,List.length_range]
 refine comp_selT e1 (fun σ'=>∃ o,σ'=[o,some (.ref op)]) (fun i=>if decide (i ∉ os)=true then some (V.int (i:Int)) else none) (by omega) (by exact⟨none,rfl⟩) (fun i x σ' H' hx s2 sg C L hC hL=>?_) (fun L H2 hL s2 hH=>?_)
 ·obtain⟨o,rfl⟩:=sg
  obtain⟨k,hk,rfl⟩:=nat_at hx
  have ek:k=i:=by
   have hi:=(List.getElem?_eq_some_iff.mp hk).1
   rw[List.length_range] at hi
   rw[List.getElem?_range hi] at hk
   cases hk;rfl
  subst ek
  refine⟨_,rfl,_,rfl,op,_,rfl,.inr (SqT.of ((s1.trans s2) _ _ hop)),rfl,flat_nat os,_,rfl,?_⟩
  show if (!inV (V.int (k:Int)) (natV os))=true then _ else _
  rw[inV_nat (Int.natCast_nonneg _),Int.toNat_natCast]
  refine iteB2 (fun c=>?_) (fun c=>?_)
  ·refine hL _ _ ⟨_,rfl⟩ (Same.refl _) ?_
   rw[if_neg]
   exact fun z=>of_decide_eq_true z (of_decide_eq_true c)
  ·refine⟨_,rfl,hC _ _ _ ⟨_,rfl⟩ (Same.refl _) ?_⟩
   rw[if_pos (decide_eq_true (of_decide_eq_false c))]
 ·rw[len,sel_nats] at hH
  exact⟨L,_,rfl,hH,fun p H3 S3 f3 e3=>q p H3 (s1.trans (s2.trans S3)) e3⟩
theorem outs_ok {m:Nat} (ks:List Nat):KeepOk m (outs m ks):=⟨List.pairwise_lt_range.sublist List.filter_sublist,fun k hk=>(outs_mem.mp hk).1⟩
def spFarS (K:PySem.W.Frag):Sp:=fun vs H Q _=>∃ (M:Nat) (n:Int) (ts:List Tie) (os:List Nat) (wv ev hv:V) (op:Addr) (t:Int) (e h:PyData),vs=[wv,.int t,.ref op,ev,hv]∧WO K H n ts wv∧1≤t∧t≤99∧H op=some (.tup (natV os))∧Is K H e ev∧Is K H h hv∧TD M h∧∀ H',Same H H'->Q (ov (if farD n ts t os e h=true then some ((ts.length:Int) + 1) else none)) H'
theorem ok_far_show (T:Bi mg) (D:DefOk K mg "far_show" s_far_show ["web","t","out","tie","heights"]) (O_is_tie_number:Ok P w K mg base 4 "is_tie_number" ["web","thing"] (spNum K)) (O_not_among:Ok P w K mg base 4 "not_among" ["web","out"] (spNotAm K)) (O_heights_beyond:Ok P w K mg base 4 "heights_beyond" ["web","keep","tie","t","heights"] (spBeyD K)):Ok P w K mg base 5 "far_show" ["web","t","out","tie","heights"] (spFarS K):=by
 refine mk_ok (k:=4) D sc_far_show (fun vs H Q E h=>?_) (fun f cdv A outer s H vs Q E hr h=>?_)
 ·obtain⟨M,n,ts,os,wv,ev,hv,op,t,e,d,rfl,_⟩:=h
  rfl
 obtain⟨M,n,ts,os,wv,ev,hv,op,t,e,d,rfl,⟨isw,ok⟩,t1,t99,hop,he,hd,td,q⟩:=h
 have nd:=sc_far_show.nd
 refine⟨_,(pss_cons (ps_if (PW.pt (pw_or (pt_not (pt_val (pe_callD O_is_tie_number hr rfl (pa_cons (pv 0) (pa_cons (pv 3) pa_nil))))) (pw_or1 (pt_cmpR op_notIn_seq (pv 3) (pv 2) (by with_unfolding_all rfl))))) (pss_one (ps_ret pe_non)) pss_nil) (pss_cons (ps_if (pt_not (pt_val (pe_callD O_heights_beyond hr rfl (pa_cons (pv 0) (pa_cons (pe_callD O_not_among hr rfl (pa_cons (pv 0) (pa_cons (pv 2) pa_nil))) (pa_cons (pv 3) (pa_cons (pv 1) (pa_cons (pv 4) pa_nil)))))))) (pss_one (ps_ret pe_non)) pss_nil) (pss_one (ps_ret (pe_op op_add (pe_callB call_len_seq rfl T.z_len (by decide +kernel) (pa_cons (pe_ix ix_tup (pv 0) pe_int (fun _ _=>rfl)) pa_nil)) pe_int))))),?_⟩
 refine⟨_,rfl,_,rfl,n,ts,e,wv,ev,rfl,isw,he,fun H1 s1=>⟨_,rfl,?_⟩⟩
 have no:(∀ b:Bool,b=false->farD n ts t os e d=b)->Q .non H1:=fun z=>by
  have q1:=q H1 s1
  rw[z false rfl] at q1;exact q1
 cases en:numB ts.length e with
 | false =>
  refine iteT (no fun b hb=>?_)
  rw[hb]
  cases e with
  | int k =>
   have en':(decide (0≤k) && decide (k < (ts.length:Int)))=false:=en
   show (((decide (0≤k) && decide (k < (ts.length:Int))) && _) && _)=false
   rw[en'];rfl
  | _=>rfl
 | true =>
 cases e with
 | int k =>
  have he':ev=.int k:=he
  subst he'
  have en':(decide (0≤k) && decide (k < (ts.length:Int)))=true:=en
  have eF:farD n ts t os (.int k) d=(decide (k.toNat ∈ os) && beyD n ts (outs ts.length os) t k.toNat d):=by
   show (((decide (0≤k) && decide (k < (ts.length:Int))) && decide (k.toNat ∈ os)) && _)=_
   rw[en',Bool.true_and]
  rw[Bool.and_eq_true] at en'
  have k0:=of_decide_eq_true en'.1
  have k1:=of_decide_eq_true en'.2
  refine iteF ⟨_,rfl,_,rfl,op,_,rfl,.inr (SqT.of (s1 _ _ hop)),rfl,flat_nat os,_,rfl,?_⟩
  show if (!inV (V.int k) (natV os))=true then _ else _
  rw[inV_nat k0]
  cases e2:decide (k.toNat ∈ os) with
  | false=>exact iteT (no fun b hb=>by rw[hb,eF,e2];rfl)
  | true =>
   rw[e2,Bool.true_and] at eF
   rw[eF] at q
   refine iteF ⟨_,rfl,_,rfl,_,rfl,n,ts,os,wv,op,rfl,⟨Is.same s1 _ isw,ok⟩,s1 _ _ hop,fun p H2 s2 e3=>?_⟩
   have s12:=s1.trans s2
   obtain⟨m,rfl⟩:∃ m:Nat,k=m:=⟨k.toNat,by omega⟩
   refine⟨_,rfl,_,rfl,_,rfl,M,n,ts,outs ts.length os,wv,.ref p,m,t,hv,d,rfl,⟨Is.same s12 _ isw,ok,is_nkeepL e3,outs_ok os⟩,by omega,t1,t99,Is.same s12 _ hd,td,fun H3 s3=>⟨_,rfl,?_⟩⟩
   have q3:=q H3 (s12.trans s3)
   rw[Int.toNat_natCast] at q3
   cases e4:beyD n ts (outs ts.length os) t m d with
   | false=>rw[e4] at q3;exact iteT q3
   | true =>
    rw[e4] at q3
    obtain⟨g0,g,ws,rfl,hg0,hg,hall,hlw⟩:=web_parts (Is.same (s12.trans s3) _ isw)
    refine iteF ⟨_,rfl,g0,_,_,_,rfl,rfl,SqT.of hg0,rfl,g,_,rfl,.inr (SqT.of hg),_,_,rfl,rfl,?_⟩
    rw[hlw];exact q3
 | _=>cases en
def spUnd (K:PySem.W.Frag):Sp:=fun vs H Q _=>∃ (n:Int) (ts:List Tie) (ks os:List Nat) (wv ev:V) (kp op:Addr) (e:PyData),vs=[wv,.ref kp,.ref op,ev]∧WO K H n ts wv∧H kp=some (.tup (natV ks))∧H op=some (.tup (natV os))∧Is K H e ev∧∀ H',Same H H'->Q (.bl (undD ts.length ks os e)) H'
theorem ok_is_undecided (T:Bi mg) (D:DefOk K mg "is_undecided" s_is_undecided ["web","kept","out","tie"]) (O_is_tie_number:Ok P w K mg base 2 "is_tie_number" ["web","thing"] (spNum K)):Ok P w K mg base 3 "is_undecided" ["web","kept","out","tie"] (spUnd K):=by
 refine mk_ok (k:=2) D sc_is_undecided (fun vs H Q E h=>?_) (fun f cdv A outer s H vs Q E hr h=>?_)
 ·obtain⟨n,ts,ks,os,wv,ev,kp,op,e,rfl,_⟩:=h
  rfl
 obtain⟨n,ts,ks,os,wv,ev,kp,op,e,rfl,⟨isw,ok⟩,hkp,hop,he,q⟩:=h
 have nd:=sc_is_undecided.nd
 refine⟨_,(pss_one (ps_ret (pe_and (pe_callD O_is_tie_number hr rfl (pa_cons (pv 0) (pa_cons (pv 3) pa_nil))) (pe_and (pe_cmpR op_notIn_seq (pv 3) (pv 1) (by with_unfolding_all rfl)) (pe_one (pe_cmpR op_notIn_seq (pv 3) (pv 2) (by with_unfolding_all rfl))))))),?_⟩
 refine⟨_,rfl,_,rfl,n,ts,e,wv,ev,rfl,isw,he,fun H1 s1=>⟨_,rfl,?_⟩⟩
 have q1:=q H1 s1
 cases en:numB ts.length e with
 | false =>
  have:undD ts.length ks os e=false:=by
   cases e with
   | int k =>
    have en':(decide (0≤k) && decide (k < (ts.length:Int)))=false:=en
    show ((decide (0≤k) && decide (k < (ts.length:Int))) && _)=false
    rw[en'];rfl
   | _=>rfl
  rw[this] at q1
  exact iteF q1
 | true =>
 cases e with
 | int k =>
  have he':ev=.int k:=he
  subst he'
  have en':(decide (0≤k) && decide (k < (ts.length:Int)))=true:=en
  have eF:undD ts.length ks os (.int k)=(!decide (k.toNat ∈ ks) && !decide (k.toNat ∈ os)):=by
   show ((decide (0≤k) && decide (k < (ts.length:Int))) && _)=_
   rw[en',Bool.true_and]
  rw[eF] at q1
  rw[Bool.and_eq_true] at en'
  have k0:=of_decide_eq_true en'.1
  refine iteT ⟨_,rfl,_,rfl,kp,_,rfl,.inr (SqT.of (s1 _ _ hkp)),rfl,flat_nat ks,_,rfl,?_⟩
  show if (!inV (V.int k) (natV ks))=true then _ else _
  rw[inV_nat k0]
  cases e2:decide (k.toNat ∈ ks) with
  | true=>rw[e2] at q1;exact iteF q1
  | false =>
   rw[e2] at q1
   refine iteT ⟨_,rfl,_,rfl,op,_,rfl,.inr (SqT.of (s1 _ _ hop)),rfl,flat_nat os,?_⟩
   show Q (.bl (!inV (V.int k) (natV os))) H1
   rw[inV_nat k0]
   exact q1
 | _=>cases en
def spWithT (K:PySem.W.Frag):Sp:=fun vs H Q _=>∃ (m:Nat) (ks:List Nat) (kp:Addr) (k:Nat),vs=[.ref kp,.int (k:Int)]∧H kp=some (.tup (natV ks))∧KeepOk m ks∧m≤60∧k ∉ ks∧∀ p H',Same H H'->H' p=some (.tup (natV (insN ks k)))->Q (.ref p) H'
theorem ok_with_tie (T:Bi mg) (D:DefOk K mg "with_tie" s_with_tie ["keep","tie"]):Ok P w K mg base 1 "with_tie" ["keep","tie"] (spWithT K):=by
 refine mk_ok (k:=0) D sc_with_tie (fun vs H Q E h=>?_) (fun f cdv A outer s H vs Q E hr h=>?_)
 ·obtain⟨m,ks,kp,k,rfl,_⟩:=h
  rfl
 obtain⟨m,ks,kp,k,rfl,hkp,ko,m60,hk,q⟩:=h
 have nd:=sc_with_tie.nd
 have lk:=ko.len
 refine⟨_,(pss_one (ps_ret (pe_callTy call_tupleG rfl T.z_tuple (by decide +kernel) (pa_cons (pe_callB call_sortedIT rfl T.z_sorted (by decide +kernel) (pa_cons (pe_op op_catA (pv 0) (pe_tupG (pa_cons (pv 1) pa_nil))) pa_nil)) pa_nil)))),?_⟩
 refine⟨_,rfl,_,rfl,(by show 1≤1000;decide),fun t1 J1 S1 f1 e1=>?_⟩
 have lv:(natV ks).length=ks.length:=by unfold natV;rw[List.length_map]
 refine⟨kp,t1,_,_,rfl,rfl,S1 _ _ hkp,e1,Nat.le_trans (show (natV ks).length + 1≤61 by omega) (by decide),fun t2 J2 S2 e2=>?_⟩
 have e2':J2 t2=some (.tup ((keepI ks++[(k:Int)]).map V.int)):=by rw[e2,List.map_append,← natV_keep];rfl
 refine⟨t2,_,rfl,e2',by rw[List.length_append];unfold keepI;rw[List.length_map];show ks.length + 1 < 64;omega,fun ms pm pw ls J3 S3 f3 e3=>?_⟩
 rw[ins_sorted ko.1 hk pm pw,← natV_keep] at e3
 exact⟨ls,_,rfl,e3,fun t4 J4 S4 f4 e4=>q t4 J4 (S1.trans (S2.trans (S3.trans S4))) e4⟩
theorem told_of {y:Str} {m:Nat} {d:PyData} (h:toldB y (m + 1) d=true):∃ r,d=.tuple (.str y::r)∧r.length=m:=by
 match d,h with
 | .tuple (.str x::r),h =>
  have h':(decide (r.length + 1=m + 1) && decide (x=y))=true:=h
  rw[Bool.and_eq_true] at h'
  have e1:=of_decide_eq_true h'.1
  have e2:=of_decide_eq_true h'.2
  subst e2
  exact⟨r,rfl,by omega⟩
theorem sh_none {n:Int} {ts:List Tie} {t:Int} {r:PyData->List Nat->List Nat->Option Int} {d:PyData} {ks os:List Nat} (h1:toldB "kept" 1 d=false) (h2:toldB "far" 3 d=false) (h3:toldB "tie" 4 d=false):shB n ts t r d ks os=none:=by
 unfold shB
 split
 ·rename_i w
  have h1':(decide (([]:List PyData).length + 1=1) && decide (w="kept"))=false:=h1
  have:¬ w="kept":=of_decide_eq_false (by simpa using h1')
  rw[if_neg this]
 ·rename_i w e h
  have h2':(decide ([e,h].length + 1=3) && decide (w="far"))=false:=h2
  have:¬ w="far":=of_decide_eq_false (by simpa using h2')
  rw[if_neg this]
 ·rename_i w e a b
  have h3':(decide ([e,a,b].length + 1=4) && decide (w="tie"))=false:=h3
  have:¬ w="tie":=of_decide_eq_false (by simpa using h3')
  rw[if_neg this]
 ·rfl
theorem ins_perm {m:Nat} {ks:List Nat} {k:Nat} (ko:KeepOk m ks) (hk:k ∉ ks):(insN ks k).Perm (ks++[k]):=by
 refine (List.perm_ext_iff_of_nodup ((ins_rise ko.1).imp fun h=>Nat.ne_of_lt h) (List.nodup_append.mpr ⟨ko.1.imp fun h=>Nat.ne_of_lt h,(by simp),fun a ha b hb e=>?_⟩)).mpr fun j=>by rw[ins_mem,List.mem_append,List.mem_singleton]
 have:b=k:=by simpa using hb
 subst this;subst e;exact hk ha
theorem td_at {M i:Nat} {ds:List PyData} {x:PyData} (h:TD (M + 1) (.tuple ds)) (e:ds[i]?=some x):TD M x:=h.all.2 x (List.mem_of_getElem? e)
def spShw (K:PySem.W.Frag) (m:Nat):Sp:=fun vs H Q _=>∃ (n:Int) (ts:List Tie) (ks os:List Nat) (wv v:V) (kp op:Addr) (t:Int) (d:PyData),vs=[wv,.int t,v,.ref kp,.ref op]∧WO K H n ts wv∧1≤t∧t≤99∧Is K H d v∧TD m d∧H kp=some (.tup (natV ks))∧KeepOk ts.length ks∧H op=some (.tup (natV os))∧KeepOk ts.length os∧∀ H',Same H H'->Q (ov (shF n ts t (m + 1) d ks os)) H'
theorem shown_step {m j:Nat} (T:Bi mg) (D:DefOk K mg "shown" s_shown ["web","t","tree","kept","out"]) (O_is_told:Ok P w K mg base j "is_told" ["thing","word","many"] (spTolD K)) (O_kept_show:Ok P w K mg base j "kept_show" ["web","kept"] (spKeptS K)) (O_far_show:Ok P w K mg base j "far_show" ["web","t","out","tie","heights"] (spFarS K)) (O_is_undecided:Ok P w K mg base j "is_undecided" ["web","kept","out","tie"] (spUnd K)) (O_with_tie:Ok P w K mg base j "with_tie" ["keep","tie"] (spWithT K)) {sp:Sp} (O_shown:Ok P w K mg base j "shown" ["web","t","tree","kept","out"] sp) (hsp:∀ m',m=m' + 1->∀ vs H Q E,spShw K m' vs H Q E->sp vs H Q E):Ok P w K mg base (j + 1) "shown" ["web","t","tree","kept","out"] (spShw K m):=by
 refine mk_ok (k:=j) D sc_shown (fun vs H Q E h=>?_) (fun f cdv A outer s H vs Q E hr h=>?_)
 ·obtain⟨n,ts,ks,os,wv,v,kp,op,t,d,rfl,_⟩:=h
  rfl
 obtain⟨n,ts,ks,os,wv,v,kp,op,t,d,rfl,wo,t1,t99,hd,td,hkp,ko,hop,oo,q⟩:=h
 have nd:=sc_shown.nd
 have few60:=wo.2.few
 have q':∀ {x:Option Int},shB n ts t (shF n ts t m) d ks os=x->∀ H',Same H H'->Q (ov x) H':=fun e H' s=>by rw[← e];exact q H' s
 refine⟨_,(pss_cons (ps_if (pt_val (pe_callD O_is_told hr rfl (pa_cons (pv 2) (pa_cons pe_str (pa_cons pe_int pa_nil))))) (pss_one (ps_ret (pe_callD O_kept_show hr rfl (pa_cons (pv 0) (pa_cons (pv 3) pa_nil))))) pss_nil) (pss_cons (ps_if (pt_val (pe_callD O_is_told hr rfl (pa_cons (pv 2) (pa_cons pe_str (pa_cons pe_int pa_nil))))) (pss_one (ps_ret (pe_callD O_far_show hr rfl (pa_cons (pv 0) (pa_cons (pv 1) (pa_cons (pv 4) (pa_cons (pe_ix ix_tup (pv 2) pe_int (fun _ _=>rfl)) (pa_cons (pe_ix ix_tup (pv 2) pe_int (fun _ _=>rfl)) pa_nil)))))))) pss_nil) (pss_cons (ps_if (PW.pt (pw_or (pt_not (pt_val (pe_callD O_is_told hr rfl (pa_cons (pv 2) (pa_cons pe_str (pa_cons pe_int pa_nil)))))) (pw_or1 (pt_not (pt_val (pe_callD O_is_undecided hr rfl (pa_cons (pv 0) (pa_cons (pv 3) (pa_cons (pv 4) (pa_cons (pe_ix ix_tup (pv 2) pe_int (fun _ _=>rfl)) pa_nil)))))))))) (pss_one (ps_ret pe_non)) pss_nil) (pss_cons (ps_set (i:=5) nd rfl (Or.inl rfl) (pe_callD O_shown hr rfl (pa_cons (pv 0) (pa_cons (pv 1) (pa_cons (pe_ix ix_tup (pv 2) pe_int (fun _ _=>rfl)) (pa_cons (pe_callD O_with_tie hr rfl (pa_cons (pv 3) (pa_cons (pe_ix ix_tup (pv 2) pe_int (fun _ _=>rfl)) pa_nil))) (pa_cons (pv 4) pa_nil))))))) (pss_cons (ps_set (i:=6) nd rfl (Or.inl rfl) (pe_callD O_shown hr rfl (pa_cons (pv 0) (pa_cons (pv 1) (pa_cons (pe_ix ix_tup (pv 2) pe_int (fun _ _=>rfl)) (pa_cons (pv 3) (pa_cons (pe_callD O_with_tie hr rfl (pa_cons (pv 4) (pa_cons (pe_ix ix_tup (pv 2) pe_int (fun _ _=>rfl)) pa_nil))) pa_nil))))))) (pss_cons (ps_if (PW.pt (pw_or (pt_cmpR op_isN (pv 5) pe_non (nomark _)) (pw_or1 (pt_cmpR op_isN (pv 6) pe_non (nomark _))))) (pss_one (ps_ret pe_non)) pss_nil) (pss_one (ps_ret (pe_callB (call_min2 rfl) rfl T.z_min (by decide +kernel) (pa_cons (pv 5) (pa_cons (pv 6) pa_nil))))))))))),?_⟩
 refine⟨_,rfl,m,d,v,"kept",0,rfl,hd,td,by decide +kernel,_,rfl,?_⟩
 cases e1:toldB "kept" 1 d with
 | true =>
  refine iteT ?_
  obtain⟨r,rfl,lr⟩:=told_of e1
  obtain rfl:r=[]:=List.length_eq_zero_iff.mp lr
  exact⟨_,rfl,_,rfl,n,ts,ks,wv,kp,rfl,wo,hkp,ko,fun H1 s1=>q' (x:=some (keptF ts ks)) (by unfold shB;exact if_pos rfl) H1 s1⟩
 | false =>
 refine iteF ⟨_,rfl,m,d,v,"far",2,rfl,hd,td,by decide +kernel,_,rfl,?_⟩
 cases e2:toldB "far" 3 d with
 | true =>
  refine iteT ?_
  obtain⟨r,rfl,lr⟩:=told_of e2
  match r,lr with
  | [e,h],_ =>
   obtain⟨p,vs,rfl,hp,v1,r1,rfl,h1,v2,r2,rfl,h2,v3,r3,rfl,h3,h4⟩:=id hd
   obtain rfl:r3=[]:=h4
   have tdh:TD m h:=by
    cases m with
    | zero=>rcases td with ⟨i,z⟩ | ⟨x,z,_⟩ <;> cases z
    | succ m=>exact (td_at (i:=2) td rfl).up
   exact⟨_,rfl,_,rfl,_,rfl,_,rfl,p,_,_,_,rfl,rfl,SqT.of hp,rfl,_,rfl,p,_,_,_,rfl,rfl,SqT.of hp,rfl,m,n,ts,os,wv,v2,v3,op,t,e,h,rfl,wo,t1,t99,hop,h2,h3,tdh,fun H1 s1=>q' (by unfold shB;exact if_pos rfl) H1 s1⟩
 | false =>
 refine iteF ⟨_,rfl,m,d,v,"tie",3,rfl,hd,td,by decide +kernel,_,rfl,?_⟩
 cases e3:toldB "tie" 4 d with
 | false=>exact iteT (iteT (q' (sh_none e1 e2 e3) H (Same.refl H)))
 | true =>
 obtain⟨r,rfl,lr⟩:=told_of e3
 match r,lr with
 | [e,a,b],_ =>
  obtain⟨p,vs,rfl,hp,v1,r1,rfl,h1,v2,r2,rfl,h2,v3,r3,rfl,h3,v4,r4,rfl,h4,h5⟩:=id hd
  obtain rfl:r4=[]:=h5
  refine iteF ⟨_,rfl,_,rfl,_,rfl,_,rfl,p,_,_,_,rfl,rfl,SqT.of hp,rfl,n,ts,ks,os,wv,v2,kp,op,e,rfl,wo,hkp,hop,h2,fun H1 s1=>⟨_,rfl,?_⟩⟩
  cases e4:undD ts.length ks os e with
  | false=>exact iteT (q' (x:=none) (by unfold shB;show (if _ then _ else _)=_;rw[if_pos rfl,if_neg (by rw[e4];decide)]) H1 s1)
  | true =>
   obtain⟨k,rfl,kl,nk,no,ek⟩:=und_of e4
   obtain rfl:v2=.int (k:Int):=h2
   refine iteF ?_
   cases m with
   | zero=>rcases td with ⟨i,z⟩ | ⟨x,z,_⟩ <;> cases z
   | succ m =>
    have ta:=td_at (i:=2) td rfl
    have tb:=td_at (i:=3) td rfl
    have pk:=ins_perm ko nk
    have po:=ins_perm oo no
    have hF:shB n ts t (shF n ts t (m + 1)) (.tuple [.str "tie",.int (k:Int),a,b]) ks os=both (shF n ts t (m + 1) a (insN ks k) os) (shF n ts t (m + 1) b ks (insN os k)):=by
     unfold shB
     show (if _ then _ else _)=_
     rw[if_pos rfl,if_pos e4,ek,sh_set wo.2 (m + 1) a _ _ os os pk (List.Perm.refl _) (ins_ok ko kl).2,sh_set wo.2 (m + 1) b ks ks _ _ (List.Perm.refl _) po ko.2]
    refine⟨_,rfl,_,rfl,_,rfl,p,_,_,_,rfl,rfl,SqT.of (s1 _ _ hp),rfl,?_⟩
    refine⟨_,rfl,_,rfl,p,_,_,_,rfl,rfl,SqT.of (s1 _ _ hp),rfl,ts.length,ks,kp,k,rfl,s1 _ _ hkp,ko,few60,nk,fun p2 H2 s2 e5=>?_⟩
    have s12:=s1.trans s2
    refine⟨_,rfl,hsp m rfl _ _ _ _ ⟨n,ts,insN ks k,os,wv,v3,p2,op,t,a,rfl,wo.same s12,t1,t99,Is.same s12 _ h3,ta,e5,ins_ok ko kl,s12 _ _ hop,oo,fun H3 s3=>?_⟩⟩
    have s13:=s12.trans s3
    refine⟨_,rfl,_,rfl,_,rfl,p,_,_,_,rfl,rfl,SqT.of (s13 _ _ hp),rfl,_,rfl,?_⟩
    refine⟨_,rfl,_,rfl,p,_,_,_,rfl,rfl,SqT.of (s13 _ _ hp),rfl,ts.length,os,op,k,rfl,s13 _ _ hop,oo,few60,no,fun p4 H4 s4 e6=>?_⟩
    have s14:=s13.trans s4
    refine hsp m rfl _ _ _ _ ⟨n,ts,ks,insN os k,wv,v4,kp,p4,t,b,rfl,wo.same s14,t1,t99,Is.same s14 _ h4,tb,s14 _ _ hkp,ko,e6,ins_ok oo kl,fun H5 s5=>?_⟩
    have s15:=s14.trans s5
    have q5:=q' hF H5 s15
    refine⟨_,rfl,rfl,_,rfl,?_⟩
    cases f1:shF n ts t (m + 1) a (insN ks k) os with
    | none =>
     rw[f1] at q5
     exact iteT (iteT q5)
    | some x =>
     refine iteF ⟨_,rfl,rfl,_,rfl,?_⟩
     cases f2:shF n ts t (m + 1) b ks (insN os k) with
     | none =>
      rw[f1,f2] at q5
      exact iteT q5
     | some y =>
      rw[f1,f2] at q5
      exact iteF ⟨_,rfl,_,rfl,x,y,rfl,q5⟩
theorem ok_shown {j:Nat} (T:Bi mg) (D:DefOk K mg "shown" s_shown ["web","t","tree","kept","out"]) (O_is_told:Ok P w K mg base j "is_told" ["thing","word","many"] (spTolD K)) (O_kept_show:Ok P w K mg base j "kept_show" ["web","kept"] (spKeptS K)) (O_far_show:Ok P w K mg base j "far_show" ["web","t","out","tie","heights"] (spFarS K)) (O_is_undecided:Ok P w K mg base j "is_undecided" ["web","kept","out","tie"] (spUnd K)) (O_with_tie:Ok P w K mg base j "with_tie" ["keep","tie"] (spWithT K)):∀ m:Nat,Ok P w K mg base (j + m + 1) "shown" ["web","t","tree","kept","out"] (spShw K m)
 | 0=>by
  have O:Ok P w K mg base j "shown" ["web","t","tree","kept","out"] (fun _ _ _ _=>False):=by
   obtain⟨f,fd,F,b,m⟩:=D
   exact⟨f,fd,⟨fun _ _ _ _ h=>h.elim,fun _ _ _ _ _ _ _ _ _ _ _ _ _ h=>h.elim⟩,b,F.kp,m⟩
  exact shown_step (P:=P) (w:=w) (base:=base) T D O_is_told O_kept_show O_far_show O_is_undecided O_with_tie O fun m' e=>by cases e
 | m + 1=>shown_step (P:=P) (w:=w) (base:=base) T D (O_is_told.mono (by omega)) (O_kept_show.mono (by omega)) (O_far_show.mono (by omega)) (O_is_undecided.mono (by omega)) (O_with_tie.mono (by omega)) (ok_shown T D O_is_told O_kept_show O_far_show O_is_undecided O_with_tie m) fun m' e vs H Q E z=>by cases e;exact z
def spCases (K:PySem.W.Frag) (m:Nat):Sp:=fun vs H Q _=>∃ (n:Int) (ts:List Tie) (wv v:V) (t:Int) (d:PyData),vs=[wv,.int t,v]∧WO K H n ts wv∧1≤t∧t≤99∧Is K H d v∧TD m d∧∀ H',Same H H'->Q (ov (shF n ts t (m + 1) d [] [])) H'
theorem ok_cases_show {m j:Nat} (T:Bi mg) (D:DefOk K mg "cases_show" s_cases_show ["web","t","tree"]) (O_need_times:Ok P w K mg base j "need_times" ["t"] (spNeed K)) (O_shown:Ok P w K mg base j "shown" ["web","t","tree","kept","out"] (spShw K m)):Ok P w K mg base (j + 1) "cases_show" ["web","t","tree"] (spCases K m):=by
 refine mk_ok (k:=j) D sc_cases_show (fun vs H Q E h=>?_) (fun f cdv A outer s H vs Q E hr h=>?_)
 ·obtain⟨n,ts,wv,v,t,d,rfl,_⟩:=h
  rfl
 obtain⟨n,ts,wv,v,t,d,rfl,wo,t1,t99,hd,td,q⟩:=h
 have nd:=sc_cases_show.nd
 refine⟨_,(pss_cons (ps_expr (pe_callD O_need_times hr rfl (pa_cons (pv 1) pa_nil))) (pss_one (ps_ret (pe_callD O_shown hr rfl (pa_cons (pv 0) (pa_cons (pv 1) (pa_cons (pv 2) (pa_cons (pe_tupG pa_nil) (pa_cons (pe_tupG pa_nil) pa_nil))))))))),?_⟩
 refine⟨_,rfl,t,rfl,t1,t99,fun H1 s1=>?_⟩
 refine⟨_,rfl,_,rfl,_,rfl,(by show 0≤1000;decide),fun p1 H2 s2 f2 e2=>⟨(by show 0≤1000;decide),fun p2 H3 s3 f3 e3=>?_⟩⟩
 have s13:=s1.trans (s2.trans s3)
 have ko:KeepOk ts.length []:=⟨.nil,fun k h=>by cases h⟩
 exact⟨n,ts,[],[],wv,v,p1,p2,t,d,rfl,wo.same s13,t1,t99,Is.same s13 _ hd,td,s3 _ _ e2,ko,e3,ko,fun H4 s4=>q H4 (s13.trans s4)⟩
theorem ok__law_is_number (T:Bi mg) (D:DefOk K mg "_law_is_number" s__law_is_number ["thing"]):Ok P w K mg base 1 "_law_is_number" ["thing"] (spD1 K (fun _=>True) wholeB):=by
 refine mk_ok (k:=0) D sc__law_is_number (fun vs H Q E h=>?_) (fun f cdv A outer s H vs Q E hr h=>?_)
 ·obtain⟨d,v,rfl,_⟩:=h
  rfl
 obtain⟨d,v,rfl,hd,_,q⟩:=h
 have nd:=sc__law_is_number.nd
 have q0:=q H (Same.refl H)
 have ty:=ty_of hd
 refine⟨_,(pss_one (ps_ret (pe_and (pe_callB (call_isi (n:="int")) rfl T.z_isinstance (by decide +kernel) (pa_cons (pv 0) (pa_cons (pe_bltn (v:=.ty "int") rfl T.z_int (by decide +kernel) rfl) pa_nil))) (pe_one (pe_not (pe_callB (call_isi (n:="bool")) rfl T.z_isinstance (by decide +kernel) (pa_cons (pv 0) (pa_cons (pe_bltn (v:=.ty "bool") rfl T.z_bool (by decide +kernel) rfl) pa_nil)))))))),?_⟩
 cases d with
 | int i=>exact⟨_,rfl,_,_,_,rfl,ty,rfl,_,rfl,iteT ⟨_,rfl,_,_,_,rfl,ty,rfl,_,rfl,q0⟩⟩
 | bool b=>exact⟨_,rfl,_,_,_,rfl,ty,rfl,_,rfl,iteT ⟨_,rfl,_,_,_,rfl,ty,rfl,_,rfl,q0⟩⟩
 | none=>exact⟨_,rfl,_,_,_,rfl,ty,rfl,_,rfl,iteF q0⟩
 | str x=>exact⟨_,rfl,_,_,_,rfl,ty,rfl,_,rfl,iteF q0⟩
 | tuple ds=>exact⟨_,rfl,_,_,_,rfl,ty,rfl,_,rfl,iteF q0⟩
 | list ds=>exact⟨_,rfl,_,_,_,rfl,ty,rfl,_,rfl,iteF q0⟩
 | dict ds=>exact⟨_,rfl,_,_,_,rfl,ty,rfl,_,rfl,iteF q0⟩
def spRest (K:PySem.W.Frag):Sp:=fun vs H Q _=>∃ (n:Int) (ts:List Tie) (os:List Nat) (wv:V) (op:Addr),vs=[wv,.ref op]∧WO K H n ts wv∧H op=some (.lst (natV os))∧∀ l H',Same H H'->H l=none->H' l=some (.lst (natV (outs ts.length os)))->Q (.ref l) H'
theorem ok__law_rest (T:Bi mg) (D:DefOk K mg "_law_rest" s__law_rest ["web","left"]):Ok P w K mg base 1 "_law_rest" ["web","left"] (spRest K):=by
 refine mk_ok (k:=0) D sc__law_rest (fun vs H Q E h=>?_) (fun f cdv A outer s H vs Q E hr h=>?_)
 ·obtain⟨n,ts,os,wv,op,rfl,_⟩:=h
  rfl
 obtain⟨n,ts,os,wv,op,rfl,⟨isw,ok⟩,hop,q⟩:=h
 have nd:=sc__law_rest.nd
 have few60:=ok.few
 obtain⟨g0,g,ws,rfl,hg0,hg,hall,hlw⟩:=web_parts isw
 refine⟨_,(pss_one (ps_ret (pe_comp (N:=["web","left"]) (sc0:=defScope s__law_rest) (own:=["number"]) (fr:=["left"]) (js:=[1]) rfl (pi_range1 rfl T.z_range (pa_cons (pe_callB call_len_seq rfl T.z_len (by decide +kernel) (pa_cons (pe_ix ix_tup (pv 0) pe_int (fun _ _=>rfl)) pa_nil)) pa_nil)) (fun _ _ _ _=>(pg_name (i:=0) (by show List.Nodup [("number":Str),("left":Str)];decide +kernel) rfl (Or.inl rfl))) (fun _ _ _ _=>(pts_one (pt_cmpR op_notIn_seqC (pv 0) (pv 1) (by with_unfolding_all rfl)))) (fun _ _ _ _=>(pv 0))))),?_⟩
 refine⟨_,rfl,g0,_,_,_,rfl,rfl,SqT.of hg0,rfl,g,_,rfl,.inr (SqT.of hg),_,rfl,by omega,by omega,?_⟩
 rw[Int.toNat_natCast,hlw]
 refine comp_selR (n:=ts.length) (fun σ'=>∃ o,σ'=[o,some (.ref op)]) (fun i=>if decide (i ∉ os)=true then some (V.int (i:Int)) else none) (by omega) (by exact⟨none,rfl⟩) (fun i σ' J' hi s2 sg C L hC hL=>?_) (fun Lo J6 hLo S6 hH6=>?_)
 ·obtain⟨o,rfl⟩:=sg
  refine⟨_,rfl,_,rfl,op,_,rfl,.inl (SqL.of (s2 _ _ hop)),rfl,flat_nat os,?_⟩
  rw[inV_nat (by omega),show (0 + (i:Int)).toNat=i by omega]
  by_cases c:i ∈ os
  ·exact⟨_,rfl,iteFe (by rw[decide_eq_true c];rfl) (hL _ _ ⟨_,rfl⟩ (Same.refl _) (by simp [c]))⟩
  ·exact⟨_,rfl,iteTe (by rw[decide_eq_false c];rfl) ⟨_,rfl,hC _ _ _ ⟨_,rfl⟩ (Same.refl _) (by simp [c])⟩⟩
 ·rw[sel_nats] at hH6
  exact q Lo J6 S6 hLo hH6
def spHoldL (K:PySem.W.Frag):Sp:=fun vs H Q _=>∃ (n:Int) (ts:List Tie) (ks:List Nat) (wv:V) (kp p:Addr) (hs:List Int),vs=[wv,.ref kp,.ref p]∧WO K H n ts wv∧H kp=some (.lst (natV ks))∧(∀ k ∈ ks,k < ts.length)∧IntT H p hs∧Q (.bl (holdB n ts ks hs)) H
theorem ok__law_holds (T:Bi mg) (D:DefOk K mg "_law_holds" s__law_holds ["web","keep","heights"]):Ok P w K mg base 1 "_law_holds" ["web","keep","heights"] (spHoldL K):=by
 refine mk_ok (k:=0) D sc__law_holds (fun vs H Q E h=>?_) (fun f cdv A outer s H vs Q E hr h=>?_)
 ·obtain⟨n,ts,ks,wv,kp,p,hs,rfl,_⟩:=h
  rfl
 obtain⟨n,ts,ks,wv,kp,p,hs,rfl,⟨isw,ok⟩,hkp,ko,ht,q0⟩:=h
 have nd:=sc__law_holds.nd
 have n1:=ok.n1
 obtain⟨g0,g,ws,rfl,hg0,hg,hall,hlw⟩:=web_parts isw
 refine⟨_,(pss_cons (ps_if (pt_cmpR op_ne (pe_callB call_len_seq rfl T.z_len (by decide +kernel) (pa_cons (pv 2) pa_nil)) (pe_ix ix_tup (pv 0) pe_int (fun _ _=>rfl)) (nomark _)) (pss_one (ps_ret pe_bl)) pss_nil) (pss_cons (ps_for PassesOwn.never rfl (pi_list (pv 1)) (pg_name (i:=3) nd rfl (Or.inl rfl)) (pss_cons (ps_asg (pe_ix ix_tup (pe_ix ix_tup (pv 0) pe_int (fun _ _=>rfl)) (pv 3) (fun _ _=>rfl)) (pg_tup (n:=3) rfl (pgs_cons (pg_name (i:=4) nd rfl (Or.inl rfl)) (pgs_cons (pg_name (i:=5) nd rfl (Or.inl rfl)) (pgs_cons (pg_name (i:=6) nd rfl (Or.inl rfl)) pgs_nil))))) (pss_one (ps_if (pt_cmpR op_gt (pe_callB call_abs rfl T.z_abs (by decide +kernel) (pa_cons (pe_op op_sub (pe_ix ix_tup (pv 2) (pv 4) (fun _ _=>rfl)) (pe_ix ix_tup (pv 2) (pv 5) (fun _ _=>rfl))) pa_nil)) (pv 6) (nomark _)) (pss_one (ps_ret pe_bl)) pss_nil)))) (pss_one (ps_ret pe_bl)))),?_⟩
 refine⟨_,rfl,p,_,rfl,.inr (SqT.of ht.1),_,rfl,g0,_,_,_,rfl,rfl,SqT.of hg0,rfl,rfl,_,rfl,?_⟩
 by_cases hn:hs.length=n.toNat
 case neg =>
  have ne:decide (V.int (((hs.map V.int).length:Nat):Int)=V.int n)=false:=decide_eq_false fun e=>by
   have:(((hs.map V.int).length:Nat):Int)=n:=by injection e
   rw[List.length_map] at this
   omega
  rw[ne]
  refine iteT ?_
  have e:holdB n ts ks hs=false:=by unfold holdB;rw[decide_eq_false hn];rfl
  rw[e] at q0;exact q0
 refine iteNS (by rw[List.length_map,hn];congr 1;omega) ?_
 have he:holdB n ts ks hs=ks.all fun k=>decide (acrossI ts hs k≤(tieAt ts k).2.2):=by unfold holdB;rw[decide_eq_true hn,Bool.true_and]
 rw[he] at q0
 refine⟨_,rfl,kp,rfl,⟨_,SqL.of hkp⟩,?_⟩
 refine for_list (xs:=natV ks) (fun i σ J=>J=H∧(∃ y3 y4 y5 y6:Option V,σ=[some (.ref g0),some (.ref kp),some (.ref p),y3,y4,y5,y6])∧∀ k ∈ ks.take i,decide (acrossI ts hs k≤(tieAt ts k).2.2)=true) ⟨rfl,⟨none,none,none,none,rfl⟩,fun k h=>(by simp at h)⟩ (fun i σ J _ h=>by rw[h.1];exact SqL.of hkp) (fun i x σ J hx h=>?_) (fun σ J h=>?_)
 ·obtain⟨rfl,⟨y3,y4,y5,y6,rfl⟩,pre⟩:=h
  obtain⟨k,hk,rfl⟩:=nat_at hx
  have hkl:k < ts.length:=ko k (List.mem_of_getElem? hk)
  obtain⟨ta,hta,htie⟩:=tie_val hall hkl
  have tk:=ok.tie _ (tieAt_in hkl).2
  refine⟨_,rfl,g0,_,_,_,rfl,rfl,SqT.of hg0,rfl,_,rfl,g,_,_,_,rfl,rfl,SqT.of hg,atI_toNat (Int.natCast_nonneg _) hta,ta,_,rfl,SqT.of htie,rfl,_,_,rfl,_,_,rfl,_,_,rfl,rfl,?_⟩
  refine⟨_,rfl,_,rfl,p,_,_,_,rfl,rfl,SqT.of ht.1,hAt_at (by omega) (by omega),_,rfl,_,rfl,p,_,_,_,rfl,rfl,SqT.of ht.1,hAt_at (by omega) (by omega),_,_,rfl,rfl,_,rfl,_,rfl,_,_,rfl,rfl,_,rfl,ite2 (fun c1=>?_) (fun c1=>?_)⟩
  ·have e:(ks.all fun k=>decide (acrossI ts hs k≤(tieAt ts k).2.2))=false:=by
    refine Bool.eq_false_iff.mpr fun y=>?_
    have h1:=of_decide_eq_true (List.all_eq_true.mp y k (List.mem_of_getElem? hk))
    have h2:=of_decide_eq_true c1
    exact absurd h1 (Int.not_le.mpr h2)
   rw[e] at q0;exact q0
  ·have d1:=of_decide_eq_false (Bool.eq_false_iff.mpr c1)
   refine⟨rfl,⟨_,_,_,_,rfl⟩,fun k' hk'=>?_⟩
   rw[take_next hk] at hk'
   rcases List.mem_append.mp hk' with hk' | hk'
   ·exact pre k' hk'
   ·rw[List.mem_singleton.mp hk']
    exact decide_eq_true (Int.not_lt.mp d1)
 ·obtain⟨rfl,⟨y3,y4,y5,y6,rfl⟩,pre⟩:=h
  rw[natV_length,List.take_length] at pre
  rw[List.all_eq_true.mpr pre] at q0
  exact q0
def spParts (K:PySem.W.Frag):Sp:=fun vs H Q _=>∃ (n:Int) (ts:List Tie) (ks:List Nat) (wv:V) (kp:Addr) (tp:Bool),vs=[wv,.ref kp]∧WO K H n ts wv∧H kp=some (if tp=true then .tup (natV ks) else .lst (natV ks))∧(∀ k ∈ ks,k < ts.length)∧ks.length≤60∧∀ H',Same H H'->Q (.int (pcN n ts ks:Int)) H'
theorem join_same {M:List Nat} {p:Nat}:Frs.join M p p=M:=by
 unfold Frs.join
 conv=>rhs;rw[← List.map_id M]
 refine List.map_congr_left fun x _=>?_
 by_cases c:x=p
 ·rw[if_pos c,c];rfl
 ·rw[if_neg c];rfl
theorem ok__law_parts40 (T:Bi mg) (D:DefOk K mg "_law_parts" s__law_parts ["web","keep"]):Ok P w K mg base 1 "_law_parts" ["web","keep"] (spParts K):=by
 refine mk_ok (k:=0) D sc__law_parts (fun vs H Q E h=>?_) (fun f cdv A outer s H vs Q E hr h=>?_)
 ·obtain⟨n,ts,ks,wv,kp,tp,rfl,_⟩:=h
  rfl
 obtain⟨n,ts,ks,wv,kp,tp,rfl,⟨isw,ok⟩,hkp,ko,l60,q⟩:=h
 have nd:=sc__law_parts.nd
 have n1:=ok.n1
 have n24:=ok.n24
 obtain⟨g0,g,ws,rfl,hg0,hg,hall,hlw⟩:=web_parts isw
 refine⟨_,(pss_cons (ps_set (i:=2) nd rfl (Or.inl rfl) (pe_callTy (call_list_rng rfl) rfl T.z_list (by decide +kernel) (pa_cons (pe_callTy call_range rfl T.z_range (by decide +kernel) (pa_cons (pe_ix ix_tup (pv 0) pe_int (fun _ _=>rfl)) pa_nil)) pa_nil))) (pss_cons (ps_for PassesOwn.never rfl (pi_any (pv 1)) (pg_name (i:=3) nd rfl (Or.inl rfl)) (pss_cons (ps_asg (pe_ix ix_tup (pe_ix ix_tup (pv 0) pe_int (fun _ _=>rfl)) (pv 3) (fun _ _=>rfl)) (pg_tup (n:=3) rfl (pgs_cons (pg_name (i:=4) nd rfl (Or.inl rfl)) (pgs_cons (pg_name (i:=5) nd rfl (Or.inl rfl)) (pgs_cons (pg_name (i:=6) nd rfl (Or.inl rfl)) pgs_nil))))) (pss_cons (ps_asg (pe_tupG (pa_cons (pe_ix ix_list (pv 2) (pv 4) (fun _ _=>rfl)) (pa_cons (pe_ix ix_list (pv 2) (pv 5) (fun _ _=>rfl)) pa_nil))) (pg_tup (n:=2) rfl (pgs_cons (pg_name (i:=7) nd rfl (Or.inr rfl)) (pgs_cons (pg_name (i:=8) nd rfl (Or.inr rfl)) pgs_nil)))) (pss_one (ps_setcomp (i:=2) (N:=["web","keep","names","number","a","b","length","one","other"]) (sc0:=defScope s__law_parts) (own:=["name"]) (fr:=["one","other"]) (js:=[7,8]) rfl (pi_list (pv 2)) (fun _ _ _ _=>(pg_name (i:=0) (by show List.Nodup [("name":Str),("one":Str),("other":Str)];decide +kernel) rfl (Or.inl rfl))) (fun _ _ _ _=>pts_nil) (fun _ _ _ _=>(pe_ix ix_listC (pe_lstG (pa_cons (pv 0) (pa_cons (pv 1) pa_nil))) (pe_callTy call_intB rfl T.z_int (by decide +kernel) (pa_cons (pe_cmpR op_eq (pv 0) (pv 2) (nomark _)) pa_nil)) (fun _ _=>rfl))) nd rfl (Or.inl rfl)))))) (pss_one (ps_ret (pe_callB call_lenS rfl T.z_len (by decide +kernel) (pa_cons (pe_callTy (call_setTL rfl) rfl T.z_set (by decide +kernel) (pa_cons (pv 2) pa_nil)) pa_nil)))))),?_⟩
 refine⟨_,rfl,g0,_,_,_,rfl,rfl,SqT.of hg0,rfl,_,rfl,fun r hr'=>⟨r,n,rfl,upd_same,by omega,by omega,fun lm hlm=>?_⟩⟩
 have S1:Same H (upd H r (.rng 0 n)):=same_new hr'
 have S2:Same (upd H r (.rng 0 n)) (upd (upd H r (.rng 0 n)) lm (.lst ((List.range n.toNat).map fun i:Nat=>V.int (i:Int)))):=same_new hlm
 have e2:upd (upd H r (.rng 0 n)) lm (.lst ((List.range n.toNat).map fun i:Nat=>V.int (i:Int))) lm=some (.lst (natV (List.range n.toNat))):=upd_same
 generalize upd (upd H r (.rng 0 n)) lm (.lst ((List.range n.toNat).map fun i:Nat=>V.int (i:Int)))=J2 at S2 e2
 have S02:=S1.trans S2
 refine⟨_,rfl,kp,rfl,tp,⟨_,SqX.of (S02 _ _ hkp)⟩,?_⟩
 refine for_any (t:=tp) (xs:=natV ks) (fun i σ J=>∃ (lm:Addr) (M:List Nat) (y4 y5 y6 y7 y8 y9:Option V),σ=[some (.ref g0),some (.ref kp),some (.ref lm),y4,y5,y6,y7,y8,y9]∧Same H J∧J lm=some (.lst (natV M))∧Frs.Mk n.toNat ((ks.take i).map (t2 ts)) M) ⟨lm,_,none,none,none,none,none,none,rfl,S02,e2,Frs.Mk.first⟩ (fun i σ J _ h=>?_) (fun i x σ J hx h=>?_) (fun σ J h=>?_)
 ·obtain⟨lm,M,y4,y5,y6,y7,y8,y9,rfl,sm,_⟩:=h
  exact SqX.of (sm _ _ hkp)
 ·obtain⟨lm,M,y4,y5,y6,y7,y8,y9,rfl,sm,hM,mk⟩:=h
  obtain⟨k,hk,rfl⟩:=nat_at hx
  have hkl:k < ts.length:=ko k (List.mem_of_getElem? hk)
  obtain⟨ta,hta,htie⟩:=tie_val hall hkl
  have tk:=ok.tie _ (tieAt_in hkl).2
  have lM:=mk.1
  have mE:(ks.take (i + 1)).map (t2 ts)=(ks.take i).map (t2 ts)++[((tieAt ts k).1.toNat,(tieAt ts k).2.1.toNat)]:=by rw[take_next hk,List.map_append,List.map_singleton];rfl
  obtain⟨t,et⟩:∃ t,t=tieAt ts k:=⟨_,rfl⟩
  rw[← et] at htie tk mE
  have ha:t.1.toNat < n.toNat:=tk_a tk
  have hb:t.2.1.toNat < n.toNat:=tk_b tk
  refine⟨_,rfl,g0,_,_,_,rfl,rfl,SqT.of (sm _ _ hg0),rfl,_,rfl,g,_,_,_,rfl,rfl,SqT.of (sm _ _ hg),atI_toNat (Int.natCast_nonneg _) hta,ta,_,rfl,SqT.of (sm _ _ htie),rfl,_,_,rfl,_,_,rfl,_,_,rfl,rfl,?_⟩
  refine⟨_,rfl,_,rfl,lm,_,_,_,rfl,rfl,SqL.of hM,nat_atI tk.1 (by rw[lM];exact ha),?_⟩
  refine⟨_,rfl,_,rfl,lm,_,_,_,rfl,rfl,SqL.of hM,nat_atI (tk_0 tk) (by rw[lM];exact hb),(by show 2≤1000;decide),fun p3 J3 S3 f3 e3=>?_⟩
  refine⟨p3,_,rfl,SqT.of e3,rfl,_,_,rfl,_,_,rfl,rfl,?_⟩
  have hM:=S3 _ _ hM
  have sm:=sm.trans S3
  refine⟨_,rfl,lm,rfl,⟨_,SqL.of hM⟩,?_⟩
  have lnM:(natV M).length=n.toNat:=by unfold natV;rw[List.length_map];exact lM
  refine comp_lst hM (fun σ'=>∃ o,σ'=[o,some (.int ((M.getD t.1.toNat 0:Nat):Int)),some (.int ((M.getD t.2.1.toNat 0:Nat):Int))]) (fun i v _=>v=.int (((if M.getD i 0=M.getD t.2.1.toNat 0 then M.getD t.1.toNat 0 else M.getD i 0:Nat)):Int)) (by omega) (by exact⟨none,rfl⟩) (fun _ _ _ _ _ h=>h) (fun i2 x2 σ' H' hx2 s4 sg C hC=>?_) (fun L zs J4 hL S4 hH hly hys=>?_)
  ·obtain⟨o2,rfl⟩:=sg
   obtain⟨m,hm,rfl⟩:=nat_at hx2
   have em:M.getD i2 0=m:=by rw[List.getD_eq_getElem?_getD,hm];rfl
   rw[em] at hC
   refine⟨_,rfl,_,rfl,(by show 2≤1000;decide),fun l5 J5 S5 f5 e5=>?_⟩
   refine⟨_,rfl,_,rfl,rfl,_,rfl,?_⟩
   rw[dec_int]
   by_cases c2:m=M.getD t.2.1.toNat 0
   ·rw[decide_eq_true c2]
    refine⟨l5,_,_,_,rfl,rfl,SqL.of e5,rfl,hC _ _ _ ⟨_,rfl⟩ S5 ?_⟩
    rw[if_pos c2]
   ·rw[decide_eq_false c2]
    refine⟨l5,_,_,_,rfl,rfl,SqL.of e5,rfl,hC _ _ _ ⟨_,rfl⟩ S5 ?_⟩
    rw[if_neg c2]
  have ez:zs=natV (Frs.join M (M.getD t.1.toNat 0) (M.getD t.2.1.toNat 0)):=by
   have lj:(natV (Frs.join M (M.getD t.1.toNat 0) (M.getD t.2.1.toNat 0))).length=n.toNat:=by unfold natV Frs.join;rw[List.length_map,List.length_map];exact lM
   refine List.ext_getElem (by omega) fun j h1 h2=>?_
   have:=hys j _ (List.getElem?_eq_getElem h1)
   rw[this]
   have hj:j < M.length:=by omega
   have e:=nat_atI (M:=Frs.join M (M.getD t.1.toNat 0) (M.getD t.2.1.toNat 0)) (i:=(j:Int)) (Int.natCast_nonneg _) (by unfold Frs.join;rw[List.length_map];simpa using hj)
   rw[Int.toNat_natCast,Frs.join_at hj] at e
   have e2:(natV (Frs.join M (M.getD t.1.toNat 0) (M.getD t.2.1.toNat 0)))[j]?=some (natV (Frs.join M (M.getD t.1.toNat 0) (M.getD t.2.1.toNat 0)))[j]:=List.getElem?_eq_getElem h2
   have e3:=atI_toNat (i:=(j:Int)) (Int.natCast_nonneg _) (by rw[Int.toNat_natCast];exact e2)
   rw[e] at e3
   exact (Option.some.inj e3)
  rw[ez] at hH
  refine⟨L,_,_,_,_,_,_,_,rfl,sm.trans S4,hH,?_⟩
  rw[mE]
  by_cases c:M.getD t.1.toNat 0=M.getD t.2.1.toNat 0
  ·rw[← c,join_same];exact mk.same ha hb c
  ·exact mk.join ha hb c
 ·obtain⟨lm,M,y4,y5,y6,y7,y8,y9,rfl,sm,hM,mk⟩:=h
  rw[natV_length,List.take_length] at mk
  have lM:=mk.1
  refine⟨_,rfl,lm,keepI M,rfl,by rw[hM,natV_keep],by unfold keepI;rw[List.length_map];omega,fun sp J3 S3 f3 e3=>?_⟩
  refine⟨sp,_,_,rfl,e3,?_⟩
  rw[(marks_cnt ok ko mk fun _=>Iff.rfl).set]
  exact q J3 (sm.trans S3)
def spLeaf (K:PySem.W.Frag):Sp:=fun vs H Q _=>∃ (M:Nat) (n:Int) (ts:List Tie) (os:List Nat) (wv v1 ev hv:V) (p op:Addr) (t:Int) (e h:PyData),vs=[wv,.int t,.ref p,.ref op]∧WO K H n ts wv∧1≤t∧t≤99∧H p=some (.tup [v1,ev,hv])∧H op=some (.lst (natV os))∧(∀ k ∈ os,k < ts.length)∧Is K H e ev∧Is K H h hv∧TD M h∧∀ H',Same H H'->Q (.bl (farD n ts t os e h)) H'
theorem max_abs (x y:Int):(if y - x > x - y then y - x else x - y)=absI (x - y):=by
 unfold absI
 split <;> split <;> omega
theorem ok__law_leaf (T:Bi mg) (D:DefOk K mg "_law_leaf" s__law_leaf ["web","t","tree","left"]) (O__law_is_number:Ok P w K mg base 1 "_law_is_number" ["thing"] (spD1 K (fun _=>True) wholeB)) (O__law_rest:Ok P w K mg base 1 "_law_rest" ["web","left"] (spRest K)) (O__law_holds:Ok P w K mg base 1 "_law_holds" ["web","keep","heights"] (spHoldL K)):Ok P w K mg base 2 "_law_leaf" ["web","t","tree","left"] (spLeaf K):=by
 refine mk_ok (k:=1) D sc__law_leaf (fun vs H Q E h=>?_) (fun f cdv A outer s H vs Q E hr h=>?_)
 ·obtain⟨M,n,ts,os,wv,v1,ev,hv,p,op,t,e,d,rfl,_⟩:=h
  rfl
 obtain⟨M,n,ts,os,wv,v1,ev,hv,p,op,t,e,d,rfl,⟨isw,ok⟩,t1,t99,hp,hop,oo,he,hd,td,q⟩:=h
 have nd:=sc__law_leaf.nd
 have n1:=ok.n1
 refine⟨_,(pss_cons (ps_asg (pe_slice sl_tupA (pv 2) (po_some pe_int) po_none) (pg_tup (n:=2) rfl (pgs_cons (pg_name (i:=4) nd rfl (Or.inl rfl)) (pgs_cons (pg_name (i:=5) nd rfl (Or.inl rfl)) pgs_nil)))) (pss_cons (ps_if (PW.pt (pw_or (pt_not (pt_val (pe_callD O__law_is_number hr rfl (pa_cons (pv 4) pa_nil)))) (pw_or (pt_cmpR op_notIn_seq (pv 4) (pv 3) (by with_unfolding_all rfl)) (pw_or1 (pt_not (pt_val (pe_callB (call_isi (n:="tuple")) rfl T.z_isinstance (by decide +kernel) (pa_cons (pv 5) (pa_cons (pe_bltn (v:=.ty "tuple") rfl T.z_tuple (by decide +kernel) rfl) pa_nil))))))))) (pss_one (ps_ret pe_bl)) pss_nil) (pss_cons (ps_if (pt_not (pt_val (pe_callB (call_all rfl) rfl T.z_all (by decide +kernel) (pa_cons (pe_comp (N:=["web","t","tree","left","tie","heights","a","b","length"]) (sc0:=defScope s__law_leaf) (own:=["height"]) (fr:=[]) (js:=[]) rfl (pi_tup (pv 5)) (fun _ _ _ _=>(pg_name (i:=0) (by show List.Nodup [("height":Str)];decide +kernel) rfl (Or.inl rfl))) (fun _ _ _ _=>pts_nil) (fun _ _ _ _=>(pe_callD O__law_is_number hr rfl (pa_cons (pv 0) pa_nil)))) pa_nil)))) (pss_one (ps_ret pe_bl)) pss_nil) (pss_cons (ps_if (pt_not (pt_val (pe_callD O__law_holds hr rfl (pa_cons (pv 0) (pa_cons (pe_callD O__law_rest hr rfl (pa_cons (pv 0) (pa_cons (pv 3) pa_nil))) (pa_cons (pv 5) pa_nil)))))) (pss_one (ps_ret pe_bl)) pss_nil) (pss_cons (ps_asg (pe_ix ix_tup (pe_ix ix_tup (pv 0) pe_int (fun _ _=>rfl)) (pv 4) (fun _ _=>rfl)) (pg_tup (n:=3) rfl (pgs_cons (pg_name (i:=6) nd rfl (Or.inl rfl)) (pgs_cons (pg_name (i:=7) nd rfl (Or.inl rfl)) (pgs_cons (pg_name (i:=8) nd rfl (Or.inl rfl)) pgs_nil))))) (pss_one (ps_ret (pe_cmpR op_gt (pe_callB (call_max2 rfl) rfl T.z_max (by decide +kernel) (pa_cons (pe_op op_sub (pe_ix ix_tup (pv 5) (pv 6) (fun _ _=>rfl)) (pe_ix ix_tup (pv 5) (pv 7) (fun _ _=>rfl))) (pa_cons (pe_op op_sub (pe_ix ix_tup (pv 5) (pv 7) (fun _ _=>rfl)) (pe_ix ix_tup (pv 5) (pv 6) (fun _ _=>rfl))) pa_nil))) (pe_op op_mul (pv 1) (pv 8)) (nomark _))))))))),?_⟩
 refine⟨_,rfl,_,rfl,p,_,rfl,hp,fun p2 H1 S1 e1=>?_⟩
 rw[cut1] at e1
 refine⟨p2,_,rfl,SqT.of e1,rfl,_,_,rfl,_,_,rfl,rfl,?_⟩
 refine⟨_,rfl,e,ev,rfl,Is.same S1 _ he,trivial,fun H2 S2=>⟨_,rfl,?_⟩⟩
 have S12:=S1.trans S2
 have no:∀ {H'},Same H H'->farD n ts t os e d=false->Q (.bl false) H':=fun S z=>by
  have q1:=q _ S
  rw[z] at q1;exact q1
 cases ew:wholeB e with
 | false =>
  refine iteT (iteT (no S12 ?_))
  cases e with
  | int k=>cases ew
  | _=>rfl
 | true =>
 cases e with
 | int k =>
  obtain rfl:ev=.int k:=he
  refine iteF ⟨_,rfl,_,rfl,op,_,rfl,.inl (SqL.of (S12 _ _ hop)),rfl,flat_nat os,_,rfl,?_⟩
  show if (!inV (V.int k) (natV os))=true then _ else _
  have eI:inV (V.int k) (natV os)=(decide (0≤k) && decide (k.toNat ∈ os)):=by
   by_cases k0:0≤k
   ·rw[inV_nat k0,decide_eq_true k0,Bool.true_and]
   ·rw[decide_eq_false k0,Bool.false_and]
    unfold inV natV
    rw[List.any_map]
    refine Bool.eq_false_iff.mpr fun z=>?_
    obtain⟨x,_,hx⟩:=List.any_eq_true.mp z
    have hx':((x:Int) == k)=true:=hx
    have:=eq_of_beq hx'
    omega
  rw[eI]
  cases e2:(decide (0≤k) && decide (k.toNat ∈ os)) with
  | false =>
   refine iteT (iteT (no S12 ?_))
   show (((decide (0≤k) && decide (k < (ts.length:Int))) && decide (k.toNat ∈ os)) && _)=false
   rcases Bool.and_eq_false_iff.mp e2 with z | z <;> simp [z]
  | true =>
   rw[Bool.and_eq_true] at e2
   have k0:=of_decide_eq_true e2.1
   have km:=of_decide_eq_true e2.2
   have kl:=oo _ km
   obtain⟨m,rfl⟩:∃ m:Nat,k=m:=⟨k.toNat,by omega⟩
   rw[Int.toNat_natCast] at km kl
   have eF:farD n ts t os (.int (m:Int)) d=beyD n ts (outs ts.length os) t m d:=by
    show (((decide (0≤(m:Int)) && decide ((m:Int) < (ts.length:Int))) && decide ((m:Int).toNat ∈ os)) && beyD n ts (outs ts.length os) t (m:Int).toNat d)=_
    rw[decide_eq_true (show 0≤(m:Int) by omega),decide_eq_true (show (m:Int) < (ts.length:Int) by omega),Int.toNat_natCast,decide_eq_true km];rfl
   rw[eF] at q
   have no:∀ {H'},Same H H'->beyD n ts (outs ts.length os) t m d=false->Q (.bl false) H':=fun S z=>by
    have q1:=q _ S
    rw[z] at q1;exact q1
   refine iteF ?_
   have ty:=ty_of (Is.same S12 _ hd)
   cases d with
   | tuple ds =>
    refine⟨_,rfl,_,_,_,rfl,ty,rfl,_,rfl,iteF ?_⟩
    obtain⟨ph,xs,rfl,hph,hxs⟩:=Is.same S12 _ hd
    have l100:ds.length≤100:=by
     cases M with
     | zero=>rcases td with ⟨i,z⟩ | ⟨x,z,_⟩ <;> cases z
     | succ M=>exact td.all.1
    have hl:=hxs.length
    refine⟨_,rfl,ph,rfl,⟨_,SqT.of hph⟩,?_⟩
    refine comp_tup hph (fun σ'=>σ'.length=1) (fun i v _=>v=.bl (wholeB (ds.getD i .none))) (by omega) (by rfl) (fun _ _ _ _ _ h=>h) (fun i x σ' H' hx s sg C hC=>?_) (fun L ys H3 hL S3 hH hly hys=>?_)
    ·obtain⟨d',hdi,hdx⟩:=hxs.get' hx
     match σ',sg with
     | [o],_ =>
      refine⟨_,rfl,d',x,rfl,Is.same s d' hdx,trivial,fun H5 s5=>hC _ _ _ rfl s5 ?_⟩
      simp [List.getD,hdi]
    refine⟨L,_,rfl,SqL.of (by rw[hH,bools_of (hly.trans hl) hys]),_,rfl,?_⟩
    have e:((List.range ds.length).map fun i=>wholeB (ds.getD i .none)).all id=wholesB (.tuple ds):=by
     have:((List.range ds.length).map fun i=>wholeB (ds.getD i .none))=ds.map wholeB:=by
      have:=congrArg (List.map wholeB) (L3.range_getD ds .none)
      rw[List.map_map] at this
      exact this
     rw[this,List.all_map]
     rfl
    rw[e]
    have S13:=S12.trans S3
    cases ew2:wholesB (.tuple ds) with
    | false=>exact iteT (no S13 (by show (wholesB (.tuple ds) && _)=false;rw[ew2];rfl))
    | true =>
     have eds:=wholes_map ew2
     have eB:beyD n ts (outs ts.length os) t m (.tuple ds)=beyondI n ts (outs ts.length os) t m (ds.map toI):=by
      show (wholesB (.tuple ds) && _)=_
      rw[ew2,Bool.true_and]
     have hl2:(ds.map toI).length=ds.length:=List.length_map _
     rw[eB] at q no
     generalize ds.map toI=hs at eds hl2 q no
     rw[eds] at hxs
     have iT:IntT H3 ph hs:=⟨by rw[S3 _ _ hph,IsAll.of_ints hxs],by omega⟩
     refine iteF ?_
     refine⟨_,rfl,_,rfl,_,rfl,n,ts,os,wv,op,rfl,⟨Is.same S13 _ isw,ok⟩,S13 _ _ hop,fun l H4 S4 f4 e4=>?_⟩
     have S14:=S13.trans S4
     refine⟨_,rfl,n,ts,_,wv,l,ph,hs,rfl,⟨Is.same S14 _ isw,ok⟩,e4,fun k hk=>(outs_mem.mp hk).1,iT.same S4,_,rfl,?_⟩
     have q4:=q H4 S14
     unfold beyondI at q4
     cases eh:holdB n ts (outs ts.length os) hs with
     | false=>rw[eh] at q4;exact iteT q4
     | true =>
      rw[eh,Bool.true_and] at q4
      refine iteF ?_
      have ln:hs.length=n.toNat:=by
       unfold holdB at eh
       rw[Bool.and_eq_true] at eh
       exact of_decide_eq_true eh.1
      obtain⟨g0,g,ws,rfl,hg0,hg,hall,hlw⟩:=web_parts (Is.same S14 _ isw)
      obtain⟨ta,hta,htie⟩:=tie_val hall kl
      have tk:=ok.tie _ (tieAt_in kl).2
      have hh:=(iT.same S4).1
      have ha:atI (hs.map V.int) (tieAt ts m).1=some (.int (hAt hs (tieAt ts m).1)):=hAt_at (by omega) (by omega)
      have hb:atI (hs.map V.int) (tieAt ts m).2.1=some (.int (hAt hs (tieAt ts m).2.1)):=hAt_at (by omega) (by omega)
      refine⟨_,rfl,g0,_,_,_,rfl,rfl,SqT.of hg0,rfl,_,rfl,g,_,_,_,rfl,rfl,SqT.of hg,atI_toNat (Int.natCast_nonneg _) hta,ta,_,rfl,SqT.of htie,rfl,_,_,rfl,_,_,rfl,_,_,rfl,rfl,?_⟩
      refine⟨_,rfl,_,rfl,ph,_,_,_,rfl,rfl,SqT.of hh,ha,_,rfl,_,rfl,ph,_,_,_,rfl,rfl,SqT.of hh,hb,_,_,rfl,rfl,?_⟩
      refine⟨_,rfl,_,rfl,ph,_,_,_,rfl,rfl,SqT.of hh,hb,_,rfl,_,rfl,ph,_,_,_,rfl,rfl,SqT.of hh,ha,_,_,rfl,rfl,_,_,rfl,?_⟩
      rw[max_abs]
      refine⟨_,rfl,_,rfl,_,_,rfl,rfl,.inl ⟨by omega,by omega⟩,_,_,rfl,rfl,q4⟩
   | int i=>exact⟨_,rfl,_,_,_,rfl,ty,rfl,_,rfl,iteT (no S12 rfl)⟩
   | str x=>exact⟨_,rfl,_,_,_,rfl,ty,rfl,_,rfl,iteT (no S12 rfl)⟩
   | none=>exact absurd td TD.none
   | bool b=>exact absurd td TD.bool
   | list ds=>exact absurd td TD.list
   | dict ds=>exact absurd td TD.dict
 | _=>cases ew
theorem told_len {y:Str} {m:Nat} {ds:List PyData} (h:ds.length≠m):toldB y m (.tuple ds)=false:=by
 match ds with
 | []=>rfl
 | .str x::r =>
  show (decide (r.length + 1=m) && _)=false
  rw[decide_eq_false (show ¬ r.length + 1=m from h)];rfl
 | .int _::r=>rfl
 | .none::r=>rfl
 | .bool _::r=>rfl
 | .tuple _::r=>rfl
 | .list _::r=>rfl
 | .dict _::r=>rfl
theorem told_eqv {y:Str} {d0:PyData} {r:List PyData}:toldB y (r.length + 1) (.tuple (d0::r))=PyData.eqv d0 (.str y):=by
 cases d0 with
 | str x =>
  rw[eqv_str]
  show (decide (r.length + 1=r.length + 1) && decide (x=y))=_
  rw[decide_eq_true rfl];rfl
 | _=>rfl
theorem kept_eqv (d:PyData):PyData.eqv d (.tuple [.str "kept"])=toldB "kept" 1 d:=by
 cases d with
 | tuple ds =>
  match ds with
  | []=>rfl
  | [d0] =>
   rw[show toldB "kept" 1 (.tuple [d0])=PyData.eqv d0 (.str "kept") from told_eqv (r:=[])]
   show (PyData.eqv d0 (.str "kept") && true)=_
   rw[Bool.and_true]
  | d0::d1::r =>
   rw[told_len (by simp)]
   show (PyData.eqv d0 (.str "kept") && false)=_
   rw[Bool.and_false]
 | _=>rfl
def spLsh (K:PySem.W.Frag) (m:Nat):Sp:=fun vs H Q _=>∃ (n:Int) (ts:List Tie) (ks os:List Nat) (wv v:V) (kp op:Addr) (t:Int) (d:PyData),vs=[wv,.int t,v,.ref kp,.ref op]∧WO K H n ts wv∧1≤t∧t≤99∧Is K H d v∧TD m d∧H kp=some (.lst (natV ks))∧(∀ k ∈ ks,k < ts.length)∧ks.Nodup∧H op=some (.lst (natV os))∧(∀ k ∈ os,k < ts.length)∧os.Nodup∧∀ H',Same H H'->Q (ov (shF n ts t (m + 1) d ks os)) H'
theorem nd_len {m:Nat} {ks:List Nat} (h:∀ k ∈ ks,k < m) (nd:ks.Nodup):ks.length≤m:=Peel.len_below m ks nd h
theorem lshown_step {m j:Nat} (T:Bi mg) (D:DefOk K mg "_law_shown" s__law_shown ["web","t","tree","kept","left"]) (O__law_parts:Ok P w K mg base j "_law_parts" ["web","keep"] (spParts K)) (O__law_rest:Ok P w K mg base j "_law_rest" ["web","left"] (spRest K)) (O__law_leaf:Ok P w K mg base j "_law_leaf" ["web","t","tree","left"] (spLeaf K)) (O__law_is_number:Ok P w K mg base j "_law_is_number" ["thing"] (spD1 K (fun _=>True) wholeB)) {sp:Sp} (O__law_shown:Ok P w K mg base j "_law_shown" ["web","t","tree","kept","left"] sp) (hsp:∀ m',m=m' + 1->∀ vs H Q E,spLsh K m' vs H Q E->sp vs H Q E):Ok P w K mg base (j + 1) "_law_shown" ["web","t","tree","kept","left"] (spLsh K m):=by
 refine mk_ok (k:=j) D sc__law_shown (fun vs H Q E h=>?_) (fun f cdv A outer s H vs Q E hr h=>?_)
 ·obtain⟨n,ts,ks,os,wv,v,kp,op,t,d,rfl,_⟩:=h
  rfl
 obtain⟨n,ts,ks,os,wv,v,kp,op,t,d,rfl,wo,t1,t99,hd,td,hkp,ko,kd,hop,oo,od,q⟩:=h
 have nd:=sc__law_shown.nd
 have units:∀ {x:Nat},x≤3->(A.deeper (envOfC "_law_shown" (defScope s__law_shown) s.heap.objs.size f cdv)).units + x < cLine:=fun {x} hu=>by have:=hr.units;omega
 have few60:=wo.2.few
 have lks:=nd_len ko kd
 have los:=nd_len oo od
 have q':∀ {x:Option Int},shB n ts t (shF n ts t m) d ks os=x->∀ {H'},Same H H'->Q (ov x) H':=fun e H' s=>by rw[← e];exact q H' s
 refine⟨_,(pss_cons (ps_if (pt_cmpR op_eqD (pv 2) (pe_tupG (pa_cons pe_str pa_nil)) (nomark _)) (pss_one (ps_ret (pe_op op_sub (pe_op op_add (pe_callB call_len_seq rfl T.z_len (by decide +kernel) (pa_cons (pv 3) pa_nil)) (pe_callD O__law_parts hr rfl (pa_cons (pv 0) (pa_cons (pv 3) pa_nil)))) (pe_callD O__law_parts hr rfl (pa_cons (pv 0) (pa_cons (pe_callD O__law_rest hr rfl (pa_cons (pv 0) (pa_cons (pe_lstG pa_nil) pa_nil))) pa_nil)))))) pss_nil) (pss_cons (ps_if (PW.pt (pw_or (pt_not (pt_val (pe_callB (call_isi (n:="tuple")) rfl T.z_isinstance (by decide +kernel) (pa_cons (pv 2) (pa_cons (pe_bltn (v:=.ty "tuple") rfl T.z_tuple (by decide +kernel) rfl) pa_nil))))) (pw_or (pt_cmpR op_lt (pe_callB call_len_seq rfl T.z_len (by decide +kernel) (pa_cons (pv 2) pa_nil)) pe_int (nomark _)) (pw_or1 (pt_cmpR op_gt (pe_callB call_len_seq rfl T.z_len (by decide +kernel) (pa_cons (pv 2) pa_nil)) pe_int (nomark _)))))) (pss_one (ps_ret pe_non)) pss_nil) (pss_cons (ps_if (pt_cmpR op_eq (pe_callB call_len_seq rfl T.z_len (by decide +kernel) (pa_cons (pv 2) pa_nil)) pe_int (nomark _)) (pss_one (ps_ret (pe_ifExp (PW.pt (pw_and (pt_cmpR op_eqD (pe_ix ix_tup (pv 2) pe_int (fun _ _=>rfl)) pe_str (nomark _)) (pw_and1 (pt_val (pe_callD O__law_leaf hr rfl (pa_cons (pv 0) (pa_cons (pv 1) (pa_cons (pv 2) (pa_cons (pv 4) pa_nil))))))))) (pe_op op_add (pe_callB call_len_seq rfl T.z_len (by decide +kernel) (pa_cons (pe_ix ix_tup (pv 0) pe_int (fun _ _=>rfl)) pa_nil)) pe_int) pe_non))) pss_nil) (pss_cons (ps_set (i:=5) nd rfl (Or.inl rfl) (pe_ix ix_tup (pv 2) pe_int (fun _ _=>rfl))) (pss_cons (ps_if (PW.pt (pw_or (pt_cmpR op_neD (pe_ix ix_tup (pv 2) pe_int (fun _ _=>rfl)) pe_str (nomark _)) (pw_or (pt_not (pt_val (pe_callD O__law_is_number hr rfl (pa_cons (pv 5) pa_nil)))) (pw_or (pt_cmpR op_lt (pv 5) pe_int (nomark _)) (pw_or (pt_cmpR op_ge (pv 5) (pe_callB call_len_seq rfl T.z_len (by decide +kernel) (pa_cons (pe_ix ix_tup (pv 0) pe_int (fun _ _=>rfl)) pa_nil)) (nomark _)) (pw_or (pt_cmpR op_in_seq (pv 5) (pv 3) (by with_unfolding_all rfl)) (pw_or1 (pt_cmpR op_in_seq (pv 5) (pv 4) (by with_unfolding_all rfl))))))))) (pss_one (ps_ret pe_non)) pss_nil) (pss_cons (ps_set (i:=6) nd rfl (Or.inl rfl) (pe_callD O__law_shown hr rfl (pa_cons (pv 0) (pa_cons (pv 1) (pa_cons (pe_ix ix_tup (pv 2) pe_int (fun _ _=>rfl)) (pa_cons (pe_op op_catL (pv 3) (pe_lstG (pa_cons (pv 5) pa_nil))) (pa_cons (pv 4) pa_nil))))))) (pss_cons (ps_set (i:=7) nd rfl (Or.inl rfl) (pe_callD O__law_shown hr rfl (pa_cons (pv 0) (pa_cons (pv 1) (pa_cons (pe_ix ix_tup (pv 2) pe_int (fun _ _=>rfl)) (pa_cons (pv 3) (pa_cons (pe_op op_catL (pv 4) (pe_lstG (pa_cons (pv 5) pa_nil))) pa_nil))))))) (pss_one (ps_ret (pe_ifExp (PW.pt (pw_or (pt_cmpR op_isN (pv 6) pe_non (nomark _)) (pw_or1 (pt_cmpR op_isN (pv 7) pe_non (nomark _))))) pe_non (pe_callB (call_min2 rfl) rfl T.z_min (by decide +kernel) (pa_cons (pv 6) (pa_cons (pv 7) pa_nil))))))))))))),?_⟩
 refine⟨_,rfl,(by show 1≤1000;decide),fun pk H1 S1 f1 e1=>⟨d,.tuple [.str "kept"],Is.same S1 _ hd,⟨pk,_,rfl,e1,_,_,rfl,rfl,rfl⟩,td.lay,by decide +kernel,units (Nat.le_trans (Nat.min_le_right _ _) (by decide)),_,rfl,?_⟩⟩
 rw[kept_eqv]
 cases et:toldB "kept" 1 d with
 | true =>
  refine iteT ?_
  obtain⟨r,rfl,lr⟩:=told_of et
  obtain rfl:r=[]:=List.length_eq_zero_iff.mp lr
  refine⟨_,rfl,kp,_,rfl,.inl (SqL.of (S1 _ _ hkp)),_,rfl,_,rfl,n,ts,ks,wv,kp,false,rfl,wo.same S1,S1 _ _ hkp,ko,by omega,fun H2 S2=>⟨_,_,rfl,rfl,?_⟩⟩
  have S12:=S1.trans S2
  refine⟨_,rfl,_,rfl,(by show 0≤1000;decide),fun l3 H3 S3 f3 e3=>⟨n,ts,[],wv,l3,rfl,wo.same (S12.trans S3),e3,fun l4 H4 S4 f4 e4=>?_⟩⟩
  have S14:=S12.trans (S3.trans S4)
  have lo:=outs_len ts.length []
  refine⟨n,ts,_,wv,l4,false,rfl,wo.same S14,e4,fun k hk=>(outs_mem.mp hk).1,by omega,fun H5 S5=>⟨_,_,rfl,rfl,?_⟩⟩
  rw[natV_length]
  have e:(ks.length:Int) + (pcN n ts ks:Int) - (pcN n ts (outs ts.length []):Int)=keptF ts ks:=by
   unfold keptF
   have eo:outs ts.length []=List.range ts.length:=by
    unfold outs
    rw[List.filter_eq_self]
    intro a _;simp
   rw[eo,rg_len wo.2 ko,rg_len wo.2 (os:=List.range ts.length) fun k hk=>List.mem_range.mp hk]
   omega
  show Q (.int ((ks.length:Int) + (pcN n ts ks:Int) - (pcN n ts (outs ts.length []):Int))) H5
  rw[e]
  exact q' (x:=some (keptF ts ks)) (by unfold shB;exact if_pos rfl) (S14.trans S5)
 | false =>
 refine iteF ?_
 have ty:=ty_of (Is.same S1 _ hd)
 cases d with
 | none=>exact absurd td TD.none
 | bool b=>exact absurd td TD.bool
 | list ds=>exact absurd td TD.list
 | dict ds=>exact absurd td TD.dict
 | int i=>exact⟨_,rfl,_,_,_,rfl,ty,rfl,_,rfl,iteT (iteT (q' rfl S1))⟩
 | str x=>exact⟨_,rfl,_,_,_,rfl,ty,rfl,_,rfl,iteT (iteT (q' rfl S1))⟩
 | tuple ds =>
 obtain⟨p,vs,rfl,hp,hall⟩:=id hd
 have hl:=hall.length
 have hp1:=S1 _ _ hp
 refine⟨_,rfl,_,_,_,rfl,ty,rfl,_,rfl,iteF ⟨_,rfl,p,_,rfl,.inr (SqT.of hp1),_,_,rfl,rfl,_,rfl,?_⟩⟩
 by_cases c3:ds.length < 3
 ·exact iteTe (decide_eq_true (show ((vs.length:Nat):Int) < 3 by omega)) (iteT (q' (sh_none et (told_len (by omega)) (told_len (by omega))) S1))
 refine iteFe (decide_eq_false (show ¬ ((vs.length:Nat):Int) < 3 by omega)) ⟨_,rfl,p,_,rfl,.inr (SqT.of hp1),_,_,rfl,rfl,_,rfl,?_⟩
 by_cases c4:4 < ds.length
 ·exact iteTe (decide_eq_true (show ((vs.length:Nat):Int) > 4 by omega)) (q' (sh_none et (told_len (by omega)) (told_len (by omega))) S1)
 refine iteFe (decide_eq_false (show ¬ ((vs.length:Nat):Int) > 4 by omega)) ?_
 refine⟨_,rfl,p,_,rfl,.inr (SqT.of hp1),rfl,_,rfl,?_⟩
 by_cases c5:ds.length=3
 ·refine iteTe (decide_eq_true (by rw[hl,c5];rfl)) ?_
  match ds,c5 with
  | [d0,e,h],_ =>
   obtain⟨v1,r1,rfl,h1,v2,r2,rfl,h2,v3,r3,rfl,h3,h4⟩:=id hall
   obtain rfl:r3=[]:=h4
   have td0:TD m d0∧TD m h:=by
    cases m with
    | zero=>rcases td with ⟨i,z⟩ | ⟨x,z,_⟩ <;> cases z
    | succ m=>exact⟨(td_at (i:=0) td rfl).up,(td_at (i:=2) td rfl).up⟩
   refine⟨_,rfl,p,_,_,_,rfl,rfl,SqT.of hp1,rfl,d0,.str "far",Is.same S1 _ h1,rfl,td0.1.lay,by decide +kernel,units (Nat.le_trans (Nat.min_le_right _ _) (by decide)),_,rfl,?_⟩
   rw[← told_eqv (r:=[e,h])]
   cases ef:toldB "far" 3 (.tuple [d0,e,h]) with
   | false=>exact iteF (iteF (q' (sh_none et ef (told_len (by simp))) S1))
   | true =>
    obtain⟨r,er,lr⟩:=told_of ef
    cases er
    refine iteT ⟨_,rfl,_,rfl,_,rfl,_,rfl,m,n,ts,os,wv,v1,v2,v3,p,op,t,e,h,rfl,wo.same S1,t1,t99,hp1,S1 _ _ hop,oo,Is.same S1 _ h2,Is.same S1 _ h3,td0.2,fun H2 S2=>⟨_,rfl,?_⟩⟩
    have q2:=q' (x:=if farD n ts t os e h=true then some ((ts.length:Int) + 1) else none) (by unfold shB;exact if_pos rfl) (S1.trans S2)
    cases ed:farD n ts t os e h with
    | false=>rw[ed] at q2;exact iteF q2
    | true =>
     rw[ed] at q2
     obtain⟨g0,g,ws,rfl,hg0,hg,hall',hlw⟩:=web_parts (wo.same (S1.trans S2)).1
     refine iteT ⟨_,rfl,g0,_,_,_,rfl,rfl,SqT.of hg0,rfl,g,_,rfl,.inr (SqT.of hg),_,_,rfl,rfl,?_⟩
     rw[hlw];exact q2
 have c6:ds.length=4:=by omega
 refine iteFe (decide_eq_false (by rw[hl];intro z;injection z with z;omega)) ?_
 match ds,c6 with
 | [d0,e,a,b],_ =>
  obtain⟨v1,r1,rfl,h1,v2,r2,rfl,h2,v3,r3,rfl,h3,v4,r4,rfl,h4,h5⟩:=id hall
  obtain rfl:r4=[]:=h5
  have td0:TD m d0:=by
   cases m with
   | zero=>rcases td with ⟨i,z⟩ | ⟨x,z,_⟩ <;> cases z
   | succ m=>exact (td_at (i:=0) td rfl).up
  refine⟨_,rfl,p,_,_,_,rfl,rfl,SqT.of hp1,rfl,?_⟩
  refine⟨_,rfl,p,_,_,_,rfl,rfl,SqT.of hp1,rfl,d0,.str "tie",Is.same S1 _ h1,rfl,td0.lay,by decide +kernel,units (Nat.le_trans (Nat.min_le_right _ _) (by decide)),_,rfl,?_⟩
  rw[← told_eqv (r:=[e,a,b])]
  cases ef:toldB "tie" 4 (.tuple [d0,e,a,b]) with
  | false=>exact iteT (iteT (q' (sh_none et (told_len (by simp)) ef) S1))
  | true =>
  obtain⟨r,er,lr⟩:=told_of ef
  cases er
  refine iteF ⟨_,rfl,e,v2,rfl,Is.same S1 _ h2,trivial,fun H2 S2=>⟨_,rfl,?_⟩⟩
  have S12:=S1.trans S2
  have no:undD ts.length ks os e=false->Q .non H2:=fun z=>q' (x:=none) (by unfold shB;show (if _ then _ else _)=_;rw[if_pos rfl,if_neg (by rw[z];decide)]) S12
  cases ew:wholeB e with
  | false =>
   refine iteT (iteT (no ?_))
   cases e with
   | int k=>cases ew
   | _=>rfl
  | true =>
  cases e with
  | int k =>
   obtain rfl:v2=.int k:=h2
   have eU:undD ts.length ks os (.int k)=((decide (0≤k) && decide (k < (ts.length:Int))) && (!decide (k.toNat ∈ ks) && !decide (k.toNat ∈ os))):=rfl
   refine iteF ⟨_,rfl,_,_,rfl,rfl,_,rfl,?_⟩
   by_cases k0:0≤k
   case neg=>exact iteTe (decide_eq_true (show k < 0 by omega)) (iteT (no (by rw[eU,decide_eq_false k0];rfl)))
   refine iteFe (decide_eq_false (show ¬ k < 0 by omega)) ?_
   obtain⟨g0,g,ws,rfl,hg0,hg,hall',hlw⟩:=web_parts (wo.same S12).1
   refine⟨_,rfl,_,rfl,g0,_,_,_,rfl,rfl,SqT.of hg0,rfl,g,_,rfl,.inr (SqT.of hg),_,_,rfl,rfl,_,rfl,?_⟩
   by_cases k1:k < (ts.length:Int)
   case neg=>exact iteTe (decide_eq_true (show k ≥ ((ws.length:Nat):Int) by omega)) (iteT (no (by rw[eU,decide_eq_false k1];simp)))
   refine iteFe (decide_eq_false (show ¬ k ≥ ((ws.length:Nat):Int) by omega)) ?_
   obtain⟨i,rfl⟩:∃ i:Nat,k=i:=⟨k.toNat,by omega⟩
   have il:i < ts.length:=by omega
   rw[Int.toNat_natCast,decide_eq_true k0,decide_eq_true k1,Bool.and_self,Bool.true_and] at eU
   refine⟨_,rfl,_,rfl,kp,_,rfl,.inl (SqL.of (S12 _ _ hkp)),rfl,flat_nat ks,_,rfl,?_⟩
   show if inV (V.int (i:Int)) (natV ks)=true then _ else _
   rw[inV_nat (Int.natCast_nonneg _),Int.toNat_natCast]
   by_cases ik:i ∈ ks
   ·exact iteTe (decide_eq_true ik) (iteT (no (by rw[eU,decide_eq_true ik];rfl)))
   refine iteFe (decide_eq_false ik) ⟨_,rfl,_,rfl,op,_,rfl,.inl (SqL.of (S12 _ _ hop)),rfl,flat_nat os,_,rfl,?_⟩
   show if inV (V.int (i:Int)) (natV os)=true then _ else _
   rw[inV_nat (Int.natCast_nonneg _),Int.toNat_natCast]
   by_cases io:i ∈ os
   ·exact iteTe (decide_eq_true io) (no (by rw[eU,decide_eq_true io];simp))
   refine iteFe (decide_eq_false io) ?_
   rw[decide_eq_false ik,decide_eq_false io] at eU
   have hF:shB n ts t (shF n ts t m) (.tuple [.str "tie",.int (i:Int),a,b]) ks os=both (shF n ts t m a (ks++[i]) os) (shF n ts t m b ks (os++[i])):=by
    unfold shB
    show (if _ then _ else _)=_
    rw[if_pos rfl,if_pos (by rw[eU];rfl),show (toI (.int (i:Int))).toNat=i from Int.toNat_natCast i]
   cases m with
   | zero=>rcases td with ⟨i,z⟩ | ⟨x,z,_⟩ <;> cases z
   | succ m =>
   have ta:=td_at (i:=2) td rfl
   have tb:=td_at (i:=3) td rfl
   have hp2:=S12 _ _ hp
   have cat:∀ ms:List Nat,natV ms++[V.int (i:Int)]=natV (ms++[i]):=fun ms=>by unfold natV;rw[List.map_append];rfl
   have inn:∀ {ms:List Nat},(∀ k ∈ ms,k < ts.length)->∀ k ∈ ms++[i],k < ts.length:=fun h k hk=>by
    rcases List.mem_append.mp hk with z | z
    ·exact h k z
    ·rw[List.mem_singleton.mp z];exact il
   have ndn:∀ {ms:List Nat},ms.Nodup->i ∉ ms->(ms++[i]).Nodup:=fun h1 h2=>List.nodup_append.mpr ⟨h1,by simp,fun x hx y hy z=>h2 (by rw[← List.mem_singleton.mp hy,← z];exact hx)⟩
   refine⟨_,rfl,_,rfl,_,rfl,p,_,_,_,rfl,rfl,SqT.of hp2,rfl,_,rfl,_,rfl,(by show 1≤1000;decide),fun l3 H3 S3 f3 e3=>?_⟩
   have S13:=S12.trans S3
   refine⟨kp,l3,_,_,rfl,rfl,S13 _ _ hkp,e3,(by rw[natV_length];show ks.length + 1≤1000;omega),fun l4 H4 S4 f4 e4=>?_⟩
   have S14:=S13.trans S4
   rw[cat] at e4
   refine⟨_,rfl,hsp m rfl _ _ _ _ ⟨n,ts,ks++[i],os,_,v3,l4,op,t,a,rfl,wo.same S14,t1,t99,Is.same S14 _ h3,ta,e4,inn ko,ndn kd ik,S14 _ _ hop,oo,od,fun H5 S5=>?_⟩⟩
   have S15:=S14.trans S5
   refine⟨_,rfl,_,rfl,_,rfl,p,_,_,_,rfl,rfl,SqT.of (S15 _ _ hp),rfl,_,rfl,_,rfl,_,rfl,(by show 1≤1000;decide),fun l6 H6 S6 f6 e6=>?_⟩
   have S16:=S15.trans S6
   refine⟨op,l6,_,_,rfl,rfl,S16 _ _ hop,e6,(by rw[natV_length];show os.length + 1≤1000;omega),fun l7 H7 S7 f7 e7=>?_⟩
   have S17:=S16.trans S7
   rw[cat] at e7
   refine hsp m rfl _ _ _ _ ⟨n,ts,ks,os++[i],_,v4,kp,l7,t,b,rfl,wo.same S17,t1,t99,Is.same S17 _ h4,tb,S17 _ _ hkp,ko,kd,e7,inn oo,ndn od io,fun H8 S8=>?_⟩
   have q8:=q' hF (S17.trans S8)
   refine⟨_,rfl,rfl,_,rfl,?_⟩
   cases g1:shF n ts t (m + 1) a (ks++[i]) os with
   | none =>
    rw[g1] at q8
    exact iteT (iteT q8)
   | some x =>
    refine iteF ⟨_,rfl,rfl,_,rfl,?_⟩
    cases g2:shF n ts t (m + 1) b ks (os++[i]) with
    | none =>
     rw[g1,g2] at q8
     exact iteT q8
    | some y =>
     rw[g1,g2] at q8
     exact iteF ⟨_,rfl,_,rfl,x,y,rfl,q8⟩
  | _=>cases ew
theorem ok__law_shown40 {j:Nat} (T:Bi mg) (D:DefOk K mg "_law_shown" s__law_shown ["web","t","tree","kept","left"]) (O__law_parts:Ok P w K mg base j "_law_parts" ["web","keep"] (spParts K)) (O__law_rest:Ok P w K mg base j "_law_rest" ["web","left"] (spRest K)) (O__law_leaf:Ok P w K mg base j "_law_leaf" ["web","t","tree","left"] (spLeaf K)) (O__law_is_number:Ok P w K mg base j "_law_is_number" ["thing"] (spD1 K (fun _=>True) wholeB)):∀ m:Nat,Ok P w K mg base (j + m + 1) "_law_shown" ["web","t","tree","kept","left"] (spLsh K m)
 | 0=>by
  have O:Ok P w K mg base j "_law_shown" ["web","t","tree","kept","left"] (fun _ _ _ _=>False):=by
   obtain⟨f,fd,F,b,m⟩:=D
   exact⟨f,fd,⟨fun _ _ _ _ h=>h.elim,fun _ _ _ _ _ _ _ _ _ _ _ _ _ h=>h.elim⟩,b,F.kp,m⟩
  exact lshown_step (P:=P) (w:=w) (base:=base) T D O__law_parts O__law_rest O__law_leaf O__law_is_number O fun m' e=>by cases e
 | m + 1=>lshown_step (P:=P) (w:=w) (base:=base) T D (O__law_parts.mono (by omega)) (O__law_rest.mono (by omega)) (O__law_leaf.mono (by omega)) (O__law_is_number.mono (by omega)) (ok__law_shown40 T D O__law_parts O__law_rest O__law_leaf O__law_is_number m) fun m' e vs H Q E z=>by cases e;exact z
theorem ok__law_farsL (T:Bi mg) (D:DefOk K mg "_law_fars" s__law_fars ["web","keep","start"]):Ok P w K mg base 1 "_law_fars" ["web","keep","start"] (spFarsL K):=by
 refine mk_ok (k:=0) D sc__law_fars (fun vs H Q E h=>?_) (fun f cdv A outer s H vs Q E hr h=>?_)
 ·obtain⟨n,ts,ks,wv,kp,r,rfl,_⟩:=h
  rfl
 obtain⟨n,ts,ks,wv,kp,r,rfl,isw,ok,hkp,ko,r0,r1,q⟩:=h
 have nd:=sc__law_fars.nd
 have few60:=ok.few
 have n1:=ok.n1
 have n24:=ok.n24
 obtain⟨g0,g,ws,rfl,hg0,hg,hall,hlw⟩:=web_parts isw
 have P:=arcs_pos ok ko
 have inn:=arcs_in ok ko
 obtain⟨δ,dd⟩:∃ δ:Nat->Option Int,∀ v,Far.Dst (arcs ts ks) r.toNat v (δ v):=⟨fun v=>Classical.choose (Far.dst_exists P r.toNat v),fun v=>Classical.choose_spec (Far.dst_exists P r.toNat v)⟩
 refine⟨_,(pss_cons (ps_set (i:=3) nd rfl (Or.inl rfl) (pe_op op_rep1 (pe_lstG (pa_cons pe_non pa_nil)) (pe_ix ix_tup (pv 0) pe_int (fun _ _=>rfl)))) (pss_cons (ps_asg pe_int (pg_sub (pv 3) (pv 2) set_list)) (pss_cons (ps_for PassesOwn.never rfl (pi_range1 rfl T.z_range (pa_cons (pe_ix ix_tup (pv 0) pe_int (fun _ _=>rfl)) pa_nil)) (pg_name (i:=4) nd rfl (Or.inl rfl)) (pss_one (ps_for PassesOwn.never rfl (pi_list (pv 1)) (pg_name (i:=5) nd rfl (Or.inl rfl)) (pss_cons (ps_asg (pe_ix ix_tup (pe_ix ix_tup (pv 0) pe_int (fun _ _=>rfl)) (pv 5) (fun _ _=>rfl)) (pg_tup (n:=3) rfl (pgs_cons (pg_name (i:=6) nd rfl (Or.inl rfl)) (pgs_cons (pg_name (i:=7) nd rfl (Or.inl rfl)) (pgs_cons (pg_name (i:=8) nd rfl (Or.inl rfl)) pgs_nil))))) (pss_one (ps_for PassesOwn.never rfl (pi_list (pe_lstG (pa_cons (pe_tupG (pa_cons (pv 6) (pa_cons (pv 7) pa_nil))) (pa_cons (pe_tupG (pa_cons (pv 7) (pa_cons (pv 6) pa_nil))) pa_nil)))) (pg_tup (n:=2) rfl (pgs_cons (pg_name (i:=9) nd rfl (Or.inl rfl)) (pgs_cons (pg_name (i:=10) nd rfl (Or.inl rfl)) pgs_nil))) (pss_one (ps_if (pt_cmpR op_notN (pe_ix ix_list (pv 3) (pv 9) (fun _ _=>rfl)) pe_non (nomark _)) (pss_cons (ps_set (i:=11) nd rfl (Or.inl rfl) (pe_op op_add (pe_ix ix_list (pv 3) (pv 9) (fun _ _=>rfl)) (pv 8))) (pss_one (ps_if (PW.pt (pw_or (pt_cmpR op_isN (pe_ix ix_list (pv 3) (pv 10) (fun _ _=>rfl)) pe_non (nomark _)) (pw_or1 (pt_cmpR op_gt (pe_ix ix_list (pv 3) (pv 10) (fun _ _=>rfl)) (pv 11) (nomark _))))) (pss_one (ps_asg (pv 11) (pg_sub (pv 3) (pv 10) set_list))) pss_nil))) pss_nil)))))))) (pss_one (ps_ret (pv 3)))))),?_⟩
 refine⟨(by show 1≤1000;decide),fun t0 J1 S1 f1 e1=>⟨_,rfl,g0,_,_,_,rfl,rfl,SqT.of (S1 _ _ hg0),rfl,t0,n,_,rfl,rfl,e1,by omega,by omega,fun lf J2 S2 f2 e2=>?_⟩⟩
 have S12:=S1.trans S2
 have ff:H lf=none:=S1.free f2
 refine⟨_,rfl,_,rfl,lf,_,r,r.toNat,rfl,rfl,e2,ixN_nat r0 (by rw[List.length_replicate];omega),?_⟩
 have keepF:∀ {J:Hp} {o:HO},Same H J->Same H (upd J lf o):=fun {J o} s b o e=>by rw[upd_ne (ne_of_none e ff)];exact s _ _ e
 have fst:(List.replicate n.toNat V.non).set r.toNat (.int 0)=(((List.replicate n.toNat (none:Option Int)).set r.toNat (some 0)).map ov):=by
  rw[List.map_set,List.map_replicate];rfl
 rw[fst]
 have S0:Far.Snd (arcs ts ks) n.toNat r.toNat ((List.replicate n.toNat none).set r.toNat (some 0)):=Far.Snd.first (by omega)
 refine⟨_,rfl,g0,_,_,_,rfl,rfl,SqT.of (keepF S12 _ _ hg0),rfl,n,rfl,by omega,by omega,?_⟩
 refine for_range (n:=n.toNat) (fun i σ J=>∃ (DD:List (Option Int)) (y4 y5 y6 y7 y8 y9 y10 y11:Option V),σ=[some (.ref g0),some (.ref kp),some (.int r),some (.ref lf),y4,y5,y6,y7,y8,y9,y10,y11]∧Same H J∧J lf=some (.lst (DD.map ov))∧Far.Snd (arcs ts ks) n.toNat r.toNat DD∧Far.Done n.toNat δ DD i)
  ⟨_,none,none,none,none,none,none,none,none,rfl,keepF S12,upd_same,S0,Far.start_done P (by omega) dd S0⟩ (fun i σ J hi h=>?_) (fun σ J h=>?_)
 ·obtain⟨D0,y4,y5,y6,y7,y8,y9,y10,y11,rfl,sm,hf,sd,dn⟩:=h
  refine⟨_,rfl,kp,rfl,⟨_,SqL.of (sm _ _ hkp)⟩,?_⟩
  refine for_list (xs:=(keepI ks).map V.int) (fun i' σ J=>∃ (DD:List (Option Int)) (y4 y5 y6 y7 y8 y9 y10 y11:Option V),σ=[some (.ref g0),some (.ref kp),some (.int r),some (.ref lf),y4,y5,y6,y7,y8,y9,y10,y11]∧Same H J∧J lf=some (.lst (DD.map ov))∧Far.Rnd (arcs ts ks) n.toNat r.toNat δ D0 (fun z=>z ∈ arcs ts (ks.take i')) DD)
   ⟨D0,_,_,_,_,_,_,_,_,rfl,sm,hf,(Far.Rnd.start sd).less fun a z=>(by cases z)⟩ (fun i' σ J _ h=>?_) (fun i' x σ J hx h=>?_) (fun σ J h=>?_)
  ·obtain⟨DD,y4,y5,y6,y7,y8,y9,y10,y11,rfl,sm,_⟩:=h
   exact SqL.of (sm _ _ hkp)
  ·obtain⟨DD,y4,y5,y6,y7,y8,y9,y10,y11,rfl,sm,hf,rn⟩:=h
   obtain⟨k,hk,rfl⟩:=keep_at hx
   have hkl:k < ts.length:=ko.2 k (List.mem_of_getElem? hk)
   obtain⟨ta,hta,htie⟩:=tie_val hall hkl
   obtain⟨t,et⟩:∃ t,t=tieAt ts k:=⟨_,rfl⟩
   rw[← et] at htie
   have tk:=ok.tie _ (tieAt_in hkl).2
   rw[← et] at tk
   refine⟨_,rfl,g0,_,_,_,rfl,rfl,SqT.of (sm _ _ hg0),rfl,_,rfl,g,_,_,_,rfl,rfl,SqT.of (sm _ _ hg),atI_toNat (Int.natCast_nonneg _) hta,ta,_,rfl,SqT.of (sm _ _ htie),rfl,_,_,rfl,_,_,rfl,_,_,rfl,rfl,?_⟩
   refine⟨_,rfl,_,rfl,(by show 2≤1000;decide),fun t1 K1 T1 u1 v1=>⟨_,rfl,_,rfl,(by show 2≤1000;decide),fun t2 K2 T2 u2 v2=>⟨(by show 2≤1000;decide),fun t3 K3 T3 u3 v3=>⟨t3,rfl,⟨_,SqL.of v3⟩,?_⟩⟩⟩⟩
   have T13:=T1.trans (T2.trans T3)
   have v1':=T3 _ _ (T2 _ _ v1)
   have v2':=T3 _ _ v2
   have n3:t3≠lf:=fun z=>by rw[z,T2 _ _ (T1 _ _ hf)] at u3;cases u3
   refine for_list (xs:=[V.ref t1,.ref t2]) (fun j σ J=>∃ (DD:List (Option Int)) (y9 y10 y11:Option V),σ=[some (.ref g0),some (.ref kp),some (.int r),some (.ref lf),y4,some (.int (k:Int)),some (.int t.1),some (.int t.2.1),some (.int t.2.2),y9,y10,y11]∧Same H J∧J lf=some (.lst (DD.map ov))∧Far.Rnd (arcs ts ks) n.toNat r.toNat δ D0 (fun z=>z ∈ arcs ts (ks.take i')∨z ∈ (arcs2 t).take j) DD∧But lf K3 J)
    ⟨DD,_,_,_,rfl,sm.trans T13,T13 _ _ hf,rn.less fun a z=>z.elim id fun z=>(by cases z),But.refl⟩ (fun j σ J _ h=>?_) (fun j x σ J hx h=>?_) (fun σ J h=>?_)
   ·obtain⟨DD,y9,y10,y11,rfl,_,_,_,b3⟩:=h
    exact SqL.of (b3 _ _ n3 v3)
   ·obtain⟨DD,y9,y10,y11,rfl,sm,hf,rn,b3⟩:=h
    have tkp:TupKeep K3 J:=fun a xs e=>b3 _ _ (fun z=>by rw[z,T13 _ _ ‹_›] at e;cases e) e
    obtain⟨p,u,v,rfl,hp,u0,un,v0,vn,arc,more⟩:∃ p u v,x=.ref p∧J p=some (.tup [.int u,.int v])∧0≤u∧u < n∧0≤v∧v < n∧(u.toNat,v.toNat,t.2.2) ∈ arcs ts ks∧∀ z,z ∈ (arcs2 t).take (j + 1)->z ∈ (arcs2 t).take j∨z=(u.toNat,v.toNat,t.2.2):=by
     have mem:∀ z,z ∈ arcs2 t->z ∈ arcs ts ks:=fun z hz=>arcs_mem.mpr ⟨k,List.mem_of_getElem? hk,by rw[← et];exact hz⟩
     match j,hx with
     | 0,hx=>cases hx;exact⟨t1,t.1,t.2.1,rfl,tkp _ _ v1',by omega,by omega,by omega,by omega,mem _ (arcs2_mem.mpr (.inl rfl)),fun z hz=>by unfold arcs2 at *;simpa using hz⟩
     | 1,hx=>cases hx;exact⟨t2,t.2.1,t.1,rfl,tkp _ _ v2',by omega,by omega,by omega,by omega,mem _ (arcs2_mem.mpr (.inr rfl)),fun z hz=>by unfold arcs2 at *;simpa using hz⟩
    refine⟨p,_,rfl,SqT.of hp,rfl,_,_,rfl,_,_,rfl,rfl,?_⟩
    have lD:=rn.snd.len
    have next:∀ {D':List (Option Int)},Far.Rnd (arcs ts ks) n.toNat r.toNat δ D0 (Far.plus (fun z=>z ∈ arcs ts (ks.take i')∨z ∈ (arcs2 t).take j) (u.toNat,v.toNat,t.2.2)) D'->Far.Rnd (arcs ts ks) n.toNat r.toNat δ D0 (fun z=>z ∈ arcs ts (ks.take i')∨z ∈ (arcs2 t).take (j + 1)) D':=fun h=>h.less fun z hz=>by
     rcases hz with hz | hz
     ·exact .inl (.inl hz)
     ·exact (more z hz).elim (fun y=>.inl (.inr y)) .inr
    have at1:=atI_toNat u0 (ov_at (D:=DD) (i:=u.toNat) (by omega))
    have at2:=atI_toNat v0 (ov_at (D:=DD) (i:=v.toNat) (by omega))
    refine⟨_,rfl,_,rfl,lf,_,_,_,rfl,rfl,SqL.of hf,at1,rfl,_,rfl,?_⟩
    cases gu:Far.get DD u.toNat with
    | none=>exact iteF ⟨DD,_,_,_,rfl,sm,hf,next (rn.no gu),b3⟩
    | some d =>
     rw[gu] at at1
     refine iteT ⟨_,rfl,_,rfl,lf,_,_,_,rfl,rfl,SqL.of hf,at1,_,rfl,_,_,rfl,rfl,?_⟩
     refine⟨_,rfl,_,rfl,lf,_,_,_,rfl,rfl,SqL.of hf,at2,rfl,_,rfl,?_⟩
     have put:∀ (hv:Far.get DD v.toNat=none∨∃ y,Far.get DD v.toNat=some y∧d + t.2.2 < y),Far.Rnd (arcs ts ks) n.toNat r.toNat δ D0 (fun z=>z ∈ arcs ts (ks.take i')∨z ∈ (arcs2 t).take (j + 1)) (DD.set v.toNat (some (d + t.2.2))):=fun hv=>next (rn.put dd arc (by omega) gu hv P)
     have eset:(DD.map ov).set v.toNat (.int (d + t.2.2))=(DD.set v.toNat (some (d + t.2.2))).map ov:=by rw[List.map_set];rfl
     cases gv:Far.get DD v.toNat with
     | none =>
      refine iteT (iteT ?_)
      refine⟨_,rfl,_,rfl,_,rfl,lf,_,_,_,rfl,rfl,hf,ixN_nat v0 (by rw[List.length_map];omega),?_⟩
      exact⟨_,_,_,_,rfl,keepF sm,(by rw[upd_same,eset]),put (.inl gv),b3.trans But.upd⟩
     | some y =>
      rw[gv] at at2
      refine iteF ⟨_,rfl,_,rfl,lf,_,_,_,rfl,rfl,SqL.of hf,at2,_,rfl,_,_,rfl,rfl,_,rfl,ite2 (fun c=>?_) (fun c=>?_)⟩
      ·refine⟨_,rfl,_,rfl,_,rfl,lf,_,_,_,rfl,rfl,hf,ixN_nat v0 (by rw[List.length_map];omega),?_⟩
       exact⟨_,_,_,_,rfl,keepF sm,(by rw[upd_same,eset]),put (.inr ⟨y,gv,of_decide_eq_true c⟩),b3.trans But.upd⟩
      ·have hy:y≤d + t.2.2:=by
        have:=of_decide_eq_false (Bool.eq_false_iff.mpr c);omega
       exact⟨DD,_,_,_,rfl,sm,hf,next (rn.old gu gv hy),b3⟩
   ·obtain⟨DD,y9,y10,y11,rfl,sm,hf,rn,_⟩:=h
    refine⟨DD,_,_,_,_,_,_,_,_,rfl,sm,hf,rn.less fun z hz=>?_⟩
    exact (arcs_take hk hz).elim .inl fun y=>.inr (by rw[← et] at y;exact y)
  ·obtain⟨DD,y4,y5,y6,y7,y8,y9,y10,y11,rfl,sm',hf',rn⟩:=h
   have lk:((keepI ks).map V.int).length=ks.length:=by unfold keepI;rw[List.length_map,List.length_map]
   rw[lk,List.take_length] at rn
   exact⟨DD,_,_,_,_,_,_,_,_,rfl,sm',hf',rn.snd,Far.Done.round dd P inn sd rn (fun a h=>h) dn⟩
 ·obtain⟨DD,y4,y5,y6,y7,y8,y9,y10,y11,rfl,sm,hf,sd,dn⟩:=h
  have all:=dn.all
  exact⟨_,rfl,q lf DD J sm ff hf sd.len fun v hv=>by rw[all v hv];exact dd v⟩
def spTimes:Sp:=fun vs H Q _=>∃ p,vs=[.ref p]∧Pot H p∧∀ t H',1≤t->t≤99->But p H H'->Pot H' p->Q (.int t) H'
theorem brT40 {A T:Hp->Prop} {B:Prop} (main:(∀ J,A J->T J)->B) (tail:∀ J,A J->T J):B:=main tail
def spFlf (K:PySem.W.Frag):Sp:=fun vs H Q _=>∃ (n:Int) (ts:List Tie) (os:List Nat) (wv:V) (op:Addr) (t:Int) (k:Nat),vs=[wv,.int t,.ref op,.int (k:Int)]∧WO K H n ts wv∧1≤t∧t≤99∧H op=some (.lst (natV os))∧k < ts.length∧k ∈ os∧∀ d v H',Same H H'->Is K H' d v->TD 2 d->(∀ ks,∃ x,shF n ts t 1 d ks os=some x)->Q v H'
theorem toI_int (hs:List Int):(hs.map PyData.int).map toI=hs:=by
 rw[List.map_map]
 conv=>rhs;rw[← List.map_id hs]
 rfl
theorem kept_some {n:Int} {ts:List Tie} {t:Int} {ks os:List Nat}:shF n ts t 1 (.tuple [.str "kept"]) ks os=some (keptF ts ks):=by
 show shB n ts t (shF n ts t 0) (.tuple [.str "kept"]) ks os=_
 unfold shB;exact if_pos rfl
theorem td_kept (m:Nat):TD (m + 1) (.tuple [.str "kept"]):=.inr (.inr ⟨_,rfl,by decide,fun x hx=>by rw[List.mem_singleton.mp hx];exact TD.str _ (by decide +kernel)⟩)
theorem ok__law_far_leaf (T:Bi mg) (D:DefOk K mg "_law_far_leaf" s__law_far_leaf ["web","t","left","tie"]) (O__law_rest:Ok P w K mg base 1 "_law_rest" ["web","left"] (spRest K)) (O__law_fars:Ok P w K mg base 1 "_law_fars" ["web","keep","start"] (spFarsL K)):Ok P w K mg base 2 "_law_far_leaf" ["web","t","left","tie"] (spFlf K):=by
 refine mk_ok (k:=1) D sc__law_far_leaf (fun vs H Q E h=>?_) (fun f cdv A outer s H vs Q E hr h=>?_)
 ·obtain⟨n,ts,os,wv,op,t,k,rfl,_⟩:=h
  rfl
 obtain⟨n,ts,os,wv,op,t,k,rfl,⟨isw,ok⟩,t1,t99,hop,hkl,hko,q⟩:=h
 have nd:=sc__law_far_leaf.nd
 have n1:=ok.n1
 have n24:=ok.n24
 obtain⟨g0,g,ws,rfl,hg0,hg,hall,hlw⟩:=web_parts isw
 obtain⟨ta,hta,htie⟩:=tie_val hall hkl
 have tk:=ok.tie _ (tieAt_in hkl).2
 refine⟨_,(pss_cons (ps_asg (pe_ix ix_tup (pe_ix ix_tup (pv 0) pe_int (fun _ _=>rfl)) (pv 3) (fun _ _=>rfl)) (pg_tup (n:=3) rfl (pgs_cons (pg_name (i:=4) nd rfl (Or.inl rfl)) (pgs_cons (pg_name (i:=5) nd rfl (Or.inl rfl)) (pgs_cons (pg_name (i:=6) nd rfl (Or.inl rfl)) pgs_nil))))) (pss_cons (ps_set (i:=7) nd rfl (Or.inr rfl) (pe_op op_add (pe_op op_mul (pv 1) (pv 6)) pe_int)) (pss_cons (ps_setcomp (i:=8) (N:=["web","t","left","tie","a","b","length","roof","heights"]) (sc0:=defScope s__law_far_leaf) (own:=["way"]) (fr:=["roof"]) (js:=[7]) rfl (pi_list (pe_callD O__law_fars hr rfl (pa_cons (pv 0) (pa_cons (pe_callD O__law_rest hr rfl (pa_cons (pv 0) (pa_cons (pv 2) pa_nil))) (pa_cons (pv 4) pa_nil))))) (fun _ _ _ _=>(pg_name (i:=0) (by show List.Nodup [("way":Str),("roof":Str)];decide +kernel) rfl (Or.inl rfl))) (fun _ _ _ _=>pts_nil) (fun _ _ _ _=>(pe_ifExp (pt_cmpR op_isN (pv 0) pe_non (nomark _)) (pv 1) (pe_callB (call_min2 rfl) rfl T.z_min (by decide +kernel) (pa_cons (pv 0) (pa_cons (pv 1) pa_nil))))) nd rfl (Or.inl rfl)) (pss_one (ps_ret (pe_ifExp (pt_cmpR op_eq (pe_ix ix_list (pv 8) (pv 5) (fun _ _=>rfl)) (pv 7) (nomark _)) (pe_tupG (pa_cons pe_str (pa_cons (pv 3) (pa_cons (pe_callTy call_tupleG rfl T.z_tuple (by decide +kernel) (pa_cons (pv 8) pa_nil)) pa_nil)))) (pe_tupG (pa_cons pe_str pa_nil)))))))),?_⟩
 refine⟨_,rfl,g0,_,_,_,rfl,rfl,SqT.of hg0,rfl,_,rfl,g,_,_,_,rfl,rfl,SqT.of hg,atI_toNat (Int.natCast_nonneg _) hta,ta,_,rfl,SqT.of htie,rfl,_,_,rfl,_,_,rfl,_,_,rfl,rfl,?_⟩
 refine⟨_,rfl,_,rfl,_,_,rfl,rfl,.inl ⟨by omega,by omega⟩,_,_,rfl,rfl,?_⟩
 have tl0:0≤t * (tieAt ts k).2.2:=Int.mul_nonneg (by omega) (by omega)
 generalize etl:t * (tieAt ts k).2.2=tl at tl0
 refine⟨_,rfl,_,rfl,_,rfl,n,ts,os,_,op,rfl,⟨isw,ok⟩,hop,fun l1 H1 S1 f1 e1=>?_⟩
 rw[natV_keep] at e1
 refine⟨_,rfl,n,ts,outs ts.length os,_,l1,(tieAt ts k).1,rfl,Is.same S1 _ isw,ok,e1,outs_ok os,by omega,by omega,fun l2 DD H2 S2 f2 e2 lD hD=>?_⟩
 have S12:=S1.trans S2
 refine⟨l2,rfl,⟨_,SqL.of e2⟩,?_⟩
 have lm:(DD.map ov).length=DD.length:=List.length_map _
 refine comp_lst e2 (fun σ'=>∃ o,σ'=[o,some (.int (tl + 1))]) (fun i v _=>v=.int (capO (tl + 1) (Far.get DD i))) (by omega) (by exact⟨none,rfl⟩) (fun _ _ _ _ _ h=>h) (fun i x σ' H' hx s3 sg C hC=>?_) (fun L ys H3 hL S3 hH hly hys=>?_)
 ·obtain⟨o,rfl⟩:=sg
  have hi:i < DD.length:=by have:=(List.getElem?_eq_some_iff.mp hx).1;omega
  rw[ov_at hi] at hx
  cases hx
  refine⟨_,rfl,rfl,_,rfl,?_⟩
  cases e:Far.get DD i with
  | none=>rw[e] at hC;exact iteT ⟨_,rfl,hC _ _ _ ⟨_,rfl⟩ (Same.refl _) rfl⟩
  | some x=>rw[e] at hC;exact iteF ⟨_,rfl,_,rfl,_,_,rfl,hC _ _ _ ⟨_,rfl⟩ (Same.refl _) rfl⟩
 have ey:ys=(DD.map (capO (tl + 1))).map V.int:=by
  refine List.ext_getElem (by rw[List.length_map,List.length_map];omega) fun j h1 h2=>?_
  have:=hys j _ (List.getElem?_eq_getElem h1)
  rw[this,List.getElem_map,List.getElem_map]
  unfold Far.get
  rw[List.getD_eq_getElem?_getD,List.getElem?_eq_getElem (by omega)];rfl
 rw[ey] at hH
 obtain⟨hs,ehs⟩:∃ hs,hs=DD.map (capO (tl + 1)):=⟨_,rfl⟩
 rw[← ehs] at hH
 have lh:hs.length=n.toNat:=by rw[ehs,List.length_map];exact lD
 have hold:holdB n ts (outs ts.length os) hs=true:=by rw[ehs];exact cap_hold ok (outs_ok os) lD hD
 have hA:hAt hs (tieAt ts k).1=0:=by
  have ha:(tieAt ts k).1.toNat < n.toNat:=by omega
  have d:=hD _ ha
  obtain⟨y,e,le⟩:=d.2 _ .nil
  have ge:=(d.1 y e).nonneg (arcs_pos ok (outs_ok os))
  have y0:y=0:=by omega
  subst y0
  unfold hAt
  rw[ehs,List.getD_eq_getElem?_getD,List.getElem?_map,List.getElem?_eq_getElem (by omega)]
  unfold Far.get at e
  rw[List.getD_eq_getElem?_getD,List.getElem?_eq_getElem (by omega)] at e
  have e':DD[(tieAt ts k).1.toNat]=some 0:=e
  show capO (tl + 1) DD[(tieAt ts k).1.toNat]=0
  rw[e']
  show (if tl + 1 < 0 then tl + 1 else 0)=0
  rw[if_neg (by omega)]
 have S13:=S12.trans S3
 refine⟨_,rfl,_,rfl,L,_,_,_,rfl,rfl,SqL.of hH,hAt_at (by omega) (by omega),_,rfl,rfl,_,rfl,?_⟩
 by_cases c:hAt hs (tieAt ts k).2.1=tl + 1
 ·refine iteTe (decide_eq_true (by rw[c])) ?_
  refine⟨_,rfl,_,rfl,L,_,rfl,hH,fun lt H4 S4 f4 e4=>⟨(by show 3≤1000;decide),fun lp H5 S5 f5 e5=>?_⟩⟩
  have is5:Is K H5 (.tuple [.str "far",.int (k:Int),.tuple (hs.map .int)]) (.ref lp):=⟨lp,_,rfl,e5,_,_,rfl,rfl,_,_,rfl,rfl,_,_,rfl,⟨lt,_,rfl,S5 _ _ e4,IsAll.ints _⟩,rfl⟩
  refine q _ _ H5 (S13.trans (S4.trans S5)) is5 (.inr (.inr ⟨_,rfl,(by show 3≤100;decide),fun x hx=>?_⟩)) fun ks=>⟨(ts.length:Int) + 1,?_⟩
  ·simp only [List.mem_cons,List.not_mem_nil,or_false] at hx
   rcases hx with rfl | rfl | rfl
   ·exact TD.str _ (by decide +kernel)
   ·exact TD.int _ _
   ·exact TD.ints 0 (by omega)
  ·show shB n ts t (shF n ts t 0) (.tuple [.str "far",.int (k:Int),.tuple (hs.map .int)]) ks os=_
   unfold shB
   show (if _ then _ else _)=_
   have b:farD n ts t os (.int (k:Int)) (.tuple (hs.map .int))=true:=by
    show (((decide (0≤(k:Int)) && decide ((k:Int) < (ts.length:Int))) && decide ((k:Int).toNat ∈ os)) && (wholesB (.tuple (hs.map .int)) && beyondI n ts (outs ts.length os) t (k:Int).toNat ((hs.map PyData.int).map toI)))=true
    rw[decide_eq_true (show 0≤(k:Int) by omega),decide_eq_true (show (k:Int) < (ts.length:Int) by omega),Int.toNat_natCast,decide_eq_true hko,wholes_ints,toI_int]
    unfold beyondI
    rw[hold]
    show decide (acrossI ts hs k > t * (tieAt ts k).2.2)=true
    refine decide_eq_true ?_
    unfold acrossI absI
    rw[hA,c,etl]
    split <;> omega
   rw[if_pos rfl,if_pos b]
 ·refine iteFe (decide_eq_false fun z=>c (by injection z)) ?_
  refine⟨(by show 1≤1000;decide),fun lp H5 S5 f5 e5=>?_⟩
  exact q (.tuple [.str "kept"]) _ H5 (S13.trans S5) ⟨lp,_,rfl,e5,_,_,rfl,rfl,rfl⟩ (td_kept 1) fun ks=>⟨_,kept_some⟩
theorem ok__law_times40 (T:Bi mg) (D:DefOk K mg "_law_times" s__law_times ["pot"]) (O__law_take:Ok P w K mg base 1 "_law_take" ["pot","many"] spTake):Ok P w K mg base 2 "_law_times" ["pot"] spTimes:=by
 refine mk_ok (k:=1) D sc__law_times (fun vs H Q E h=>?_) (fun f cdv A outer s H vs Q E hr h=>?_)
 ·obtain⟨p,rfl,_⟩:=h
  rfl
 obtain⟨p,rfl,hp,q⟩:=h
 have nd:=sc__law_times.nd
 refine⟨_,(pss_one (ps_ret (pe_ix ix_list (pe_lstG (pa_cons pe_int (pa_cons pe_int (pa_cons pe_int (pa_cons (pe_op op_add pe_int (pe_callD O__law_take hr rfl (pa_cons (pv 0) (pa_cons pe_int pa_nil)))) (pa_cons pe_int pa_nil)))))) (pe_callD O__law_take hr rfl (pa_cons (pv 0) (pa_cons pe_int pa_nil))) (fun _ _=>rfl)))),?_⟩
 refine⟨_,rfl,p,9,rfl,hp,by decide,by decide,fun ra J0 ra0 ra1 b0 p0=>⟨_,_,rfl,rfl,(by show 5≤1000;decide),fun l J1 S1 f1 e1=>?_⟩⟩
 have nl:l≠p:=fun z=>by
  obtain⟨a',b',e',_⟩:=p0
  rw[z,e'] at f1;cases f1
 refine⟨_,rfl,p,5,rfl,p0.same S1,by decide,by decide,fun r J2 r0 r1 b2 p2=>?_⟩
 obtain⟨mm,m1,m99,hat⟩:∃ m:Int,1≤m∧m≤99∧atI [V.int 1,V.int 2,V.int 3,V.int (1 + ra),V.int 99] r=some (.int m):=by
  have:r=0∨r=1∨r=2∨r=3∨r=4:=by omega
  rcases this with rfl | rfl | rfl | rfl | rfl
  ·exact⟨1,by decide,by decide,rfl⟩
  ·exact⟨2,by decide,by decide,rfl⟩
  ·exact⟨3,by decide,by decide,rfl⟩
  ·exact⟨1 + ra,by omega,by omega,rfl⟩
  ·exact⟨99,by decide,by decide,rfl⟩
 exact⟨l,_,_,_,rfl,rfl,SqL.of (b2 _ _ nl e1),hat,q _ J2 m1 m99 (b0.trans ((Same.but S1).trans b2)) p2⟩
theorem td_tie {m k:Nat} {a b:PyData} (ha:TD (m + 1) a) (hb:TD (m + 1) b):TD (m + 2) (.tuple [.str "tie",.int (k:Int),a,b]):=.inr (.inr ⟨_,rfl,(by show 4≤100;decide),fun x hx=>by
 simp only [List.mem_cons,List.not_mem_nil,or_false] at hx
 rcases hx with rfl | rfl | rfl | rfl
 ·exact TD.str _ (by decide +kernel)
 ·exact TD.int _ _
 ·exact ha
 ·exact hb⟩)
theorem sh_tie {n:Int} {ts:List Tie} {t:Int} {m k:Nat} {a b:PyData} {ks os:List Nat} {x y:Int} (kl:k < ts.length) (nk:k ∉ ks) (no:k ∉ os) (ha:shF n ts t m a (ks++[k]) os=some x) (hb:shF n ts t m b ks (os++[k])=some y):∃ z,shF n ts t (m + 1) (.tuple [.str "tie",.int (k:Int),a,b]) ks os=some z:=by
 refine⟨if y < x then y else x,?_⟩
 show shB n ts t (shF n ts t m) (.tuple [.str "tie",.int (k:Int),a,b]) ks os=_
 unfold shB
 show (if _ then _ else _)=_
 have u:undD ts.length ks os (.int (k:Int))=true:=by
  show ((decide (0≤(k:Int)) && decide ((k:Int) < (ts.length:Int))) && (!decide ((k:Int).toNat ∈ ks) && !decide ((k:Int).toNat ∈ os)))=true
  rw[Int.toNat_natCast,decide_eq_true (show 0≤(k:Int) by omega),decide_eq_true (show (k:Int) < (ts.length:Int) by omega),decide_eq_false nk,decide_eq_false no];rfl
 rw[if_pos rfl,if_pos u,show (toI (.int (k:Int))).toNat=k from Int.toNat_natCast k,ha,hb];rfl
def spTre (K:PySem.W.Frag) (m:Nat):Sp:=fun vs H Q _=>∃ (n:Int) (ts:List Tie) (ks os:List Nat) (wv:V) (p kp op:Addr) (t dp:Int) (e:Nat),vs=[.ref p,wv,.int t,.ref kp,.ref op,.int dp]∧dp=(e:Int)∧e≤m∧WO K H n ts wv∧1≤t∧t≤99∧Pot H p∧kp≠p∧op≠p∧H kp=some (.lst (natV ks))∧(∀ k ∈ ks,k < ts.length)∧ks.Nodup∧H op=some (.lst (natV os))∧(∀ k ∈ os,k < ts.length)∧os.Nodup∧∀ d v H',But p H H'->Pot H' p->Is K H' d v->tupD d=true->TD (m + 2) d->(∃ x,shF n ts t (m + 1) d ks os=some x)->Q v H'
theorem WO.but {K:PySem.W.Frag} {H H':Hp} {n:Int} {ts:List Tie} {wv:V} {p:Addr} (h:WO K H n ts wv) (b:But p H H') (hp:Pot H p):WO K H' n ts wv:=by
 obtain⟨xs,e⟩:=hp.lst
 exact⟨Is.but b e _ (tup_web n ts) h.1,h.2⟩
theorem tree_step {m j:Nat} (T:Bi mg) (D:DefOk K mg "_law_tree" s__law_tree ["pot","web","t","kept","left","deep"]) (O__law_take:Ok P w K mg base j "_law_take" ["pot","many"] spTake) (O__law_rest:Ok P w K mg base j "_law_rest" ["web","left"] (spRest K)) (O__law_far_leaf:Ok P w K mg base j "_law_far_leaf" ["web","t","left","tie"] (spFlf K)) {sp:Sp} (O__law_tree:Ok P w K mg base j "_law_tree" ["pot","web","t","kept","left","deep"] sp) (hsp:∀ m',m=m' + 1->∀ vs H Q E,spTre K m' vs H Q E->sp vs H Q E):Ok P w K mg base (j + 1) "_law_tree" ["pot","web","t","kept","left","deep"] (spTre K m):=by
 refine mk_ok (k:=j) D sc__law_tree (fun vs H Q E h=>?_) (fun f cdv A outer s H vs Q E hr h=>?_)
 ·obtain⟨n,ts,ks,os,wv,p,kp,op,t,dp,e,rfl,_⟩:=h
  rfl
 obtain⟨n,ts,ks,os,wv,p,kp,op,t,dp,e,rfl,edp,hem,wo,t1,t99,hp,nkp,nop,hkp,ko,kd,hop,oo,od,q⟩:=h
 have nd:=sc__law_tree.nd
 have units:∀ {x:Nat},x≤3->(A.deeper (envOfC "_law_tree" (defScope s__law_tree) s.heap.objs.size f cdv)).units + x < cLine:=fun {x} hu=>by have:=hr.units;omega
 have few60:=wo.2.few
 have lks:=nd_len ko kd
 have los:=nd_len oo od
 refine⟨_,(pss_cons (ps_setcomp (i:=6) (N:=["pot","web","t","kept","left","deep","some","tie","one"]) (sc0:=defScope s__law_tree) (own:=["number"]) (fr:=["kept"]) (js:=[3]) rfl (pi_list (pe_callD O__law_rest hr rfl (pa_cons (pv 1) (pa_cons (pv 4) pa_nil)))) (fun _ _ _ _=>(pg_name (i:=0) (by show List.Nodup [("number":Str),("kept":Str)];decide +kernel) rfl (Or.inl rfl))) (fun _ _ _ _=>(pts_one (pt_cmpR op_notIn_seqC (pv 0) (pv 1) (by with_unfolding_all rfl)))) (fun _ _ _ _=>(pv 0)) nd rfl (Or.inl rfl)) (pss_cons (ps_if (PW.pt (pw_or (pt_cmpR op_eq (pv 5) pe_int (nomark _)) (pw_or (pt_cmpR op_eqD (pv 6) (pe_lstG pa_nil) (nomark _)) (pw_or1 (pt_cmpR op_eq (pe_callD O__law_take hr rfl (pa_cons (pv 0) (pa_cons pe_int pa_nil))) pe_int (nomark _)))))) (pss_one (ps_ret (pe_ifExp (pt_cmpR op_gt (pe_callB call_len_seq rfl T.z_len (by decide +kernel) (pa_cons (pv 4) pa_nil)) pe_int (nomark _)) (pe_callD O__law_far_leaf hr rfl (pa_cons (pv 1) (pa_cons (pv 2) (pa_cons (pv 4) (pa_cons (pe_ix ix_list (pv 4) (pe_callD O__law_take hr rfl (pa_cons (pv 0) (pa_cons (pe_callB call_len_seq rfl T.z_len (by decide +kernel) (pa_cons (pv 4) pa_nil)) pa_nil))) (fun _ _=>rfl)) pa_nil))))) (pe_tupG (pa_cons pe_str pa_nil))))) pss_nil) (pss_cons (ps_set (i:=7) nd rfl (Or.inl rfl) (pe_ix ix_list (pv 6) (pe_callD O__law_take hr rfl (pa_cons (pv 0) (pa_cons (pe_callB call_len_seq rfl T.z_len (by decide +kernel) (pa_cons (pv 6) pa_nil)) pa_nil))) (fun _ _=>rfl))) (pss_cons (ps_set (i:=8) nd rfl (Or.inl rfl) (pe_callD O__law_tree hr rfl (pa_cons (pv 0) (pa_cons (pv 1) (pa_cons (pv 2) (pa_cons (pe_op op_catL (pv 3) (pe_lstG (pa_cons (pv 7) pa_nil))) (pa_cons (pv 4) (pa_cons (pe_op op_sub (pv 5) pe_int) pa_nil)))))))) (pss_one (ps_ret (pe_tupG (pa_cons pe_str (pa_cons (pv 7) (pa_cons (pv 8) (pa_cons (pe_callD O__law_tree hr rfl (pa_cons (pv 0) (pa_cons (pv 1) (pa_cons (pv 2) (pa_cons (pv 3) (pa_cons (pe_op op_catL (pv 4) (pe_lstG (pa_cons (pv 7) pa_nil))) (pa_cons (pe_op op_sub (pv 5) pe_int) pa_nil))))))) pa_nil))))))))))),?_⟩
 refine⟨_,rfl,_,rfl,n,ts,os,wv,op,rfl,wo,hop,fun l1 H1 S1 f1 e1=>?_⟩
 refine⟨l1,rfl,⟨_,SqL.of e1⟩,?_⟩
 have lo:=outs_len ts.length os
 refine comp_selL e1 (fun σ'=>∃ o,σ'=[o,some (.ref kp)]) (fun i=>if decide ((outs ts.length os).getD i 0 ∉ ks)=true then some (V.int (((outs ts.length os).getD i 0:Nat):Int)) else none) (by rw[natV_length];omega) (by exact⟨none,rfl⟩) (fun i x σ' H' hx s2 sg C L hC hL=>?_) (fun L H2 hL S2 hH=>?_)
 ·obtain⟨o,rfl⟩:=sg
  obtain⟨k,hk,rfl⟩:=nat_at hx
  have ek:(outs ts.length os).getD i 0=k:=by rw[List.getD_eq_getElem?_getD,hk];rfl
  rw[ek] at hC hL
  refine⟨_,rfl,_,rfl,kp,_,rfl,.inl (SqL.of ((S1.trans s2) _ _ hkp)),rfl,flat_nat ks,_,rfl,?_⟩
  show if (!inV (V.int (k:Int)) (natV ks))=true then _ else _
  rw[inV_nat (Int.natCast_nonneg _),Int.toNat_natCast]
  refine iteB2 (fun c=>?_) (fun c=>?_)
  ·refine hL _ _ ⟨_,rfl⟩ (Same.refl _) ?_
   rw[if_neg]
   exact fun z=>of_decide_eq_true z (of_decide_eq_true c)
  ·refine⟨_,rfl,hC _ _ _ ⟨_,rfl⟩ (Same.refl _) ?_⟩
   rw[if_pos (decide_eq_true (of_decide_eq_false c))]
 obtain⟨ss,ess⟩:∃ ss,ss=(outs ts.length os).filter fun k=>decide (k ∉ ks):=⟨_,rfl⟩
 have eL:H2 L=some (.lst (natV ss)):=by
  rw[hH,natV_length,ess]
  have:=congrArg (List.filterMap fun k:Nat=>if decide (k ∉ ks)=true then some (V.int (k:Int)) else none) (L3.range_getD (outs ts.length os) 0)
  rw[List.filterMap_map] at this
  rw[show (List.range (outs ts.length os).length).filterMap (fun i=>if decide ((outs ts.length os).getD i 0 ∉ ks)=true then some (V.int (((outs ts.length os).getD i 0:Nat):Int)) else none)=(outs ts.length os).filterMap (fun k:Nat=>if decide (k ∉ ks)=true then some (V.int (k:Int)) else none) from this,sel_nats]
 have smem:∀ k ∈ ss,k < ts.length∧k ∉ os∧k ∉ ks:=fun k hk=>by
  rw[ess] at hk
  have h1:=List.mem_filter.mp hk
  have h2:=outs_mem.mp h1.1
  exact⟨h2.1,h2.2,of_decide_eq_true h1.2⟩
 have lss:ss.length≤60:=by
  have:ss.length≤(outs ts.length os).length:=by rw[ess];exact List.length_filter_le _ _
  omega
 have S12:=S1.trans S2
 have nLp:L≠p:=fun z=>by
  obtain⟨a',b',e',_⟩:=hp
  rw[z,S1 _ _ e'] at hL;cases hL
 have p2:=hp.same S12
 clear hH
 apply brT40 (A:=fun J=>But p H J∧Pot J p)
 case main =>
  intro tail
  refine⟨_,rfl,rfl,_,rfl,?_⟩
  by_cases m0:e=0
  case neg =>
   refine iteFe (decide_eq_false fun z=>m0 (by injection z with z;omega)) ?_
   refine⟨_,rfl,(by show 0≤1000;decide),fun l3 H3 S3 f3 e3=>⟨.list ((keepI ss).map .int),.list [],⟨L,_,rfl,S3 _ _ eL,by rw[natV_keep];exact IsAll.ints _⟩,⟨l3,_,rfl,e3,rfl⟩,lay_ints _,rfl,units (Nat.le_trans (Nat.min_le_right _ _) (by decide)),_,rfl,?_⟩⟩
   have p3:=p2.same S3
   have b3:But p H H3:=Same.but (S12.trans S3)
   by_cases s0:ss=[]
   case neg =>
    have es:PyData.eqv (.list ((keepI ss).map .int)) (.list [])=false:=by
     cases hss:ss with
     | nil=>exact absurd hss s0
     | cons k r=>rfl
    refine iteFe es ⟨_,rfl,p,7,rfl,p3,by decide,by decide,fun r J r0 r1 bJ pJ=>⟨rfl,_,rfl,?_⟩⟩
    have bJ':=b3.trans bJ
    by_cases cr:r=0
    ·exact iteTe (decide_eq_true (by rw[cr])) (tail J ⟨bJ',pJ⟩)
    refine iteFe (decide_eq_false fun z=>cr (by injection z)) ?_
    have eLJ:J L=some (.lst (natV ss)):=bJ _ _ nLp (S3 _ _ eL)
    have sp0:0 < ss.length:=List.length_pos_iff.mpr s0
    refine⟨_,rfl,_,rfl,_,rfl,L,_,rfl,.inl (SqL.of eLJ),p,_,rfl,pJ,by rw[natV_length];omega,by rw[natV_length];omega,fun r2 J2 r20 r21 b2 p2'=>?_⟩
    rw[natV_length] at r21
    have eL2:=b2 _ _ nLp eLJ
    obtain⟨k,hk⟩:∃ k,ss[r2.toNat]?=some k:=⟨_,List.getElem?_eq_getElem (by omega)⟩
    have km:=smem k (List.mem_of_getElem? hk)
    refine⟨L,_,_,_,rfl,rfl,SqL.of eL2,atI_toNat r20 (by unfold natV;rw[List.getElem?_map,hk];rfl),?_⟩
    have bH2:=bJ'.trans b2
    have wo2:=wo.but bH2 hp
    have kp2:J2 kp=some (.lst (natV ks)):=bH2 _ _ nkp hkp
    have op2:J2 op=some (.lst (natV os)):=bH2 _ _ nop hop
    obtain⟨m',em⟩:∃ m',m=m' + 1:=⟨m - 1,by omega⟩
    have cat:∀ ms:List Nat,natV ms++[V.int (k:Int)]=natV (ms++[k]):=fun ms=>by unfold natV;rw[List.map_append];rfl
    have inn:∀ {ms:List Nat},(∀ k ∈ ms,k < ts.length)->∀ j ∈ ms++[k],j < ts.length:=fun h j hj=>by
     rcases List.mem_append.mp hj with z | z
     ·exact h j z
     ·rw[List.mem_singleton.mp z];exact km.1
    have ndn:∀ {ms:List Nat},ms.Nodup->k ∉ ms->(ms++[k]).Nodup:=fun h1 h2=>List.nodup_append.mpr ⟨h1,by simp,fun x hx y hy z=>h2 (by rw[← List.mem_singleton.mp hy,← z];exact hx)⟩
    have fresh:∀ {J:Hp} {a:Addr},Pot J p->J a=none->a≠p:=fun pt h z=>by
     obtain⟨ys,ee⟩:=pt.lst
     rw[z,ee] at h;cases h
    refine⟨_,rfl,_,rfl,_,rfl,_,rfl,_,rfl,(by show 1≤1000;decide),fun l4 H4 S4 f4 e4=>?_⟩
    refine⟨kp,l4,_,_,rfl,rfl,S4 _ _ kp2,e4,(by rw[natV_length];show ks.length + 1≤1000;omega),fun l5 H5 S5 f5 e5=>?_⟩
    rw[cat] at e5
    have S45:=S4.trans S5
    have p5:=p2'.same S45
    refine⟨_,rfl,_,rfl,_,_,rfl,rfl,hsp m' em _ _ _ _ ⟨n,ts,ks++[k],os,wv,p,l5,op,t,dp - 1,e - 1,rfl,by omega,by omega,wo2.same S45,t1,t99,p5,fresh (p2'.same S4) f5,nop,e5,inn ko,ndn kd km.2.2,S45 _ _ op2,oo,od,fun d1 v1 H6 b6 p6 is6 td6 tD6 sh6=>?_⟩⟩
    obtain⟨x6,sh6⟩:=sh6
    have bH6:=bH2.trans ((Same.but S45).trans b6)
    refine⟨_,rfl,_,rfl,_,rfl,_,rfl,_,rfl,_,rfl,_,rfl,_,rfl,(by show 1≤1000;decide),fun l7 H7 S7 f7 e7=>?_⟩
    refine⟨op,l7,_,_,rfl,rfl,S7 _ _ (bH6 _ _ nop hop),e7,(by rw[natV_length];show os.length + 1≤1000;omega),fun l8 H8 S8 f8 e8=>?_⟩
    rw[cat] at e8
    have S78:=S7.trans S8
    have p8:=p6.same S78
    have wo8:=(wo.but bH6 hp).same S78
    refine⟨_,rfl,_,_,rfl,rfl,hsp m' em _ _ _ _ ⟨n,ts,ks,os++[k],wv,p,kp,l8,t,dp - 1,e - 1,rfl,by omega,by omega,wo8,t1,t99,p8,nkp,fresh (p6.same S7) f8,S78 _ _ (bH6 _ _ nkp hkp),ko,kd,e8,inn oo,ndn od km.2.1,fun d2 v2 H9 b9 p9 is9 td9 tD9 sh9=>?_⟩⟩
    obtain⟨x9,sh9⟩:=sh9
    refine⟨(by show 4≤1000;decide),fun l10 H10 S10 f10 e10=>?_⟩
    obtain⟨xs8,el8⟩:=p8.lst
    have is61:Is K H9 d1 v1:=Is.but b9 el8 _ td6 (Is.same S78 _ is6)
    refine q (.tuple [.str "tie",.int (k:Int),d1,d2]) _ H10 ((bH6.trans ((Same.but S78).trans b9)).trans (Same.but S10)) (p9.same S10) ⟨l10,_,rfl,e10,_,_,rfl,rfl,_,_,rfl,rfl,_,_,rfl,Is.same S10 _ is61,_,_,rfl,Is.same S10 _ is9,rfl⟩ ?_ ?_ ?_
    ·show (true && (true && (tupD d1 && (tupD d2 && true))))=true
     rw[td6,td9];rfl
    ·rw[em];exact td_tie tD6 tD9
    ·rw[em];exact sh_tie km.1 km.2.2 km.2.1 sh6 sh9
   ·exact iteTe (by rw[s0];rfl) (iteT (tail H3 ⟨b3,p3⟩))
  ·exact iteTe (decide_eq_true (by rw[edp,m0];rfl)) (iteT (tail H2 ⟨Same.but S12,p2⟩))
 case tail =>
 rintro J ⟨bJ,pJ⟩
 have woJ:=wo.but bJ hp
 have opJ:=bJ _ _ nop hop
 refine⟨_,rfl,op,_,rfl,.inl (SqL.of opJ),_,_,rfl,rfl,_,rfl,?_⟩
 rw[natV_length]
 by_cases o0:0 < os.length
 ·refine iteTe (decide_eq_true (show ((os.length:Nat):Int) > 0 by omega)) ?_
  refine⟨_,rfl,_,rfl,_,rfl,_,rfl,_,rfl,_,rfl,op,_,rfl,.inl (SqL.of opJ),p,_,rfl,pJ,by rw[natV_length];omega,by rw[natV_length];omega,fun r2 J2 r20 r21 b2 p2'=>?_⟩
  rw[natV_length] at r21
  obtain⟨k,hk⟩:∃ k,os[r2.toNat]?=some k:=⟨_,List.getElem?_eq_getElem (by omega)⟩
  have km:=List.mem_of_getElem? hk
  have op2:=b2 _ _ nop opJ
  refine⟨op,_,_,_,rfl,rfl,SqL.of op2,atI_toNat r20 (by unfold natV;rw[List.getElem?_map,hk];rfl),?_⟩
  refine⟨n,ts,os,wv,op,t,k,rfl,wo.but (bJ.trans b2) hp,t1,t99,op2,oo k km,km,fun d v H4 S4 is4 td4 sh4=>?_⟩
  refine q d v H4 ((bJ.trans b2).trans (Same.but S4)) (p2'.same S4) is4 ?_ (td4.mono (by omega)) ?_
  ·exact td4.tup
  ·obtain⟨x,hx⟩:=sh4 ks
   exact⟨x,sh_more hx (by omega)⟩
 ·refine iteFe (decide_eq_false (show ¬ ((os.length:Nat):Int) > 0 by omega)) ?_
  refine⟨(by show 1≤1000;decide),fun lp H5 S5 f5 e5=>?_⟩
  exact q (.tuple [.str "kept"]) _ H5 (bJ.trans (Same.but S5)) (pJ.same S5) ⟨lp,_,rfl,e5,_,_,rfl,rfl,rfl⟩ rfl ((td_kept 0).mono (by omega)) ⟨_,sh_more kept_some (by omega)⟩
theorem ok__law_tree40 {j:Nat} (T:Bi mg) (D:DefOk K mg "_law_tree" s__law_tree ["pot","web","t","kept","left","deep"]) (O__law_take:Ok P w K mg base j "_law_take" ["pot","many"] spTake) (O__law_rest:Ok P w K mg base j "_law_rest" ["web","left"] (spRest K)) (O__law_far_leaf:Ok P w K mg base j "_law_far_leaf" ["web","t","left","tie"] (spFlf K)):∀ m:Nat,Ok P w K mg base (j + m + 1) "_law_tree" ["pot","web","t","kept","left","deep"] (spTre K m)
 | 0=>by
  have O:Ok P w K mg base j "_law_tree" ["pot","web","t","kept","left","deep"] (fun _ _ _ _=>False):=by
   obtain⟨f,fd,F,b,m⟩:=D
   exact⟨f,fd,⟨fun _ _ _ _ h=>h.elim,fun _ _ _ _ _ _ _ _ _ _ _ _ _ h=>h.elim⟩,b,F.kp,m⟩
  exact tree_step (P:=P) (w:=w) (base:=base) T D O__law_take O__law_rest O__law_far_leaf O fun m' e=>by cases e
 | m + 1=>tree_step (P:=P) (w:=w) (base:=base) T D (O__law_take.mono (by omega)) (O__law_rest.mono (by omega)) (O__law_far_leaf.mono (by omega)) (ok__law_tree40 T D O__law_take O__law_rest O__law_far_leaf m) fun m' e vs H Q E z=>by cases e;exact z
/-- a value worth data of numbers, texts and tuples -/
def TV (K:PySem.W.Frag) (H:Hp) (m:Nat) (v:V):Prop:=∃ d,Is K H d v∧TD m d
section
variable {K:PySem.W.Frag} {H H':Hp} {m m' n:Nat} {v:V} {p:Addr} {xs:List V}
theorem TV.same (h:TV K H m v) (s:Same H H'):TV K H' m v:=let ⟨d,a,b⟩:=h;⟨d,Is.same s _ a,b⟩
theorem TV.but (h:TV K H m v) (b:But p H H') (hp:H p=some (.lst xs)):TV K H' m v:=let ⟨d,a,t⟩:=h;⟨d,Is.but b hp _ t.tup a,t⟩
theorem TV.mono (h:TV K H m v) (le:m≤m'):TV K H m' v:=let ⟨d,a,b⟩:=h;⟨d,a,b.mono le⟩
theorem TV.int (i:Int):TV K H m (.int i):=⟨.int i,rfl,TD.int _ _⟩
theorem TV.str {x:Str} (h:PyData.strOk x=true):TV K H m (.str x):=⟨.str x,rfl,TD.str _ h⟩
theorem tv_all:∀ {xs:List V},(∀ x ∈ xs,TV K H m x)->∃ ds,IsAll K H ds xs∧(∀ d ∈ ds,TD m d)∧ds.length=xs.length
 | [],_=>⟨[],rfl,(fun d h=>by cases h),rfl⟩
 | x::r,h=>by
  obtain⟨d,a,t⟩:=h x List.mem_cons_self
  obtain⟨ds,b,c,l⟩:=tv_all fun y hy=>h y (List.mem_cons_of_mem _ hy)
  exact⟨d::ds,⟨x,r,rfl,a,b⟩,fun e he=>by
   rcases List.mem_cons.mp he with rfl | he
   ·exact t
   ·exact c e he,by rw[List.length_cons,List.length_cons,l]⟩
theorem TV.tup (hp:H p=some (.tup xs)) (l:xs.length≤100) (h:∀ x ∈ xs,TV K H m x):TV K H (m + 1) (.ref p):=by
 obtain⟨ds,a,b,e⟩:=tv_all h
 exact⟨.tuple ds,⟨p,xs,rfl,hp,a⟩,.inr (.inr ⟨ds,rfl,by omega,b⟩)⟩
theorem TV.parts (h:TV K H (m + 1) (.ref p)) (hp:H p=some (.tup xs)):xs.length≤100∧∀ x ∈ xs,TV K H m x:=by
 obtain⟨d,a,t⟩:=h
 rcases t with ⟨i,rfl⟩ | ⟨x,rfl,_⟩ | ⟨ds,rfl,l,al⟩
 ·cases a
 ·cases a
 ·obtain⟨p',vs,e,hv,ia⟩:=a
  cases e
  rw[hp] at hv
  cases hv
  refine⟨by rw[ia.length];exact l,fun x hx=>?_⟩
  obtain⟨i,hi,rfl⟩:=List.getElem_of_mem hx
  obtain⟨d,hd,isd⟩:=ia.get' (List.getElem?_eq_getElem hi)
  exact⟨d,isd,al d (List.mem_of_getElem? hd)⟩
theorem TV.ints {hs:List Int} (hp:H p=some (.tup (hs.map V.int))) (l:hs.length≤100):TV K H (m + 1) (.ref p):=.tup hp (by rw[List.length_map];exact l) fun x hx=>by
 obtain⟨i,_,rfl⟩:=List.mem_map.mp hx
 exact .int i
/-- trees as they are made -/
def Lf (H:Hp) (n:Nat) (p:Addr):Prop:=H p=some (.tup [.str "kept"])∨∃ (k:Int) (q:Addr) (hs:List Int),H p=some (.tup [.str "far",.int k,.ref q])∧H q=some (.tup (hs.map V.int))∧hs.length=n∧2≤n
def GT (H:Hp) (n:Nat):Nat->V->Prop
 | 0,v=>∃ p,v=.ref p∧Lf H n p
 | m + 1,v=>∃ p,v=.ref p∧(Lf H n p∨∃ (k:Int) (a b:V),H p=some (.tup [.str "tie",.int k,a,b])∧GT H n m a∧GT H n m b)
theorem Lf.tk (h:Lf H n p) (s:TupKeep H H'):Lf H' n p:=h.imp (fun e=>s _ _ e) fun ⟨k,q,hs,e,f,l⟩=>⟨k,q,hs,s _ _ e,s _ _ f,l⟩
theorem GT.tk:∀ {m:Nat} {v:V},GT H n m v->TupKeep H H'->GT H' n m v
 | 0,v,⟨p,e,h⟩,s=>⟨p,e,h.tk s⟩
 | m + 1,v,⟨p,e,h⟩,s=>⟨p,e,h.imp (fun h=>h.tk s) fun ⟨k,a,b,e,ha,hb⟩=>⟨k,a,b,s _ _ e,ha.tk s,hb.tk s⟩⟩
theorem same_tk (s:Same H H'):TupKeep H H':=fun a ys e=>s _ _ e
theorem but_tk (b:But p H H') (hp:H p=some (.lst xs)):TupKeep H H':=fun a ys e=>b _ _ (fun z=>by rw[z,hp] at e;cases e) e
end
theorem far_shape {n:Int} {ts:List Tie} {t:Int} {os:List Nat} {e h:PyData} (ok:WebOk n ts) (b:farD n ts t os e h=true):∃ (k:Int) (hs:List Int),e=.int k∧h=.tuple (hs.map .int)∧hs.length=n.toNat∧2≤n.toNat:=by
 cases e with
 | int k =>
  have b':(((decide (0≤k) && decide (k < (ts.length:Int))) && decide (k.toNat ∈ os)) && beyD n ts (outs ts.length os) t k.toNat h)=true:=b
  rw[Bool.and_eq_true,Bool.and_eq_true,Bool.and_eq_true] at b'
  have k0:=of_decide_eq_true b'.1.1.1
  have k1:=of_decide_eq_true b'.1.1.2
  have tk:=ok.tie _ (tieAt_in (ts:=ts) (k:=k.toNat) (by omega)).2
  cases h with
  | tuple hs =>
   have b2:(wholesB (.tuple hs) && beyondI n ts (outs ts.length os) t k.toNat (hs.map toI))=true:=b'.2
   unfold beyondI holdB at b2
   simp only [Bool.and_eq_true] at b2
   exact⟨k,hs.map toI,rfl,by rw[← wholes_map b2.1],of_decide_eq_true b2.2.1.1,by omega⟩
  | _=>cases b'.2
 | _=>cases b
theorem gt_of {K:PySem.W.Frag} {n:Int} {ts:List Tie} {t:Int} {H:Hp} (ok:WebOk n ts):∀ (m:Nat) {d:PyData} {v:V} {ks os:List Nat} {x:Int},shF n ts t (m + 1) d ks os=some x->Is K H d v->GT H n.toNat m v:=by
 have lf:∀ {r:PyData->List Nat->List Nat->Option Int} {d:PyData} {v:V} {ks os:List Nat} {x:Int},shB n ts t r d ks os=some x->Is K H d v->∃ p,v=.ref p∧(Lf H n.toNat p∨∃ (k:Int) (a b:PyData) (va vb:V) (y z:Int),H p=some (.tup [.str "tie",.int k,va,vb])∧Is K H a va∧Is K H b vb∧r a (ks++[k.toNat]) os=some y∧r b ks (os++[k.toNat])=some z):=by
  intro r d v ks os x h isd
  unfold shB at h
  split at h
  ·rename_i w
   by_cases c:w="kept"
   ·subst c
    obtain⟨p,vs,rfl,hp,v1,r1,rfl,h1,h2⟩:=isd
    obtain rfl:v1=.str "kept":=h1
    obtain rfl:r1=[]:=h2
    exact⟨p,rfl,.inl (.inl hp)⟩
   ·rw[if_neg c] at h;cases h
  ·rename_i w e hh
   by_cases c:w="far"
   ·subst c
    rw[if_pos rfl] at h
    by_cases c2:farD n ts t os e hh=true
    ·obtain⟨k,hs,rfl,rfl,l,l2⟩:=far_shape ok c2
     obtain⟨p,vs,rfl,hp,v1,r1,rfl,h1,v2,r2,rfl,h2,v3,r3,rfl,⟨q,ys,rfl,hq,hys⟩,h4⟩:=isd
     obtain rfl:v1=.str "far":=h1
     obtain rfl:v2=.int k:=h2
     obtain rfl:r3=[]:=h4
     exact⟨p,rfl,.inl (.inr ⟨k,q,hs,hp,by rw[hq,IsAll.of_ints hys],l,l2⟩)⟩
    ·rw[if_neg c2] at h;cases h
   ·rw[if_neg c] at h;cases h
  ·rename_i w e a b
   by_cases c:w="tie"
   ·subst c
    rw[if_pos rfl] at h
    by_cases c2:undD ts.length ks os e=true
    ·rw[if_pos c2] at h
     obtain⟨k,rfl,kl,nk,no,ek⟩:=und_of c2
     rw[ek] at h
     obtain⟨p,vs,rfl,hp,v1,r1,rfl,h1,v2,r2,rfl,h2,v3,r3,rfl,h3,v4,r4,rfl,h4,h5⟩:=isd
     obtain rfl:v1=.str "tie":=h1
     obtain rfl:v2=.int (k:Int):=h2
     obtain rfl:r4=[]:=h5
     cases e1:r a (ks++[k]) os with
     | none=>rw[e1] at h;cases h
     | some y =>
      cases e2:r b ks (os++[k]) with
      | none=>rw[e1,e2] at h;cases h
      | some z=>exact⟨p,rfl,.inr ⟨k,a,b,v3,v4,y,z,hp,h3,h4,by rw[Int.toNat_natCast];exact e1,by rw[Int.toNat_natCast];exact e2⟩⟩
    ·rw[if_neg c2] at h;cases h
   ·rw[if_neg c] at h;cases h
  ·cases h
 intro m
 induction m with
 | zero =>
  intro d v ks os x h isd
  obtain⟨p,rfl,z | ⟨k,a,b,va,vb,y,z,hp,ia,ib,e1,e2⟩⟩:=lf h isd
  ·exact⟨p,rfl,z⟩
  ·cases e1
 | succ m ih =>
  intro d v ks os x h isd
  obtain⟨p,rfl,z | ⟨k,a,b,va,vb,y,z,hp,ia,ib,e1,e2⟩⟩:=lf h isd
  ·exact⟨p,rfl,.inl z⟩
  ·exact⟨p,rfl,.inr ⟨k,va,vb,hp,ih e1 ia,ih e2 ib⟩⟩
/-- a road down a tree -/
def Road (H:Hp):V->List Nat->V->Prop
 | v,[],u=>v=u
 | v,r::rs,u=>∃ (p:Addr) (k:Int) (a b:V),v=.ref p∧H p=some (.tup [.str "tie",.int k,a,b])∧(r=2∧Road H a rs u∨r=3∧Road H b rs u)
theorem Road.snoc {H:Hp} {p:Addr} {k:Int} {a b:V} {r:Nat} (e:H p=some (.tup [.str "tie",.int k,a,b])) (hr:r=2∨r=3):∀ {rs:List Nat} {v:V},Road H v rs (.ref p)->Road H v (rs++[r]) (if r=2 then a else b)
 | [],v,h=>by
  have h:v=.ref p:=h
  subst h
  refine⟨p,k,a,b,rfl,e,?_⟩
  rcases hr with rfl | rfl
  ·exact .inl ⟨rfl,rfl⟩
  ·exact .inr ⟨rfl,rfl⟩
 | s::rs,v,h=>by
  obtain⟨p',k',a',b',e1,e2,z⟩:=h
  exact⟨p',k',a',b',e1,e2,z.imp (fun z=>⟨z.1,Road.snoc e hr z.2⟩) fun z=>⟨z.1,Road.snoc e hr z.2⟩⟩
theorem Road.tk {H H':Hp} (s:TupKeep H H'):∀ {rs:List Nat} {v u:V},Road H v rs u->Road H' v rs u
 | [],v,u,h=>h
 | r::rs,v,u,⟨p,k,a,b,e1,e2,z⟩=>⟨p,k,a,b,e1,s _ _ e2,z.imp (fun z=>⟨z.1,z.2.tk s⟩) fun z=>⟨z.1,z.2.tk s⟩⟩
def spRoad (K:PySem.W.Frag):Sp:=fun vs H Q _=>∃ (n m:Nat) (p:Addr) (v:V),vs=[.ref p,v]∧Pot H p∧GT H n m v∧∀ l rs u m' H',But p H H'->Pot H' p->H l=none->l≠p->H' l=some (.lst (natV rs))->rs.length≤6->Road H' v rs u->GT H' n m' u->m'≤m->Q (.ref l) H'
def GF (H:Hp) (n m:Nat) (v:V):Prop:=∃ (p:Addr) (w:Str) (r:List V),v=.ref p∧H p=some (.tup (.str w::r))∧PyData.strOk w=true∧(w="tie"->∃ (m':Nat) (k:Int) (a b:V),m=m' + 1∧r=[.int k,a,b]∧GT H n m' a∧GT H n m' b)∧(w="kept"->r=[])∧(w="far"->∃ (k:Int) (q:Addr) (hs:List Int),r=[.int k,.ref q]∧H q=some (.tup (hs.map V.int))∧hs.length=n∧2≤n)∧(w="kept"∨w="far"∨w="tie")
theorem gf_leaf {H:Hp} {n m:Nat} {p:Addr} (h:Lf H n p):GF H n m (.ref p):=by
 rcases h with h | ⟨k,q,hs,h1,h2,h3⟩
 ·exact⟨p,"kept",[],rfl,h,by decide +kernel,fun z=>absurd z (by decide),fun _=>rfl,fun z=>absurd z (by decide),.inl rfl⟩
 ·exact⟨p,"far",_,rfl,h1,by decide +kernel,fun z=>absurd z (by decide),fun z=>absurd z (by decide),fun _=>⟨k,q,hs,rfl,h2,h3⟩,.inr (.inl rfl)⟩
theorem gt_first {H:Hp} {n m:Nat} {v:V} (h:GT H n m v):GF H n m v:=by
 cases m with
 | zero=>obtain⟨p,rfl,h⟩:=h;exact gf_leaf h
 | succ m =>
  obtain⟨p,rfl,h | ⟨k,a,b,h1,h2,h3⟩⟩:=h
  ·exact gf_leaf h
  ·exact⟨p,"tie",_,rfl,h1,by decide +kernel,fun _=>⟨m,k,a,b,rfl,rfl,h2,h3⟩,fun z=>absurd z (by decide),fun z=>absurd z (by decide),.inr (.inr rfl)⟩
theorem ok__law_road (T:Bi mg) (D:DefOk K mg "_law_road" s__law_road ["pot","tree"]) (O__law_take:Ok P w K mg base 1 "_law_take" ["pot","many"] spTake):Ok P w K mg base 2 "_law_road" ["pot","tree"] (spRoad K):=by
 refine mk_ok (k:=1) D sc__law_road (fun vs H Q E h=>?_) (fun f cdv A outer s H vs Q E hr h=>?_)
 ·obtain⟨n,m,p,v,rfl,_⟩:=h
  rfl
 obtain⟨n,m,p,v,rfl,hp,gt,q⟩:=h
 have nd:=sc__law_road.nd
 have units:∀ {x:Nat},x≤3->(A.deeper (envOfC "_law_road" (defScope s__law_road) s.heap.objs.size f cdv)).units + x < cLine:=fun {x} hu=>by have:=hr.units;omega
 refine⟨_,(pss_cons (ps_set (i:=2) nd rfl (Or.inl rfl) (pe_lstG pa_nil)) (pss_cons (ps_while PassesOwn.never (PW.pt (pw_and (pt_cmpR op_eqD (pe_ix ix_tup (pv 1) pe_int (fun _ _=>rfl)) pe_str (nomark _)) (pw_and (pt_cmpR op_lt (pe_callB call_len_seq rfl T.z_len (by decide +kernel) (pa_cons (pv 2) pa_nil)) pe_int (nomark _)) (pw_and1 (pt_cmpR op_gt (pe_callD O__law_take hr rfl (pa_cons (pv 0) (pa_cons pe_int pa_nil))) pe_int (nomark _)))))) (pss_cons (ps_expr (pe_bm PySem.F.plainAttrs_list PySem.F.slot_list_append PySem.F.type_list_append mt_appendG (pv 2) (pa_cons (pe_op op_add pe_int (pe_callD O__law_take hr rfl (pa_cons (pv 0) (pa_cons pe_int pa_nil)))) pa_nil))) (pss_one (ps_set (i:=1) nd rfl (Or.inl rfl) (pe_ix ix_tup (pv 1) (pe_ix ix_list (pv 2) (pe_un un_neg pe_int) (fun _ _=>rfl)) (fun _ _=>rfl)))))) (pss_one (ps_ret (pv 2))))),?_⟩
 refine⟨(by show 0≤1000;decide),fun l H0 S0 f0 e0=>?_⟩
 have p0:=hp.same S0
 have nl:l≠p:=fun z=>by
  obtain⟨ys,e⟩:=hp.lst
  rw[z,e] at f0;cases f0
 refine⟨fun k σ J=>∃ (u:V) (rs:List Nat) (m':Nat),σ=[some (.ref p),some u,some (.ref l)]∧k=6 - rs.length∧(∀ b o,b≠p->H b=some o->J b=some o)∧TupKeep H J∧Pot J p∧J l=some (.lst (natV rs))∧rs.length≤6∧Road J v rs u∧GT J n m' u∧m'≤m,⟨_,v,[],m,rfl,rfl,fun b o _ e=>S0 _ _ e,same_tk S0,p0,e0,by decide,rfl,gt.tk (same_tk S0),Nat.le_refl _⟩,?_⟩
 rintro k σ J ⟨u,rs,m',rfl,rfl,bJ,tk,pJ,el,l6,rd,gu,mm⟩
 obtain⟨pu,w,r,rfl,hu,sw,c1,c2,c3,c4⟩:=gt_first gu
 have fin:Q (.ref l) J:=q l rs _ m' J bJ pJ f0 nl el l6 rd gu mm
 refine⟨_,rfl,pu,_,_,_,rfl,rfl,SqT.of hu,atI_toNat (Int.le_refl 0) rfl,.str w,.str "tie",rfl,rfl,sw,by decide +kernel,units (Nat.le_trans (Nat.min_le_right _ _) (by decide)),_,rfl,?_⟩
 rw[eqv_str]
 by_cases ct:w="tie"
 case neg=>exact iteFe (decide_eq_false ct) (iteF ⟨_,rfl,fin⟩)
 refine iteTe (decide_eq_true ct) ⟨_,rfl,l,_,rfl,.inl (SqL.of el),_,_,rfl,rfl,_,rfl,?_⟩
 rw[natV_length]
 by_cases c6:rs.length < 6
 case neg=>exact iteFe (decide_eq_false (show ¬ ((rs.length:Nat):Int) < 6 by omega)) (iteF ⟨_,rfl,fin⟩)
 refine iteTe (decide_eq_true (show ((rs.length:Nat):Int) < 6 by omega)) ⟨_,rfl,p,4,rfl,pJ,by decide,by decide,fun x J2 x0 x1 b2 p2=>⟨_,_,rfl,rfl,_,rfl,?_⟩⟩
 obtain⟨m2,kk,a,b,em,rfl,ga,gb⟩:=c1 ct
 rw[ct] at hu
 obtain⟨ys,ey⟩:=pJ.lst
 have tk2:=but_tk b2 ey
 have b02:∀ b o,b≠p->H b=some o->J2 b=some o:=fun b o z e=>b2 _ _ z (bJ _ _ z e)
 have tk02:TupKeep H J2:=fun a ys e=>tk2 _ _ (tk _ _ e)
 have el2:=b2 _ _ nl el
 have fin2:Q (.ref l) J2:=q l rs _ m' J2 b02 p2 f0 nl el2 l6 (rd.tk tk2) (gu.tk tk2) mm
 by_cases cx:0 < x
 case neg=>exact iteFe (decide_eq_false (show ¬ x > 0 from cx)) ⟨_,rfl,fin2⟩
 refine iteTe (decide_eq_true (show x > 0 from cx)) ?_
 refine⟨fun σ' J'=>∃ k',k' < 6 - rs.length∧∃ (u:V) (rs':List Nat) (m':Nat),σ'=[some (.ref p),some u,some (.ref l)]∧k'=6 - rs'.length∧(∀ b o,b≠p->H b=some o->J' b=some o)∧TupKeep H J'∧Pot J' p∧J' l=some (.lst (natV rs'))∧rs'.length≤6∧Road J' v rs' u∧GT J' n m' u∧m'≤m,fun _ _ h=>h,?_⟩
 refine⟨_,rfl,.inl ⟨rfl,_,SqL.of el2⟩,_,rfl,p,2,rfl,p2,by decide,by decide,fun y J3 y0 y1 b3 p3=>?_⟩
 have el3:=b3 _ _ nl el2
 refine⟨_,_,rfl,rfl,l,_,_,rfl,rfl,el3,(by rw[natV_length];omega),fun J4 b4 e4=>?_⟩
 obtain⟨yk,eyk,yr⟩:∃ yk:Nat,2 + y=(yk:Int)∧(yk=2∨yk=3):=⟨(2 + y).toNat,by omega,by omega⟩
 have e4':J4 l=some (.lst (natV (rs++[yk]))):=by
  rw[e4];show some (HO.lst (natV rs++[V.int (2 + y)]))=_;rw[eyk];unfold natV;rw[List.map_append];rfl
 obtain⟨zs,ez⟩:=p2.lst
 have tk3:=but_tk b3 ez
 have tk4:=but_tk b4 el3
 have tk24:TupKeep J J4:=fun a ys e=>tk4 _ _ (tk3 _ _ (tk2 _ _ e))
 have p4:Pot J4 p:=by
  obtain⟨a',b',e',z'⟩:=p3
  exact⟨a',b',b4 _ _ (fun z=>nl z.symm) e',z'⟩
 have hu4:=tk24 _ _ hu
 have at9:atI (natV (rs++[yk])) (-1)=some (.int (yk:Int)):=by
  unfold atI ixN
  rw[if_neg (by decide),if_pos (by rw[natV_length,List.length_append];show -((rs.length + 1:Nat):Int)≤-1;omega),Option.bind_some,natV_length,List.length_append]
  have e:(-1 + ((rs.length + [yk].length:Nat):Int)).toNat=rs.length:=by show (-1 + ((rs.length + 1:Nat):Int)).toNat=_;omega
  rw[e]
  unfold natV
  rw[List.getElem?_map,List.getElem?_append_right (Nat.le_refl _),Nat.sub_self];rfl
 refine⟨_,rfl,_,rfl,_,rfl,l,_,_,_,rfl,rfl,SqL.of e4',at9,pu,_,_,(if yk=2 then a else b),rfl,rfl,SqT.of hu4,?_,?_⟩
 ·rcases yr with rfl | rfl <;> rfl
 refine⟨6 - (rs++[yk]).length,by rw[List.length_append];show 6 - (rs.length + 1) < _;omega,_,rs++[yk],m2,rfl,rfl,fun b o z e=>b4 _ _ (ne_of_none e f0) (b3 _ _ z (b02 _ _ z e)),fun a ys e=>tk24 _ _ (tk _ _ e),p4,e4',by rw[List.length_append];show rs.length + 1≤6;omega,Road.snoc hu4 yr (rd.tk tk24),?_,by omega⟩
 rcases yr with rfl | rfl
 ·exact ga.tk tk24
 ·exact gb.tk tk24
def spAt (K:PySem.W.Frag):Sp:=fun vs H Q _=>∃ (v u:V) (l:Addr) (rs:List Nat),vs=[v,.ref l]∧H l=some (.lst (natV rs))∧Road H v rs u∧Q u H
theorem road_drop {H:Hp} {r:Nat} {rs:List Nat} {v u:V} (h:Road H v (r::rs) u):∃ (p:Addr) (k:Int) (a b x:V),v=.ref p∧H p=some (.tup [.str "tie",.int k,a,b])∧(r=2∧x=a∨r=3∧x=b)∧atI [V.str "tie",.int k,a,b] (r:Int)=some x∧Road H x rs u:=by
 obtain⟨p,k,a,b,e1,e2,⟨rfl,z⟩ | ⟨rfl,z⟩⟩:=h
 ·exact⟨p,k,a,b,a,e1,e2,.inl ⟨rfl,rfl⟩,rfl,z⟩
 ·exact⟨p,k,a,b,b,e1,e2,.inr ⟨rfl,rfl⟩,rfl,z⟩
theorem ok__law_at (T:Bi mg) (D:DefOk K mg "_law_at" s__law_at ["tree","road"]):Ok P w K mg base 1 "_law_at" ["tree","road"] (spAt K):=by
 refine mk_ok (k:=0) D sc__law_at (fun vs H Q E h=>?_) (fun f cdv A outer s H vs Q E hr h=>?_)
 ·obtain⟨v,u,l,rs,rfl,_⟩:=h
  rfl
 obtain⟨v,u,l,rs,rfl,hl,rd,q⟩:=h
 have nd:=sc__law_at.nd
 refine⟨_,(pss_cons (ps_for PassesOwn.never rfl (pi_list (pv 1)) (pg_name (i:=2) nd rfl (Or.inl rfl)) (pss_one (ps_set (i:=0) nd rfl (Or.inl rfl) (pe_ix ix_tup (pv 0) (pv 2) (fun _ _=>rfl))))) (pss_one (ps_ret (pv 0)))),?_⟩
 refine⟨_,rfl,l,rfl,⟨_,SqL.of hl⟩,?_⟩
 refine for_list (xs:=natV rs) (fun i σ J=>J=H∧∃ (x:V) (y2:Option V),σ=[some x,some (.ref l),y2]∧Road H x (rs.drop i) u) ⟨rfl,v,none,rfl,rd⟩ (fun i σ J _ h=>by rw[h.1];exact SqL.of hl) (fun i x σ J hx h=>?_) (fun σ J h=>?_)
 ·obtain⟨rfl,x0,y2,rfl,rd⟩:=h
  obtain⟨r,hr',rfl⟩:=nat_at hx
  have hi:=List.getElem?_eq_some_iff.mp hr'
  rw[List.drop_eq_getElem_cons hi.1,hi.2] at rd
  obtain⟨p,k,a,b,y,rfl,e2,_,e3,rd'⟩:=road_drop rd
  exact⟨_,rfl,_,rfl,p,_,_,_,rfl,rfl,SqT.of e2,e3,rfl,_,_,rfl,rd'⟩
 ·obtain⟨rfl,x0,y2,rfl,rd⟩:=h
  rw[natV_length,List.drop_length] at rd
  have e:x0=u:=rd
  subst e
  exact⟨_,rfl,q⟩
def spPut (K:PySem.W.Frag) (c:Nat):Sp:=fun vs H Q _=>∃ (v u o:V) (l:Addr) (rs:List Nat) (M:Nat),vs=[v,.ref l,o]∧H l=some (.lst (natV rs))∧rs.length≤c∧Road H v rs u∧TV K H M v∧TV K H M o∧∀ x H',Same H H'->TV K H' (M + c) x->Q x H'
theorem put_step {c j:Nat} (T:Bi mg) (D:DefOk K mg "_law_put" s__law_put ["tree","road","other"]) {sp:Sp} (O__law_put:Ok P w K mg base j "_law_put" ["tree","road","other"] sp) (hsp:∀ c',c=c' + 1->∀ vs H Q E,spPut K c' vs H Q E->sp vs H Q E):Ok P w K mg base (j + 1) "_law_put" ["tree","road","other"] (spPut K c):=by
 refine mk_ok (k:=j) D sc__law_put (fun vs H Q E h=>?_) (fun f cdv A outer s H vs Q E hr h=>?_)
 ·obtain⟨v,u,o,l,rs,M,rfl,_⟩:=h
  rfl
 obtain⟨v,u,o,l,rs,M,rfl,hl,lc,rd,tv,to,q⟩:=h
 have nd:=sc__law_put.nd
 have units:∀ {x:Nat},x≤3->(A.deeper (envOfC "_law_put" (defScope s__law_put) s.heap.objs.size f cdv)).units + x < cLine:=fun {x} hu=>by have:=hr.units;omega
 refine⟨_,(pss_cons (ps_if (pt_cmpR op_eqD (pv 1) (pe_lstG pa_nil) (nomark _)) (pss_one (ps_ret (pv 2))) pss_nil) (pss_cons (ps_set (i:=3) nd rfl (Or.inl rfl) (pe_callTy call_listG rfl T.z_list (by decide +kernel) (pa_cons (pv 0) pa_nil))) (pss_cons (ps_asg (pe_callD O__law_put hr rfl (pa_cons (pe_ix ix_tup (pv 0) (pe_ix ix_list (pv 1) pe_int (fun _ _=>rfl)) (fun _ _=>rfl)) (pa_cons (pe_slice sl_list (pv 1) (po_some pe_int) po_none) (pa_cons (pv 2) pa_nil)))) (pg_sub (pv 3) (pe_ix ix_list (pv 1) pe_int (fun _ _=>rfl)) set_list)) (pss_one (ps_ret (pe_callTy call_tupleG rfl T.z_tuple (by decide +kernel) (pa_cons (pv 3) pa_nil))))))),?_⟩
 refine⟨_,rfl,(by show 0≤1000;decide),fun l1 H1 S1 f1 e1=>⟨.list ((keepI rs).map .int),.list [],⟨l,_,rfl,S1 _ _ hl,by rw[natV_keep];exact IsAll.ints _⟩,⟨l1,_,rfl,e1,rfl⟩,lay_ints _,rfl,units (Nat.le_trans (Nat.min_le_right _ _) (by decide)),_,rfl,?_⟩⟩
 cases rs with
 | nil=>exact iteT ⟨_,rfl,q o H1 S1 ((to.mono (Nat.le_add_right _ _)).same S1)⟩
 | cons r rs =>
  refine iteF ?_
  obtain⟨c',rfl⟩:∃ c',c=c' + 1:=⟨c - 1,by have:rs.length + 1≤c:=lc;omega⟩
  obtain⟨p,k,a,b,y,rfl,e2,ey,e3,rd'⟩:=road_drop rd
  refine⟨_,rfl,p,_,rfl,.inr (S1 _ _ e2),fun l2 H2 S2 f2 e4=>?_⟩
  have S12:=S1.trans S2
  have a0:atI (natV (r::rs)) 0=some (.int (r:Int)):=atI_toNat (Int.le_refl 0) rfl
  refine⟨_,rfl,_,rfl,l,_,_,_,rfl,rfl,SqL.of (S12 _ _ hl),a0,p,_,_,_,rfl,rfl,SqT.of (S12 _ _ e2),e3,?_⟩
  refine⟨_,rfl,_,rfl,l,_,rfl,SqL.of (S12 _ _ hl),fun l3 hl3=>?_⟩
  have S3:Same H2 (upd H2 l3 (.lst (cutV (natV (r::rs)) (some 1) none))):=same_new hl3
  have e5:upd H2 l3 (.lst (cutV (natV (r::rs)) (some 1) none)) l3=some (.lst (natV rs)):=by rw[upd_same,cut_tail];rfl
  generalize upd H2 l3 (.lst (cutV (natV (r::rs)) (some 1) none))=H3 at S3 e5
  have S13:=S12.trans S3
  cases M with
  | zero =>
   obtain⟨d,isd,td⟩:=tv
   rcases td with ⟨i,rfl⟩ | ⟨x,rfl,_⟩ <;> cases isd
  | succ M =>
  obtain⟨l100,parts⟩:=tv.parts e2
  have ty:TV K H M y:=parts y (by rcases ey with ⟨_,rfl⟩ | ⟨_,rfl⟩ <;> simp)
  refine⟨_,rfl,hsp c' rfl _ _ _ _ ⟨y,u,o,l3,rs,M + 1,rfl,e5,by have:rs.length + 1≤c' + 1:=lc;omega,rd'.tk (same_tk S13),(ty.mono (Nat.le_succ _)).same S13,to.same S13,fun x H4 S4 tx=>?_⟩⟩
  have S14:=S13.trans S4
  have a0:atI (natV (r::rs)) 0=some (.int (r:Int)):=atI_toNat (Int.le_refl 0) rfl
  have e24:H4 l2=some (.lst [.str "tie",.int k,a,b]):=S4 _ _ (S3 _ _ e4)
  have ri:ixN [V.str "tie",.int k,a,b].length (r:Int)=some r:=by rcases ey with ⟨rfl,_⟩ | ⟨rfl,_⟩ <;> rfl
  refine⟨_,rfl,_,rfl,l,_,_,_,rfl,rfl,SqL.of (S14 _ _ hl),a0,l2,_,_,r,rfl,rfl,e24,ri,?_⟩
  have fl2:H l2=none:=S1.free f2
  have S5:Same H (upd H4 l2 (.lst ([V.str "tie",.int k,a,b].set r x))):=fun b' o' e=>by
   rw[upd_ne (ne_of_none e fl2)];exact S14 _ _ e
  have tx5:TV K (upd H4 l2 (.lst ([V.str "tie",.int k,a,b].set r x))) (M + 1 + c') x:=tx.but (p:=l2) But.upd e24
  have e6:upd H4 l2 (.lst ([V.str "tie",.int k,a,b].set r x)) l2=some (.lst ([V.str "tie",.int k,a,b].set r x)):=upd_same
  generalize upd H4 l2 (.lst ([V.str "tie",.int k,a,b].set r x))=H5 at S5 tx5 e6
  refine⟨_,rfl,l2,_,rfl,e6,fun t6 H6 S6 f6 e7=>q _ H6 (S5.trans S6) ?_⟩
  have:M + 1 + (c' + 1)=(M + 1 + c') + 1:=by omega
  rw[this]
  refine TV.tup e7 (by rw[List.length_set];show 4≤100;decide) fun z hz=>?_
  rcases List.mem_or_eq_of_mem_set hz with hz | rfl
  ·exact ((parts z hz).mono (by omega)).same (S5.trans S6)
  ·exact tx5.same S6
theorem ok__law_put41 (T:Bi mg) (D:DefOk K mg "_law_put" s__law_put ["tree","road","other"]):∀ c:Nat,Ok P w K mg base (c + 1) "_law_put" ["tree","road","other"] (spPut K c)
 | 0=>by
  have O:Ok P w K mg base 0 "_law_put" ["tree","road","other"] (fun _ _ _ _=>False):=by
   obtain⟨f,fd,F,b,m⟩:=D
   exact⟨f,fd,⟨fun _ _ _ _ h=>h.elim,fun _ _ _ _ _ _ _ _ _ _ _ _ _ h=>h.elim⟩,b,F.kp,m⟩
  exact put_step (P:=P) (w:=w) (base:=base) T D O fun m' e=>by cases e
 | c + 1=>put_step (P:=P) (w:=w) (base:=base) T D (ok__law_put41 T D c) fun m' e vs H Q E z=>by cases e;exact z
def spTof (K:PySem.W.Frag):Sp:=fun vs H Q _=>∃ (n:Int) (ts:List Tie) (wv:V) (p:Addr) (k:Int),vs=[.ref p,wv,.int k]∧WO K H n ts wv∧Pot H p∧∀ x H',But p H H'->Pot H' p->TV K H' 1 x->Q x H'
theorem ok__law_tie_off (T:Bi mg) (D:DefOk K mg "_law_tie_off" s__law_tie_off ["pot","web","tie"]) (O__law_take:Ok P w K mg base 1 "_law_take" ["pot","many"] spTake):Ok P w K mg base 2 "_law_tie_off" ["pot","web","tie"] (spTof K):=by
 refine mk_ok (k:=1) D sc__law_tie_off (fun vs H Q E h=>?_) (fun f cdv A outer s H vs Q E hr h=>?_)
 ·obtain⟨n,ts,wv,p,k,rfl,_⟩:=h
  rfl
 obtain⟨n,ts,wv,p,k,rfl,wo,hp,q⟩:=h
 have nd:=sc__law_tie_off.nd
 obtain⟨g0,g,ws,rfl,hg0,hg,hall,hlw⟩:=web_parts wo.1
 refine⟨_,(pss_one (ps_ret (pe_ix ix_list (pe_lstG (pa_cons (pe_op op_add (pv 2) pe_int) (pa_cons (pe_op op_sub (pv 2) pe_int) (pa_cons pe_int (pa_cons (pe_un un_neg pe_int) (pa_cons (pe_callB call_len_seq rfl T.z_len (by decide +kernel) (pa_cons (pe_ix ix_tup (pv 1) pe_int (fun _ _=>rfl)) pa_nil)) (pa_cons (pe_op op_sub (pe_un un_neg pe_int) (pe_callB call_len_seq rfl T.z_len (by decide +kernel) (pa_cons (pe_ix ix_tup (pv 1) pe_int (fun _ _=>rfl)) pa_nil))) (pa_cons (pe_op op_pow pe_int pe_int) (pa_cons pe_str (pa_cons (pe_tupG (pa_cons (pv 2) pa_nil)) pa_nil)))))))))) (pe_callD O__law_take hr rfl (pa_cons (pv 0) (pa_cons pe_int pa_nil))) (fun _ _=>rfl)))),?_⟩
 refine⟨_,rfl,_,_,rfl,rfl,_,rfl,_,_,rfl,rfl,_,rfl,_,rfl,g0,_,_,_,rfl,rfl,SqT.of hg0,rfl,g,_,rfl,.inr (SqT.of hg),_,rfl,_,rfl,g0,_,_,_,rfl,rfl,SqT.of hg0,rfl,g,_,rfl,.inr (SqT.of hg),_,_,rfl,rfl,_,_,rfl,rfl,⟨by decide,by decide,by decide⟩,_,rfl,(by show 1≤1000;decide),fun l1 H1 S1 f1 e1=>⟨(by show 9≤1000;decide),fun l2 H2 S2 f2 e2=>?_⟩⟩
 have S12:=S1.trans S2
 have p2:=hp.same S12
 have n2:l2≠p:=fun z=>by
  obtain⟨ys,e⟩:=(hp.same S1).lst
  rw[z,e] at f2;cases f2
 refine⟨_,rfl,p,9,rfl,p2,by decide,by decide,fun r J r0 r1 b p3=>?_⟩
 obtain⟨x,hx,hat⟩:=at_list e2 9 rfl r0 r1
 refine⟨l2,_,_,_,rfl,rfl,SqL.of (b _ _ n2 e2),hat,q x J ((Same.but S12).trans b) p3 ?_⟩
 obtain⟨ys,ey⟩:=p2.lst
 refine TV.but ?_ b ey
 simp only [List.mem_cons,List.not_mem_nil,or_false] at hx
 rcases hx with rfl | rfl | rfl | rfl | rfl | rfl | rfl | rfl | rfl
 ·exact .int _
 ·exact .int _
 ·exact .int _
 ·exact .int _
 ·exact .int _
 ·exact .int _
 ·exact .int _
 ·exact .str (by decide +kernel)
 ·exact TV.tup (S2 _ _ e1) (by show 1≤100;decide) fun z hz=>by rw[List.mem_singleton.mp hz];exact .int _
def spHof (K:PySem.W.Frag):Sp:=fun vs H Q _=>∃ (p t:Addr) (hs:List Int),vs=[.ref p,.ref t]∧Pot H p∧H t=some (.tup (hs.map V.int))∧2≤hs.length∧hs.length≤24∧∀ x H',But p H H'->Pot H' p->TV K H' 2 x->Q x H'
theorem tv_cut {K:PySem.W.Frag} {H:Hp} {m:Nat} {xs:List V} {lo hi:Option Int} (h:∀ x ∈ xs,TV K H m x):∀ x ∈ cutV xs lo hi,TV K H m x:=fun x hx=>h x ((cut_part xs lo hi).2 x hx)
theorem tv_ints {K:PySem.W.Frag} {H:Hp} {m:Nat} {hs:List Int}:∀ x ∈ hs.map V.int,TV K H m x:=fun x hx=>by
 obtain⟨i,_,rfl⟩:=List.mem_map.mp hx
 exact .int i
theorem tv_app {K:PySem.W.Frag} {H:Hp} {m:Nat} {xs ys:List V} (h:∀ x ∈ xs,TV K H m x) (k:∀ x ∈ ys,TV K H m x):∀ x ∈ xs++ys,TV K H m x:=fun x hx=>(List.mem_append.mp hx).elim (h x) (k x)
theorem tv_one {K:PySem.W.Frag} {H:Hp} {m:Nat} {y:V} (h:TV K H m y):∀ x ∈ [y],TV K H m x:=fun x hx=>by rw[List.mem_singleton.mp hx];exact h
theorem strOk_rep (n:Nat):PyData.strOk ⟨(List.replicate n ("a":Str).cps).foldl (·++·) #[]⟩=true:=by
 have go:∀ (k:Nat) (acc:Array Nat),acc.all (fun x=>decide (x < 1114112))=true->((List.replicate k ("a":Str).cps).foldl (·++·) acc).all (fun x=>decide (x < 1114112))=true:=fun k=>by
  induction k with
  | zero=>exact fun acc h=>h
  | succ k ih =>
   intro acc h
   rw[List.replicate_succ,List.foldl_cons]
   refine ih _ ?_
   rw[Array.all_append,h,Bool.true_and]
   decide +kernel
 exact go n #[] (by simp)
theorem ok__law_heights_off (T:Bi mg) (D:DefOk K mg "_law_heights_off" s__law_heights_off ["pot","heights"]) (O__law_take:Ok P w K mg base 1 "_law_take" ["pot","many"] spTake):Ok P w K mg base 2 "_law_heights_off" ["pot","heights"] (spHof K):=by
 refine mk_ok (k:=1) D sc__law_heights_off (fun vs H Q E h=>?_) (fun f cdv A outer s H vs Q E hr h=>?_)
 ·obtain⟨p,t,hs,rfl,_⟩:=h
  rfl
 obtain⟨p,t,hs,rfl,hp,ht,l2,l24,q⟩:=h
 have nd:=sc__law_heights_off.nd
 have lm:(hs.map V.int).length=hs.length:=List.length_map _
 have ne:hs≠[]:=fun z=>by rw[z] at l2;exact absurd l2 (by decide)
 have fresh:∀ {J:Hp} {a:Addr},Pot J p->J a=none->a≠p:=fun pt h z=>by
  obtain⟨ys,e⟩:=pt.lst
  rw[z,e] at h;cases h
 have ntp:∀ {J:Hp} {a:Addr} {xs:List V},Pot J p->J a=some (.tup xs)->a≠p:=fun pt h z=>by
  obtain⟨ys,e⟩:=pt.lst
  rw[z,e] at h;cases h
 refine⟨_,(pss_cons (ps_set (i:=2) nd rfl (Or.inl rfl) (pe_callD O__law_take hr rfl (pa_cons (pv 0) (pa_cons pe_int pa_nil)))) (pss_cons (ps_set (i:=3) nd rfl (Or.inr rfl) (pe_callD O__law_take hr rfl (pa_cons (pv 0) (pa_cons (pe_callB call_len_seq rfl T.z_len (by decide +kernel) (pa_cons (pv 1) pa_nil)) pa_nil)))) (pss_cons (ps_if (pt_cmpR op_gt (pv 2) pe_int (nomark _)) (pss_cons (ps_set (i:=4) nd rfl (Or.inl rfl) (pe_ix ix_list (pe_lstG (pa_cons (pe_callB (call_maxTu rfl) rfl T.z_max (by decide +kernel) (pa_cons (pv 1) pa_nil)) (pa_cons (pe_callB (call_minTu rfl) rfl T.z_min (by decide +kernel) (pa_cons (pv 1) pa_nil)) (pa_cons pe_int (pa_cons pe_str (pa_cons (pe_tupG (pa_cons (pe_ix ix_tup (pv 1) (pv 3) (fun _ _=>rfl)) pa_nil)) pa_nil)))))) (pe_op op_sub (pv 2) pe_int) (fun _ _=>rfl))) (pss_one (ps_ret (pe_op op_catA (pe_op op_catA (pe_slice sl_tupA (pv 1) po_none (po_some (pv 3))) (pe_tupG (pa_cons (pv 4) pa_nil))) (pe_slice sl_tupA (pv 1) (po_some (pe_op op_add (pv 3) pe_int)) po_none))))) pss_nil) (pss_cons (ps_if (pt_cmpR op_lt (pv 2) pe_int (nomark _)) (pss_one (ps_ret (pe_op op_catA (pe_op op_catA (pe_slice sl_tupA (pv 1) po_none (po_some (pv 3))) (pe_tupG (pa_cons (pe_op op_add (pe_ix ix_tup (pv 1) (pv 3) (fun _ _=>rfl)) (pe_ix ix_list (pe_lstG (pa_cons pe_int (pa_cons (pe_un un_neg pe_int) pa_nil))) (pv 2) (fun _ _=>rfl))) pa_nil))) (pe_slice sl_tupA (pv 1) (po_some (pe_op op_add (pv 3) pe_int)) po_none)))) pss_nil) (pss_cons (ps_if (pt_cmpR op_eq (pv 2) pe_int (nomark _)) (pss_one (ps_ret (pe_slice sl_tupA (pv 1) po_none (po_some (pe_un un_neg pe_int))))) pss_nil) (pss_cons (ps_if (pt_cmpR op_eq (pv 2) pe_int (nomark _)) (pss_one (ps_ret (pe_op op_catA (pv 1) (pe_tupG (pa_cons pe_int pa_nil))))) pss_nil) (pss_cons (ps_if (pt_cmpR op_eq (pv 2) pe_int (nomark _)) (pss_one (ps_ret (pe_ix ix_list (pe_lstG (pa_cons (pe_callTy call_tupleG rfl T.z_tuple (by decide +kernel) (pa_cons (pe_comp (N:=["pot","heights","way","at","other"]) (sc0:=defScope s__law_heights_off) (own:=["height"]) (fr:=[]) (js:=[]) rfl (pi_tup (pv 1)) (fun _ _ _ _=>(pg_name (i:=0) (by show List.Nodup [("height":Str)];decide +kernel) rfl (Or.inl rfl))) (fun _ _ _ _=>pts_nil) (fun _ _ _ _=>(pe_op op_sub pe_int (pv 0)))) pa_nil)) (pa_cons (pe_op op_mulS pe_str (pe_callB call_len_seq rfl T.z_len (by decide +kernel) (pa_cons (pv 1) pa_nil))) (pa_cons (pe_tupG pa_nil) pa_nil)))) (pe_callD O__law_take hr rfl (pa_cons (pv 0) (pa_cons pe_int pa_nil))) (fun _ _=>rfl)))) pss_nil) (pss_cons (ps_if (pt_cmpR op_eq (pe_callD O__law_take hr rfl (pa_cons (pv 0) (pa_cons pe_int pa_nil))) pe_int (nomark _)) (pss_one (ps_ret (pe_callTy call_tupleG rfl T.z_tuple (by decide +kernel) (pa_cons (pe_comp (N:=["pot","heights","way","at","other"]) (sc0:=defScope s__law_heights_off) (own:=["height"]) (fr:=[]) (js:=[]) rfl (pi_tup (pv 1)) (fun _ _ _ _=>(pg_name (i:=0) (by show List.Nodup [("height":Str)];decide +kernel) rfl (Or.inl rfl))) (fun _ _ _ _=>pts_nil) (fun _ _ _ _=>(pe_op op_add (pv 0) (pe_op op_pow pe_int pe_int)))) pa_nil)))) pss_nil) (pss_one (ps_ret (pe_callTy call_tupleG rfl T.z_tuple (by decide +kernel) (pa_cons (pe_comp (N:=["pot","heights","way","at","other"]) (sc0:=defScope s__law_heights_off) (own:=["place"]) (fr:=["heights","at"]) (js:=[1,3]) rfl (pi_range1 rfl T.z_range (pa_cons (pe_callB call_len_seq rfl T.z_len (by decide +kernel) (pa_cons (pv 1) pa_nil)) pa_nil)) (fun _ _ _ _=>(pg_name (i:=0) (by show List.Nodup [("place":Str),("heights":Str),("at":Str)];decide +kernel) rfl (Or.inl rfl))) (fun _ _ _ _=>pts_nil) (fun _ _ _ _=>(pe_op op_mul (pe_callB (call_maxTu rfl) rfl T.z_max (by decide +kernel) (pa_cons (pv 1) pa_nil)) (pe_callTy call_intB rfl T.z_int (by decide +kernel) (pa_cons (pe_cmpR op_eq (pv 0) (pv 2) (nomark _)) pa_nil))))) pa_nil)))))))))))),?_⟩
 refine⟨_,rfl,p,11,rfl,hp,by decide,by decide,fun way H1 w0 w1 b1 p1=>?_⟩
 have ht1:=b1 _ _ (ntp hp ht) ht
 refine⟨_,rfl,_,rfl,t,_,rfl,.inr (SqT.of ht1),p,_,rfl,p1,by omega,by omega,fun at_ H2 a0 a1 b2 p2=>?_⟩
 have ht2:=b2 _ _ (ntp p1 ht1) ht1
 have b02:=b1.trans b2
 rw[lm] at a1
 have hat:=hAt_at (hs:=hs) a0 (by omega)
 refine⟨_,rfl,_,_,rfl,rfl,_,rfl,?_⟩
 have cl:∀ lo hi,(cutV (hs.map V.int) lo hi).length≤24:=fun lo hi=>by have:=(cut_part (hs.map V.int) lo hi).1;omega
 by_cases c5:way > 5
 ·refine iteTe (decide_eq_true c5) ?_
  refine⟨_,rfl,t,hs,rfl,ht2,ne,fun mx _ _=>⟨_,rfl,t,hs,rfl,ht2,ne,fun mn _ _=>?_⟩⟩
  refine⟨_,rfl,_,rfl,t,_,_,_,rfl,rfl,SqT.of ht2,hat,(by show 1≤1000;decide),fun l3 H3 S3 f3 e3=>⟨(by show 5≤1000;decide),fun l4 H4 S4 f4 e4=>?_⟩⟩
  obtain⟨x,hx,hatx⟩:=at_list e4 5 rfl (show 0≤way - 6 by omega) (show way - 6 < ((5:Nat):Int) by omega)
  refine⟨_,rfl,_,_,rfl,rfl,l4,_,_,_,rfl,rfl,SqL.of e4,hatx,?_⟩
  have S24:=S3.trans S4
  have tx:TV K H4 1 x:=by
   simp only [List.mem_cons,List.not_mem_nil,or_false] at hx
   rcases hx with rfl | rfl | rfl | rfl | rfl
   ·exact .int _
   ·exact .int _
   ·exact .int _
   ·exact .str (by decide +kernel)
   ·exact TV.tup (S4 _ _ e3) (by show 1≤100;decide) (tv_one (.int _))
  refine⟨_,rfl,_,rfl,_,rfl,t,_,rfl,S24 _ _ ht2,fun c1 H5 S5 e5=>?_⟩
  refine⟨_,rfl,(by show 1≤1000;decide),fun t6 H6 S6 f6 e6=>?_⟩
  refine⟨c1,t6,_,_,rfl,rfl,S6 _ _ e5,e6,Nat.le_trans (show _≤1000 by have:=cl none (some at_);show _ + 1≤1000;omega) (by decide),fun t7 H7 S7 e7=>?_⟩
  have S27:=S24.trans (S5.trans (S6.trans S7))
  refine⟨_,rfl,_,rfl,_,_,rfl,rfl,_,rfl,t,_,rfl,S27 _ _ ht2,fun c2 H8 S8 e8=>?_⟩
  refine⟨t7,c2,_,_,rfl,rfl,S8 _ _ e7,e8,Nat.le_trans (show _≤1000 by have h1:=cl none (some at_);have h2:=cl (some (at_ + 1)) none;rw[List.length_append];show _ + 1 + _≤1000;omega) (by decide),fun t9 H9 S9 e9=>?_⟩
  have S49:=S5.trans (S6.trans (S7.trans (S8.trans S9)))
  refine q _ H9 (b02.trans (Same.but (S24.trans S49))) (p2.same (S24.trans S49)) (TV.tup e9 ?_ (tv_app (tv_app (tv_cut tv_ints) (tv_one (tx.same S49))) (tv_cut tv_ints)))
  have h1:=cl none (some at_);have h2:=cl (some (at_ + 1)) none
  rw[List.length_append,List.length_append];show _ + 1 + _≤100;omega
 refine iteFe (decide_eq_false c5) ⟨_,rfl,_,_,rfl,rfl,_,rfl,?_⟩
 by_cases c2:way < 2
 ·refine iteTe (decide_eq_true c2) ?_
  refine⟨_,rfl,_,rfl,_,rfl,t,_,rfl,ht2,fun c1 H5 S5 e5=>?_⟩
  refine⟨_,rfl,_,rfl,t,_,_,_,rfl,rfl,SqT.of (S5 _ _ ht2),hat,_,rfl,(by show 2≤1000;decide),fun l3 H3 S3 f3 e3=>?_⟩
  obtain⟨i,hati⟩:∃ i,atI [V.int 1,V.int (-1)] way=some (.int i):=by
   have:way=0∨way=1:=by omega
   rcases this with rfl | rfl
   ·exact⟨1,rfl⟩
   ·exact⟨-1,rfl⟩
  refine⟨_,rfl,l3,_,_,_,rfl,rfl,SqL.of e3,hati,_,_,rfl,rfl,(by show 1≤1000;decide),fun t6 H6 S6 f6 e6=>?_⟩
  have S56:=S3.trans S6
  refine⟨c1,t6,_,_,rfl,rfl,S56 _ _ e5,e6,Nat.le_trans (show _≤1000 by have:=cl none (some at_);show _ + 1≤1000;omega) (by decide),fun t7 H7 S7 e7=>?_⟩
  have S27:=S5.trans (S56.trans S7)
  refine⟨_,rfl,_,rfl,_,_,rfl,rfl,_,rfl,t,_,rfl,S27 _ _ ht2,fun c2 H8 S8 e8=>?_⟩
  refine⟨t7,c2,_,_,rfl,rfl,S8 _ _ e7,e8,Nat.le_trans (show _≤1000 by have h1:=cl none (some at_);have h2:=cl (some (at_ + 1)) none;rw[List.length_append];show _ + 1 + _≤1000;omega) (by decide),fun t9 H9 S9 e9=>?_⟩
  have S29:=S27.trans (S8.trans S9)
  refine q _ H9 (b02.trans (Same.but S29)) (p2.same S29) (TV.tup e9 ?_ (tv_app (tv_app (tv_cut tv_ints) (tv_one (.int _))) (tv_cut tv_ints)))
  have h1:=cl none (some at_);have h2:=cl (some (at_ + 1)) none
  rw[List.length_append,List.length_append];show _ + 1 + _≤100;omega
 refine iteFe (decide_eq_false c2) ⟨_,rfl,rfl,_,rfl,?_⟩
 by_cases e2:way=2
 ·refine iteTe (decide_eq_true (by rw[e2])) ?_
  refine⟨_,rfl,_,rfl,_,rfl,t,_,rfl,ht2,fun c1 H5 S5 e5=>q _ H5 (b02.trans (Same.but S5)) (p2.same S5) (TV.tup e5 (by have:=cl none (some (-1));omega) (tv_cut tv_ints))⟩
 refine iteFe (decide_eq_false fun z=>e2 (by injection z)) ⟨_,rfl,rfl,_,rfl,?_⟩
 by_cases e3:way=3
 ·refine iteTe (decide_eq_true (by rw[e3])) ?_
  refine⟨_,rfl,(by show 1≤1000;decide),fun t6 H6 S6 f6 e6=>?_⟩
  refine⟨t,t6,_,_,rfl,rfl,S6 _ _ ht2,e6,Nat.le_trans (show _≤1000 by rw[lm];show _ + 1≤1000;omega) (by decide),fun t7 H7 S7 e7=>?_⟩
  refine q _ H7 (b02.trans (Same.but (S6.trans S7))) (p2.same (S6.trans S7)) (TV.tup e7 ?_ (tv_app tv_ints (tv_one (.int _))))
  rw[List.length_append,lm];show _ + 1≤100;omega
 refine iteFe (decide_eq_false fun z=>e3 (by injection z)) ⟨_,rfl,rfl,_,rfl,?_⟩
 by_cases e4:way=4
 ·refine iteTe (decide_eq_true (by rw[e4])) ?_
  refine⟨_,rfl,t,rfl,⟨_,SqT.of ht2⟩,?_⟩
  refine comp_tup ht2 (fun σ'=>σ'.length=1) (fun i v _=>∃ x:Int,v=.int x) (by omega) (by rfl) (fun _ _ _ _ _ h=>h) (fun i x σ' H' hx s2 sg C hC=>?_) (fun L ys H3 hL S3 hH hly hys=>?_)
  ·obtain⟨y,hy,rfl⟩:∃ y,hs[i]?=some y∧x=.int y:=by
    rw[List.getElem?_map] at hx
    obtain⟨y,h1,h2⟩:=Option.map_eq_some_iff.mp hx
    exact⟨y,h1,h2.symm⟩
   match σ',sg with
   | [o],_=>exact⟨_,rfl,_,_,rfl,rfl,hC _ _ _ rfl (Same.refl _) ⟨_,rfl⟩⟩
  refine⟨L,_,rfl,hH,fun t4 H4 S4 f4 e5=>?_⟩
  have S24:=S3.trans S4
  refine⟨_,rfl,t,_,rfl,.inr (SqT.of (S24 _ _ ht2)),_,_,rfl,rfl,by rw[lm];omega,by rw[lm];omega,rfl,?_⟩
  refine⟨(by show 0≤1000;decide),fun t5 H5 S5 f5 e6=>⟨(by show 3≤1000;decide),fun l6 H6 S6 f6 e7=>?_⟩⟩
  have S26:=S24.trans (S5.trans S6)
  refine⟨_,rfl,p,3,rfl,p2.same S26,by decide,by decide,fun r J r0 r1 b p3=>?_⟩
  obtain⟨x,hx,hatx⟩:=at_list e7 3 rfl r0 r1
  refine⟨l6,_,_,_,rfl,rfl,SqL.of (b _ _ (fresh (p2.same (S24.trans S5)) f6) e7),hatx,q x J (b02.trans ((Same.but S26).trans b)) p3 ?_⟩
  obtain⟨zs,ez⟩:=(p2.same S26).lst
  refine TV.but ?_ b ez
  simp only [List.mem_cons,List.not_mem_nil,or_false] at hx
  rcases hx with rfl | rfl | rfl
  ·refine TV.tup (S6 _ _ (S5 _ _ e5)) (by omega) fun z hz=>?_
   obtain⟨i,hi,rfl⟩:=List.getElem_of_mem hz
   obtain⟨x,e⟩:=hys i _ (List.getElem?_eq_getElem hi)
   rw[e];exact .int _
  ·exact .str (strOk_rep _)
  ·exact TV.tup (S6 _ _ e6) (by show 0≤100;decide) fun z hz=>by cases hz
 refine iteFe (decide_eq_false fun z=>e4 (by injection z)) ?_
 refine⟨_,rfl,p,2,rfl,p2,by decide,by decide,fun r H3 r0 r1 b3 p3=>⟨rfl,_,rfl,?_⟩⟩
 have ht3:=b3 _ _ (ntp p2 ht2) ht2
 by_cases cr:r=0
 ·refine iteTe (decide_eq_true (by rw[cr])) ?_
  refine⟨_,rfl,t,rfl,⟨_,SqT.of ht3⟩,?_⟩
  refine comp_tup ht3 (fun σ'=>σ'.length=1) (fun i v _=>∃ x:Int,v=.int x) (by omega) (by rfl) (fun _ _ _ _ _ h=>h) (fun i x σ' H' hx s2 sg C hC=>?_) (fun L ys H4 hL S4 hH hly hys=>?_)
  ·obtain⟨y,hy,rfl⟩:∃ y,hs[i]?=some y∧x=.int y:=by
    rw[List.getElem?_map] at hx
    obtain⟨y,h1,h2⟩:=Option.map_eq_some_iff.mp hx
    exact⟨y,h1,h2.symm⟩
   match σ',sg with
   | [o],_=>exact⟨_,rfl,_,_,rfl,rfl,⟨by decide,by decide,by decide⟩,_,_,rfl,rfl,hC _ _ _ rfl (Same.refl _) ⟨_,rfl⟩⟩
  refine⟨L,_,rfl,hH,fun t4 H5 S5 f5 e5=>q _ H5 ((b02.trans b3).trans (Same.but (S4.trans S5))) (p3.same (S4.trans S5)) (TV.tup e5 (by omega) fun z hz=>?_)⟩
  obtain⟨i,hi,rfl⟩:=List.getElem_of_mem hz
  obtain⟨x,e⟩:=hys i _ (List.getElem?_eq_getElem hi)
  rw[e];exact .int _
 ·refine iteFe (decide_eq_false fun z=>cr (by injection z)) ?_
  refine⟨_,rfl,t,_,rfl,.inr (SqT.of ht3),_,rfl,by omega,by omega,?_⟩
  rw[lm,Int.toNat_natCast]
  refine comp_range (n:=hs.length) (fun σ'=>∃ o,σ'=[o,some (.ref t),some (.int at_)]) (fun i v _=>∃ x:Int,v=.int x) (by omega) (by exact⟨none,rfl⟩) (fun _ _ _ _ _ h=>h) (fun i σ' H' hi s2 sg C hC=>?_) (fun L ys H4 hL S4 hH hly hys=>?_)
  ·obtain⟨o,rfl⟩:=sg
   refine⟨_,rfl,t,hs,rfl,s2 _ _ ht3,ne,fun mx _ _=>⟨_,rfl,_,rfl,rfl,_,rfl,_,_,rfl,rfl,.inr ⟨?_,?_⟩,hC _ _ _ ⟨_,rfl⟩ (Same.refl _) ⟨_,rfl⟩⟩⟩
   ·split <;> decide
   ·split <;> decide
  refine⟨L,_,rfl,hH,fun t4 H5 S5 f5 e5=>q _ H5 ((b02.trans b3).trans (Same.but (S4.trans S5))) (p3.same (S4.trans S5)) (TV.tup e5 (by omega) fun z hz=>?_)⟩
  obtain⟨i,hi,rfl⟩:=List.getElem_of_mem hz
  obtain⟨x,e⟩:=hys i _ (List.getElem?_eq_getElem hi)
  rw[e];exact .int _
theorem br0 {T B:Prop} (main:T->B) (tail:T):B:=main tail
def spCof (K:PySem.W.Frag):Sp:=fun vs H Q _=>∃ (n:Int) (ts:List Tie) (wv v:V) (p:Addr) (m M:Nat),vs=[.ref p,wv,v]∧WO K H n ts wv∧Pot H p∧GT H n.toNat m v∧TV K H (M + 2) v∧∀ x H',But p H H'->Pot H' p->TV K H' (M + 3) x->Q x H'
theorem ok__law_case_off (T:Bi mg) (D:DefOk K mg "_law_case_off" s__law_case_off ["pot","web","case"]) (O__law_take:Ok P w K mg base 2 "_law_take" ["pot","many"] spTake) (O__law_tie_off:Ok P w K mg base 2 "_law_tie_off" ["pot","web","tie"] (spTof K)) (O__law_heights_off:Ok P w K mg base 2 "_law_heights_off" ["pot","heights"] (spHof K)):Ok P w K mg base 3 "_law_case_off" ["pot","web","case"] (spCof K):=by
 refine mk_ok (k:=2) D sc__law_case_off (fun vs H Q E h=>?_) (fun f cdv A outer s H vs Q E hr h=>?_)
 ·obtain⟨n,ts,wv,v,p,m,M,rfl,_⟩:=h
  rfl
 obtain⟨n,ts,wv,v,p,m,M,rfl,wo,hp,gt,tv,q⟩:=h
 have nd:=sc__law_case_off.nd
 have units:∀ {x:Nat},x≤3->(A.deeper (envOfC "_law_case_off" (defScope s__law_case_off) s.heap.objs.size f cdv)).units + x < cLine:=fun {x} hu=>by have:=hr.units;omega
 have n1:=wo.2.n1
 have n24:=wo.2.n24
 have fresh:∀ {J:Hp} {a:Addr},Pot J p->J a=none->a≠p:=fun pt h z=>by
  obtain⟨ys,e⟩:=pt.lst
  rw[z,e] at h;cases h
 obtain⟨ys,ey⟩:=hp.lst
 refine⟨_,(BSs.h (bss_cons (bs_set (i:=3) nd rfl (Or.inl rfl) (BE.mk (pe_callD O__law_take hr rfl (pa_cons (pv 0) (pa_cons pe_int pa_nil))))) (bss_cons (bs_if (pt_cmpR op_eq (pv 3) pe_int (nomark _)) (bss_cons (bs_set (i:=4) nd rfl (Or.inl rfl) (be_ix ix_list (be_lstG (ba_consC (BE.mk pe_str) (ba_consC (BE.mk pe_str) (ba_consC (BE.mk pe_str) (ba_consC (BE.mk pe_str) (ba_consC (BE.mk pe_str) (ba_consC (BE.mk pe_str) (ba_consC (BE.mk pe_str) ba_nil)))))))) (BE.mk (pe_callD O__law_take hr rfl (pa_cons (pv 0) (pa_cons pe_int pa_nil)))) (fun _ _=>rfl))) (bss_one (bs_ret (be_op op_catA (be_tupG (ba_consN (BE.mk (pv 4)) ba_nil)) (BE.mk (pe_slice sl_tupA (pv 2) (po_some pe_int) po_none)))))) bss_nil) (bss_cons (bs_if (pt_cmpR op_eq (pv 3) pe_int (nomark _)) (bss_one (bs_ret (be_op op_catA (BE.mk (pv 2)) (be_tupG (ba_consS (be_ix ix_tup (BE.mk (pv 2)) (BE.mk (pe_un un_neg pe_int)) (fun _ _=>rfl)) ba_nil))))) bss_nil) (bss_cons (bs_if (pt_cmpR op_eq (pv 3) pe_int (nomark _)) (bss_one (bs_ret (BE.mk (pe_slice sl_tupA (pv 2) po_none (po_some (pe_un un_neg pe_int)))))) bss_nil) (bss_cons (bs_if (pt_cmpR op_eq (pv 3) pe_int (nomark _)) (bss_one (bs_ret (be_ix ix_list (be_lstG (ba_consT (be_tupG (ba_consC (BE.mk pe_str) ba_nil)) (ba_consT (be_tupG ba_nil) (ba_consT (be_tupG (ba_consC (BE.mk pe_str) (ba_consC (BE.mk pe_int) (ba_consB (be_op op_repTn (be_tupG (ba_consC (BE.mk pe_int) ba_nil)) (be_ix ix_tup (BE.mk (pv 1)) (BE.mk pe_int) (fun _ _=>rfl))) ba_nil)))) (ba_consT (be_tupG (ba_consC (BE.mk pe_str) (ba_consC (BE.mk pe_int) (ba_consT (be_tupG (ba_consC (BE.mk pe_str) ba_nil)) (ba_consT (be_tupG (ba_consC (BE.mk pe_str) ba_nil)) ba_nil))))) ba_nil))))) (BE.mk (pe_callD O__law_take hr rfl (pa_cons (pv 0) (pa_cons pe_int pa_nil)))) (fun _ _=>rfl)))) bss_nil) (bss_cons (bs_if (pt_cmpR op_eqD (pe_ix ix_tup (pv 2) pe_int (fun _ _=>rfl)) pe_str (nomark _)) (bss_one (bs_ret (be_ix ix_list (be_lstG (ba_consC (BE.mk pe_str) (ba_consC (BE.mk pe_int) (ba_consT (be_tupG (ba_consC (BE.mk pe_str) (ba_consC (BE.mk pe_int) ba_nil))) (ba_consT (be_tupG (ba_consC (BE.mk pe_str) (ba_consK (BE.mk (pe_callD O__law_take hr rfl (pa_cons (pv 0) (pa_cons pe_int pa_nil)))) (ba_consN (BE.mk (pv 2)) (ba_consN (BE.mk (pv 2)) ba_nil))))) ba_nil))))) (BE.mk (pe_callD O__law_take hr rfl (pa_cons (pv 0) (pa_cons pe_int pa_nil)))) (fun _ _=>rfl)))) bss_nil) (bss_cons (bs_if (PW.pt (pw_or (pt_cmpR op_lt (pv 3) pe_int (nomark _)) (pw_or1 (PW.pt (pw_and (pt_cmpR op_eqD (pe_ix ix_tup (pv 2) pe_int (fun _ _=>rfl)) pe_str (nomark _)) (pw_and1 (pt_cmpR op_eq (pv 3) pe_int (nomark _)))))))) (bss_one (bs_ret (be_op op_catA (be_op op_catA (BE.mk (pe_slice sl_tupA (pv 2) po_none (po_some pe_int))) (be_tupG (ba_consK (BE.mk (pe_callD O__law_tie_off hr rfl (pa_cons (pv 0) (pa_cons (pv 1) (pa_cons (pe_ix ix_tup (pv 2) pe_int (fun _ _=>rfl)) pa_nil))))) ba_nil))) (BE.mk (pe_slice sl_tupA (pv 2) (po_some pe_int) po_none))))) bss_nil) (bss_cons (bs_if (pt_cmpR op_eqD (pe_ix ix_tup (pv 2) pe_int (fun _ _=>rfl)) pe_str (nomark _)) (bss_one (bs_ret (be_op op_catA (BE.mk (pe_slice sl_tupA (pv 2) po_none (po_some pe_int))) (be_tupG (ba_consK (BE.mk (pe_callD O__law_heights_off hr rfl (pa_cons (pv 0) (pa_cons (pe_ix ix_tup (pv 2) pe_int (fun _ _=>rfl)) pa_nil)))) ba_nil))))) bss_nil) (bss_cons (bs_set (i:=5) nd rfl (Or.inl rfl) (be_lstG (ba_consB (be_op op_catA (BE.mk (pe_slice sl_tupA (pv 2) po_none (po_some pe_int))) (be_tupG (ba_consS (be_ix ix_tup (BE.mk (pv 2)) (BE.mk pe_int) (fun _ _=>rfl)) (ba_consS (be_ix ix_tup (BE.mk (pv 2)) (BE.mk pe_int) (fun _ _=>rfl)) ba_nil)))) (ba_consB (be_op op_catA (BE.mk (pe_slice sl_tupA (pv 2) po_none (po_some pe_int))) (be_tupG (ba_consS (be_ix ix_tup (BE.mk (pv 2)) (BE.mk pe_int) (fun _ _=>rfl)) ba_nil))) (ba_consB (be_op op_catA (BE.mk (pe_slice sl_tupA (pv 2) po_none (po_some pe_int))) (be_tupG (ba_consN (BE.mk (pv 2)) (ba_consS (be_ix ix_tup (BE.mk (pv 2)) (BE.mk pe_int) (fun _ _=>rfl)) ba_nil)))) (ba_consB (be_op op_catA (BE.mk (pe_slice sl_tupA (pv 2) po_none (po_some pe_int))) (be_tupG (ba_consN (BE.mk (pv 2)) ba_nil))) ba_nil)))))) (bss_one (bs_ret (be_ix ix_list (BE.mk (pv 5)) (BE.mk (pe_callD O__law_take hr rfl (pa_cons (pv 0) (pa_cons pe_int pa_nil)))) (fun _ _=>rfl)))))))))))))),?_⟩
 refine⟨_,rfl,p,8,rfl,hp,by decide,by decide,fun way H1 w0 w1 b1 p1=>?_⟩
 have tk1:=but_tk b1 ey
 have tv1:=tv.but b1 ey
 obtain⟨pu,w,r,rfl,hu,sw,c1,c2,c3,c4⟩:=gt_first (gt.tk tk1)
 obtain⟨xs,exs⟩:∃ xs,xs=V.str w::r:=⟨_,rfl⟩
 have lr:xs.length≤4∧1≤xs.length:=by
  rw[exs]
  rcases c4 with z | z | z
  ·rw[c2 z];exact⟨by show 1≤4;decide,by show 1≤1;decide⟩
  ·obtain⟨k,q',hs,e,_⟩:=c3 z;rw[e];exact⟨by show 3≤4;decide,by show 1≤3;decide⟩
  ·obtain⟨m',k,a,b,_,e,_⟩:=c1 z;rw[e];exact⟨by show 4≤4;decide,by show 1≤4;decide⟩
 have hx:H1 pu=some (.tup xs):=by rw[exs];exact hu
 have par:=(tv1.parts hx).2
 have cl:∀ lo hi,(cutV xs lo hi).length≤4:=fun lo hi=>by have:=(cut_part xs lo hi).1;omega
 have wo1:=wo.but b1 hp
 obtain⟨y1,e1p⟩:=p1.lst
 have npu:pu≠p:=fun z=>by rw[z,e1p] at hx;cases hx
 have hxJ:∀ {J:Hp},But p H1 J->J pu=some (.tup xs):=fun b=>b _ _ npu hx
 have parJ:∀ {J:Hp},But p H1 J->∀ x ∈ xs,TV K J (M + 2) x:=fun b x h=>((par x h).mono (Nat.le_succ _)).but b e1p
 have caseJ:∀ {J:Hp},But p H1 J->TV K J (M + 2) (.ref pu):=fun b=>tv1.but b e1p
 have fin:∀ {J:Hp} {t:Addr} {zs:List V},But p H1 J->Pot J p->J t=some (.tup zs)->zs.length≤100->(∀ x ∈ zs,TV K J (M + 2) x)->Q (.ref t) J:=fun b pt e l h=>q _ _ (b1.trans b) pt (TV.tup e l h)
 have a0:atI xs 0=some (.str w):=by rw[exs];exact atI_toNat (Int.le_refl 0) rfl
 obtain⟨yl,hyl,at9⟩:∃ y,y ∈ xs∧atI xs (-1)=some y:=by
  have l1:=lr.2
  refine⟨xs[xs.length - 1],List.getElem_mem _,?_⟩
  unfold atI ixN
  rw[if_neg (by decide),if_pos (by omega),Option.bind_some,show (-1 + ((xs.length:Nat):Int)).toNat=xs.length - 1 by omega,List.getElem?_eq_getElem (by omega)]
 refine⟨_,rfl,rfl,_,rfl,?_⟩
 by_cases e0:way=0
 ·refine iteTe (decide_eq_true (by rw[e0])) ?_
  refine⟨(by show 7≤1000;decide),fun l2 H2 S2 f2 e2=>⟨_,rfl,p,7,rfl,p1.same S2,by decide,by decide,fun r' H3 r0 r1 b3 p3=>?_⟩⟩
  obtain⟨x,hxm,hat⟩:=at_list e2 7 rfl r0 r1
  obtain⟨xw,rfl,sx⟩:∃ z,x=.str z∧PyData.strOk z=true:=by
   simp only [List.mem_cons,List.not_mem_nil,or_false] at hxm
   rcases hxm with rfl | rfl | rfl | rfl | rfl | rfl | rfl <;> exact⟨_,rfl,by decide +kernel⟩
  refine⟨l2,_,_,_,rfl,rfl,SqL.of (b3 _ _ (fresh p1 f2) e2),hat,?_⟩
  have B3:But p H1 H3:=(Same.but S2).trans b3
  refine⟨_,rfl,(by show 1≤1000;decide),fun t4 H4 S4 f4 e4=>?_⟩
  have B4:=B3.trans (Same.but S4)
  refine⟨_,rfl,_,rfl,pu,_,rfl,hxJ B4,fun c1' H5 S5 e5=>?_⟩
  refine⟨t4,c1',_,_,rfl,rfl,S5 _ _ e4,e5,Nat.le_trans (show _≤1000 by have:=cl (some 1) none;show 1 + _≤1000;omega) (by decide),fun t6 H6 S6 e6=>?_⟩
  have B6:=B4.trans (Same.but (S5.trans S6))
  refine fin B6 (p3.same (S4.trans (S5.trans S6))) e6 ?_ (tv_app (tv_one (.str sx)) (tv_cut (parJ B6)))
  have:=cl (some 1) none
  rw[List.length_append];show 1 + _≤100;omega
 refine iteFe (decide_eq_false fun z=>e0 (by injection z)) ⟨_,rfl,rfl,_,rfl,?_⟩
 by_cases e1:way=1
 ·refine iteTe (decide_eq_true (by rw[e1])) ?_
  refine⟨_,rfl,_,rfl,_,rfl,pu,_,_,_,rfl,rfl,SqT.of hx,at9,(by show 1≤1000;decide),fun t2 H2 S2 f2 e2=>⟨pu,t2,_,_,rfl,rfl,S2 _ _ hx,e2,Nat.le_trans (show _≤1000 by show xs.length + 1≤1000;omega) (by decide),fun t3 H3 S3 e3=>?_⟩⟩
  have B3:But p H1 H3:=Same.but (S2.trans S3)
  refine fin B3 (p1.same (S2.trans S3)) e3 ?_ (tv_app (parJ B3) (tv_one (parJ B3 _ hyl)))
  rw[List.length_append];show xs.length + 1≤100;omega
 refine iteFe (decide_eq_false fun z=>e1 (by injection z)) ⟨_,rfl,rfl,_,rfl,?_⟩
 by_cases e2:way=2
 ·refine iteTe (decide_eq_true (by rw[e2])) ?_
  refine⟨_,rfl,_,rfl,_,rfl,pu,_,rfl,hx,fun c1' H2 S2 e2'=>?_⟩
  have B2:But p H1 H2:=Same.but S2
  exact fin B2 (p1.same S2) e2' (by have:=cl none (some (-1));omega) (tv_cut (parJ B2))
 refine iteFe (decide_eq_false fun z=>e2 (by injection z)) ⟨_,rfl,rfl,_,rfl,?_⟩
 have kd:∀ {J:Hp} {t:Addr} {m:Nat},J t=some (.tup [.str "kept"])->TV K J (m + 1) (.ref t):=fun e=>TV.tup e (by show 1≤100;decide) (tv_one (.str (by decide +kernel)))
 by_cases e3:way=3
 ·refine iteTe (decide_eq_true (by rw[e3])) ?_
  obtain⟨g0,g,ws,rfl,hg0,hg,hall,hlw⟩:=web_parts wo1.1
  refine⟨(by show 1≤1000;decide),fun ta Ha Sa fa ea=>⟨(by show 0≤1000;decide),fun tb Hb Sb fb eb=>⟨(by show 1≤1000;decide),fun tc Hc Sc fc ec=>?_⟩⟩⟩
  have S1c:=Sa.trans (Sb.trans Sc)
  refine⟨_,rfl,g0,_,_,_,rfl,rfl,SqT.of (S1c _ _ hg0),rfl,tc,n,_,rfl,rfl,ec,n1,by omega,(by show 1 * n.toNat≤1000;omega),(by simp),fun td Hd Sd ed=>⟨(by show 3≤1000;decide),fun te He Se fe ee=>?_⟩⟩
  refine⟨(by show 1≤1000;decide),fun tf Hf Sf ff ef=>⟨(by show 1≤1000;decide),fun tg Hg Sg fg eg=>⟨(by show 4≤1000;decide),fun th Hh Sh fh eh=>⟨(by show 4≤1000;decide),fun l Hl Sl fl el=>?_⟩⟩⟩⟩
  have Seh:=Sf.trans (Sg.trans (Sh.trans Sl))
  have S1h:Same H1 Hh:=S1c.trans (Sd.trans (Se.trans (Sf.trans (Sg.trans Sh))))
  have S1l:=S1h.trans Sl
  refine⟨_,rfl,p,4,rfl,p1.same S1l,by decide,by decide,fun r' J r0 r1 b p3=>?_⟩
  obtain⟨x,hxm,hat⟩:=at_list el 4 rfl r0 r1
  refine⟨l,_,_,_,rfl,rfl,SqL.of (b _ _ (fresh (p1.same S1h) fl) el),hat,q x J (b1.trans ((Same.but S1l).trans b)) p3 ?_⟩
  obtain⟨zs,ez⟩:=(p1.same S1l).lst
  refine TV.but ?_ b ez
  simp only [List.mem_cons,List.not_mem_nil,or_false] at hxm
  rcases hxm with rfl | rfl | rfl | rfl
  ·exact kd ((Sb.trans (Sc.trans (Sd.trans (Se.trans Seh)))) _ _ ea)
  ·exact TV.tup ((Sc.trans (Sd.trans (Se.trans Seh))) _ _ eb) (by show 0≤100;decide) fun z hz=>by cases hz
  ·refine TV.tup (Seh _ _ ee) (by show 3≤100;decide) fun z hz=>?_
   simp only [List.mem_cons,List.not_mem_nil,or_false] at hz
   rcases hz with rfl | rfl | rfl
   ·exact .str (by decide +kernel)
   ·exact .int _
   ·refine TV.mono (m:=1) (TV.tup ((Se.trans Seh) _ _ ed) ?_ fun z hz=>?_) (by omega)
    ·rw[List.length_flatten,List.map_replicate,List.sum_replicate_nat];show n.toNat * 1≤100;omega
    ·obtain⟨l',h1,h2⟩:=List.mem_flatten.mp hz
     rw[(List.mem_replicate.mp h1).2] at h2
     rw[List.mem_singleton.mp h2];exact .int _
  ·refine TV.tup (Sl _ _ eh) (by show 4≤100;decide) fun z hz=>?_
   simp only [List.mem_cons,List.not_mem_nil,or_false] at hz
   rcases hz with rfl | rfl | rfl | rfl
   ·exact .str (by decide +kernel)
   ·exact .int _
   ·exact kd ((Sg.trans (Sh.trans Sl)) _ _ ef)
   ·exact kd ((Sh.trans Sl) _ _ eg)
 refine iteFe (decide_eq_false fun z=>e3 (by injection z)) ?_
 refine⟨_,rfl,pu,_,_,_,rfl,rfl,SqT.of hx,a0,.str w,.str "kept",rfl,rfl,sw,by decide +kernel,units (Nat.le_trans (Nat.min_le_right _ _) (by decide)),_,rfl,?_⟩
 rw[eqv_str]
 by_cases wk:w="kept"
 ·refine iteTe (decide_eq_true wk) ?_
  refine⟨(by show 2≤1000;decide),fun t2 H2 S2 f2 e2=>⟨_,rfl,p,9,rfl,p1.same S2,by decide,by decide,fun r' H3 r0 r1 b3 p3=>⟨_,rfl,_,rfl,(by show 4≤1000;decide),fun t4 H4 S4 f4 e4=>⟨(by show 4≤1000;decide),fun l H5 S5 f5 e5=>?_⟩⟩⟩⟩
  have B4:But p H1 H4:=((Same.but S2).trans b3).trans (Same.but S4)
  have B5:=B4.trans (Same.but S5)
  have p5:=p3.same (S4.trans S5)
  refine⟨_,rfl,p,4,rfl,p5,by decide,by decide,fun r2 J r20 r21 b p6=>?_⟩
  obtain⟨x,hxm,hat⟩:=at_list e5 4 rfl r20 r21
  refine⟨l,_,_,_,rfl,rfl,SqL.of (b _ _ (fresh (p3.same S4) f5) e5),hat,q x J (b1.trans (B5.trans b)) p6 ?_⟩
  obtain⟨zs,ez⟩:=p5.lst
  refine TV.but ?_ b ez
  obtain⟨y2,e2p⟩:=(p1.same S2).lst
  have n2:t2≠p:=fresh p1 f2
  simp only [List.mem_cons,List.not_mem_nil,or_false] at hxm
  rcases hxm with rfl | rfl | rfl | rfl
  ·exact .str (by decide +kernel)
  ·exact .int _
  ·refine TV.tup ((S4.trans S5) _ _ (b3 _ _ n2 e2)) (by show 2≤100;decide) fun z hz=>?_
   simp only [List.mem_cons,List.not_mem_nil,or_false] at hz
   rcases hz with rfl | rfl
   ·exact .str (by decide +kernel)
   ·exact .int _
  ·refine TV.tup (S5 _ _ e4) (by show 4≤100;decide) fun z hz=>?_
   simp only [List.mem_cons,List.not_mem_nil,or_false] at hz
   rcases hz with rfl | rfl | rfl | rfl
   ·exact .str (by decide +kernel)
   ·exact .int _
   ·exact caseJ B5
   ·exact caseJ B5
 refine iteFe (decide_eq_false wk) ?_
 obtain⟨k,r2,er2⟩:∃ k r2,r=V.int k::r2:=by
  rcases c4 with z | z | z
  ·exact absurd z wk
  ·obtain⟨k,q',hs,e,_⟩:=c3 z;exact⟨k,_,e⟩
  ·obtain⟨m',k,a,b,_,e,_⟩:=c1 z;exact⟨k,_,e⟩
 have a1:atI xs 1=some (.int k):=by rw[exs,er2];exact atI_toNat (by decide) rfl
 apply br0
 case main =>
  intro tl
  refine⟨_,rfl,_,_,rfl,rfl,_,rfl,?_⟩
  by_cases c6:way < 6
  ·exact iteTe (decide_eq_true c6) (iteT tl)
  refine iteFe (decide_eq_false c6) ?_
  refine⟨_,rfl,pu,_,_,_,rfl,rfl,SqT.of hx,a0,.str w,.str "tie",rfl,rfl,sw,by decide +kernel,units (Nat.le_trans (Nat.min_le_right _ _) (by decide)),_,rfl,?_⟩
  rw[eqv_str]
  have rest:w="far"∨w="tie":=c4.resolve_left wk
  apply br0
  case main =>
   intro tl2
   by_cases wt:w="tie"
   ·refine iteTe (decide_eq_true wt) ⟨_,rfl,rfl,_,rfl,?_⟩
    by_cases e6:way=6
    ·exact iteTe (decide_eq_true (by rw[e6])) tl
    ·exact iteFe (decide_eq_false fun z=>e6 (by injection z)) tl2
   ·exact iteFe (decide_eq_false wt) (iteF tl2)
  case tail =>
  refine⟨_,rfl,pu,_,_,_,rfl,rfl,SqT.of hx,a0,.str w,.str "far",rfl,rfl,sw,by decide +kernel,units (Nat.le_trans (Nat.min_le_right _ _) (by decide)),_,rfl,?_⟩
  rw[eqv_str]
  by_cases wf:w="far"
  ·refine iteTe (decide_eq_true wf) ?_
   obtain⟨k',q',hs,er,hq,lh,ln⟩:=c3 wf
   have a2:atI xs 2=some (.ref q'):=by rw[exs,er];exact atI_toNat (by decide) rfl
   refine⟨_,rfl,_,rfl,pu,_,rfl,hx,fun c1' H2 S2 e2'=>?_⟩
   refine⟨_,rfl,_,rfl,pu,_,_,_,rfl,rfl,SqT.of (S2 _ _ hx),a2,p,q',hs,rfl,p1.same S2,S2 _ _ hq,by omega,by omega,fun x H3 b3 p3 tx=>?_⟩
   refine⟨(by show 1≤1000;decide),fun t4 H4 S4 f4 e4=>?_⟩
   have n1':c1'≠p:=fun z=>by
    obtain⟨y2,e2p⟩:=(p1.same S2).lst
    rw[z,e2p] at e2';cases e2'
   refine⟨c1',t4,_,_,rfl,rfl,S4 _ _ (b3 _ _ n1' e2'),e4,Nat.le_trans (show _≤1000 by have:=cl none (some 2);show _ + 1≤1000;omega) (by decide),fun t5 H5 S5 e5=>?_⟩
   have B5:But p H1 H5:=((Same.but S2).trans b3).trans (Same.but (S4.trans S5))
   refine fin B5 (p3.same (S4.trans S5)) e5 ?_ (tv_app (tv_cut (parJ B5)) (tv_one ((tx.mono (by omega)).same (S4.trans S5))))
   have:=cl none (some 2)
   rw[List.length_append];show _ + 1≤100;omega
  refine iteFe (decide_eq_false wf) ?_
  obtain⟨m',k',a,b,em,er,ga,gb⟩:=c1 (rest.resolve_left wf)
  have a2:atI xs 2=some a:=by rw[exs,er];exact atI_toNat (by decide) rfl
  have a3:atI xs 3=some b:=by rw[exs,er];exact atI_toNat (by decide) rfl
  have ma:a ∈ xs:=by rw[exs,er];simp
  have mb:b ∈ xs:=by rw[exs,er];simp
  refine⟨_,rfl,_,rfl,pu,_,rfl,hx,fun c1' H2 S2 e2'=>?_⟩
  refine⟨_,rfl,pu,_,_,_,rfl,rfl,SqT.of (S2 _ _ hx),a3,_,rfl,pu,_,_,_,rfl,rfl,SqT.of (S2 _ _ hx),a2,(by show 2≤1000;decide),fun t3 H3 S3 f3 e3'=>?_⟩
  refine⟨c1',t3,_,_,rfl,rfl,S3 _ _ e2',e3',Nat.le_trans (show _≤1000 by have:=cl none (some 2);show _ + 2≤1000;omega) (by decide),fun u1 H4 S4 g1=>?_⟩
  have S14:=S2.trans (S3.trans S4)
  refine⟨_,rfl,_,rfl,pu,_,rfl,S14 _ _ hx,fun c2' H5 S5 e5=>?_⟩
  have S15:=S14.trans S5
  refine⟨_,rfl,pu,_,_,_,rfl,rfl,SqT.of (S15 _ _ hx),a2,(by show 1≤1000;decide),fun t6 H6 S6 f6 e6=>?_⟩
  refine⟨c2',t6,_,_,rfl,rfl,S6 _ _ e5,e6,Nat.le_trans (show _≤1000 by have:=cl none (some 3);show _ + 1≤1000;omega) (by decide),fun u2 H7 S7 g2=>?_⟩
  have S17:=S15.trans (S6.trans S7)
  refine⟨_,rfl,_,rfl,pu,_,rfl,S17 _ _ hx,fun c3' H8 S8 e8=>?_⟩
  have S18:=S17.trans S8
  refine⟨_,rfl,_,rfl,pu,_,_,_,rfl,rfl,SqT.of (S18 _ _ hx),a3,(by show 2≤1000;decide),fun t9 H9 S9 f9 e9=>?_⟩
  refine⟨c3',t9,_,_,rfl,rfl,S9 _ _ e8,e9,Nat.le_trans (show _≤1000 by have:=cl none (some 2);show _ + 2≤1000;omega) (by decide),fun u3 Ha Sa g3=>?_⟩
  have S1a:=S18.trans (S9.trans Sa)
  refine⟨_,rfl,_,rfl,pu,_,rfl,S1a _ _ hx,fun c4' Hb Sb eb=>?_⟩
  refine⟨_,rfl,(by show 1≤1000;decide),fun td Hd Sd fd ed=>?_⟩
  refine⟨c4',td,_,_,rfl,rfl,Sd _ _ eb,ed,Nat.le_trans (show _≤1000 by have:=cl none (some 3);show _ + 1≤1000;omega) (by decide),fun u4 He Se g4=>⟨(by show 4≤1000;decide),fun l Hl Sl fl el=>?_⟩⟩
  have Sal:=Sb.trans (Sd.trans (Se.trans Sl))
  have S1l:=S1a.trans Sal
  have S1e:=S1a.trans (Sb.trans (Sd.trans Se))
  refine⟨_,rfl,_,rfl,p,4,rfl,p1.same S1l,by decide,by decide,fun r' J r0 r1 bb p3=>?_⟩
  obtain⟨x,hxm,hat⟩:=at_list el 4 rfl r0 r1
  refine⟨l,_,_,_,rfl,rfl,SqL.of (bb _ _ (fresh (p1.same S1e) fl) el),hat,q x J (b1.trans ((Same.but S1l).trans bb)) p3 ?_⟩
  obtain⟨zs,ez⟩:=(p1.same S1l).lst
  refine TV.but ?_ bb ez
  have B:But p H1 Hl:=Same.but S1l
  have h2:=cl none (some 2)
  have h3:=cl none (some 3)
  simp only [List.mem_cons,List.not_mem_nil,or_false] at hxm
  rcases hxm with rfl | rfl | rfl | rfl
  ·refine TV.tup ((S5.trans (S6.trans (S7.trans (S8.trans (S9.trans (Sa.trans Sal)))))) _ _ g1) (by rw[List.length_append];show _ + 2≤100;omega) (tv_app (tv_cut (parJ B)) fun z hz=>?_)
   simp only [List.mem_cons,List.not_mem_nil,or_false] at hz
   rcases hz with rfl | rfl
   ·exact parJ B _ mb
   ·exact parJ B _ ma
  ·exact TV.tup ((S8.trans (S9.trans (Sa.trans Sal))) _ _ g2) (by rw[List.length_append];show _ + 1≤100;omega) (tv_app (tv_cut (parJ B)) (tv_one (parJ B _ ma)))
  ·refine TV.tup (Sal _ _ g3) (by rw[List.length_append];show _ + 2≤100;omega) (tv_app (tv_cut (parJ B)) fun z hz=>?_)
   simp only [List.mem_cons,List.not_mem_nil,or_false] at hz
   rcases hz with rfl | rfl
   ·exact caseJ B
   ·exact parJ B _ mb
  ·exact TV.tup (Sl _ _ g4) (by rw[List.length_append];show _ + 1≤100;omega) (tv_app (tv_cut (parJ B)) (tv_one (caseJ B)))
 case tail =>
 refine⟨_,rfl,_,rfl,pu,_,rfl,hx,fun c1' H2 S2 e2'=>?_⟩
 refine⟨_,rfl,_,rfl,_,rfl,pu,_,_,_,rfl,rfl,SqT.of (S2 _ _ hx),a1,n,ts,wv,p,k,rfl,wo1.same S2,p1.same S2,fun x H3 b3 p3 tx=>?_⟩
 refine⟨(by show 1≤1000;decide),fun t4 H4 S4 f4 e4=>?_⟩
 have n1':c1'≠p:=fun z=>by
  obtain⟨y2,e2p⟩:=(p1.same S2).lst
  rw[z,e2p] at e2';cases e2'
 refine⟨c1',t4,_,_,rfl,rfl,S4 _ _ (b3 _ _ n1' e2'),e4,Nat.le_trans (show _≤1000 by have:=cl none (some 1);show _ + 1≤1000;omega) (by decide),fun t5 H5 S5 e5=>?_⟩
 have B5:But p H1 H5:=((Same.but S2).trans b3).trans (Same.but (S4.trans S5))
 refine⟨_,rfl,_,rfl,pu,_,rfl,hxJ B5,fun c6' H6 S6 e6=>?_⟩
 refine⟨t5,c6',_,_,rfl,rfl,S6 _ _ e5,e6,Nat.le_trans (show _≤1000 by have h1:=cl none (some 1);have h2:=cl (some 2) none;rw[List.length_append];show _ + 1 + _≤1000;omega) (by decide),fun t7 H7 S7 e7=>?_⟩
 have B7:=B5.trans (Same.but (S6.trans S7))
 refine fin B7 (p3.same (S4.trans (S5.trans (S6.trans S7)))) e7 ?_ (tv_app (tv_app (tv_cut (parJ B7)) (tv_one ((tx.mono (by omega)).same (S4.trans (S5.trans (S6.trans S7)))))) (tv_cut (parJ B7)))
 have h1:=cl none (some 1);have h2:=cl (some 2) none
 rw[List.length_append,List.length_append];show _ + 1 + _≤100;omega
def spRgt41 (K:PySem.W.Frag):Sp:=fun vs H Q _=>∃ (n:Int) (ts:List Tie) (wv v:V) (t:Int),vs=[wv,.int t,v]∧WO K H n ts wv∧1≤t∧t≤99∧TV K H 40 v∧∀ H',Same H H'->Q (.bl true) H'
theorem ok__law_right41 {j:Nat} (T:Bi mg) (D:DefOk K mg "_law_right" s__law_right ["web","t","tree"]) (O__law_shown:Ok P w K mg base j "_law_shown" ["web","t","tree","kept","left"] (spLsh K 40)) (O_cases_show:Ok P w K mg base j "cases_show" ["web","t","tree"] (spCases K 40)) (O__law_is_number:Ok P w K mg base j "_law_is_number" ["thing"] (spD1 K (fun _=>True) wholeB)):Ok P w K mg base (j + 1) "_law_right" ["web","t","tree"] (spRgt41 K):=by
 refine mk_ok (k:=j) D sc__law_right (fun vs H Q E h=>?_) (fun f cdv A outer s H vs Q E hr h=>?_)
 ·obtain⟨n,ts,wv,v,t,rfl,_⟩:=h
  rfl
 obtain⟨n,ts,wv,v,t,rfl,wo,t1,t99,⟨d,isd,td⟩,q⟩:=h
 have nd:=sc__law_right.nd
 refine⟨_,(pss_cons (ps_set (i:=3) nd rfl (Or.inl rfl) (pe_callD O__law_shown hr rfl (pa_cons (pv 0) (pa_cons (pv 1) (pa_cons (pv 2) (pa_cons (pe_lstG pa_nil) (pa_cons (pe_lstG pa_nil) pa_nil))))))) (pss_cons (ps_set (i:=4) nd rfl (Or.inl rfl) (pe_callD O_cases_show hr rfl (pa_cons (pv 0) (pa_cons (pv 1) (pa_cons (pv 2) pa_nil))))) (pss_cons (ps_if (pt_cmpR op_isN (pv 3) pe_non (nomark _)) (pss_one (ps_ret (pe_cmpR op_isN (pv 4) pe_non (nomark _)))) pss_nil) (pss_one (ps_ret (pe_and (pe_callD O__law_is_number hr rfl (pa_cons (pv 4) pa_nil)) (pe_one (pe_cmpR op_eq (pv 4) (pv 3) (nomark _))))))))),?_⟩
 refine⟨_,rfl,_,rfl,_,rfl,(by show 0≤1000;decide),fun l1 H1 S1 f1 e1=>⟨(by show 0≤1000;decide),fun l2 H2 S2 f2 e2=>?_⟩⟩
 have S12:=S1.trans S2
 refine⟨n,ts,[],[],wv,v,l1,l2,t,d,rfl,wo.same S12,t1,t99,Is.same S12 _ isd,td,S2 _ _ e1,(fun k h=>by cases h),.nil,e2,(fun k h=>by cases h),.nil,fun H3 S3=>?_⟩
 have S13:=S12.trans S3
 refine⟨_,rfl,_,rfl,_,rfl,n,ts,wv,v,t,d,rfl,wo.same S13,t1,t99,Is.same S13 _ isd,td,fun H4 S4=>?_⟩
 have S14:=S13.trans S4
 cases eo:shF n ts t (40 + 1) d [] [] with
 | none=>exact⟨_,rfl,rfl,_,rfl,iteT ⟨_,rfl,rfl,q H4 S14⟩⟩
 | some x =>
  refine⟨_,rfl,rfl,_,rfl,iteF ⟨_,rfl,.int x,_,rfl,rfl,trivial,fun H5 S5=>⟨_,rfl,iteT ⟨_,rfl,_,rfl,rfl,?_⟩⟩⟩⟩
  have e:decide (ov (some x)=ov (some x))=true:=decide_eq_true rfl
  rw[e]
  exact q H5 (S14.trans S5)
def spLaw (K:PySem.W.Frag):Sp:=fun vs H Q _=>∃ (a:Addr) (ns:List Int),vs=[.ref a]∧SqL K H a (ns.map V.int)∧ns.length≤63∧∀ H',Q (.bl true) H'
theorem road_tv {K:PySem.W.Frag} {H:Hp}:∀ {rs:List Nat} {M:Nat} {v u:V},Road H v rs u->TV K H M v->TV K H M u
 | [],M,v,u,h,t=>by rw[← show v=u from h];exact t
 | r::rs,M,v,u,h,t=>by
  obtain⟨p,k,a,b,x,rfl,e2,ex,_,rd⟩:=road_drop h
  cases M with
  | zero =>
   obtain⟨d,isd,td⟩:=t
   rcases td with ⟨i,rfl⟩ | ⟨x,rfl,_⟩ <;> cases isd
  | succ M=>exact (road_tv rd ((t.parts e2).2 x (by rcases ex with ⟨_,rfl⟩ | ⟨_,rfl⟩ <;> simp))).mono (Nat.le_succ _)
theorem ok_law {f:Addr} {fd:FuncData} (T:Bi mg) (F:Fun K "law" "law" s_law f fd) (O__law_pot:Ok P w K mg base 49 "_law_pot" ["script","k"] (spPot K)) (O__law_web:Ok P w K mg base 49 "_law_web" ["pot","most"] (spWeb K)) (O__law_take:Ok P w K mg base 49 "_law_take" ["pot","many"] spTake) (O__law_times:Ok P w K mg base 49 "_law_times" ["pot"] spTimes) (O__law_tree:Ok P w K mg base 49 "_law_tree" ["pot","web","t","kept","left","deep"] (spTre K 5)) (O__law_road:Ok P w K mg base 49 "_law_road" ["pot","tree"] (spRoad K)) (O__law_at:Ok P w K mg base 49 "_law_at" ["tree","road"] (spAt K)) (O__law_put:Ok P w K mg base 49 "_law_put" ["tree","road","other"] (spPut K 6)) (O__law_case_off:Ok P w K mg base 49 "_law_case_off" ["pot","web","case"] (spCof K)) (O__law_right:Ok P w K mg base 49 "_law_right" ["web","t","tree"] (spRgt41 K)):FnOk P w K mg base CX0 50 f fd ["script"] (spLaw K):=by
 refine F.ok (k:=49) sc_law (fun vs H Q E h=>?_) (fun cdv A outer s H vs Q E hr h=>?_)
 ·obtain⟨a,ns,rfl,_⟩:=h
  rfl
 obtain⟨a,ns,rfl,hS,h63,q⟩:=h
 have nd:=sc_law.nd
 have hl:(ns.map V.int).length=ns.length:=List.length_map _
 refine⟨_,(pss_cons (ps_for PassesOwn.never rfl (pi_range1 rfl T.z_range (pa_cons (pe_callB (call_max2 rfl) rfl T.z_max (by decide +kernel) (pa_cons pe_int (pa_cons (pe_callB (call_min2 rfl) rfl T.z_min (by decide +kernel) (pa_cons pe_int (pa_cons (pe_callB call_len_seq rfl T.z_len (by decide +kernel) (pa_cons (pv 0) pa_nil)) pa_nil))) pa_nil))) pa_nil)) (pg_name (i:=1) nd rfl (Or.inl rfl)) (pss_cons (ps_set (i:=2) nd rfl (Or.inl rfl) (pe_callD O__law_pot hr rfl (pa_cons (pv 0) (pa_cons (pv 1) pa_nil)))) (pss_cons (ps_set (i:=3) nd rfl (Or.inl rfl) (pe_callD O__law_web hr rfl (pa_cons (pv 2) (pa_cons (pe_ix ix_list (pe_lstG (pa_cons pe_int (pa_cons pe_int (pa_cons pe_int (pa_cons pe_int pa_nil))))) (pv 1) (fun _ _=>rfl)) pa_nil)))) (pss_cons (ps_set (i:=4) nd rfl (Or.inl rfl) (pe_callD O__law_times hr rfl (pa_cons (pv 2) pa_nil))) (pss_cons (ps_set (i:=5) nd rfl (Or.inl rfl) (pe_callD O__law_tree hr rfl (pa_cons (pv 2) (pa_cons (pv 3) (pa_cons (pv 4) (pa_cons (pe_lstG pa_nil) (pa_cons (pe_lstG pa_nil) (pa_cons (pe_ix ix_list (pe_lstG (pa_cons (pe_op op_add pe_int (pe_callD O__law_take hr rfl (pa_cons (pv 2) (pa_cons pe_int pa_nil)))) (pa_cons pe_int pa_nil))) (pe_op op_mod (pv 1) pe_int) (fun _ _=>rfl)) pa_nil)))))))) (pss_cons (ps_for PassesOwn.never rfl (pi_range1 rfl T.z_range (pa_cons pe_int pa_nil)) (pg_name (i:=6) nd rfl (Or.inl rfl)) (pss_cons (ps_set (i:=7) nd rfl (Or.inl rfl) (pe_callD O__law_road hr rfl (pa_cons (pv 2) (pa_cons (pv 5) pa_nil)))) (pss_cons (ps_set (i:=8) nd rfl (Or.inl rfl) (pe_callD O__law_put hr rfl (pa_cons (pv 5) (pa_cons (pv 7) (pa_cons (pe_callD O__law_case_off hr rfl (pa_cons (pv 2) (pa_cons (pv 3) (pa_cons (pe_callD O__law_at hr rfl (pa_cons (pv 5) (pa_cons (pv 7) pa_nil))) pa_nil)))) pa_nil))))) (pss_cons (ps_if (PW.pt (pw_and (pt_val (pe_callB (call_isi (n:="tuple")) rfl T.z_isinstance (by decide +kernel) (pa_cons (pv 8) (pa_cons (pe_bltn (v:=.ty "tuple") rfl T.z_tuple (by decide +kernel) rfl) pa_nil)))) (pw_and1 (pt_not (pt_val (pe_callD O__law_right hr rfl (pa_cons (pv 3) (pa_cons (pv 4) (pa_cons (pv 8) pa_nil))))))))) (pss_one (ps_ret pe_bl)) pss_nil) (pss_cons (ps_set (i:=7) nd rfl (Or.inl rfl) (pe_callD O__law_road hr rfl (pa_cons (pv 2) (pa_cons (pv 5) pa_nil)))) (pss_cons (ps_set (i:=9) nd rfl (Or.inl rfl) (pe_callD O__law_put hr rfl (pa_cons (pv 5) (pa_cons (pv 7) (pa_cons (pe_callD O__law_case_off hr rfl (pa_cons (pv 2) (pa_cons (pv 3) (pa_cons (pe_callD O__law_at hr rfl (pa_cons (pv 5) (pa_cons (pv 7) pa_nil))) pa_nil)))) pa_nil))))) (pss_one (ps_if (PW.pt (pw_and (pt_val (pe_callB (call_isi (n:="tuple")) rfl T.z_isinstance (by decide +kernel) (pa_cons (pv 9) (pa_cons (pe_bltn (v:=.ty "tuple") rfl T.z_tuple (by decide +kernel) rfl) pa_nil)))) (pw_and (pt_cmpR op_gt (pe_callB call_len_seq rfl T.z_len (by decide +kernel) (pa_cons (pv 7) pa_nil)) pe_int (nomark _)) (pw_and1 (pt_not (pt_val (pe_callD O__law_right hr rfl (pa_cons (pv 3) (pa_cons (pv 4) (pa_cons (pe_tupG (pa_cons pe_str (pa_cons pe_int (pa_cons (pv 9) (pa_cons (pv 8) pa_nil))))) pa_nil)))))))))) (pss_one (ps_ret pe_bl)) pss_nil)))))))) (pss_one (ps_if (pt_not (pt_val (pe_callD O__law_right hr rfl (pa_cons (pv 3) (pa_cons (pv 4) (pa_cons (pv 5) pa_nil)))))) (pss_one (ps_ret pe_bl)) pss_nil)))))))) (pss_one (ps_ret pe_bl))),?_⟩
 refine⟨_,rfl,a,_,rfl,.inl hS,_,_,rfl,_,_,rfl,_,rfl,?_,?_,?_⟩
 ·split <;> split <;> omega
 ·rw[hl];split <;> split <;> omega
 generalize hj:(if (if (((ns.map V.int).length:Nat):Int) < 4 then (((ns.map V.int).length:Nat):Int) else 4) > 1 then (if (((ns.map V.int).length:Nat):Int) < 4 then (((ns.map V.int).length:Nat):Int) else 4) else 1)=j
 have j4:j≤4:=by rw[← hj];split <;> split <;> omega
 refine for_range (n:=j.toNat) (fun i σ H'=>∃ x1 x2 x3 x4 x5 x6 x7 x8 x9:Option V,σ=[some (.ref a),x1,x2,x3,x4,x5,x6,x7,x8,x9]∧Same H H') ⟨none,none,none,none,none,none,none,none,none,rfl,Same.refl H⟩ ?turn (fun σ H' _=>q H')
 rintro i σ H0 hi ⟨x1,x2,x3,x4,x5,x6,x7,x8,x9,rfl,s0⟩
 refine⟨_,rfl,_,rfl,a,_,ns,rfl,s0.seq hS,by omega,by omega,fun l H1 s1 fl p1=>?_⟩
 have s01:Same H H1:=s0.trans s1
 have fl0:H l=none:=s0.free fl
 have i4:i < 4:=by omega
 refine⟨_,rfl,(by show 4≤1000;decide),fun l2 H2 S2 f2 e2=>?_⟩
 obtain⟨mm,mm1,mm24,hat⟩:∃ m:Int,1≤m∧m≤24∧atI [V.int 7,V.int 24,V.int 7,V.int 12] (0 + (i:Int))=some (.int m):=by
  have:i=0∨i=1∨i=2∨i=3:=by omega
  rcases this with rfl | rfl | rfl | rfl
  ·exact⟨7,by decide,by decide,rfl⟩
  ·exact⟨24,by decide,by decide,rfl⟩
  ·exact⟨7,by decide,by decide,rfl⟩
  ·exact⟨12,by decide,by decide,rfl⟩
 refine⟨_,rfl,l2,_,_,_,rfl,rfl,SqL.of e2,hat,?_⟩
 have p2:=p1.same S2
 refine⟨l,mm,rfl,p2,mm1,mm24,fun wv H3 n ts b3 p3 ok _ isw=>?_⟩
 have wo3:WO K H3 n ts wv:=⟨isw,ok⟩
 refine⟨_,rfl,l,rfl,p3,fun t H4 t1 t99 b4 p4=>?_⟩
 have wo4:=wo3.but b4 p3
 refine⟨_,rfl,_,rfl,_,rfl,(by show 0≤1000;decide),fun l5 H5 S5 f5 e5=>⟨(by show 0≤1000;decide),fun l6 H6 S6 f6 e6=>?_⟩⟩
 have S46:=S5.trans S6
 have p6:=p4.same S46
 have fresh:∀ {J:Hp} {a:Addr},Pot J l->J a=none->a≠l:=fun pt h z=>by
  obtain⟨ys,e⟩:=pt.lst
  rw[z,e] at h;cases h
 have n5:=fresh p4 f5
 have n6:=fresh (p4.same S5) f6
 refine⟨_,rfl,l,3,rfl,p6,by decide,by decide,fun r H7 r0 r1 b7 p7=>?_⟩
 refine⟨_,_,rfl,rfl,(by show 2≤1000;decide),fun l8 H8 S8 f8 e8=>?_⟩
 refine⟨_,rfl,_,_,rfl,rfl,(by show (0:Int) < 2;decide),?_⟩
 obtain⟨dp,dp5,hat8⟩:∃ dp:Nat,dp≤5∧atI [V.int (3 + r),V.int 2] ((0 + (i:Int)) % 2)=some (.int (dp:Int)):=by
  have:(0 + (i:Int)) % 2=0∨(0 + (i:Int)) % 2=1:=by omega
  rcases this with z | z
  ·rw[z];exact⟨(3 + r).toNat,by omega,by rw[show (((3 + r).toNat:Nat):Int)=3 + r by omega];rfl⟩
  ·rw[z];exact⟨2,by decide,rfl⟩
 refine⟨l8,_,_,_,rfl,rfl,SqL.of e8,hat8,?_⟩
 have wo8:=((wo4.same S46).but b7 p6).same S8
 refine⟨n,ts,[],[],wv,l,l5,l6,t,_,dp,rfl,rfl,dp5,wo8,t1,t99,p7.same S8,n5,n6,S8 _ _ (b7 _ _ n5 (S6 _ _ e5)),(fun k h=>by cases h),.nil,S8 _ _ (b7 _ _ n6 e6),(fun k h=>by cases h),.nil,fun d v H9 b9 p9 is9 tu9 td9 sh9=>?_⟩
 obtain⟨x9',sh9⟩:=sh9
 have wo9:=wo8.but b9 (p7.same S8)
 have gt9:=gt_of ok 5 sh9 is9
 have tv9:TV K H9 7 v:=⟨d,is9,td9⟩
 have B9:But l H1 H9:=(Same.but S2).trans (b3.trans (b4.trans ((Same.but S46).trans (b7.trans ((Same.but S8).trans b9)))))
 refine⟨3,rfl,by decide,by decide,?_⟩
 refine for_range (n:=3) (fun i' σ J=>∃ y6 y7 y8 y9:Option V,σ=[some (.ref a),some (.int (0 + (i:Int))),some (.ref l),some wv,some (.int t),some v,y6,y7,y8,y9]∧But l H9 J∧Pot J l) ⟨_,_,_,_,rfl,But.refl,p9⟩ (fun i' σ J hi' h=>?_) (fun σ J h=>?_)
 ·obtain⟨y6,y7,y8,y9,rfl,bJ,pJ⟩:=h
  obtain⟨ys9,ey9⟩:=p9.lst
    -- twice a road and what is put at its end
  have gtJ:=gt9.tk (but_tk bJ ey9)
  refine⟨_,rfl,_,rfl,n.toNat,5,l,v,rfl,pJ,gtJ,fun lr rs u mu K1 c1 q1 g1 nl1 er1 lr6 rd1 gu1 _=>?_⟩
  have B1:=bJ.trans c1
  have wo1:=wo9.but B1 p9
  have tv1:=tv9.but B1 ey9
  have tu1:TV K K1 7 u:=road_tv rd1 tv1
  refine⟨_,rfl,_,rfl,_,rfl,_,rfl,_,rfl,_,rfl,v,u,lr,rs,rfl,er1,rd1,?_⟩
  refine⟨n,ts,wv,u,l,mu,5,rfl,wo1,q1,gu1,tu1,fun x K2 c2 q2 tx2=>?_⟩
  obtain⟨z1,ez1⟩:=q1.lst
  have B2:=B1.trans c2
  have tkc2:=but_tk c2 ez1
  have tv2:=tv9.but B2 ey9
  refine⟨v,u,x,lr,rs,8,rfl,c2 _ _ nl1 er1,lr6,rd1.tk tkc2,tv2.mono (by decide),tx2,fun ot K3 T3 tot=>?_⟩
  have B3:=B2.trans (Same.but T3)
  have q3:=q2.same T3
  have wo3':=wo9.but B3 p9
  apply brT40 (A:=fun J=>Same K3 J)
  case main =>
   intro tail
   obtain⟨dx,isx,tdx⟩:=tot
   have ty:=ty_of isx
   cases dx with
   | none=>exact absurd tdx TD.none
   | bool b=>exact absurd tdx TD.bool
   | list ds=>exact absurd tdx TD.list
   | dict ds=>exact absurd tdx TD.dict
   | tuple ds=>exact⟨_,rfl,_,_,_,rfl,ty,rfl,_,rfl,iteT ⟨_,rfl,_,rfl,_,rfl,n,ts,wv,ot,t,rfl,wo3',t1,t99,⟨_,isx,tdx.mono (by decide)⟩,fun K4 T4=>⟨_,rfl,iteF (tail K4 T4)⟩⟩⟩
   | int i=>exact⟨_,rfl,_,_,_,rfl,ty,rfl,_,rfl,iteF (iteF (tail K3 (Same.refl _)))⟩
   | str x=>exact⟨_,rfl,_,_,_,rfl,ty,rfl,_,rfl,iteF (iteF (tail K3 (Same.refl _)))⟩
  case tail =>
  intro K4 T4
  have B4:=B3.trans (Same.but T4)
  have q4:=q3.same T4
  have gt4:=gt9.tk (but_tk B4 ey9)
  refine⟨_,rfl,_,rfl,n.toNat,5,l,v,rfl,q4,gt4,fun lr' rs' u' mu' K5 c5 q5 g5 nl5 er5 lr6' rd5 gu5 _=>?_⟩
  have B5:=B4.trans c5
  have wo5:=wo9.but B5 p9
  have tv5:=tv9.but B5 ey9
  have tu5:TV K K5 7 u':=road_tv rd5 tv5
  refine⟨_,rfl,_,rfl,_,rfl,_,rfl,_,rfl,_,rfl,v,u',lr',rs',rfl,er5,rd5,?_⟩
  refine⟨n,ts,wv,u',l,mu',5,rfl,wo5,q5,gu5,tu5,fun x' K6 c6 q6 tx6=>?_⟩
  obtain⟨z5,ez5⟩:=q5.lst
  obtain⟨z4,ez4⟩:=q4.lst
  have B6:=B5.trans c6
  have tv6:=tv9.but B6 ey9
  refine⟨v,u',x',lr',rs',8,rfl,c6 _ _ nl5 er5,lr6',rd5.tk (but_tk c6 ez5),tv6.mono (by decide),tx6,fun bo K7 T7 tbo=>?_⟩
  have B7:=B6.trans (Same.but T7)
  have q7:=q6.same T7
  have wo7':=wo9.but B7 p9
  have to7:TV K K7 14 ot:=((tot.same T4).but (c5.trans c6) ez4).same T7
  have elr:K7 lr'=some (.lst (natV rs')):=T7 _ _ (c6 _ _ nl5 er5)
  have fin:∀ K8,Same K7 K8->∃ y6 y7 y8 y9:Option V,[some (V.ref a),some (.int (0 + (i:Int))),some (.ref l),some wv,some (.int t),some v,some (.int (0 + (i':Int))),some (.ref lr'),some ot,some bo]=[some (.ref a),some (.int (0 + (i:Int))),some (.ref l),some wv,some (.int t),some v,y6,y7,y8,y9]∧But l H9 K8∧Pot K8 l:=fun K8 T8=>⟨_,_,_,_,rfl,B7.trans (Same.but T8),q7.same T8⟩
  obtain⟨dx,isx,tdx⟩:=id tbo
  have ty:=ty_of isx
  cases dx with
  | none=>exact absurd tdx TD.none
  | bool b=>exact absurd tdx TD.bool
  | list ds=>exact absurd tdx TD.list
  | dict ds=>exact absurd tdx TD.dict
  | int i=>exact⟨_,rfl,_,_,_,rfl,ty,rfl,_,rfl,iteF (iteF (fin K7 (Same.refl _)))⟩
  | str x=>exact⟨_,rfl,_,_,_,rfl,ty,rfl,_,rfl,iteF (iteF (fin K7 (Same.refl _)))⟩
  | tuple ds =>
   refine⟨_,rfl,_,_,_,rfl,ty,rfl,_,rfl,iteT ⟨_,rfl,lr',_,rfl,.inl (SqL.of elr),_,_,rfl,rfl,_,rfl,?_⟩⟩
   rw[natV_length]
   by_cases c0:0 < rs'.length
   case neg=>exact iteFe (decide_eq_false (show ¬ ((rs'.length:Nat):Int) > 0 by omega)) (iteF (fin K7 (Same.refl _)))
   refine iteTe (decide_eq_true (show ((rs'.length:Nat):Int) > 0 by omega)) ⟨_,rfl,_,rfl,_,rfl,_,rfl,(by show 4≤1000;decide),fun t8 K8 T8 g8 e8'=>?_⟩
   refine⟨n,ts,wv,.ref t8,t,rfl,wo7'.same T8,t1,t99,TV.mono (m:=15) (TV.tup e8' (by show 4≤100;decide) fun z hz=>?_) (by decide),fun K9 T9=>⟨_,rfl,iteF (fin K9 (T8.trans T9))⟩⟩
   simp only [List.mem_cons,List.not_mem_nil,or_false] at hz
   rcases hz with rfl | rfl | rfl | rfl
   ·exact .str (by decide +kernel)
   ·exact .int _
   ·exact tbo.same T8
   ·exact to7.same T8
 obtain⟨y6,y7,y8,y9,rfl,bJ,pJ⟩:=h
 obtain⟨ys9,ey9⟩:=p9.lst
 refine⟨_,rfl,_,rfl,_,rfl,n,ts,wv,v,t,rfl,wo9.but bJ p9,t1,t99,(tv9.but bJ ey9).mono (by decide),fun K2 T2=>⟨_,rfl,iteF ?_⟩⟩
 exact⟨_,_,_,_,_,_,_,_,_,rfl,fun b o e=>T2 _ _ (bJ _ _ (fun x=>by rw[x,fl0] at e;cases e) (B9 _ _ (fun x=>by rw[x,fl0] at e;cases e) (s01 _ _ e)))⟩
end
end Me
namespace Me
open PySem PySem.Spec PyProof.Rows L2 L3
theorem def_mk {K:PySem.W.Frag} {h:Heap} {mg:Str->Option Value} {x:Str} {st:Stmt} {ps:List Str} {f:Addr} {od an:Option Addr} {sl:Array (Option Value)} {oc kV dc pm cd ct:Value} (X:K.In h) (G:h.Ns mainGlobals mg)
  (b:∀ (kV doc pm:Value) (an:Option Addr) (cdv ct:Value) (us:List Value),us.length=ps.length->bindArgs (PySem.W.fnOf x x (defArgs st) (defBody st) (defScope st) .none kV doc pm an cdv ct) ⟨us,[]⟩=pure (ps.zip us))
  (a:PySem.W.nsIn K mainGlobals x=some (some (.ref f))) (l:K.lookup f=some ⟨oc,od,.func (PySem.W.fnOf x x (defArgs st) (defBody st) (defScope st) .none kV dc pm an cd ct),sl⟩) (c:PySem.W.codeIn K cd x=true) (k:PySem.W.keepIn K (.ref f)=true):DefOk K mg x st ps:=by
 have F:=fun_mk (st:=st) l c k
 exact⟨f,_,F,F.binds b,PySem.W.mg_of X G a⟩
theorem dq {p:Program} {K:PySem.W.Frag} {h:Heap} {mg:Str->Option Value} {x:Str} {st:Stmt} {ps:List Str} (f c j u:Nat) (X:K.In h) (G:h.Ns mainGlobals mg)
  (b:∀ (kV doc pm:Value) (an:Option Addr) (cdv ct:Value) (us:List Value),us.length=ps.length->bindArgs (PySem.W.fnOf x x (defArgs st) (defBody st) (defScope st) .none kV doc pm an cdv ct) ⟨us,[]⟩=pure (ps.zip us))
  (a:PySem.W.nsIn K mainGlobals x=some (some (.ref f))) (l:K.lookup f=some ⟨.type "function",none,.func (PySem.W.fnOf x x (defArgs st) (defBody st) (defScope st) .none .none .none (Hx.mdV p ⟨0,0,0,j,u,0⟩) none (.ref c) .none),#[]⟩) (cc:PySem.W.codeIn K (.ref c) x=true) (k:PySem.W.keepIn K (.ref f)=true):DefOk K mg x st ps:=def_mk X G b a l cc k
theorem bd_is_whole (kV doc pm:Value) (an:Option Addr) (cdv ct:Value) (us:List Value) (hl:us.length=(["thing"]:List Str).length):bindArgs (PySem.W.fnOf "is_whole" "is_whole" (defArgs s_is_whole) (defBody s_is_whole) (defScope s_is_whole) .none kV doc pm an cdv ct) ⟨us,[]⟩=pure (List.zip (["thing"]:List Str) us):=match us,hl with | [_],_=>rfl
theorem bd_is_wholes (kV doc pm:Value) (an:Option Addr) (cdv ct:Value) (us:List Value) (hl:us.length=(["thing"]:List Str).length):bindArgs (PySem.W.fnOf "is_wholes" "is_wholes" (defArgs s_is_wholes) (defBody s_is_wholes) (defScope s_is_wholes) .none kV doc pm an cdv ct) ⟨us,[]⟩=pure (List.zip (["thing"]:List Str) us):=match us,hl with | [_],_=>rfl
theorem bd_is_tuple_of (kV doc pm:Value) (an:Option Addr) (cdv ct:Value) (us:List Value) (hl:us.length=(["thing","many"]:List Str).length):bindArgs (PySem.W.fnOf "is_tuple_of" "is_tuple_of" (defArgs s_is_tuple_of) (defBody s_is_tuple_of) (defScope s_is_tuple_of) .none kV doc pm an cdv ct) ⟨us,[]⟩=pure (List.zip (["thing","many"]:List Str) us):=match us,hl with | [_,_],_=>rfl
theorem bd_is_told (kV doc pm:Value) (an:Option Addr) (cdv ct:Value) (us:List Value) (hl:us.length=(["thing","word","many"]:List Str).length):bindArgs (PySem.W.fnOf "is_told" "is_told" (defArgs s_is_told) (defBody s_is_told) (defScope s_is_told) .none kV doc pm an cdv ct) ⟨us,[]⟩=pure (List.zip (["thing","word","many"]:List Str) us):=match us,hl with | [_,_,_],_=>rfl
theorem bd_is_tie_number (kV doc pm:Value) (an:Option Addr) (cdv ct:Value) (us:List Value) (hl:us.length=(["web","thing"]:List Str).length):bindArgs (PySem.W.fnOf "is_tie_number" "is_tie_number" (defArgs s_is_tie_number) (defBody s_is_tie_number) (defScope s_is_tie_number) .none kV doc pm an cdv ct) ⟨us,[]⟩=pure (List.zip (["web","thing"]:List Str) us):=match us,hl with | [_,_],_=>rfl
theorem bd_whole (kV doc pm:Value) (an:Option Addr) (cdv ct:Value) (us:List Value) (hl:us.length=(["web"]:List Str).length):bindArgs (PySem.W.fnOf "whole" "whole" (defArgs s_whole) (defBody s_whole) (defScope s_whole) .none kV doc pm an cdv ct) ⟨us,[]⟩=pure (List.zip (["web"]:List Str) us):=match us,hl with | [_],_=>rfl
theorem bd_across (kV doc pm:Value) (an:Option Addr) (cdv ct:Value) (us:List Value) (hl:us.length=(["web","tie","heights"]:List Str).length):bindArgs (PySem.W.fnOf "across" "across" (defArgs s_across) (defBody s_across) (defScope s_across) .none kV doc pm an cdv ct) ⟨us,[]⟩=pure (List.zip (["web","tie","heights"]:List Str) us):=match us,hl with | [_,_,_],_=>rfl
theorem bd_heights_hold (kV doc pm:Value) (an:Option Addr) (cdv ct:Value) (us:List Value) (hl:us.length=(["web","keep","heights"]:List Str).length):bindArgs (PySem.W.fnOf "heights_hold" "heights_hold" (defArgs s_heights_hold) (defBody s_heights_hold) (defScope s_heights_hold) .none kV doc pm an cdv ct) ⟨us,[]⟩=pure (List.zip (["web","keep","heights"]:List Str) us):=match us,hl with | [_,_,_],_=>rfl
theorem bd_need_times (kV doc pm:Value) (an:Option Addr) (cdv ct:Value) (us:List Value) (hl:us.length=(["t"]:List Str).length):bindArgs (PySem.W.fnOf "need_times" "need_times" (defArgs s_need_times) (defBody s_need_times) (defScope s_need_times) .none kV doc pm an cdv ct) ⟨us,[]⟩=pure (List.zip (["t"]:List Str) us):=match us,hl with | [_],_=>rfl
theorem bd_heights_beyond (kV doc pm:Value) (an:Option Addr) (cdv ct:Value) (us:List Value) (hl:us.length=(["web","keep","tie","t","heights"]:List Str).length):bindArgs (PySem.W.fnOf "heights_beyond" "heights_beyond" (defArgs s_heights_beyond) (defBody s_heights_beyond) (defScope s_heights_beyond) .none kV doc pm an cdv ct) ⟨us,[]⟩=pure (List.zip (["web","keep","tie","t","heights"]:List Str) us):=match us,hl with | [_,_,_,_,_],_=>rfl
theorem bd_ringless (kV doc pm:Value) (an:Option Addr) (cdv ct:Value) (us:List Value) (hl:us.length=(["web","ties"]:List Str).length):bindArgs (PySem.W.fnOf "ringless" "ringless" (defArgs s_ringless) (defBody s_ringless) (defScope s_ringless) .none kV doc pm an cdv ct) ⟨us,[]⟩=pure (List.zip (["web","ties"]:List Str) us):=match us,hl with | [_,_],_=>rfl
theorem bd_with_tie (kV doc pm:Value) (an:Option Addr) (cdv ct:Value) (us:List Value) (hl:us.length=(["keep","tie"]:List Str).length):bindArgs (PySem.W.fnOf "with_tie" "with_tie" (defArgs s_with_tie) (defBody s_with_tie) (defScope s_with_tie) .none kV doc pm an cdv ct) ⟨us,[]⟩=pure (List.zip (["keep","tie"]:List Str) us):=match us,hl with | [_,_],_=>rfl
theorem bd_kept_show (kV doc pm:Value) (an:Option Addr) (cdv ct:Value) (us:List Value) (hl:us.length=(["web","kept"]:List Str).length):bindArgs (PySem.W.fnOf "kept_show" "kept_show" (defArgs s_kept_show) (defBody s_kept_show) (defScope s_kept_show) .none kV doc pm an cdv ct) ⟨us,[]⟩=pure (List.zip (["web","kept"]:List Str) us):=match us,hl with | [_,_],_=>rfl
theorem bd_not_among (kV doc pm:Value) (an:Option Addr) (cdv ct:Value) (us:List Value) (hl:us.length=(["web","out"]:List Str).length):bindArgs (PySem.W.fnOf "not_among" "not_among" (defArgs s_not_among) (defBody s_not_among) (defScope s_not_among) .none kV doc pm an cdv ct) ⟨us,[]⟩=pure (List.zip (["web","out"]:List Str) us):=match us,hl with | [_,_],_=>rfl
theorem bd_far_show (kV doc pm:Value) (an:Option Addr) (cdv ct:Value) (us:List Value) (hl:us.length=(["web","t","out","tie","heights"]:List Str).length):bindArgs (PySem.W.fnOf "far_show" "far_show" (defArgs s_far_show) (defBody s_far_show) (defScope s_far_show) .none kV doc pm an cdv ct) ⟨us,[]⟩=pure (List.zip (["web","t","out","tie","heights"]:List Str) us):=match us,hl with | [_,_,_,_,_],_=>rfl
theorem bd_is_undecided (kV doc pm:Value) (an:Option Addr) (cdv ct:Value) (us:List Value) (hl:us.length=(["web","kept","out","tie"]:List Str).length):bindArgs (PySem.W.fnOf "is_undecided" "is_undecided" (defArgs s_is_undecided) (defBody s_is_undecided) (defScope s_is_undecided) .none kV doc pm an cdv ct) ⟨us,[]⟩=pure (List.zip (["web","kept","out","tie"]:List Str) us):=match us,hl with | [_,_,_,_],_=>rfl
theorem bd_shown (kV doc pm:Value) (an:Option Addr) (cdv ct:Value) (us:List Value) (hl:us.length=(["web","t","tree","kept","out"]:List Str).length):bindArgs (PySem.W.fnOf "shown" "shown" (defArgs s_shown) (defBody s_shown) (defScope s_shown) .none kV doc pm an cdv ct) ⟨us,[]⟩=pure (List.zip (["web","t","tree","kept","out"]:List Str) us):=match us,hl with | [_,_,_,_,_],_=>rfl
theorem bd_cases_show (kV doc pm:Value) (an:Option Addr) (cdv ct:Value) (us:List Value) (hl:us.length=(["web","t","tree"]:List Str).length):bindArgs (PySem.W.fnOf "cases_show" "cases_show" (defArgs s_cases_show) (defBody s_cases_show) (defScope s_cases_show) .none kV doc pm an cdv ct) ⟨us,[]⟩=pure (List.zip (["web","t","tree"]:List Str) us):=match us,hl with | [_,_,_],_=>rfl
theorem bd__law_pot (kV doc pm:Value) (an:Option Addr) (cdv ct:Value) (us:List Value) (hl:us.length=(["script","k"]:List Str).length):bindArgs (PySem.W.fnOf "_law_pot" "_law_pot" (defArgs s__law_pot) (defBody s__law_pot) (defScope s__law_pot) .none kV doc pm an cdv ct) ⟨us,[]⟩=pure (List.zip (["script","k"]:List Str) us):=match us,hl with | [_,_],_=>rfl
theorem bd__law_take (kV doc pm:Value) (an:Option Addr) (cdv ct:Value) (us:List Value) (hl:us.length=(["pot","many"]:List Str).length):bindArgs (PySem.W.fnOf "_law_take" "_law_take" (defArgs s__law_take) (defBody s__law_take) (defScope s__law_take) .none kV doc pm an cdv ct) ⟨us,[]⟩=pure (List.zip (["pot","many"]:List Str) us):=match us,hl with | [_,_],_=>rfl
theorem bd__law_length (kV doc pm:Value) (an:Option Addr) (cdv ct:Value) (us:List Value) (hl:us.length=(["pot","way"]:List Str).length):bindArgs (PySem.W.fnOf "_law_length" "_law_length" (defArgs s__law_length) (defBody s__law_length) (defScope s__law_length) .none kV doc pm an cdv ct) ⟨us,[]⟩=pure (List.zip (["pot","way"]:List Str) us):=match us,hl with | [_,_],_=>rfl
theorem bd__law_tied (kV doc pm:Value) (an:Option Addr) (cdv ct:Value) (us:List Value) (hl:us.length=(["pot","n","style","a","b"]:List Str).length):bindArgs (PySem.W.fnOf "_law_tied" "_law_tied" (defArgs s__law_tied) (defBody s__law_tied) (defScope s__law_tied) .none kV doc pm an cdv ct) ⟨us,[]⟩=pure (List.zip (["pot","n","style","a","b"]:List Str) us):=match us,hl with | [_,_,_,_,_],_=>rfl
theorem bd__law_order (kV doc pm:Value) (an:Option Addr) (cdv ct:Value) (us:List Value) (hl:us.length=(["pot","many"]:List Str).length):bindArgs (PySem.W.fnOf "_law_order" "_law_order" (defArgs s__law_order) (defBody s__law_order) (defScope s__law_order) .none kV doc pm an cdv ct) ⟨us,[]⟩=pure (List.zip (["pot","many"]:List Str) us):=match us,hl with | [_,_],_=>rfl
theorem bd__law_web (kV doc pm:Value) (an:Option Addr) (cdv ct:Value) (us:List Value) (hl:us.length=(["pot","most"]:List Str).length):bindArgs (PySem.W.fnOf "_law_web" "_law_web" (defArgs s__law_web) (defBody s__law_web) (defScope s__law_web) .none kV doc pm an cdv ct) ⟨us,[]⟩=pure (List.zip (["pot","most"]:List Str) us):=match us,hl with | [_,_],_=>rfl
theorem bd__law_fars (kV doc pm:Value) (an:Option Addr) (cdv ct:Value) (us:List Value) (hl:us.length=(["web","keep","start"]:List Str).length):bindArgs (PySem.W.fnOf "_law_fars" "_law_fars" (defArgs s__law_fars) (defBody s__law_fars) (defScope s__law_fars) .none kV doc pm an cdv ct) ⟨us,[]⟩=pure (List.zip (["web","keep","start"]:List Str) us):=match us,hl with | [_,_,_],_=>rfl
theorem bd__law_holds (kV doc pm:Value) (an:Option Addr) (cdv ct:Value) (us:List Value) (hl:us.length=(["web","keep","heights"]:List Str).length):bindArgs (PySem.W.fnOf "_law_holds" "_law_holds" (defArgs s__law_holds) (defBody s__law_holds) (defScope s__law_holds) .none kV doc pm an cdv ct) ⟨us,[]⟩=pure (List.zip (["web","keep","heights"]:List Str) us):=match us,hl with | [_,_,_],_=>rfl
theorem bd__law_parts (kV doc pm:Value) (an:Option Addr) (cdv ct:Value) (us:List Value) (hl:us.length=(["web","keep"]:List Str).length):bindArgs (PySem.W.fnOf "_law_parts" "_law_parts" (defArgs s__law_parts) (defBody s__law_parts) (defScope s__law_parts) .none kV doc pm an cdv ct) ⟨us,[]⟩=pure (List.zip (["web","keep"]:List Str) us):=match us,hl with | [_,_],_=>rfl
theorem bd__law_rest (kV doc pm:Value) (an:Option Addr) (cdv ct:Value) (us:List Value) (hl:us.length=(["web","left"]:List Str).length):bindArgs (PySem.W.fnOf "_law_rest" "_law_rest" (defArgs s__law_rest) (defBody s__law_rest) (defScope s__law_rest) .none kV doc pm an cdv ct) ⟨us,[]⟩=pure (List.zip (["web","left"]:List Str) us):=match us,hl with | [_,_],_=>rfl
theorem bd__law_is_number (kV doc pm:Value) (an:Option Addr) (cdv ct:Value) (us:List Value) (hl:us.length=(["thing"]:List Str).length):bindArgs (PySem.W.fnOf "_law_is_number" "_law_is_number" (defArgs s__law_is_number) (defBody s__law_is_number) (defScope s__law_is_number) .none kV doc pm an cdv ct) ⟨us,[]⟩=pure (List.zip (["thing"]:List Str) us):=match us,hl with | [_],_=>rfl
theorem bd__law_leaf (kV doc pm:Value) (an:Option Addr) (cdv ct:Value) (us:List Value) (hl:us.length=(["web","t","tree","left"]:List Str).length):bindArgs (PySem.W.fnOf "_law_leaf" "_law_leaf" (defArgs s__law_leaf) (defBody s__law_leaf) (defScope s__law_leaf) .none kV doc pm an cdv ct) ⟨us,[]⟩=pure (List.zip (["web","t","tree","left"]:List Str) us):=match us,hl with | [_,_,_,_],_=>rfl
theorem bd__law_shown (kV doc pm:Value) (an:Option Addr) (cdv ct:Value) (us:List Value) (hl:us.length=(["web","t","tree","kept","left"]:List Str).length):bindArgs (PySem.W.fnOf "_law_shown" "_law_shown" (defArgs s__law_shown) (defBody s__law_shown) (defScope s__law_shown) .none kV doc pm an cdv ct) ⟨us,[]⟩=pure (List.zip (["web","t","tree","kept","left"]:List Str) us):=match us,hl with | [_,_,_,_,_],_=>rfl
theorem bd__law_far_leaf (kV doc pm:Value) (an:Option Addr) (cdv ct:Value) (us:List Value) (hl:us.length=(["web","t","left","tie"]:List Str).length):bindArgs (PySem.W.fnOf "_law_far_leaf" "_law_far_leaf" (defArgs s__law_far_leaf) (defBody s__law_far_leaf) (defScope s__law_far_leaf) .none kV doc pm an cdv ct) ⟨us,[]⟩=pure (List.zip (["web","t","left","tie"]:List Str) us):=match us,hl with | [_,_,_,_],_=>rfl
theorem bd__law_tree (kV doc pm:Value) (an:Option Addr) (cdv ct:Value) (us:List Value) (hl:us.length=(["pot","web","t","kept","left","deep"]:List Str).length):bindArgs (PySem.W.fnOf "_law_tree" "_law_tree" (defArgs s__law_tree) (defBody s__law_tree) (defScope s__law_tree) .none kV doc pm an cdv ct) ⟨us,[]⟩=pure (List.zip (["pot","web","t","kept","left","deep"]:List Str) us):=match us,hl with | [_,_,_,_,_,_],_=>rfl
theorem bd__law_times (kV doc pm:Value) (an:Option Addr) (cdv ct:Value) (us:List Value) (hl:us.length=(["pot"]:List Str).length):bindArgs (PySem.W.fnOf "_law_times" "_law_times" (defArgs s__law_times) (defBody s__law_times) (defScope s__law_times) .none kV doc pm an cdv ct) ⟨us,[]⟩=pure (List.zip (["pot"]:List Str) us):=match us,hl with | [_],_=>rfl
theorem bd__law_road (kV doc pm:Value) (an:Option Addr) (cdv ct:Value) (us:List Value) (hl:us.length=(["pot","tree"]:List Str).length):bindArgs (PySem.W.fnOf "_law_road" "_law_road" (defArgs s__law_road) (defBody s__law_road) (defScope s__law_road) .none kV doc pm an cdv ct) ⟨us,[]⟩=pure (List.zip (["pot","tree"]:List Str) us):=match us,hl with | [_,_],_=>rfl
theorem bd__law_at (kV doc pm:Value) (an:Option Addr) (cdv ct:Value) (us:List Value) (hl:us.length=(["tree","road"]:List Str).length):bindArgs (PySem.W.fnOf "_law_at" "_law_at" (defArgs s__law_at) (defBody s__law_at) (defScope s__law_at) .none kV doc pm an cdv ct) ⟨us,[]⟩=pure (List.zip (["tree","road"]:List Str) us):=match us,hl with | [_,_],_=>rfl
theorem bd__law_put (kV doc pm:Value) (an:Option Addr) (cdv ct:Value) (us:List Value) (hl:us.length=(["tree","road","other"]:List Str).length):bindArgs (PySem.W.fnOf "_law_put" "_law_put" (defArgs s__law_put) (defBody s__law_put) (defScope s__law_put) .none kV doc pm an cdv ct) ⟨us,[]⟩=pure (List.zip (["tree","road","other"]:List Str) us):=match us,hl with | [_,_,_],_=>rfl
theorem bd__law_heights_off (kV doc pm:Value) (an:Option Addr) (cdv ct:Value) (us:List Value) (hl:us.length=(["pot","heights"]:List Str).length):bindArgs (PySem.W.fnOf "_law_heights_off" "_law_heights_off" (defArgs s__law_heights_off) (defBody s__law_heights_off) (defScope s__law_heights_off) .none kV doc pm an cdv ct) ⟨us,[]⟩=pure (List.zip (["pot","heights"]:List Str) us):=match us,hl with | [_,_],_=>rfl
theorem bd__law_tie_off (kV doc pm:Value) (an:Option Addr) (cdv ct:Value) (us:List Value) (hl:us.length=(["pot","web","tie"]:List Str).length):bindArgs (PySem.W.fnOf "_law_tie_off" "_law_tie_off" (defArgs s__law_tie_off) (defBody s__law_tie_off) (defScope s__law_tie_off) .none kV doc pm an cdv ct) ⟨us,[]⟩=pure (List.zip (["pot","web","tie"]:List Str) us):=match us,hl with | [_,_,_],_=>rfl
theorem bd__law_case_off (kV doc pm:Value) (an:Option Addr) (cdv ct:Value) (us:List Value) (hl:us.length=(["pot","web","case"]:List Str).length):bindArgs (PySem.W.fnOf "_law_case_off" "_law_case_off" (defArgs s__law_case_off) (defBody s__law_case_off) (defScope s__law_case_off) .none kV doc pm an cdv ct) ⟨us,[]⟩=pure (List.zip (["pot","web","case"]:List Str) us):=match us,hl with | [_,_,_],_=>rfl
theorem bd__law_right (kV doc pm:Value) (an:Option Addr) (cdv ct:Value) (us:List Value) (hl:us.length=(["web","t","tree"]:List Str).length):bindArgs (PySem.W.fnOf "_law_right" "_law_right" (defArgs s__law_right) (defBody s__law_right) (defScope s__law_right) .none kV doc pm an cdv ct) ⟨us,[]⟩=pure (List.zip (["web","t","tree"]:List Str) us):=match us,hl with | [_,_,_],_=>rfl
theorem law_all {P:Program} {w:World} {K:PySem.W.Frag} {mg:Str->Option Value} {base:Heap} {f:Addr} {fd:FuncData} (T:Bi mg)
  (D_is_whole:DefOk K mg "is_whole" s_is_whole ["thing"])
  (D_is_wholes:DefOk K mg "is_wholes" s_is_wholes ["thing"])
  (D_is_tuple_of:DefOk K mg "is_tuple_of" s_is_tuple_of ["thing","many"])
  (D_is_told:DefOk K mg "is_told" s_is_told ["thing","word","many"])
  (D_is_tie_number:DefOk K mg "is_tie_number" s_is_tie_number ["web","thing"])
  (D_whole:DefOk K mg "whole" s_whole ["web"])
  (D_across:DefOk K mg "across" s_across ["web","tie","heights"])
  (D_heights_hold:DefOk K mg "heights_hold" s_heights_hold ["web","keep","heights"])
  (D_need_times:DefOk K mg "need_times" s_need_times ["t"])
  (D_heights_beyond:DefOk K mg "heights_beyond" s_heights_beyond ["web","keep","tie","t","heights"])
  (D_ringless:DefOk K mg "ringless" s_ringless ["web","ties"])
  (D_with_tie:DefOk K mg "with_tie" s_with_tie ["keep","tie"])
  (D_kept_show:DefOk K mg "kept_show" s_kept_show ["web","kept"])
  (D_not_among:DefOk K mg "not_among" s_not_among ["web","out"])
  (D_far_show:DefOk K mg "far_show" s_far_show ["web","t","out","tie","heights"])
  (D_is_undecided:DefOk K mg "is_undecided" s_is_undecided ["web","kept","out","tie"])
  (D_shown:DefOk K mg "shown" s_shown ["web","t","tree","kept","out"])
  (D_cases_show:DefOk K mg "cases_show" s_cases_show ["web","t","tree"])
  (D__law_pot:DefOk K mg "_law_pot" s__law_pot ["script","k"])
  (D__law_take:DefOk K mg "_law_take" s__law_take ["pot","many"])
  (D__law_length:DefOk K mg "_law_length" s__law_length ["pot","way"])
  (D__law_tied:DefOk K mg "_law_tied" s__law_tied ["pot","n","style","a","b"])
  (D__law_order:DefOk K mg "_law_order" s__law_order ["pot","many"])
  (D__law_web:DefOk K mg "_law_web" s__law_web ["pot","most"])
  (D__law_fars:DefOk K mg "_law_fars" s__law_fars ["web","keep","start"])
  (D__law_holds:DefOk K mg "_law_holds" s__law_holds ["web","keep","heights"])
  (D__law_parts:DefOk K mg "_law_parts" s__law_parts ["web","keep"])
  (D__law_rest:DefOk K mg "_law_rest" s__law_rest ["web","left"])
  (D__law_is_number:DefOk K mg "_law_is_number" s__law_is_number ["thing"])
  (D__law_leaf:DefOk K mg "_law_leaf" s__law_leaf ["web","t","tree","left"])
  (D__law_shown:DefOk K mg "_law_shown" s__law_shown ["web","t","tree","kept","left"])
  (D__law_far_leaf:DefOk K mg "_law_far_leaf" s__law_far_leaf ["web","t","left","tie"])
  (D__law_tree:DefOk K mg "_law_tree" s__law_tree ["pot","web","t","kept","left","deep"])
  (D__law_times:DefOk K mg "_law_times" s__law_times ["pot"])
  (D__law_road:DefOk K mg "_law_road" s__law_road ["pot","tree"])
  (D__law_at:DefOk K mg "_law_at" s__law_at ["tree","road"])
  (D__law_put:DefOk K mg "_law_put" s__law_put ["tree","road","other"])
  (D__law_heights_off:DefOk K mg "_law_heights_off" s__law_heights_off ["pot","heights"])
  (D__law_tie_off:DefOk K mg "_law_tie_off" s__law_tie_off ["pot","web","tie"])
  (D__law_case_off:DefOk K mg "_law_case_off" s__law_case_off ["pot","web","case"])
  (D__law_right:DefOk K mg "_law_right" s__law_right ["web","t","tree"])
  (F:Fun K "law" "law" s_law f fd):FnOk P w K mg base CX0 50 f fd ["script"] (spLaw K):=by
 have O__law_take:=ok__law_take (P:=P) (w:=w) (base:=base) T D__law_take
 have O__law_pot:=ok__law_pot (P:=P) (w:=w) (base:=base) T D__law_pot
 have O__law_length:=ok__law_length T D__law_length O__law_take
 have O__law_tied:=ok__law_tied T D__law_tied O__law_take
 have O__law_order:=ok__law_order T D__law_order O__law_take
 have O__law_web:=ok__law_web T D__law_web (O__law_take.mono (by decide)) O__law_order O__law_tied O__law_length
 have O_is_whole:=ok_is_whole (P:=P) (w:=w) (base:=base) T D_is_whole
 have O_is_wholes:=ok_is_wholes T D_is_wholes O_is_whole
 have O_is_tuple_of:=ok_is_tuple_ofD (P:=P) (w:=w) (base:=base) T D_is_tuple_of
 have O_is_told:=ok_is_toldD T D_is_told O_is_tuple_of
 have O_is_tie_number:=ok_is_tie_number T D_is_tie_number O_is_whole
 have O_whole:=ok_whole (P:=P) (w:=w) (base:=base) T D_whole
 have O_across:=ok_across (P:=P) (w:=w) (base:=base) T D_across
 have O_heights_hold:=ok_heights_holdD T D_heights_hold O_is_wholes (O_across.mono (by decide))
 have O_heights_beyond:=ok_heights_beyondD T D_heights_beyond O_heights_hold (O_across.mono (by decide))
 have O_need_times:=ok_need_times T D_need_times O_is_whole
 have O_ringless:=ok_ringless (P:=P) (w:=w) (base:=base) T D_ringless
 have O_with_tie:=ok_with_tie (P:=P) (w:=w) (base:=base) T D_with_tie
 have O_kept_show:=ok_kept_show T D_kept_show O_whole O_ringless
 have O_not_among:=ok_not_among T D_not_among O_whole
 have O_far_show:=ok_far_show T D_far_show (O_is_tie_number.mono (by decide)) (O_not_among.mono (by decide)) O_heights_beyond
 have O_is_undecided:=ok_is_undecided T D_is_undecided O_is_tie_number
 have O_shown:=ok_shown (j:=5) T D_shown (O_is_told.mono (by decide)) (O_kept_show.mono (by decide)) O_far_show (O_is_undecided.mono (by decide)) (O_with_tie.mono (by decide)) 40
 have O_cases_show:=ok_cases_show (j:=46) T D_cases_show (O_need_times.mono (by decide)) O_shown
 have O__law_is_number:=ok__law_is_number (P:=P) (w:=w) (base:=base) T D__law_is_number
 have O__law_rest:=ok__law_rest (P:=P) (w:=w) (base:=base) T D__law_rest
 have O__law_holds:=ok__law_holds (P:=P) (w:=w) (base:=base) T D__law_holds
 have O__law_parts:=ok__law_parts40 (P:=P) (w:=w) (base:=base) T D__law_parts
 have O__law_leaf:=ok__law_leaf T D__law_leaf O__law_is_number O__law_rest O__law_holds
 have O__law_shown:=ok__law_shown40 (j:=2) T D__law_shown (O__law_parts.mono (by decide)) (O__law_rest.mono (by decide)) O__law_leaf (O__law_is_number.mono (by decide)) 40
 have O__law_fars:=ok__law_farsL (P:=P) (w:=w) (base:=base) T D__law_fars
 have O__law_far_leaf:=ok__law_far_leaf T D__law_far_leaf O__law_rest O__law_fars
 have O__law_tree:=ok__law_tree40 (j:=2) T D__law_tree (O__law_take.mono (by decide)) (O__law_rest.mono (by decide)) O__law_far_leaf 5
 have O__law_times:=ok__law_times40 T D__law_times O__law_take
 have O__law_right:=ok__law_right41 (j:=47) T D__law_right (O__law_shown.mono (by decide)) O_cases_show (O__law_is_number.mono (by decide))
 have O__law_road:=ok__law_road T D__law_road O__law_take
 have O__law_at:=ok__law_at (P:=P) (w:=w) (base:=base) T D__law_at
 have O__law_put:=ok__law_put41 (P:=P) (w:=w) (base:=base) T D__law_put 6
 have O__law_tie_off:=ok__law_tie_off T D__law_tie_off O__law_take
 have O__law_heights_off:=ok__law_heights_off T D__law_heights_off O__law_take
 have O__law_case_off:=ok__law_case_off T D__law_case_off (O__law_take.mono (by decide)) O__law_tie_off O__law_heights_off
 exact ok_law T F (O__law_pot.mono (by decide)) (O__law_web.mono (by decide)) (O__law_take.mono (by decide)) (O__law_times.mono (by decide)) (O__law_tree.mono (by decide)) (O__law_road.mono (by decide)) (O__law_at.mono (by decide)) (O__law_put.mono (by decide)) (O__law_case_off.mono (by decide)) (O__law_right.mono (by decide))
theorem walk {l:PySem.W.OpenLaw} {q:Program} {loose:List Str} {XP:(Str->Option Value)->Heap->Prop} {YP:World->Heap->Prop} {d:DefRec} {K:Params->PySem.W.Frag} (hn:l.most=some 63) (hdf:d.params.defaults=[])
  (hY:∀ (w:World) (h:Heap),YP w h->(K w.params).In h)
  (F:∀ (w:World) (mg:Str->Option Value) (fa:Addr) (h:Heap),(K w.params).In h->h.Ns mainGlobals mg->mg d.name=some (.ref fa) ->
   ∃ fd:FuncData,(∀ (s:Shared) (u:Value),BindsTo s fd ⟨[u],[]⟩ [("script",u)])∧∀ base:Heap,(K w.params).In base->base.Ns mainGlobals mg->FnOk l.prog w (K w.params) mg base CX0 50 fa fd ["script"] (spLaw (K w.params))) :
  PySem.W.WalkO q loose XP YP l.row.toRowW d [] (fun f vs=>PySem.call f vs) :=
 L2.walk_of (n:=63) (k:=50) (x:="script") (CX:=fun _=>CX0) (sp:=fun w=>spLaw (K w.params)) hn (by decide) hdf ⟨rfl,by decide,by decide,rfl⟩ hY F (fun _ _ a ns hl _ hS=>⟨a,ns,rfl,hS,hl,fun _=>rfl⟩) fun _ _ _ _ _ z=>z
end Me
namespace Hy
open PySem PySem.W Hx
def cs:List Ch:=[⟨0,15,187,0,187,0⟩,⟨1,15,189,0,187,0⟩,⟨2,22,196,0,187,0⟩,⟨3,27,202,0,187,0⟩,⟨4,34,210,0,187,0⟩,⟨5,41,219,5,219,0⟩,⟨6,41,221,5,219,0⟩,⟨7,54,239,5,219,50⟩,⟨8,66,255,8,255,0⟩,⟨9,66,257,8,255,0⟩,⟨10,73,265,8,255,0⟩,⟨11,80,272,11,272,0⟩,⟨12,80,274,11,272,0⟩,⟨13,87,286,11,272,0⟩,⟨14,92,292,14,292,0⟩,⟨15,92,294,14,292,0⟩,⟨16,99,301,14,292,0⟩,⟨17,106,312,17,312,0⟩,⟨18,106,314,17,312,0⟩,⟨19,111,320,19,320,0⟩,⟨20,111,322,19,320,0⟩,⟨21,118,330,21,330,0⟩,⟨22,118,332,21,330,0⟩,⟨23,125,340,21,330,0⟩,⟨24,130,346,21,330,0⟩,⟨25,137,357,21,330,0⟩,⟨26,144,367,21,330,0⟩,⟨27,151,380,21,330,0⟩,⟨28,158,389,28,389,0⟩,⟨29,158,391,28,389,0⟩,⟨30,165,401,28,389,0⟩,⟨31,172,410,28,389,0⟩,⟨32,179,418,28,389,0⟩,⟨33,186,430,28,389,0⟩,⟨34,193,441,28,389,0⟩,⟨35,200,458,28,389,0⟩,⟨36,207,476,28,389,0⟩,⟨37,214,489,28,389,0⟩,⟨38,219,495,28,389,0⟩,⟨39,224,501,28,389,0⟩,⟨40,231,508,28,389,0⟩,⟨41,236,514,28,389,0⟩,⟨42,243,528,28,389,0⟩,⟨43,248,534,28,389,0⟩,⟨44,253,540,28,389,0⟩,⟨45,260,547,28,389,0⟩,⟨46,267,556,28,389,0⟩,⟨47,274,565,28,389,0⟩,⟨48,281,575,28,389,0⟩,⟨49,286,581,28,389,0⟩,⟨50,293,590,28,389,0⟩,⟨51,300,602,28,389,0⟩,⟨52,307,613,28,389,0⟩]
end Hy
lay_quick Hx.PieceT Hx.PreT Hx.BlockT Hx.LookA Hx.LookB Hx.LookC PySem.Challenge.pw_thinways_k41_trees_spoilt
namespace Hy
open PySem PySem.W Hx
theorem pre:PreT PySem.Challenge.pw_thinways_k41_trees_spoilt boots boot_drawn boot_heap boot_toks cs ⟨0,15,187⟩:=by
 rw[PySem.W.Fast.te16428918119715843241,PySem.W.Fast.te17911713962286022663];delta PySem.W.Fast.tw16428918119715843241;intro w;kernel_rfl
theorem pc0:PieceT PySem.Challenge.pw_thinways_k41_trees_spoilt boots boot_drawn cs ⟨0,15,187⟩ ⟨7,54,239⟩ 321:=by
 rw[PySem.W.Fast.te4643275101561185336,PySem.W.Fast.te17911713962286022663];delta PySem.W.Fast.tw4643275101561185336;intro w;kernel_rfl
theorem pc1:PieceT PySem.Challenge.pw_thinways_k41_trees_spoilt boots boot_drawn cs ⟨7,54,239⟩ ⟨16,99,301⟩ 389:=by
 rw[PySem.W.Fast.te4643275101561185336,PySem.W.Fast.te17911713962286022663];delta PySem.W.Fast.tw4643275101561185336;intro w;kernel_rfl
theorem pc2:PieceT PySem.Challenge.pw_thinways_k41_trees_spoilt boots boot_drawn cs ⟨16,99,301⟩ ⟨31,172,410⟩ 376:=by
 rw[PySem.W.Fast.te4643275101561185336,PySem.W.Fast.te17911713962286022663];delta PySem.W.Fast.tw4643275101561185336;intro w;kernel_rfl
theorem pc3:PieceT PySem.Challenge.pw_thinways_k41_trees_spoilt boots boot_drawn cs ⟨31,172,410⟩ ⟨43,248,534⟩ 381:=by
 rw[PySem.W.Fast.te4643275101561185336,PySem.W.Fast.te17911713962286022663];delta PySem.W.Fast.tw4643275101561185336;intro w;kernel_rfl
theorem pc4:PieceT PySem.Challenge.pw_thinways_k41_trees_spoilt boots boot_drawn cs ⟨43,248,534⟩ ⟨53,314,629⟩ 312:=by
 rw[PySem.W.Fast.te4643275101561185336,PySem.W.Fast.te17911713962286022663];delta PySem.W.Fast.tw4643275101561185336;intro w;kernel_rfl
theorem blk:BlockT PySem.Challenge.pw_thinways_k41_trees_spoilt :=by
 rw[PySem.W.Fast.te421534021395069552,PySem.W.Fast.te17911713962286022663];delta PySem.W.Fast.tw421534021395069552;intro w s;kernel_rfl
theorem run (w:World) (os:OsState):topRun treeTable PySem.Challenge.pw_thinways_k41_trees_spoilt w 11 ann0 (12 + (1 + (321 + (389 + (376 + (381 + (312 + 2))))))) ⟨boot_heap w.params,Array.mk [],boot_drawn,boot_toks,os⟩ (topStub PySem.Challenge.pw_thinways_k41_trees_spoilt)=some (stT PySem.Challenge.pw_thinways_k41_trees_spoilt boots boot_drawn cs ⟨53,314,629⟩ w os).abs:=run_all pre blk (chain pc0 (by decide) (chain pc1 (by decide) (chain pc2 (by decide) (chain pc3 (by decide) (chain pc4 (by decide) (chain_end (by kernel_rfl)))))))
theorem size (w:World):((boot_heap w.params).isNs mainGlobals && (Array.mk []:Array GenState).size == 0,(boot_heap w.params).objs.size,(boot_heap w.params).nsMap mainGlobals "__annotations__")=(true,11,ann0):=by kernel_rfl
theorem lkA:LookA PySem.Challenge.pw_thinways_k41_trees_spoilt boots boot_drawn boot_heap cs ⟨53,314,629⟩:=by
 rw[PySem.W.Fast.te7818774390570169022,PySem.W.Fast.te17911713962286022663];delta PySem.W.Fast.tw7818774390570169022;intro w;kernel_rfl
theorem lkB:LookB PySem.Challenge.pw_thinways_k41_trees_spoilt boots boot_drawn cs ⟨53,314,629⟩ [52] (OpenRow.toRowW (PySem.Challenge.rw_thinways_k41_trees_spoilt).row).records:=by
 rw[PySem.W.Fast.te13889730532244352606,PySem.W.Fast.te17911713962286022663];delta PySem.W.Fast.tw13889730532244352606;intro w;kernel_rfl
theorem lkC:LookC PySem.Challenge.pw_thinways_k41_trees_spoilt boots cs ⟨53,314,629⟩ [3,20,21,25,26,32,33,39,40,49,50,62,63,71,72,78,79,85,86,90,91,97,98,104,105,109,110,116,117,123,124,128,129,135,136,142,143,149,150,156,157,163,164,170,171,177,178,184,185,191,192,198,199,205,206,212,213,217,218,222,223,229,230,234,235,241,242,246,247,251,252,258,259,265,266,272,273,279,280,284,285,291,292,298,299,305,306,312,313]:=by
 rw[PySem.W.Fast.te6241646928739474683,PySem.W.Fast.te17911713962286022663];delta PySem.W.Fast.tw6241646928739474683;intro w;kernel_rfl
noncomputable abbrev K:=Kf PySem.Challenge.pw_thinways_k41_trees_spoilt boots cs
theorem Kas (P:Params):[3,20,21,25,26,32,33,39,40,49,50,62,63,71,72,78,79,85,86,90,91,97,98,104,105,109,110,116,117,123,124,128,129,135,136,142,143,149,150,156,157,163,164,170,171,177,178,184,185,191,192,198,199,205,206,212,213,217,218,222,223,229,230,234,235,241,242,246,247,251,252,258,259,265,266,272,273,279,280,284,285,291,292,298,299,305,306,312,313]=(K P).map (·.1):=by kernel_rfl
noncomputable abbrev H:Hook:=kHook K [3,20,21,25,26,32,33,39,40,49,50,62,63,71,72,78,79,85,86,90,91,97,98,104,105,109,110,116,117,123,124,128,129,135,136,142,143,149,150,156,157,163,164,170,171,177,178,184,185,191,192,198,199,205,206,212,213,217,218,222,223,229,230,234,235,241,242,246,247,251,252,258,259,265,266,272,273,279,280,284,285,291,292,298,299,305,306,312,313] Kas
theorem opn:opening PySem.Challenge.pw_thinways_k41_trees_spoilt=plainProg (PySem.Challenge.pw_thinways_k41_trees_spoilt).main.scope.names:=by kernel_rfl
theorem fnc (s:Shared):fenceModules? PySem.Challenge.pw_thinways_k41_trees_spoilt s=some s:=by kernel_rfl
theorem left:LeftO PySem.Challenge.pw_thinways_k41_trees_spoilt (qv PySem.Challenge.pw_thinways_k41_trees_spoilt [52]) (lz PySem.Challenge.pw_thinways_k41_trees_spoilt [52] 53) (fun s=>xlAt (qv PySem.Challenge.pw_thinways_k41_trees_spoilt [52]) [] s && recOk (OpenRow.toRowW (PySem.Challenge.rw_thinways_k41_trees_spoilt).row).records s) (Hook.obs H) (Hook.val H) 4188 :=
 left_of (p:=PySem.Challenge.pw_thinways_k41_trees_spoilt) (cs:=cs) (is:=[52]) (as:=[3,20,21,25,26,32,33,39,40,49,50,62,63,71,72,78,79,85,86,90,91,97,98,104,105,109,110,116,117,123,124,128,129,135,136,142,143,149,150,156,157,163,164,170,171,177,178,184,185,191,192,198,199,205,206,212,213,217,218,222,223,229,230,234,235,241,242,246,247,251,252,258,259,265,266,272,273,279,280,284,285,291,292,298,299,305,306,312,313]) (rc:=(OpenRow.toRowW (PySem.Challenge.rw_thinways_k41_trees_spoilt).row).records) (c:=⟨53,314,629⟩) (M:=12 + (1 + (321 + (389 + (376 + (381 + (312 + 2))))))) (N:=4188) (e:=Kas) opn (by decide) fnc size run (by decide) lkA lkB lkC
end Hy
namespace Hy
open PySem PySem.W PyProof.Rows L2 L3 Hx Me
theorem all {w:World} {h:Heap} {mg:Str->Option Value} {fa:Addr} (X:(K w.params).In h) (G:h.Ns mainGlobals mg) (hfa:mg "law"=some (.ref fa)) :
  ∃ fd:FuncData,(∀ (s:Shared) (v:Value),BindsTo s fd ⟨[v],[]⟩ [("script",v)])∧∀ base:Heap,(K w.params).In base->base.Ns mainGlobals mg->FnOk (PySem.Challenge.rw_thinways_k41_trees_spoilt).prog w (K w.params) mg base CX0 50 fa fd ["script"] (spLaw (K w.params)):=by
 have T:Bi mg:=⟨PySem.W.mg_none_of X G (show PySem.W.nsIn (K w.params) mainGlobals "len"=some none by kernel_rfl),PySem.W.mg_none_of X G (show PySem.W.nsIn (K w.params) mainGlobals "range"=some none by kernel_rfl),PySem.W.mg_none_of X G (show PySem.W.nsIn (K w.params) mainGlobals "zip"=some none by kernel_rfl),PySem.W.mg_none_of X G (show PySem.W.nsIn (K w.params) mainGlobals "all"=some none by kernel_rfl),PySem.W.mg_none_of X G (show PySem.W.nsIn (K w.params) mainGlobals "sorted"=some none by kernel_rfl),PySem.W.mg_none_of X G (show PySem.W.nsIn (K w.params) mainGlobals "isinstance"=some none by kernel_rfl),PySem.W.mg_none_of X G (show PySem.W.nsIn (K w.params) mainGlobals "min"=some none by kernel_rfl),PySem.W.mg_none_of X G (show PySem.W.nsIn (K w.params) mainGlobals "max"=some none by kernel_rfl),PySem.W.mg_none_of X G (show PySem.W.nsIn (K w.params) mainGlobals "tuple"=some none by kernel_rfl),PySem.W.mg_none_of X G (show PySem.W.nsIn (K w.params) mainGlobals "list"=some none by kernel_rfl),PySem.W.mg_none_of X G (show PySem.W.nsIn (K w.params) mainGlobals "int"=some none by kernel_rfl),PySem.W.mg_none_of X G (show PySem.W.nsIn (K w.params) mainGlobals "bool"=some none by kernel_rfl),PySem.W.mg_none_of X G (show PySem.W.nsIn (K w.params) mainGlobals "str"=some none by kernel_rfl),PySem.W.mg_none_of X G (show PySem.W.nsIn (K w.params) mainGlobals "enumerate"=some none by kernel_rfl),PySem.W.mg_none_of X G (show PySem.W.nsIn (K w.params) mainGlobals "sum"=some none by kernel_rfl),PySem.W.mg_none_of X G (show PySem.W.nsIn (K w.params) mainGlobals "abs"=some none by kernel_rfl),PySem.W.mg_none_of X G (show PySem.W.nsIn (K w.params) mainGlobals "set"=some none by kernel_rfl),PySem.W.mg_none_of X G (show PySem.W.nsIn (K w.params) mainGlobals "reversed"=some none by kernel_rfl),PySem.W.mg_none_of X G (show PySem.W.nsIn (K w.params) mainGlobals "any"=some none by kernel_rfl),PySem.W.mg_none_of X G (show PySem.W.nsIn (K w.params) mainGlobals "repr"=some none by kernel_rfl),PySem.W.mg_none_of X G (show PySem.W.nsIn (K w.params) mainGlobals "dict"=some none by kernel_rfl)⟩
 have D_is_whole:=dq (p:=PySem.Challenge.pw_thinways_k41_trees_spoilt) (ps:=["thing"]) 21 20 0 187 X G bd_is_whole (by kernel_rfl) (by kernel_rfl) (by kernel_rfl) (by kernel_rfl)
 have D_is_wholes:=dq (p:=PySem.Challenge.pw_thinways_k41_trees_spoilt) (ps:=["thing"]) 26 25 0 187 X G bd_is_wholes (by kernel_rfl) (by kernel_rfl) (by kernel_rfl) (by kernel_rfl)
 have D_is_tuple_of:=dq (p:=PySem.Challenge.pw_thinways_k41_trees_spoilt) (ps:=["thing","many"]) 33 32 0 187 X G bd_is_tuple_of (by kernel_rfl) (by kernel_rfl) (by kernel_rfl) (by kernel_rfl)
 have D_is_told:=dq (p:=PySem.Challenge.pw_thinways_k41_trees_spoilt) (ps:=["thing","word","many"]) 40 39 0 187 X G bd_is_told (by kernel_rfl) (by kernel_rfl) (by kernel_rfl) (by kernel_rfl)
 have D_is_tie_number:=dq (p:=PySem.Challenge.pw_thinways_k41_trees_spoilt) (ps:=["web","thing"]) 72 71 8 255 X G bd_is_tie_number (by kernel_rfl) (by kernel_rfl) (by kernel_rfl) (by kernel_rfl)
 have D_whole:=dq (p:=PySem.Challenge.pw_thinways_k41_trees_spoilt) (ps:=["web"]) 79 78 8 255 X G bd_whole (by kernel_rfl) (by kernel_rfl) (by kernel_rfl) (by kernel_rfl)
 have D_across:=dq (p:=PySem.Challenge.pw_thinways_k41_trees_spoilt) (ps:=["web","tie","heights"]) 86 85 11 272 X G bd_across (by kernel_rfl) (by kernel_rfl) (by kernel_rfl) (by kernel_rfl)
 have D_heights_hold:=dq (p:=PySem.Challenge.pw_thinways_k41_trees_spoilt) (ps:=["web","keep","heights"]) 91 90 11 272 X G bd_heights_hold (by kernel_rfl) (by kernel_rfl) (by kernel_rfl) (by kernel_rfl)
 have D_need_times:=dq (p:=PySem.Challenge.pw_thinways_k41_trees_spoilt) (ps:=["t"]) 98 97 14 292 X G bd_need_times (by kernel_rfl) (by kernel_rfl) (by kernel_rfl) (by kernel_rfl)
 have D_heights_beyond:=dq (p:=PySem.Challenge.pw_thinways_k41_trees_spoilt) (ps:=["web","keep","tie","t","heights"]) 105 104 14 292 X G bd_heights_beyond (by kernel_rfl) (by kernel_rfl) (by kernel_rfl) (by kernel_rfl)
 have D_ringless:=dq (p:=PySem.Challenge.pw_thinways_k41_trees_spoilt) (ps:=["web","ties"]) 110 109 17 312 X G bd_ringless (by kernel_rfl) (by kernel_rfl) (by kernel_rfl) (by kernel_rfl)
 have D_with_tie:=dq (p:=PySem.Challenge.pw_thinways_k41_trees_spoilt) (ps:=["keep","tie"]) 117 116 19 320 X G bd_with_tie (by kernel_rfl) (by kernel_rfl) (by kernel_rfl) (by kernel_rfl)
 have D_kept_show:=dq (p:=PySem.Challenge.pw_thinways_k41_trees_spoilt) (ps:=["web","kept"]) 124 123 21 330 X G bd_kept_show (by kernel_rfl) (by kernel_rfl) (by kernel_rfl) (by kernel_rfl)
 have D_not_among:=dq (p:=PySem.Challenge.pw_thinways_k41_trees_spoilt) (ps:=["web","out"]) 129 128 21 330 X G bd_not_among (by kernel_rfl) (by kernel_rfl) (by kernel_rfl) (by kernel_rfl)
 have D_far_show:=dq (p:=PySem.Challenge.pw_thinways_k41_trees_spoilt) (ps:=["web","t","out","tie","heights"]) 136 135 21 330 X G bd_far_show (by kernel_rfl) (by kernel_rfl) (by kernel_rfl) (by kernel_rfl)
 have D_is_undecided:=dq (p:=PySem.Challenge.pw_thinways_k41_trees_spoilt) (ps:=["web","kept","out","tie"]) 143 142 21 330 X G bd_is_undecided (by kernel_rfl) (by kernel_rfl) (by kernel_rfl) (by kernel_rfl)
 have D_shown:=dq (p:=PySem.Challenge.pw_thinways_k41_trees_spoilt) (ps:=["web","t","tree","kept","out"]) 150 149 21 330 X G bd_shown (by kernel_rfl) (by kernel_rfl) (by kernel_rfl) (by kernel_rfl)
 have D_cases_show:=dq (p:=PySem.Challenge.pw_thinways_k41_trees_spoilt) (ps:=["web","t","tree"]) 157 156 21 330 X G bd_cases_show (by kernel_rfl) (by kernel_rfl) (by kernel_rfl) (by kernel_rfl)
 have D__law_pot:=dq (p:=PySem.Challenge.pw_thinways_k41_trees_spoilt) (ps:=["script","k"]) 164 163 28 389 X G bd__law_pot (by kernel_rfl) (by kernel_rfl) (by kernel_rfl) (by kernel_rfl)
 have D__law_take:=dq (p:=PySem.Challenge.pw_thinways_k41_trees_spoilt) (ps:=["pot","many"]) 171 170 28 389 X G bd__law_take (by kernel_rfl) (by kernel_rfl) (by kernel_rfl) (by kernel_rfl)
 have D__law_length:=dq (p:=PySem.Challenge.pw_thinways_k41_trees_spoilt) (ps:=["pot","way"]) 178 177 28 389 X G bd__law_length (by kernel_rfl) (by kernel_rfl) (by kernel_rfl) (by kernel_rfl)
 have D__law_tied:=dq (p:=PySem.Challenge.pw_thinways_k41_trees_spoilt) (ps:=["pot","n","style","a","b"]) 185 184 28 389 X G bd__law_tied (by kernel_rfl) (by kernel_rfl) (by kernel_rfl) (by kernel_rfl)
 have D__law_order:=dq (p:=PySem.Challenge.pw_thinways_k41_trees_spoilt) (ps:=["pot","many"]) 192 191 28 389 X G bd__law_order (by kernel_rfl) (by kernel_rfl) (by kernel_rfl) (by kernel_rfl)
 have D__law_web:=dq (p:=PySem.Challenge.pw_thinways_k41_trees_spoilt) (ps:=["pot","most"]) 199 198 28 389 X G bd__law_web (by kernel_rfl) (by kernel_rfl) (by kernel_rfl) (by kernel_rfl)
 have D__law_fars:=dq (p:=PySem.Challenge.pw_thinways_k41_trees_spoilt) (ps:=["web","keep","start"]) 206 205 28 389 X G bd__law_fars (by kernel_rfl) (by kernel_rfl) (by kernel_rfl) (by kernel_rfl)
 have D__law_holds:=dq (p:=PySem.Challenge.pw_thinways_k41_trees_spoilt) (ps:=["web","keep","heights"]) 213 212 28 389 X G bd__law_holds (by kernel_rfl) (by kernel_rfl) (by kernel_rfl) (by kernel_rfl)
 have D__law_parts:=dq (p:=PySem.Challenge.pw_thinways_k41_trees_spoilt) (ps:=["web","keep"]) 218 217 28 389 X G bd__law_parts (by kernel_rfl) (by kernel_rfl) (by kernel_rfl) (by kernel_rfl)
 have D__law_rest:=dq (p:=PySem.Challenge.pw_thinways_k41_trees_spoilt) (ps:=["web","left"]) 223 222 28 389 X G bd__law_rest (by kernel_rfl) (by kernel_rfl) (by kernel_rfl) (by kernel_rfl)
 have D__law_is_number:=dq (p:=PySem.Challenge.pw_thinways_k41_trees_spoilt) (ps:=["thing"]) 230 229 28 389 X G bd__law_is_number (by kernel_rfl) (by kernel_rfl) (by kernel_rfl) (by kernel_rfl)
 have D__law_leaf:=dq (p:=PySem.Challenge.pw_thinways_k41_trees_spoilt) (ps:=["web","t","tree","left"]) 235 234 28 389 X G bd__law_leaf (by kernel_rfl) (by kernel_rfl) (by kernel_rfl) (by kernel_rfl)
 have D__law_shown:=dq (p:=PySem.Challenge.pw_thinways_k41_trees_spoilt) (ps:=["web","t","tree","kept","left"]) 242 241 28 389 X G bd__law_shown (by kernel_rfl) (by kernel_rfl) (by kernel_rfl) (by kernel_rfl)
 have D__law_far_leaf:=dq (p:=PySem.Challenge.pw_thinways_k41_trees_spoilt) (ps:=["web","t","left","tie"]) 247 246 28 389 X G bd__law_far_leaf (by kernel_rfl) (by kernel_rfl) (by kernel_rfl) (by kernel_rfl)
 have D__law_tree:=dq (p:=PySem.Challenge.pw_thinways_k41_trees_spoilt) (ps:=["pot","web","t","kept","left","deep"]) 252 251 28 389 X G bd__law_tree (by kernel_rfl) (by kernel_rfl) (by kernel_rfl) (by kernel_rfl)
 have D__law_times:=dq (p:=PySem.Challenge.pw_thinways_k41_trees_spoilt) (ps:=["pot"]) 259 258 28 389 X G bd__law_times (by kernel_rfl) (by kernel_rfl) (by kernel_rfl) (by kernel_rfl)
 have D__law_road:=dq (p:=PySem.Challenge.pw_thinways_k41_trees_spoilt) (ps:=["pot","tree"]) 266 265 28 389 X G bd__law_road (by kernel_rfl) (by kernel_rfl) (by kernel_rfl) (by kernel_rfl)
 have D__law_at:=dq (p:=PySem.Challenge.pw_thinways_k41_trees_spoilt) (ps:=["tree","road"]) 273 272 28 389 X G bd__law_at (by kernel_rfl) (by kernel_rfl) (by kernel_rfl) (by kernel_rfl)
 have D__law_put:=dq (p:=PySem.Challenge.pw_thinways_k41_trees_spoilt) (ps:=["tree","road","other"]) 280 279 28 389 X G bd__law_put (by kernel_rfl) (by kernel_rfl) (by kernel_rfl) (by kernel_rfl)
 have D__law_heights_off:=dq (p:=PySem.Challenge.pw_thinways_k41_trees_spoilt) (ps:=["pot","heights"]) 285 284 28 389 X G bd__law_heights_off (by kernel_rfl) (by kernel_rfl) (by kernel_rfl) (by kernel_rfl)
 have D__law_tie_off:=dq (p:=PySem.Challenge.pw_thinways_k41_trees_spoilt) (ps:=["pot","web","tie"]) 292 291 28 389 X G bd__law_tie_off (by kernel_rfl) (by kernel_rfl) (by kernel_rfl) (by kernel_rfl)
 have D__law_case_off:=dq (p:=PySem.Challenge.pw_thinways_k41_trees_spoilt) (ps:=["pot","web","case"]) 299 298 28 389 X G bd__law_case_off (by kernel_rfl) (by kernel_rfl) (by kernel_rfl) (by kernel_rfl)
 have D__law_right:=dq (p:=PySem.Challenge.pw_thinways_k41_trees_spoilt) (ps:=["web","t","tree"]) 306 305 28 389 X G bd__law_right (by kernel_rfl) (by kernel_rfl) (by kernel_rfl) (by kernel_rfl)
 have e:=hfa.symm.trans (PySem.W.mg_of X G (show PySem.W.nsIn (K w.params) mainGlobals "law"=some (some (.ref 313)) by kernel_rfl))
 cases e
 have F:=fun_mk (x:="law") (qual:="law") (st:=s_law) (K:=K w.params) (f:=313) (oc:=.type "function") (od:=none) (an:=none) (osl:=#[]) (kV:=.none) (doc:=.none) (pm:=Hx.mdV PySem.Challenge.pw_thinways_k41_trees_spoilt ⟨0,0,0,28,389,0⟩) (cdv:=.ref 312) (ct:=.none) (by kernel_rfl) (by kernel_rfl) (by kernel_rfl)
 exact⟨_,fun s v=>.of_eq rfl,fun base _ _=>law_all (P:=(PySem.Challenge.rw_thinways_k41_trees_spoilt).prog) (w:=w) (base:=base) T D_is_whole D_is_wholes D_is_tuple_of D_is_told D_is_tie_number D_whole D_across D_heights_hold D_need_times D_heights_beyond D_ringless D_with_tie D_kept_show D_not_among D_far_show D_is_undecided D_shown D_cases_show D__law_pot D__law_take D__law_length D__law_tied D__law_order D__law_web D__law_fars D__law_holds D__law_parts D__law_rest D__law_is_number D__law_leaf D__law_shown D__law_far_leaf D__law_tree D__law_times D__law_road D__law_at D__law_put D__law_heights_off D__law_tie_off D__law_case_off D__law_right F⟩
end Hy
open PySem PySem.W PyProof.Rows
set_option maxRecDepth 100000 in
set_option maxHeartbeats 0 in
theorem PySem.Challenge.cw_thinways_k41_trees_spoilt_holds : PySem.Challenge.rw_thinways_k41_trees_spoilt.Holds := by
 w_on;o_law
 refine holds_open (q:=(Hx.qv PySem.Challenge.pw_thinways_k41_trees_spoilt [52])) (loose:=Hx.lz PySem.Challenge.pw_thinways_k41_trees_spoilt [52] 53) (Xt:=fun s=>xlAt (Hx.qv PySem.Challenge.pw_thinways_k41_trees_spoilt [52]) [] s && recOk (OpenRow.toRowW (PySem.Challenge.rw_thinways_k41_trees_spoilt).row).records s) (XP:=XL (Hx.qv PySem.Challenge.pw_thinways_k41_trees_spoilt [52]) []) (Yf:=Hook.obs Hy.H) (Ya:=Hook.val Hy.H) (YP:=Hook.says Hy.H) (N:=4188) Hy.left (Hook.of Hy.H) (Hook.keeps Hy.H) (fun s e=>xl_of s (Bool.and_eq_true_iff.mp e).1) XL.keeps (by rfl) (by rfl) (by rfl) (fun s e=>recFacts_of (Bool.and_eq_true_iff.mp e).2) (by rfl) (by first | assumption | decide +kernel) (by decide +kernel) ⟨rfl,rfl,rfl,rfl,rfl,by decide +kernel⟩ ?hw ?hc
 case hw=>w_witness2
 case hc =>
  refine Me.walk (l:=PySem.Challenge.rw_thinways_k41_trees_spoilt) rfl rfl (fun w h Y=>PySem.W.kIn_of Y) fun w mg fa h KX G hmg=>Hy.all KX G hmg
