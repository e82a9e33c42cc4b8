import PyProof.Rows.All
import Wide.All
import OpenK.AllK
import Wide.FinOn
import Lean
import PyProof.EqAt
import PyProof.EqKinds
import PyProof.TupleCall
import KE.KSortTup
import PyProof.ZipIter
import PyProof.TupleIter
import PyProof.WalksMore
import PyProof.Rows.TupIter
import PyProof.EnumIter
import PyProof.EnumFor
import PyProof.EnumStmt
import PyProof.ReprRoads
import PyProof.Rows.SeqMore
import PyProof.ListMulRoad
import PyProof.FactsAll.tuple_2
import PyProof.FactsAll.tuple_3
import PyProof.Rows.Tup
import PyProof.ListRange
import PyProof.TupleOfSeq
import PyProof.SumAny
import PyProof.ConsumeS
import PyProof.Rows.CallKwBuiltin
import KE.KLam
import KE.KSortKey
import PyProof.AutoSeq1
import KE.KListMore
import PyProof.FactsAll.subtypes_4
import PyProof.SetRoads
import PyProof.Rows.SetFrom
import PyProof.WalkInts
import PyProof.AttrMissHeap
import KE.KDictOf
import PyProof.AttrMissSeq
import PySem.Challenge.RW_thinways_k54_papers_of_more_judged
set_option Elab.async false
set_option linter.all false
set_option maxRecDepth 100000
namespace L2
open PySem PySem.Spec PyProof.Rows
/-- a key: an int or a str -/
abbrev Key:=Sum Int Str
def keyIs:Key->Value->Bool
 | .inl k,v=>Value.isInt k v
 | .inr x,v=>Value.isStrOf x v
def keyH (w:World):Key->Int
 | .inl k=>hashInt k
 | .inr x=>hashStr w x
theorem keyIs_shape:∀ {k:Key} {v:Value},keyIs k v=true->(∃ i t,k=Sum.inl i∧v=Value.int i t)∨(∃ x t,k=Sum.inr x∧v=Value.str x t)
 | .inl i,v,h=>by
  obtain⟨t,e⟩:=Value.isInt_shape (k:=i) (v:=v) h
  exact .inl ⟨i,t,rfl,e⟩
 | .inr x,v,h=>by
  obtain⟨t,e⟩:=Value.isStrOf_shape (x:=x) (v:=v) h
  exact .inr ⟨x,t,rfl,e⟩
theorem keyIs_int (i:Int) (t:Tok):keyIs (.inl i) (.int i t)=true:=by simp [keyIs,Value.isInt]
theorem keyIs_str (x:Str) (t:Tok):keyIs (.inr x) (.str x t)=true:=by simp [keyIs,Value.isStrOf]
theorem key_ll (a b:Int):decide ((Sum.inl a:Key)=Sum.inl b)=(a == b):=by
 by_cases e:a=b
 ·subst e;simp
 ·have h:¬ (Sum.inl a:Key)=Sum.inl b:=fun q=>e (Sum.inl.inj q)
  rw[decide_eq_false h]
  exact (beq_eq_false_iff_ne.mpr e).symm
theorem key_rr (a b:Str):decide ((Sum.inr a:Key)=Sum.inr b)=decide (a=b):=by
 by_cases e:a=b
 ·subst e;simp
 ·have h:¬ (Sum.inr a:Key)=Sum.inr b:=fun q=>e (Sum.inr.inj q)
  rw[decide_eq_false h,decide_eq_false e]
theorem key_lr (a:Int) (b:Str):decide ((Sum.inl a:Key)=Sum.inr b)=false:=decide_eq_false (fun q=>nomatch q)
theorem key_rl (a:Str) (b:Int):decide ((Sum.inr a:Key)=Sum.inl b)=false:=decide_eq_false (fun q=>nomatch q)
def mixKind (prog:Program) (w:World):PySem.KeyKind prog w Key where
 is:=keyIs
 hash:=keyH w
 inj:=fun v a b ha hb=>by
  rcases keyIs_shape ha with ⟨i,t,rfl,rfl⟩ | ⟨x,t,rfl,rfl⟩
  ·rcases keyIs_shape hb with ⟨j,u,rfl,e⟩ | ⟨y,u,rfl,e⟩
   ·injection e with e1 _;rw[e1]
   ·exact nomatch e
  ·rcases keyIs_shape hb with ⟨j,u,rfl,e⟩ | ⟨y,u,rfl,e⟩
   ·exact nomatch e
   ·injection e with e1 _;rw[e1]
 byValue:=fun k v h=>by
  rcases keyIs_shape h with ⟨i,t,rfl,rfl⟩ | ⟨x,t,rfl,rfl⟩ <;> rfl
 pyHash:=fun hv h=>by
  rcases keyIs_shape hv with ⟨i,t,rfl,rfl⟩ | ⟨x,t,rfl,rfl⟩
  ·exact wpAny_pyHash_int h
  ·exact wpAny_pyHash_str h
 eqBool:=fun hu hv h=>by
  rcases keyIs_shape hu with ⟨i,t,rfl,rfl⟩ | ⟨x,t,rfl,rfl⟩
  ·rcases keyIs_shape hv with ⟨j,u,rfl,rfl⟩ | ⟨y,u,rfl,rfl⟩
   ·rw[key_ll] at h;exact wpAny_eqBool_int h
   ·rw[key_lr] at h;exact SeqAt.EqAt.int_str i t y u _ _ _ _ h
  ·rcases keyIs_shape hv with ⟨j,u,rfl,rfl⟩ | ⟨y,u,rfl,rfl⟩
   ·rw[key_rl] at h;exact SeqAt.EqAt.str_int x t j u _ _ _ _ h
   ·rw[key_rr] at h;exact wpAny_eqBool_str h
 «strs»:=fun k x t v h=>by
  rcases keyIs_shape h with ⟨i,u,rfl,e⟩ | ⟨y,u,rfl,e⟩
  ·exact nomatch e
  ·injection e with e1 _
   subst e1
   cases v <;> rfl
theorem mixKind_int (prog:Program) (w:World) (i:Int) (t:Tok):(mixKind prog w).is (.inl i) (.int i t)=true:=keyIs_int i t
theorem mixKind_str (prog:Program) (w:World) (x:Str) (t:Tok):(mixKind prog w).is (.inr x) (.str x t)=true:=keyIs_str x t
end L2
namespace L2
open PySem PySem.Spec PyProof.Rows
/-- a value, without the heap -/
inductive V where
 | non | bl (b:Bool) | int (i:Int) | str (x:Str) | byt (b:Array UInt8) | flt (b:UInt64) | ref (a:Addr) | ty (n:String)
 deriving DecidableEq
def RelV:V->Value->Prop
 | .non,u=>u=Value.none
 | .bl b,u=>u=Value.bool b
 | .int i,u=>∃ t,u=Value.int i t
 | .str x,u=>∃ t,u=Value.str x t
 | .byt b,u=>∃ t,u=Value.bytes b t
 | .flt b,u=>∃ t,u=Value.float b t
 | .ref a,u=>u=Value.ref a
 | .ty n,u=>u=Value.type n
abbrev Vals:List V->List Value->Prop:=Paired RelV
theorem Vals.length {xs:List V} {us:List Value} (r:Vals xs us):xs.length=us.length:=Paired.length r
theorem Vals.get:∀ {xs:List V} {us:List Value} {i:Nat} {x:V},Vals xs us->xs[i]?=some x->∃ u,us[i]?=some u∧RelV x u
 | _,_,_,_,.nil,e=>by simp at e
 | _,_,0,_,.cons r _,e=>by simp at e;subst e;exact⟨_,rfl,r⟩
 | _,_,i + 1,x,.cons _ t,e=>by
  obtain⟨u,h1,h2⟩:=Vals.get (i:=i) (x:=x) t (by simpa using e)
  exact⟨u,by simpa using h1,h2⟩
theorem Vals.set {x:V} {u:Value} (r:RelV x u):∀ {xs:List V} {us:List Value} (i:Nat),Vals xs us->Vals (xs.set i x) (us.set i u)
 | _,_,_,.nil=>.nil
 | _,_,0,.cons _ t=>.cons r t
 | _,_,i + 1,.cons q t=>.cons q (Vals.set r i t)
theorem Vals.append:∀ {xs ys:List V} {us ws:List Value},Vals xs us->Vals ys ws->Vals (xs++ys) (us++ws)
 | _,_,_,_,.nil,s=>s
 | _,_,_,_,.cons r t,s=>.cons r (Vals.append t s)
theorem Vals.take:∀ {xs:List V} {us:List Value} (n:Nat),Vals xs us->Vals (xs.take n) (us.take n)
 | _,_,0,_=>.nil
 | _,_,_ + 1,.nil=>.nil
 | _,_,n + 1,.cons r t=>.cons r (Vals.take n t)
theorem Vals.drop:∀ {xs:List V} {us:List Value} (n:Nat),Vals xs us->Vals (xs.drop n) (us.drop n)
 | _,_,0,r=>r
 | _,_,_ + 1,.nil=>.nil
 | _,_,n + 1,.cons _ t=>Vals.drop n t
def RelO:Option V->Option Value->Prop
 | some v,some u=>RelV v u
 | none,none=>True
 | _,_=>False
def KV {κ:Type}:List (κ × V)->List (κ × Value)->Prop:=Paired fun (p:κ × V) (q:κ × Value)=>p.1=q.1∧RelV p.2 q.2
/-- a key of a dict (00_mix): an int or a text -/
def kV:Key->V
 | .inl i=>.int i
 | .inr x=>.str x
/-- what stands at a tracked address -/
inductive HO where
  /-- a list -/
 | lst (xs:List V)
  /-- a tuple (never changes) -/
 | tup (xs:List V)
  /-- a dict whose keys are ints and texts; one whose keys are tuples of ints and texts (the empty one is both) -/
 | dK (kvs:List (Key × V)) | dT (kvs:List (List Key × V))
  /-- a set of ints: its members, its size -/
 | set (S:Int->Bool) (n:Nat)
  /-- an instance of the class at C, its dict at dx, its attributes -/
 | ins (C dx:Addr) (fs:List (Str × V))
  /-- the dict of the instance at x -/
 | own (x:Addr)
  /-- the dict of an exception -/
 | xd (fs:List (Str × V))
  /-- a bound method, f of x -/
 | met (f x:Addr)
  /-- a range object lo, lo + 1, .. below hi -/
 | rng (lo hi:Int)
  /-- a thing that is known to the object (the script; a dict while a loop walks it): read, never written while it is so -/
 | frz (o:Obj) (u:HO)
  /-- a code object's table -/
 | tbl (ps:Array Value)
  /-- any other thing, by what is true of its one object (a def of one's own: SetO a S n := HO.ext fun h => ..) -/
 | ext (φ:Heap->Prop)
abbrev Hp:=Addr->Option HO
def upd (H:Hp) (a:Addr) (o:HO):Hp:=fun b=>if b=a then some o else H b
theorem upd_same {H:Hp} {a:Addr} {o:HO}:upd H a o a=some o:=by unfold upd;rw[if_pos rfl]
theorem upd_ne {H:Hp} {a b:Addr} {o:HO} (h:b≠a):upd H a o b=H b:=by unfold upd;rw[if_neg h]
theorem ne_of_none {H:Hp} {a b:Addr} {o:HO} (h:H a=some o) (h':H b=none):a≠b:=by
 intro e;subst e;rw[h] at h';cases h'
section
variable (P:Program) (w:World)
/-- a tuple with no dict of its own -/
def TupN (h:Heap) (a:Addr) (items:Array Value):Prop:=∃ o,h.get? a=some o∧o.cls=.type "tuple"∧(∃ n,o.data=.seq items n)∧o.dict=none
theorem TupN.tup {h:Heap} {a:Addr} {items:Array Value} (x:TupN h a items):IsTup h a items:=let ⟨o,e,c,d,_⟩:=x;⟨o,e,c,d⟩
theorem TupN.new (h:Heap) (items:Array Value):TupN (h.push { cls:=.type "tuple",data:=.seq items }) h.objs.size items:=⟨_,Heap.get?_push_size _ rfl,rfl,⟨_,rfl⟩,rfl⟩
def ObjOk (H:Hp) (h:Heap) (a:Addr):HO->Prop
 | .lst xs=>xs.length≤sizeLine∧∃ (its:List Value) (n:Nat),Vals xs its∧h.get? a=some { cls:=.type "list",data:=.seq its.toArray n }
 | .tup xs=>xs.length≤sizeLine∧∃ its:List Value,Vals xs its∧TupN h a its.toArray
 | .dK kvs=>kvs.length≤sizeLine∧(a == sysModules)=false∧∃ vs,KV kvs vs∧h.DictOf (mixKind P w) a vs
 | .dT kvs => kvs.length ≤ sizeLine ∧ (a == sysModules) = false ∧ ∃ xs : List (List Key × Addr × Value),
     Paired (fun (p:List Key × V) (q:List Key × Addr × Value)=>p.1=q.1∧H q.2.1=some (.tup (p.1.map kV))∧RelV p.2 q.2.2) kvs xs ∧
     ∃ o es ep,h.get? a=some o∧o.ExactDict∧o.data=.dict es ep∧es.toList=xs.map (entryOfKey (tupleKind (mixKind P w)))∧(xs.map (·.1)).Nodup
 | .set S n=>h.SetOf (intKind P w) a S n
 | .ins C dx fs => H dx = some (.own a) ∧ fs.length ≤ 1000 ∧ dx ≠ a ∧ h.get? a = some (PySem.W.instObj C dx) ∧
     ∃ mA,h.Ns1 dx mA∧(∀ f,RelO (fs.lookup f) (mA f))∧PySem.Within mA (fs.map (·.1))
 | .own _=>∃ o,h.get? a=some o
 | .xd fs=>∃ mA,h.Ns1 a mA∧∀ f,RelO (fs.lookup f) (mA f)
 | .rng lo hi=>∃ t u v,h.get? a=some { cls:=.type "range",data:=.fields #[.int lo t,.int hi u,.int 1 v] }
 | .frz o u=>h.get? a=some o∧ObjOk H h a u
 | .tbl ps=>h.get? a=some { cls:=.none,data:=.fields ps }
 | .met f x=>h.get? a=some (PySem.W.methodObj (.ref f) (.ref x))
 | .ext φ=>φ h∧(∃ o,h.get? a=some o)∧∀ h1 h2:Heap,φ h1->(∀ o,h1.get? a=some o->h2.get? a=some o)->φ h2
/-- the abstract heap is held -/
def HOk (H:Hp) (h:Heap):Prop:=∀ a o,H a=some o->ObjOk P w H h a o
end
section
variable {P:Program} {w:World} {H H':Hp} {h h':Heap} {a:Addr} {o:HO}
theorem ObjOk.lt (x:ObjOk P w H h a o):a < h.objs.size:=by
 cases o with
 | lst xs=>obtain⟨_,_,_,_,e⟩:=x;exact Heap.lt_size e
 | tup xs=>obtain⟨_,_,_,p⟩:=x;exact p.tup.lt
 | dK kvs=>obtain⟨_,_,_,_,o,_,_,e,_⟩:=x;exact Heap.lt_size e
 | dT kvs=>obtain⟨_,_,_,_,o,_,_,e,_⟩:=x;exact Heap.lt_size e
 | set S n=>obtain⟨o,_,_,_,e,_⟩:=x;exact Heap.lt_size e
 | ins C dx fs=>obtain⟨_,_,_,e,_⟩:=x;exact Heap.lt_size e
 | own y=>obtain⟨_,e⟩:=x;exact Heap.lt_size e
 | xd fs=>obtain⟨_,⟨_,_,_,e,_⟩,_⟩:=x;exact Heap.lt_size e
 | rng lo hi=>obtain⟨_,_,_,e⟩:=x;exact Heap.lt_size e
 | frz ob u=>obtain⟨e,_⟩:=x;exact Heap.lt_size e
 | tbl ps=>exact Heap.lt_size (show h.get? a=some _ from x)
 | met f y=>exact Heap.lt_size (show h.get? a=some _ from x)
 | ext φ=>obtain⟨_,⟨_,e⟩,_⟩:=x;exact Heap.lt_size e
theorem Paired.mapP {α β:Type} {F G:α->β->Prop}:∀ {l₁:List α} {l₂:List β},Paired F l₁ l₂->(∀ a b,F a b->G a b)->Paired G l₁ l₂
 | _,_,.nil,_=>.nil
 | _,_,.cons r t,f=>.cons (f _ _ r) (Paired.mapP t f)
/-- what an object's description leans on: its own object, its own dict, the tuples -/
theorem ObjOk.stay (x:ObjOk P w H h a o) (k:∀ b u,(b=a∨H b=some (.own a))->h.get? b=some u->h'.get? b=some u)
  (ho:∀ b,H b=some (.own a)->H' b=some (.own a)) (ht:∀ b xs,H b=some (.tup xs)->H' b=some (.tup xs)):ObjOk P w H' h' a o:=by
 induction o with
 | lst xs=>obtain⟨z,its,n,r,e⟩:=x;exact⟨z,its,n,r,k _ _ (.inl rfl) e⟩
 | tup xs=>obtain⟨z,its,r,ob,e,c⟩:=x;exact⟨z,its,r,ob,k _ _ (.inl rfl) e,c⟩
 | dK kvs=>obtain⟨z,y,vs,r,ob,es,ep,e,c⟩:=x;exact⟨z,y,vs,r,ob,es,ep,k _ _ (.inl rfl) e,c⟩
 | dT kvs =>
  obtain⟨z,y,xs,r,ob,es,ep,e,c⟩:=x
  exact⟨z,y,xs,Paired.mapP r fun p q z=>⟨z.1,ht _ _ z.2.1,z.2.2⟩,ob,es,ep,k _ _ (.inl rfl) e,c⟩
 | set S n=>obtain⟨ob,es,ep,t,e,c⟩:=x;exact⟨ob,es,ep,t,k _ _ (.inl rfl) e,c⟩
 | ins C dx fs =>
  obtain⟨d,z,ne,e,mA,⟨od,es,ep,e2,c⟩,r⟩:=x
  exact⟨ho _ d,z,ne,k _ _ (.inl rfl) e,mA,⟨od,es,ep,k _ _ (.inr d) e2,c⟩,r⟩
 | own y=>obtain⟨ob,e⟩:=x;exact⟨ob,k _ _ (.inl rfl) e⟩
 | xd fs=>obtain⟨mA,⟨od,es,ep,e,c⟩,r⟩:=x;exact⟨mA,⟨od,es,ep,k _ _ (.inl rfl) e,c⟩,r⟩
 | rng lo hi=>obtain⟨t,u,v,e⟩:=x;exact⟨t,u,v,k _ _ (.inl rfl) e⟩
 | frz ob u ih=>obtain⟨e,q⟩:=x;exact⟨k _ _ (.inl rfl) e,ih q⟩
 | tbl ps =>
  have e:h.get? a=some { cls:=.none,data:=.fields ps }:=x
  show h'.get? a=some { cls:=.none,data:=.fields ps }
  exact k a _ (.inl rfl) e
 | met f y =>
  have e:h.get? a=some (PySem.W.methodObj (.ref f) (.ref y)):=x
  show h'.get? a=some (PySem.W.methodObj (.ref f) (.ref y))
  exact k a _ (.inl rfl) e
 | ext φ=>obtain⟨p,⟨o,e⟩,st⟩:=x;exact⟨st _ _ p fun o q=>k _ _ (.inl rfl) q,⟨o,k _ _ (.inl rfl) e⟩,st⟩
theorem HOk.lt (x:HOk P w H h) (e:H a=some o):a < h.objs.size:=(x a o e).lt
theorem HOk.fresh (x:HOk P w H h) (e:h.objs.size≤a):H a=none:=by
 cases q:H a with
 | none=>rfl
 | some u=>exact absurd (Nat.lt_of_lt_of_le (x.lt q) e) (Nat.lt_irrefl _)
/-- every object of the heap is kept -/
theorem HOk.kept (x:HOk P w H h) (k:∀ b u,h.get? b=some u->h'.get? b=some u):HOk P w H h':=fun a o e =>
 (x a o e).stay (fun b u _ q=>k b u q) (fun _ q=>q) fun _ _ q=>q
/-- a new object is laid and tracked -/
theorem HOk.laid (x:HOk P w H h) (k:∀ b u,h.get? b=some u->h'.get? b=some u) (hp:h.objs.size≤a) (new:ObjOk P w (upd H a o) h' a o):HOk P w (upd H a o) h':=fun b u e=>by
 have hn:=x.fresh hp
 by_cases hb:b=a
 ·subst hb;rw[upd_same] at e;cases e;exact new
 ·rw[upd_ne hb] at e
  exact (x b u e).stay (fun c v _ q=>k c v q) (fun c q=>by rw[upd_ne (ne_of_none q hn)];exact q) fun c xs q=>by rw[upd_ne (ne_of_none q hn)];exact q
end
/-- what may be read as u: it is u, or a known u -/
def Rd (H:Hp) (a:Addr) (u:HO):Prop:=H a=some u∨∃ o,H a=some (.frz o u)
theorem Rd.of {H:Hp} {a:Addr} {u:HO} (h:H a=some u):Rd H a u:=.inl h
theorem Rd.ok {P:Program} {w:World} {H:Hp} {h:Heap} {a:Addr} {u:HO} (r:Rd H a u) (x:HOk P w H h):ObjOk P w H h a u:=by
 rcases r with r | ⟨o,r⟩
 ·exact x a u r
 ·obtain⟨_,q⟩:=x a _ r
  exact q
/-- what may be written -/
def Mut:Option HO->Prop
 | some (.lst _)=>True
 | some (.dK _)=>True
 | some (.dT _)=>True
 | some (.set _ _)=>True
 | some (.ins _ _ _)=>True
 | some (.ext _)=>True
 | _=>False
section
variable {P:Program} {w:World} {H:Hp} {h h':Heap} {x e:Addr} {o':HO}
/-- the object at e is changed: x itself, or the dict of the instance x -/
theorem HOk.write (ok:HOk P w H h) (mu:Mut (H x)) (he:e=x∨H e=some (.own x)) (k:∀ b u,b≠e->h.get? b=some u->h'.get? b=some u) (heo:∃ u,h'.get? e=some u)
  (new:ObjOk P w (upd H x o') h' x o'):HOk P w (upd H x o') h':=fun b u q=>by
 have nown:∀ c y,H c=some (.own y)->c≠x:=fun c y r z=>by subst z;rw[r] at mu;exact mu
 have ntup:∀ c xs,H c=some (.tup xs)->c≠x:=fun c xs r z=>by subst z;rw[r] at mu;exact mu
 by_cases hb:b=x
 ·subst hb;rw[upd_same] at q;cases q;exact new
 ·rw[upd_ne hb] at q
  by_cases hbe:b=e
  ·have q':H b=some (.own x):=by
    rcases he with z | z
    ·exact absurd (hbe.trans z) hb
    ·rw[hbe];exact z
   rw[q] at q';cases q'
   obtain⟨v,hv⟩:=heo
   exact⟨v,by rw[hbe];exact hv⟩
  ·refine (ok b u q).stay (fun c v hc r=>k c v ?_ r) (fun c r=>by rw[upd_ne (nown c b r)];exact r) fun c xs r=>by rw[upd_ne (ntup c xs r)];exact r
   rcases hc with rfl | hc
   ·exact hbe
   ·rintro rfl
    rcases he with z | z
    ·exact nown c b hc z
    ·rw[hc] at z;cases z;exact hb rfl
end
structure Un (fs ex:List Addr) (H H':Hp) (h h':Heap):Prop where
 keep:∀ b o,h.get? b=some o->H b=none->b ∉ fs->b ∉ ex->h'.get? b=some o
 slot:∀ b o,h.get? b=some o->H b=none->b ∈ fs->b ∉ ex->∃ sl,h'.get? b=some { o with slots:=sl }
 free:∀ b o,h.get? b=some o->H b=none->b ∉ ex->H' b=none
 there:∀ b o,h.get? b=some o->b ∉ ex->∃ o',h'.get? b=some o'
 tups:∀ b xs,H b=some (.tup xs)->H' b=some (.tup xs)
 frzs:∀ b o u,H b=some (.frz o u)->H' b=some (.frz o u)
 tbls:∀ b ps,H b=some (.tbl ps)->∃ more,H' b=some (.tbl (ps++more))
section
variable {fs fs' ex ex':List Addr} {H H1 H2:Hp} {h h1 h2 h':Heap} {a x e:Addr} {o:HO}
theorem Un.any (u:Un fs ex H H1 h h1) {b:Addr} {ob:Obj} (q:h.get? b=some ob) (n:H b=none) (hx:b ∉ ex):∃ sl,h1.get? b=some { ob with slots:=sl }:=by
 by_cases hb:b ∈ fs
 ·exact u.slot b ob q n hb hx
 ·exact⟨ob.slots,u.keep b ob q n hb hx⟩
theorem Un.trans (a:Un fs ex H H1 h h1) (b:Un fs ex H1 H2 h1 h2):Un fs ex H H2 h h2 where
 keep:=fun c ob q n hc hx=>b.keep c ob (a.keep c ob q n hc hx) (a.free c ob q n hx) hc hx
 slot:=fun c ob q n hc hx=>by
  obtain⟨sl,e1⟩:=a.slot c ob q n hc hx
  obtain⟨sl',e2⟩:=b.slot c _ e1 (a.free c ob q n hx) hc hx
  exact⟨sl',e2⟩
 free:=fun c ob q n hx=>by
  obtain⟨o',e1⟩:=a.there c ob q hx
  exact b.free c o' e1 (a.free c ob q n hx) hx
 there:=fun c ob q hx=>by
  obtain⟨o',e1⟩:=a.there c ob q hx
  exact b.there c o' e1 hx
 tups:=fun c xs q=>b.tups c xs (a.tups c xs q)
 frzs:=fun c ob xs q=>b.frzs c ob xs (a.frzs c ob xs q)
 tbls:=fun c ps q=>by
  obtain⟨m1,e1⟩:=a.tbls c ps q
  obtain⟨m2,e2⟩:=b.tbls c _ e1
  exact⟨m1++m2,by rw[e2,Array.append_assoc]⟩
theorem Un.kept (k:∀ b u,h.get? b=some u->h'.get? b=some u):Un fs ex H H h h' :=
 ⟨fun b ob q _ _ _=>k b ob q,fun b ob q _ _ _=>⟨ob.slots,k b ob q⟩,fun _ _ _ n _=>n,fun b ob q _=>⟨ob,k b ob q⟩,fun _ _ q=>q,fun _ _ _ q=>q,fun _ ps q=>⟨#[],by rw[q];simp⟩⟩
theorem Un.refl:Un fs ex H H h h:=Un.kept fun _ _ q=>q
theorem Un.laid (k:∀ b u,h.get? b=some u->h'.get? b=some u) (hp:h.objs.size≤a) (hn:H a=none):Un fs ex H (upd H a o) h h' where
 keep:=fun b u q _ _ _=>k b u q
 slot:=fun b u q _ _ _=>⟨u.slots,k b u q⟩
 free:=fun b u q n _=>by rw[upd_ne (Nat.ne_of_lt (Nat.lt_of_lt_of_le (Heap.lt_size q) hp))];exact n
 there:=fun b u q _=>⟨u,k b u q⟩
 tups:=fun b xs q=>by rw[upd_ne (ne_of_none q hn)];exact q
 frzs:=fun b u xs q=>by rw[upd_ne (ne_of_none q hn)];exact q
 tbls:=fun b ps q=>⟨#[],by rw[upd_ne (ne_of_none q hn),q];simp⟩
theorem Un.write (mu:Mut (H x)) (he:e=x∨H e=some (.own x)) (k:∀ b u,b≠e->h.get? b=some u->h'.get? b=some u) (heo:∃ u,h'.get? e=some u):Un fs ex H (upd H x o) h h':=by
 have hx:∀ b,H b=none->b≠x:=fun b n z=>by subst z;rw[n] at mu;exact mu
 have hb:∀ b,H b=none->b≠e:=fun b n z=>by
  subst z
  rcases he with r | r
  ·exact hx b n r
  ·rw[n] at r;cases r
 have hm:∀ b u,H b=some u->¬ Mut (some u)->b≠x:=fun b u q nm z=>by subst z;rw[q] at mu;exact nm mu
 refine⟨fun b u q n _ _=>k b u (hb b n) q,fun b u q n _ _=>⟨u.slots,k b u (hb b n) q⟩,fun b u q n _=>by rw[upd_ne (hx b n)];exact n,fun b u q _=>?_,
  fun b xs q=>by rw[upd_ne (hm b _ q fun z=>z)];exact q,fun b u xs q=>by rw[upd_ne (hm b _ q fun z=>z)];exact q,fun b ps q=>⟨#[],by rw[upd_ne (hm b _ q fun z=>z),q];simp⟩⟩
 by_cases hbe:b=e
 ·subst hbe;exact heo
 ·exact⟨u,k b u hbe q⟩
end
def trk (h:Heap) (H:Hp):List Addr:=(List.range h.objs.size).filter fun a=>(H a).isSome
def hidT (h:Heap) (H:Hp):Heap:=PySem.W.hideAll h (trk h H)
theorem hidT_size (h:Heap) (H:Hp):(hidT h H).objs.size=h.objs.size:=PySem.W.hideAll_size _ _
theorem hidT_get {h:Heap} {H:Hp} {b:Addr} {o:Obj} (e:h.get? b=some o) (n:H b=none):(hidT h H).get? b=some o :=
 PySem.W.hideAll_get _ e fun hm=>by
  have q:(H b).isSome=true:=(List.mem_filter.mp hm).2
  rw[n] at q;simp at q
theorem of_hidT {h:Heap} {H:Hp} {b:Addr} {o:Obj} (e:(hidT h H).get? b=some o):h.get? b=some o∧H b=none:=by
 have e':h.get? b=some o:=PySem.W.of_hideAll (trk h H) e
 refine⟨e',?_⟩
 cases q:H b with
 | none=>rfl
 | some x =>
  have hm:b ∈ trk h H:=List.mem_filter.mpr ⟨List.mem_range.mpr (Heap.lt_size e'),by simp [q]⟩
  have z:(hidT h H).get? b=none:=PySem.W.hideAll_none (trk h H) hm
  rw[z] at e;cases e
def allNews (g h:Heap) (L:Addr):List (Addr × Obj):=(List.range h.objs.size).filterMap fun a=>if a=L∨(g.get? a).isSome=true then none else (h.get? a).map fun o=>(a,o)
def rest (g h:Heap) (L d:Addr):List (Addr × Obj):=(allNews g h L).filter fun p=>decide (p.1≠d)
end L2
namespace L2
open PySem PySem.Spec PyProof.Rows
/-- the module's facts, over the base: the heap at the law's entry without what is tracked there -/
structure Mod (K:PySem.W.Frag) (mg:Str->Option Value) (base:Heap):Prop where
 kin:K.In base
 glob:base.Ns mainGlobals mg
 blt:∃ mb,base.Ns builtinsNs mb∧∀ x:Str,x≠"__name__"->mb x=bootBuiltins x
 nolimit:base.NoLimit
/-- the context: a def's body (or a comprehension's block) running. base: fixed through the whole law; s₀, H₀: the entry; outer: the frames whose slots others may change (a def's callers); stack: all frames that run;
   ex: iterators that were made ahead of the entry and are walked here (a comprehension's); fn: the names whose cells were made at the entry (a def: all; a comprehension's block: its own); calm: not within an except suite; pn: pins that every state bears; xe: what is wanted of an exception that leaves the code -/
structure Cx where
 prog:Program
 w:World
 K:PySem.W.Frag
 mg:Str->Option Value
 base:Heap
 A:Around
 N:List Str
 s₀:Shared
 H₀:Hp
 env:Env
 outer:List Env
 stack:List Env
 ex:List Addr
 fn:Str->Bool
 calm:Bool
 pn:List (Addr × Obj)
 xe:Value->Shared->Prop
/-- the callers' frames -/
def frs (l:List Env):List Addr:=l.filterMap (·.frame)
abbrev Cx.fs (X:Cx):List Addr:=frs X.outer
def Vis (sc:Scope) (x:Str):Prop:=sc.names.lookup x=some .local∨sc.names.lookup x=some .cell∨sc.names.lookup x=some .free
def Loc (sc:Scope) (x:Str):Prop:=sc.names.lookup x=some .local∨sc.names.lookup x=some .cell
def Look (env:Env) (h:Heap) (m:Str->Option Value) (x:Str) (u:Value):Prop :=
 (env.kindOf x=some .local∧m x=some u)∨((env.kindOf x=some .cell∨env.kindOf x=some .free)∧∃ c,env.cells.lookup x=some c∧h.IsCell c (some u))
structure Cx.Ok (X:Cx):Prop where
 mod:Mod X.K X.mg X.base
 kind:X.env.scope.kind=.function
 glob:X.env.globals=mainGlobals
 blt:X.env.builtins=builtinsNs
 above:X.s₀.heap.objs.size≤X.env.locals
 inj:∀ x y c,X.env.cells.lookup x=some c->X.env.cells.lookup y=some c->x=y
 has:∀ x,(X.env.kindOf x=some .cell∨X.env.kindOf x=some .free)->∃ c,X.env.cells.lookup x=some c
 cab:∀ x c,X.fn x=true->X.env.cells.lookup x=some c->X.s₀.heap.objs.size≤c
 hd:X.calm=true->X.A.handled=none
 frames:X.A.frames=some X.stack
 stk:X.stack=X.outer∨(X.stack=X.env::X.outer∧X.env.frame=some X.env.locals)
 exf:∀ b ∈ X.ex,b≠X.env.locals∧∀ x c,X.env.cells.lookup x=some c->c≠b
 bs:∀ b o,X.base.get? b=some o->X.s₀.heap.get? b=some o∧X.H₀ b=none
 bsz:X.base.objs.size≤X.s₀.heap.objs.size
 noex:∀ b o,X.base.get? b=some o->b ∉ X.ex
 exfs:∀ b ∈ X.ex,b ∉ X.fs
 funs:X.s₀.heap.FunFrames X.base X.outer
 frf:∀ b ∈ X.fs,X.H₀ b=none
structure Inv (X:Cx) (pins:List (Addr × Obj)) (σ:List (Option V)) (H:Hp) (s:Shared):Prop where
 ok:X.Ok
 os:s.os=X.s₀.os
 bare:AllBare s.gens
 base:Un X.fs X.ex X.H₀ H X.s₀.heap s.heap
 loc:∃ m,s.heap.Ns X.env.locals m∧∀ (i:Nat) (x:Str) (v:V),X.N[i]?=some x->σ[i]?=some (some v)->Vis X.env.scope x->∃ u,RelV v u∧Look X.env s.heap m x u
 cell:∀ x c,X.env.cells.lookup x=some c->∃ v,s.heap.IsCell c v
 free:H X.env.locals=none
 freeC:∀ x c,X.env.cells.lookup x=some c->H c=none
 pin:∀ p ∈ X.pn++pins,s.heap.get? p.1=some p.2∧H p.1=none∧p.1≠X.env.locals∧p.1 ∉ X.fs∧∀ v,p.2.data≠.cell v
 hok:HOk X.prog X.w H s.heap
 len:σ.length=X.N.length
section
variable {X:Cx} {pins:List (Addr × Obj)} {σ:List (Option V)} {H H':Hp} {s:Shared} {h':Heap}
theorem Cx.Ok.nofr (ok:X.Ok) {b:Addr} {o:Obj} (e:X.base.get? b=some o):b ∉ X.fs:=fun hb=>by
 have:=(ok.funs.mem hb).1
 rw[e] at this;cases this
theorem Inv.bs (I:Inv X pins σ H s):∀ b o,X.base.get? b=some o->s.heap.get? b=some o∧H b=none:=fun b o e =>
 ⟨I.base.keep b o (I.ok.bs b o e).1 (I.ok.bs b o e).2 (I.ok.nofr e) (I.ok.noex b o e),I.base.free b o (I.ok.bs b o e).1 (I.ok.bs b o e).2 (I.ok.noex b o e)⟩
theorem Inv.bk (I:Inv X pins σ H s):∀ b o,X.base.get? b=some o->s.heap.get? b=some o:=fun b o e=>(I.bs b o e).1
theorem Inv.mod (I:Inv X pins σ H s):Mod X.K X.mg X.base:=I.ok.mod
theorem Inv.kIn (I:Inv X pins σ H s):X.K.In s.heap:=I.ok.mod.kin.keeps I.bk
theorem Inv.lt (I:Inv X pins σ H s):X.env.locals < s.heap.objs.size:=let ⟨_,hn,_⟩:=I.loc;hn.lt
theorem Inv.sz (I:Inv X pins σ H s):X.s₀.heap.objs.size≤s.heap.objs.size:=Nat.le_trans I.ok.above (Nat.le_of_lt I.lt)
theorem Inv.nofs (I:Inv X pins σ H s) {a:Addr} (h:s.heap.objs.size≤a):a ∉ X.fs:=fun hb=>by
 obtain⟨_,o,ho,_⟩:=I.ok.funs.mem hb
 exact absurd (Nat.lt_of_lt_of_le (Heap.lt_size ho) (Nat.le_trans I.sz h)) (Nat.lt_irrefl _)
theorem Inv.cne (I:Inv X pins σ H s):∀ x c,X.env.cells.lookup x=some c->c≠X.env.locals:=fun x c e z=>by
 obtain⟨v,o,ho,hd⟩:=I.cell x c e
 obtain⟨m,⟨o',es,ep,ho',hd',_⟩,_⟩:=I.loc
 rw[z,ho'] at ho;cases ho;rw[hd'] at hd;cases hd
theorem Inv.funs (I:Inv X pins σ H s):s.heap.FunFrames X.base X.outer:=by
 have all:∀ (l:List Env),(∀ b ∈ frs l,b ∈ X.fs)->X.s₀.heap.FunFrames X.base l->s.heap.FunFrames X.base l:=by
  intro l
  induction l with
  | nil=>intro _ _;trivial
  | cons env r ih =>
   intro hs hl
   obtain⟨hk,⟨L,o,hf,hn,ho,hd⟩,hr⟩:=hl
   have hL:L ∈ X.fs:=hs L (by unfold frs;rw[List.filterMap_cons,hf];exact List.mem_cons_self)
   obtain⟨sl,e⟩:=I.base.slot L o ho (I.ok.frf L hL) hL fun z=>I.ok.exfs L z hL
   exact⟨hk,⟨L,_,hf,hn,e,hd⟩,ih (fun b hb=>hs b (by unfold frs;rw[List.filterMap_cons,hf];exact List.mem_cons_of_mem _ hb)) hr⟩
 exact all X.outer (fun _ hb=>hb) I.ok.funs
/-- the frames that run, for a call -/
theorem Inv.stack (I:Inv X pins σ H s):s.heap.FunFrames X.base X.stack:=by
 rcases I.ok.stk with e | ⟨e,hf⟩
 ·rw[e];exact I.funs
 ·rw[e]
  obtain⟨m,hn,_⟩:=I.loc
  refine .cons (by rw[I.ok.kind];decide) hf hn ?_ I.funs
  exact Heap.get?_none_of_le (Nat.le_trans I.ok.bsz I.ok.above)
theorem Inv.stkSub (I:Inv X pins σ H s):∀ b ∈ frs X.stack,b ∈ X.env.locals::X.fs:=fun b hb=>by
 rcases I.ok.stk with e | ⟨e,hf⟩
 ·rw[e] at hb;exact List.mem_cons_of_mem _ hb
 ·rw[e] at hb
  unfold frs at hb
  rw[List.filterMap_cons,hf] at hb
  exact hb
theorem Inv.stkFree (I:Inv X pins σ H s):∀ b ∈ frs X.stack,H b=none:=fun b hb=>by
 rcases List.mem_cons.mp (I.stkSub b hb) with e | hb
 ·rw[e];exact I.free
 ·obtain⟨_,o,ho,_⟩:=I.ok.funs.mem hb
  exact I.base.free b o ho (I.ok.frf b hb) fun z=>I.ok.exfs b z hb
/-- THE STEP: the untracked objects but the frame and the records at ch are kept (the callers' frames up to slots), the frame's map is kept, the new abstract heap is held -/
theorem Inv.step {g':Array GenState} {t':Nat} {d':Drawn} {ch:List Addr} (I:Inv X pins σ H s)
  (hch:∀ b ∈ ch,(b ∈ X.ex∨X.s₀.heap.objs.size≤b)∧b≠X.env.locals∧(∀ x c,X.env.cells.lookup x=some c->c≠b)∧∀ p ∈ X.pn++pins,p.1≠b)
  (keep:∀ b o,b≠X.env.locals->b ∉ X.fs->b ∉ ch->s.heap.get? b=some o->H b=none->h'.get? b=some o)
  (slot:∀ b o,b≠X.env.locals->b ∈ X.fs->b ∉ ch->s.heap.get? b=some o->H b=none->∃ sl,h'.get? b=some { o with slots:=sl }) (free:∀ b o,b ∉ ch->s.heap.get? b=some o->H b=none->H' b=none)
  (there:∀ b o,b ∉ ch->s.heap.get? b=some o->∃ o',h'.get? b=some o')
  (tups:∀ b xs,H b=some (.tup xs)->H' b=some (.tup xs)) (frzs:∀ b o u,H b=some (.frz o u)->H' b=some (.frz o u)) (tbls:∀ b ps,H b=some (.tbl ps)->∃ more,H' b=some (.tbl (ps++more)))
  (ns:∀ m,s.heap.Ns X.env.locals m->h'.Ns X.env.locals m) (hok:HOk X.prog X.w H' h') (hg:AllBare g') :
  Inv X pins σ H' { s with heap:=h',gens:=g',drawn:=d',toks:=t' }:=by
 have neL:∀ b o,X.s₀.heap.get? b=some o->b≠X.env.locals:=fun b o e=>Nat.ne_of_lt (Nat.lt_of_lt_of_le (Heap.lt_size e) I.ok.above)
 have neC:∀ b o,X.s₀.heap.get? b=some o->b ∉ X.ex->b ∉ ch:=fun b o e hx hb=>by
  rcases (hch b hb).1 with z | z
  ·exact hx z
  ·exact absurd (Nat.lt_of_lt_of_le (Heap.lt_size e) z) (Nat.lt_irrefl _)
 have cellK:∀ x c,X.env.cells.lookup x=some c->∀ v,s.heap.IsCell c v->h'.IsCell c v:=fun x c e v ⟨o,ho,hd⟩=>by
  have nch:c ∉ ch:=fun z=>(hch c z).2.2.1 x c e rfl
  by_cases hc:c ∈ X.fs
  ·obtain⟨sl,q⟩:=slot c o (I.cne x c e) hc nch ho (I.freeC x c e)
   exact⟨_,q,hd⟩
  ·exact⟨o,keep c o (I.cne x c e) hc nch ho (I.freeC x c e),hd⟩
 refine⟨I.ok,I.os,hg,⟨fun b o e n hb hx=>?_,fun b o e n hb hx=>?_,fun b o e n hx=>?_,fun b o e hx=>?_,fun b xs e=>tups b xs (I.base.tups b xs e),fun b o xs e=>frzs b o xs (I.base.frzs b o xs e),fun b ps e=>?_⟩,?_,fun x c e=>?_,?_,fun x c e=>?_,fun p hp=>?_,hok,I.len⟩
 ·exact keep b o (neL b o e) hb (neC b o e hx) (I.base.keep b o e n hb hx) (I.base.free b o e n hx)
 ·obtain⟨sl,e1⟩:=I.base.slot b o e n hb hx
  obtain⟨sl',e2⟩:=slot b _ (neL b o e) hb (neC b o e hx) e1 (I.base.free b o e n hx)
  exact⟨sl',e2⟩
 ·obtain⟨o',e1⟩:=I.base.there b o e hx
  exact free b o' (neC b o e hx) e1 (I.base.free b o e n hx)
 ·obtain⟨o',e1⟩:=I.base.there b o e hx
  exact there b o' (neC b o e hx) e1
 ·obtain⟨m1,e1⟩:=I.base.tbls b ps e
  obtain⟨m2,e2⟩:=tbls b _ e1
  exact⟨m1++m2,by rw[e2,Array.append_assoc]⟩
 ·obtain⟨m,hn,hl⟩:=I.loc
  refine⟨m,ns m hn,fun i x v e1 e2 e3=>?_⟩
  obtain⟨u,r,l⟩:=hl i x v e1 e2 e3
  refine⟨u,r,?_⟩
  rcases l with l | ⟨k,c,e,z⟩
  ·exact .inl l
  ·exact .inr ⟨k,c,e,cellK x c e _ z⟩
 ·obtain⟨v,z⟩:=I.cell x c e
  exact⟨v,cellK x c e v z⟩
 ·obtain⟨m,⟨o,_,_,ho,_⟩,_⟩:=I.loc
  exact free _ o (fun z=>(hch _ z).2.1 rfl) ho I.free
 ·obtain⟨v,o,ho,hd⟩:=I.cell x c e
  exact free c o (fun z=>(hch c z).2.2.1 x c e rfl) ho (I.freeC x c e)
 ·obtain⟨e,n,ne,nf,d⟩:=I.pin p hp
  have nch:p.1 ∉ ch:=fun z=>(hch p.1 z).2.2.2 p hp rfl
  exact⟨keep p.1 p.2 ne nf nch e n,free p.1 p.2 nch e n,ne,nf,d⟩
/-- .. where the frame's own object is kept too -/
theorem Inv.un {t':Nat} (I:Inv X pins σ H s) (u:Un X.fs [] H H' s.heap h') (hok:HOk X.prog X.w H' h'):Inv X pins σ H' { s with heap:=h',toks:=t' }:=by
 obtain⟨m,⟨o,es,ep,ho,r⟩,_⟩:=id I.loc
 obtain⟨sl,hL⟩:=u.any ho I.free (by simp)
 exact I.step (g':=s.gens) (d':=s.drawn) (ch:=[]) (fun _ z=>nomatch z) (fun b o _ hb _ e n=>u.keep b o e n hb (by simp)) (fun b o _ hb _ e n=>u.slot b o e n hb (by simp)) (fun b o _ e n=>u.free b o e n (by simp)) (fun b o _ e=>u.there b o e (by simp)) u.tups u.frzs u.tbls (fun m' hm=>by
  obtain⟨o',es',ep',ho',r'⟩:=hm
  rw[ho] at ho';cases ho'
  exact⟨_,es',ep',hL,r'⟩) hok I.bare
/-- behind a call (or a comprehension's block): the slots of this frame may have changed too, the records at ch may have turned -/
theorem Inv.call {g':Array GenState} {t':Nat} {d':Drawn} {ch:List Addr} (I:Inv X pins σ H s) (u:Un (frs X.stack) ch H H' s.heap h') (hok:HOk X.prog X.w H' h') (hg:AllBare g')
  (hch:∀ b ∈ ch,(b ∈ X.ex∨X.s₀.heap.objs.size≤b)∧b≠X.env.locals∧(∀ x c,X.env.cells.lookup x=some c->c≠b)∧∀ p ∈ X.pn++pins,p.1≠b) :
  Inv X pins σ H' { s with heap:=h',gens:=g',drawn:=d',toks:=t' }:=by
 obtain⟨m,⟨o,es,ep,ho,r⟩,_⟩:=id I.loc
 obtain⟨sl,hL⟩:=u.any ho I.free fun z=>(hch _ z).2.1 rfl
 exact I.step (ch:=ch) hch (fun b o hL hb hc e n=>u.keep b o e n (fun z=>(List.mem_cons.mp (I.stkSub b z)).elim hL hb) hc) (fun b o _ _ hc e n=>u.any e n hc) (fun b o hc e n=>u.free b o e n hc) (fun b o hc e=>u.there b o e hc) u.tups u.frzs u.tbls (fun m' hm=>by
  obtain⟨o',es',ep',ho',r'⟩:=hm
  rw[ho] at ho';cases ho'
  exact⟨_,es',ep',hL,r'⟩) hok hg
/-- an untracked record of ours (an iterator) has turned -/
theorem Inv.turned {t':Nat} {it:Addr} (I:Inv X pins σ H s) (k:∀ b o,b≠it->s.heap.get? b=some o->h'.get? b=some o) (hn:H it=none) (hL:it≠X.env.locals)
  (h1:it ∈ X.ex∨X.s₀.heap.objs.size≤it) (h2:∀ x c,X.env.cells.lookup x=some c->c≠it) (h3:∀ p ∈ X.pn++pins,p.1≠it):Inv X pins σ H { s with heap:=h',toks:=t' }:=by
 have nit:∀ b u,H b=some u->b≠it:=fun b u e z=>by rw[z,hn] at e;cases e
 refine I.step (g':=s.gens) (d':=s.drawn) (ch:=[it]) (fun b hb=>?_) (fun b o _ _ hc e _=>k b o (fun z=>hc (by simp [z])) e) (fun b o _ _ hc e _=>⟨o.slots,k b o (fun z=>hc (by simp [z])) e⟩) (fun _ _ _ _ n=>n)
  (fun b o hc e=>⟨o,k b o (fun z=>hc (by simp [z])) e⟩) (fun _ _ e=>e) (fun _ _ _ e=>e) (fun b ps e=>⟨#[],by rw[e];simp⟩) (fun m hm=>?_) (fun b u e=>?_) I.bare
 ·have e:b=it:=by simpa using hb
  subst e
  exact⟨h1,hL,h2,h3⟩
 ·obtain⟨o,es,ep,ho,r⟩:=hm
  exact⟨o,es,ep,k _ o (Ne.symm hL) ho,r⟩
 ·refine (I.hok b u e).stay (fun c v hc q=>k c v ?_ q) (fun _ q=>q) fun _ _ q=>q
  rcases hc with z | z
  ·rw[z];exact nit b u e
  ·exact nit c _ z
theorem Inv.tok (I:Inv X pins σ H s) (t:Nat):Inv X pins σ H { s with toks:=t }:=I.un (h':=s.heap) (t':=t) Un.refl I.hok
/-- all objects kept -/
theorem Inv.kept {t':Nat} (I:Inv X pins σ H s) (k:∀ b u,s.heap.get? b=some u->h'.get? b=some u):Inv X pins σ H { s with heap:=h',toks:=t' }:=I.un (Un.kept k) (I.hok.kept k)
/-- a new object laid and tracked -/
theorem Inv.laid {a:Addr} {o:HO} {t':Nat} (I:Inv X pins σ H s) (k:∀ b u,s.heap.get? b=some u->h'.get? b=some u) (hp:s.heap.objs.size≤a) (new:ObjOk X.prog X.w (upd H a o) h' a o) :
  Inv X pins σ (upd H a o) { s with heap:=h',toks:=t' }:=I.un (Un.laid k hp (I.hok.fresh hp)) (I.hok.laid k hp new)
/-- an object written -/
theorem Inv.write {x e:Addr} {o:HO} {t':Nat} (I:Inv X pins σ H s) (mu:Mut (H x)) (he:e=x∨H e=some (.own x)) (k:∀ b u,b≠e->s.heap.get? b=some u->h'.get? b=some u) (heo:∃ u,h'.get? e=some u)
  (new:ObjOk X.prog X.w (upd H x o) h' x o):Inv X pins σ (upd H x o) { s with heap:=h',toks:=t' }:=I.un (Un.write mu he k heo) (I.hok.write mu he k heo new)
theorem Inv.pins_of {pins':List (Addr × Obj)} (I:Inv X pins σ H s) (h:∀ p ∈ pins',s.heap.get? p.1=some p.2∧H p.1=none∧p.1≠X.env.locals∧p.1 ∉ X.fs∧∀ v,p.2.data≠.cell v):Inv X pins' σ H s :=
 ⟨I.ok,I.os,I.bare,I.base,I.loc,I.cell,I.free,I.freeC,fun p hp=>(List.mem_append.mp hp).elim (fun z=>I.pin p (List.mem_append_left _ z)) (h p),I.hok,I.len⟩
theorem nodup_ix {N:List Str} (hN:N.Nodup) {i j:Nat} {x:Str} (a:N[i]?=some x) (b:N[j]?=some x):i=j:=by
 obtain⟨h1,e1⟩:=List.getElem?_eq_some_iff.mp a
 obtain⟨h2,e2⟩:=List.getElem?_eq_some_iff.mp b
 exact (List.getElem_inj hN).mp (e1.trans e2.symm)
/-- a name is stored; what changed -/
theorem store_ok2 {M:Model} {A:Around} {E:Value->Shared->Prop} {i:Nat} {x:Str} {v:V} {u:Value} {Q:Unit->Shared->Prop} (I:Inv X pins σ H s) (hN:X.N.Nodup) (hi:X.N[i]?=some x) (hx:Loc X.env.scope x) (r:RelV v u)
  (h:∀ s',Inv X pins (σ.set i (some v)) H s'->(∃ a,Heap.SameBut a s.heap s'.heap∧(a=X.env.locals∨X.env.cells.lookup x=some a))->Q () s') (hf:X.fn x=true∨X.env.scope.names.lookup x=some .local:=by first | exact .inl rfl | exact .inr rfl | assumption):wpAny M A (storeName X.env x u) Q E s:=by
 obtain⟨m,hn,hl⟩:=id I.loc
 have hcls:(X.env.scope.kind == .class || (X.env.scope.kind == .module && X.env.locals != X.env.globals))=false:=by rw[I.ok.kind];rfl
 have hiσ:i < σ.length:=by rw[I.len];exact (List.getElem?_eq_some_iff.mp hi).1
 have cne:=I.cne
 have tracked:∀ {a:Addr} {h':Heap},(∃ o,s.heap.get? a=some o∧H a=none)->Heap.SameBut a s.heap h'->HOk X.prog X.w H h':=fun {a h'} ha hs b ob e=>by
  obtain⟨_,_,hfree⟩:=ha
  refine (I.hok b ob e).stay (fun c w' hc q=>(hs.2 c ?_).trans q) (fun _ q=>q) fun _ _ q=>q
  rintro rfl
  rcases hc with rfl | hc
  ·rw[hfree] at e;cases e
  ·rw[hfree] at hc;cases hc
 rcases hx with hk | hk
 ·refine wpAny_storeName_local hk hn (fun h' hn' hs=>?_) hcls
  obtain⟨oL,_,_,hoL,_⟩:=id hn
  refine h _ ⟨I.ok,I.os,I.bare,⟨fun b o e n hb hx=>?_,fun b o e n hb hx=>?_,I.base.free,fun b o e hx=>?_,I.base.tups,I.base.frzs,I.base.tbls⟩,⟨_,hn',fun j y v' e1 e2 e3=>?_⟩,fun y c e=>?_,I.free,I.freeC,fun p hp=>?_,tracked ⟨oL,hoL,I.free⟩ hs,by simpa using I.len⟩ ⟨_,hs,.inl rfl⟩
  ·exact (hs.2 b (Nat.ne_of_lt (Nat.lt_of_lt_of_le (Heap.lt_size e) I.ok.above))).trans (I.base.keep b o e n hb hx)
  ·obtain⟨sl,e1⟩:=I.base.slot b o e n hb hx
   exact⟨sl,(hs.2 b (Nat.ne_of_lt (Nat.lt_of_lt_of_le (Heap.lt_size e) I.ok.above))).trans e1⟩
  ·obtain⟨o',e1⟩:=I.base.there b o e hx
   exact⟨o',(hs.2 b (Nat.ne_of_lt (Nat.lt_of_lt_of_le (Heap.lt_size e) I.ok.above))).trans e1⟩
  ·by_cases hj:j=i
   ·subst hj
    rw[hi] at e1;cases e1
    rw[List.getElem?_set_self hiσ] at e2
    cases e2
    exact⟨u,r,.inl ⟨hk,by simp⟩⟩
   ·rw[List.getElem?_set_ne (Ne.symm hj)] at e2
    obtain⟨u',r',q⟩:=hl j y v' e1 e2 e3
    refine⟨u',r',?_⟩
    rcases q with ⟨k,e⟩ | ⟨k,c,e,z⟩
    ·refine .inl ⟨k,?_⟩
     have:y≠x:=fun e=>hj (nodup_ix hN e1 (e ▸ hi))
     simp [this,e]
    ·exact .inr ⟨k,c,e,z.sameBut hs (cne y c e)⟩
  ·obtain⟨w',z⟩:=I.cell y c e
   exact⟨w',z.sameBut hs (cne y c e)⟩
  ·obtain⟨e,n,ne,nf,d⟩:=I.pin p hp
   exact⟨(hs.2 p.1 ne).trans e,n,ne,nf,d⟩
 ·have hfn:X.fn x=true:=by
   rcases hf with z | z
   ·exact z
   ·rw[z] at hk;cases hk
  obtain⟨c,hc⟩:=I.ok.has x (.inl hk)
  obtain⟨w',z⟩:=I.cell x c hc
  refine wpAny_storeName_cell I.ok.kind hk hc z (fun h' hc' hs=>?_)
  obtain⟨oc,hoc,hocd⟩:=id z
  refine h { s with heap:=h' } ⟨I.ok,I.os,I.bare,⟨fun b o e n hb hx=>?_,fun b o e n hb hx=>?_,I.base.free,fun b o e hx=>?_,I.base.tups,I.base.frzs,I.base.tbls⟩,⟨m,hn.sameBut hs (Ne.symm (cne x c hc)),fun j y v' e1 e2 e3=>?_⟩,fun y c' e=>?_,I.free,I.freeC,fun p hp=>?_,tracked ⟨oc,hoc,I.freeC x c hc⟩ hs,by simpa using I.len⟩ ⟨c,hs,.inr hc⟩
  ·exact (hs.2 b (Nat.ne_of_lt (Nat.lt_of_lt_of_le (Heap.lt_size e) (I.ok.cab x c hfn hc)))).trans (I.base.keep b o e n hb hx)
  ·obtain⟨sl,e1⟩:=I.base.slot b o e n hb hx
   exact⟨sl,(hs.2 b (Nat.ne_of_lt (Nat.lt_of_lt_of_le (Heap.lt_size e) (I.ok.cab x c hfn hc)))).trans e1⟩
  ·obtain⟨o',e1⟩:=I.base.there b o e hx
   exact⟨o',(hs.2 b (Nat.ne_of_lt (Nat.lt_of_lt_of_le (Heap.lt_size e) (I.ok.cab x c hfn hc)))).trans e1⟩
  ·by_cases hj:j=i
   ·subst hj
    rw[hi] at e1;cases e1
    rw[List.getElem?_set_self hiσ] at e2
    cases e2
    exact⟨u,r,.inr ⟨.inl hk,c,hc,hc'⟩⟩
   ·rw[List.getElem?_set_ne (Ne.symm hj)] at e2
    obtain⟨u',r',q⟩:=hl j y v' e1 e2 e3
    refine⟨u',r',?_⟩
    rcases q with q | ⟨k,c',e,z'⟩
    ·exact .inl q
    ·refine .inr ⟨k,c',e,z'.sameBut hs ?_⟩
     rintro rfl
     exact hj (nodup_ix hN e1 (I.ok.inj _ _ _ e hc ▸ hi))
  ·by_cases hcc:c'=c
   ·subst hcc;exact⟨_,hc'⟩
   ·obtain⟨w2,z2⟩:=I.cell y c' e
    exact⟨w2,z2.sameBut hs hcc⟩
  ·obtain⟨e,n,ne,nf,d⟩:=I.pin p hp
   refine⟨(hs.2 p.1 ?_).trans e,n,ne,nf,d⟩
   intro q
   rw[q,hoc] at e
   have q':oc=p.2:=Option.some.inj e
   exact d w' (by rw[← q'];exact hocd)
theorem store_ok {M:Model} {A:Around} {E:Value->Shared->Prop} {i:Nat} {x:Str} {v:V} {u:Value} {Q:Unit->Shared->Prop} (I:Inv X pins σ H s) (hN:X.N.Nodup) (hi:X.N[i]?=some x) (hx:Loc X.env.scope x) (r:RelV v u)
  (h:∀ s',Inv X pins (σ.set i (some v)) H s'->Q () s') (hf:X.fn x=true∨X.env.scope.names.lookup x=some .local:=by first | exact .inl rfl | exact .inr rfl | assumption):wpAny M A (storeName X.env x u) Q E s :=
 store_ok2 I hN hi hx r (fun s' I' _=>h s' I') hf
/-- behind a call or a block, the state as it is -/
theorem Inv.call' {s':Shared} {ch:List Addr} (I:Inv X pins σ H s) (ho:s'.os=s.os) (u:Un (frs X.stack) ch H H' s.heap s'.heap) (hok:HOk X.prog X.w H' s'.heap) (hg:AllBare s'.gens)
  (hch:∀ b ∈ ch,(b ∈ X.ex∨X.s₀.heap.objs.size≤b)∧b≠X.env.locals∧(∀ x c,X.env.cells.lookup x=some c->c≠b)∧∀ p ∈ X.pn++pins,p.1≠b):Inv X pins σ H' s':=by
 obtain⟨h',g',d',t',o'⟩:=s'
 have e:o'=s.os:=ho
 subst e
 exact I.call (g':=g') (t':=t') (d':=d') u hok hg hch
end
/-- an exception: its class, its own dict's address (where it has one), the abstract heap behind it -/
abbrev XK:=Value->Option Addr->Hp->Prop
abbrev St:=List (Option V)
abbrev VK:=V->Hp->Prop
/-- an expression's reading; a test's; an argument list's -/
abbrev TE:=St->Hp->VK->Prop
abbrev TT:=St->Hp->(Bool->Hp->Prop)->Prop
abbrev TA:=St->Hp->(List V->Hp->Prop)->Prop
/-- what is wanted behind a statement -/
structure Ends where
 nx:St->Hp->Prop
 rt:VK
 bk:St->Hp->Prop:=fun _ _=>False
 ct:St->Hp->Prop:=fun _ _=>False
abbrev TS:=Ends->St->Hp->Prop
def EP (X:Cx) (pins:List (Addr × Obj)) (σ:St) (Q:VK) (u:Value) (s':Shared):Prop:=∃ v H',Inv X pins σ H' s'∧RelV v u∧Q v H'
def TP (X:Cx) (pins:List (Addr × Obj)) (σ:St) (Q:Bool->Hp->Prop) (b:Bool) (s':Shared):Prop:=∃ H',Inv X pins σ H' s'∧Q b H'
def AP (X:Cx) (pins:List (Addr × Obj)) (σ:St) (Q:List V->Hp->Prop) (us:List Value) (s':Shared):Prop:=∃ vs H',Inv X pins σ H' s'∧Vals vs us∧Q vs H'
def SP (X:Cx) (pins:List (Addr × Obj)) (D:Ends) (f:Flow) (s':Shared):Prop :=
 match f with
 | .next=>∃ σ' H',Inv X pins σ' H' s'∧D.nx σ' H'
 | .brk=>∃ σ' H',Inv X pins σ' H' s'∧D.bk σ' H'
 | .cont=>∃ σ' H',Inv X pins σ' H' s'∧D.ct σ' H'
 | .ret u=>∃ v σ' H',Inv X pins σ' H' s'∧RelV v u∧D.rt v H'
def PE (X:Cx) (e:Expr) (t:TE):Prop :=
 ∀ (pins:List (Addr × Obj)) (s:Shared) (σ:St) (H:Hp) (Q:VK),Inv X pins σ H s->t σ H Q->wpAny (model X.prog X.w) X.A (eval e X.env) (EP X pins σ Q) X.xe s
def PT (X:Cx) (e:Expr) (t:TT):Prop :=
 ∀ (pins:List (Addr × Obj)) (s:Shared) (σ:St) (H:Hp) (Q:Bool->Hp->Prop),Inv X pins σ H s->t σ H Q->wpAny (model X.prog X.w) X.A (isTrue e X.env (eval e X.env)) (TP X pins σ Q) X.xe s
/-- a test whatever its 'whole' is (and, or) -/
def PW (X:Cx) (e:Expr) (t:TT):Prop :=
 ∀ (whole:Sem Value) (pins:List (Addr × Obj)) (s:Shared) (σ:St) (H:Hp) (Q:Bool->Hp->Prop),Inv X pins σ H s->t σ H Q->wpAny (model X.prog X.w) X.A (isTrue e X.env whole) (TP X pins σ Q) X.xe s
theorem PW.pt {X:Cx} {e:Expr} {t:TT} (h:PW X e t):PT X e t:=h _
/-- an argument list (no star), from the left -/
def PA (X:Cx) (es:List Expr) (t:TA):Prop :=
 ∀ (pos:Pos) (pins:List (Addr × Obj)) (s:Shared) (σ:St) (H:Hp) (Q:List V->Hp->Prop),Inv X pins σ H s->t σ H Q->wpAny (model X.prog X.w) X.A (spliced (backTo pos (starEach es X.env))) (AP X pins σ Q) X.xe s
def PS (X:Cx) (st:Stmt) (t:TS):Prop :=
 ∀ (pins:List (Addr × Obj)) (s:Shared) (σ:St) (H:Hp) (D:Ends),Inv X pins σ H s->t D σ H->wpAny (model X.prog X.w) X.A (exec st X.env) (SP X pins D) X.xe s
def PSs (X:Cx) (st:List Stmt) (t:TS):Prop :=
 ∀ (pins:List (Addr × Obj)) (s:Shared) (σ:St) (H:Hp) (D:Ends),Inv X pins σ H s->t D σ H->wpAny (model X.prog X.w) X.A (execs st X.env) (SP X pins D) X.xe s
/-- weaken the end -/
theorem thn {α:Type} {t:Sem α} {Q Q':α->Shared->Prop} {M:Model} {A:Around} {E:Value->Shared->Prop} {s:Shared} (h:wpAny M A t Q E s) (hQ:∀ a s,Q a s->Q' a s):wpAny M A t Q' E s:=wpAny_mono h hQ fun _ _ x=>x
end L2
namespace L2
open PySem PySem.Spec PyProof.Rows
section
variable {X:Cx}
def tVar (i:Nat):TE:=fun σ H Q=>∃ v,σ[i]?=some (some v)∧Q v H
def tC (v:V):TE:=fun _ H Q=>Q v H
theorem pe_var {i:Nat} {x:Str} {pos:Pos} (hN:X.N[i]?=some x) (hv:Vis X.env.scope x) (hd:(x == ("__debug__":Str))=false:=by decide) (hcd:(x == ("__classdict__":Str))=false:=by decide):PE X (.Name x pos) (tVar i):=by
 intro pins s σ H Q I h
 obtain⟨v,e,h⟩:=h
 obtain⟨m,hn,hl⟩:=I.loc
 obtain⟨u,r,l⟩:=hl i x v hN e hv
 have fin:EP X pins σ Q u s:=⟨v,H,I,r,h⟩
 rcases l with ⟨hk,hm⟩ | ⟨hk,c,hc,hcell⟩
 ·exact wpAny_Name (wpAny_loadName_local I.ok.kind hk hn hm fin) hd
 ·rcases hk with hk | hk
  ·exact wpAny_Name (wpAny_loadName_cell I.ok.kind hk hc hcell fin) hd
  ·exact wpAny_Name (wpAny_loadName_free I.ok.kind hk hc hcell fin hcd) hd
theorem pe_int {i j pos}:PE X (.Constant (.int i) j pos) (tC (.int i)):=fun _ _ _ H _ I h=>wpAny_Constant_int ⟨.int i,H,I.tok _,⟨_,rfl⟩,h⟩
theorem pe_bl {b j pos}:PE X (.Constant (.bool b) j pos) (tC (.bl b)):=fun _ _ _ H _ I h=>Constant_bool ⟨.bl b,H,I,rfl,h⟩
theorem pe_non {j pos}:PE X (.Constant .none j pos) (tC .non):=fun _ _ _ H _ I h=>Constant_none ⟨.non,H,I,rfl,h⟩
/-- a global name of the def -/
def Gl (X:Cx) (x:Str):Prop:=X.env.kindOf x=some .globalImplicit
theorem ld_glob {E:Value->Shared->Prop} {pins:List (Addr × Obj)} {s:Shared} {σ:St} {H:Hp} {x:Str} {u:Value} {pos:Pos} {Q:Value->Shared->Prop} (I:Inv X pins σ H s) (hg:Gl X x) (hm:X.mg x=some u) (h:Q u s)
  (hd:(x == ("__debug__":Str))=false:=by decide):wpAny (model X.prog X.w) X.A (eval (.Name x pos) X.env) Q E s :=
 Calls.Name_function_global I.ok.kind hg (Calls.loadGlobal_global (by rw[I.ok.glob];exact I.mod.glob.keeps I.bk) hm h) hd
theorem ld_blt {E:Value->Shared->Prop} {pins:List (Addr × Obj)} {s:Shared} {σ:St} {H:Hp} {x:Str} {u:Value} {pos:Pos} {Q:Value->Shared->Prop} (I:Inv X pins σ H s) (hg:Gl X x) (hm:X.mg x=none) (hv:bootBuiltins x=some u) (h:Q u s)
  (hn:x≠"__name__":=by decide) (hd:(x == ("__debug__":Str))=false:=by decide):wpAny (model X.prog X.w) X.A (eval (.Name x pos) X.env) Q E s:=by
 obtain⟨mb,h1,h2⟩:=I.mod.blt
 exact Calls.Name_function_global I.ok.kind hg (Calls.loadGlobal_builtin (by rw[I.ok.glob];exact I.mod.glob.keeps I.bk) hm (by rw[I.ok.blt];exact h1.keeps I.bk) ((h2 x hn).trans hv) h) hd
theorem pe_bltn {x:Str} {v:V} {u:Value} {pos:Pos} (hg:Gl X x) (hm:X.mg x=none) (hv:bootBuiltins x=some u) (r:RelV v u) (hn:x≠"__name__":=by decide) (hd:(x == ("__debug__":Str))=false:=by decide):PE X (.Name x pos) (tC v) :=
 fun _ _ _ H _ I h=>ld_blt I hg hm hv ⟨v,H,I,r,h⟩ hn hd
variable {a b:Expr} {ta tb:TE} {pos:Pos}
def PC (X:Cx) (op:CmpOp) (a b:Expr) (t:TE):Prop :=
 ∀ (pins:List (Addr × Obj)) (s:Shared) (σ:St) (H:Hp) (Q:VK),Inv X pins σ H s->t σ H Q ->
  wpAny (model X.prog X.w) X.A (eval a X.env) (fun v s₁=>wpAny (model X.prog X.w) X.A (eval b X.env) (fun u s₂=>wpAny (model X.prog X.w) X.A (compareOp op v u) (EP X pins σ Q) X.xe s₂) X.xe s₁) X.xe s
theorem nobehind (b:Expr) {op:CmpOp} (h:op≠.In) (h2:op≠.NotIn):behindInMarks op b=false:=by
 have e1:(op == CmpOp.In)=false:=by cases op <;> first | rfl | exact absurd rfl h
 have e2:(op == CmpOp.NotIn)=false:=by cases op <;> first | rfl | exact absurd rfl h2
 cases b <;> simp [behindInMarks,e1,e2]
/-- a comparison as a value, as a test -/
def tB (t:TE):TT:=fun σ H Q=>t σ H fun x H1=>∃ c,x=.bl c∧Q c H1
theorem pt_cmp {op:CmpOp} {t:TE} (h:PC X op a b t) (h1:behindInMarks op b=false:=by first | exact nobehind _ (by decide) (by decide) | rfl):PT X (.Compare a [op] [b] pos) (tB t):=by
 intro pins s σ H Q I hw
 refine wpAny_isTrue_Compare1 (thn (h pins s σ H _ I hw) fun v s1 h1=>thn h1 fun u s2 h2=>thn h2 fun c s3 ⟨x,H1,I1,r1,q1⟩=>?_) h1
 obtain⟨d,rfl,q⟩:=q1
 cases r1
 exact wpAny_truthy_bool ⟨H1,I1,q⟩
/-- an expression whose value is a bool, as a test -/
theorem pt_val {e:Expr} {t:TE} (h:PE X e t) (he:∀ whole,isTrue e X.env whole=(do let v ← whole;standAt e.pos;holding [v] (truthy v)):=by intro _;rfl):PT X e (tB t):=by
 intro pins s σ H Q I hw
 refine isTrue_plain (thn (h pins s σ H _ I hw) fun v s1 ⟨x,H1,I1,r1,q1⟩=>?_) (he _)
 obtain⟨d,rfl,q⟩:=q1
 cases r1
 exact wpAny_truthy_bool ⟨H1,I1,q⟩
variable {tA tB':TT} {rest:List Expr}
def tAnd (t u:TT):TT:=fun σ H Q=>t σ H fun c H1=>if c=true then u σ H1 Q else Q false H1
def tOr (t u:TT):TT:=fun σ H Q=>t σ H fun c H1=>if c=true then Q true H1 else u σ H1 Q
def tNot (t:TT):TT:=fun σ H Q=>t σ H fun c H1=>Q (!c) H1
theorem pw_and1 (ha:PT X a tA):PW X (.BoolOp .And [a] pos) tA:=by
 intro wh pins s σ H Q I h
 refine isTrue_and (thn (ha pins s σ H Q I h) fun c s1 e=>?_)
 cases c with
 | true=>exact isTrue_and_nil e
 | false=>exact e
theorem pw_or1 (ha:PT X a tA):PW X (.BoolOp .Or [a] pos) tA:=by
 intro wh pins s σ H Q I h
 refine isTrue_or (thn (ha pins s σ H Q I h) fun c s1 e=>?_)
 cases c with
 | false=>exact isTrue_or_nil e
 | true=>exact e
theorem pw_and (ha:PT X a tA) (hb:PW X (.BoolOp .And (b::rest) pos) tB'):PW X (.BoolOp .And (a::b::rest) pos) (tAnd tA tB'):=by
 intro wh pins s σ H Q I h
 refine isTrue_and (thn (ha pins s σ H _ I h) fun c s1 ⟨H1,I1,q1⟩=>?_)
 cases c with
 | true=>exact hb wh pins s1 σ H1 Q I1 q1
 | false=>exact⟨H1,I1,q1⟩
theorem pw_or (ha:PT X a tA) (hb:PW X (.BoolOp .Or (b::rest) pos) tB'):PW X (.BoolOp .Or (a::b::rest) pos) (tOr tA tB'):=by
 intro wh pins s σ H Q I h
 refine isTrue_or (thn (ha pins s σ H _ I h) fun c s1 ⟨H1,I1,q1⟩=>?_)
 cases c with
 | true=>exact⟨H1,I1,q1⟩
 | false=>exact hb wh pins s1 σ H1 Q I1 q1
theorem pt_not (ha:PT X a tA):PT X (.UnaryOp .Not a pos) (tNot tA):=by
 intro pins s σ H Q I h
 exact isTrue_not (ha pins s σ H (fun c H1=>Q (!c) H1) I h)
/-- .. as values (bools) -/
def tAndV (ta tb:TE):TE:=fun σ H Q=>ta σ H fun x H1=>∃ c,x=.bl c∧if c=true then tb σ H1 Q else Q (.bl false) H1
def tOrV (ta tb:TE):TE:=fun σ H Q=>ta σ H fun x H1=>∃ c,x=.bl c∧if c=true then Q (.bl true) H1 else tb σ H1 Q
def tNotV (ta:TE):TE:=fun σ H Q=>ta σ H fun x H1=>∃ c,x=.bl c∧Q (.bl (!c)) H1
theorem pe_one {op} {t:TE} (h:PE X a t):PE X (.BoolOp op [a] pos) t:=fun pins s σ H Q I hw=>BoolOp_one (h pins s σ H Q I hw)
theorem pe_and (ha:PE X a ta) (hb:PE X (.BoolOp .And (b::rest) pos) tb):PE X (.BoolOp .And (a::b::rest) pos) (tAndV ta tb):=by
 intro pins s σ H Q I h
 refine BoolOp_and (thn (ha pins s σ H _ I h) fun v s1 ⟨x,H1,I1,r1,q1⟩=>?_)
 obtain⟨c,rfl,q1⟩:=q1
 cases r1
 refine wpAny_truthy_bool ?_
 cases c with
 | true=>exact hb pins s1 σ H1 Q I1 q1
 | false=>exact⟨.bl false,H1,I1,rfl,q1⟩
theorem pe_or (ha:PE X a ta) (hb:PE X (.BoolOp .Or (b::rest) pos) tb):PE X (.BoolOp .Or (a::b::rest) pos) (tOrV ta tb):=by
 intro pins s σ H Q I h
 refine BoolOp_or (thn (ha pins s σ H _ I h) fun v s1 ⟨x,H1,I1,r1,q1⟩=>?_)
 obtain⟨c,rfl,q1⟩:=q1
 cases r1
 refine wpAny_truthy_bool ?_
 cases c with
 | false=>exact hb pins s1 σ H1 Q I1 q1
 | true=>exact⟨.bl true,H1,I1,rfl,q1⟩
theorem pe_not (ha:PE X a ta):PE X (.UnaryOp .Not a pos) (tNotV ta):=by
 intro pins s σ H Q I h
 refine UnaryOp_ (thn (ha pins s σ H _ I h) fun v s1 ⟨x,H1,I1,r1,q1⟩=>?_)
 obtain⟨c,rfl,q1⟩:=q1
 cases r1
 exact not_of (wpAny_truthy_bool ⟨.bl (!c),H1,I1,rfl,q1⟩)
/-- a if t else b -/
def tIf (t:TT) (ta tb:TE):TE:=fun σ H Q=>t σ H fun c H1=>if c=true then ta σ H1 Q else tb σ H1 Q
theorem pe_ifExp {c:Expr} (hc:PT X c tA) (ha:PE X a ta) (hb:PE X b tb):PE X (.IfExp c a b pos) (tIf tA ta tb):=by
 intro pins s σ H Q I h
 refine wpAny_IfExp (thn (hc pins s σ H _ I h) fun d s1 ⟨H1,I1,q1⟩=>?_)
 cases d with
 | true=>exact ha pins s1 σ H1 Q I1 q1
 | false=>exact hb pins s1 σ H1 Q I1 q1
end
end L2
namespace L2
open PySem PySem.Spec PyProof.Rows
def SqL (K:PySem.W.Frag) (H:Hp) (a:Addr) (xs:List V):Prop :=
 Rd H a (.lst xs) ∨
  ∃ (o:Obj) (its:Array Value) (n:Nat),K.lookup a=some o∧o.cls=.type "list"∧o.dict=none∧o.data=.seq its n∧its.size≤sizeLine∧Vals xs its.toList
def SqT (K:PySem.W.Frag) (H:Hp) (a:Addr) (xs:List V):Prop :=
 Rd H a (.tup xs) ∨
  ∃ (o:Obj) (its:Array Value) (n:Nat),K.lookup a=some o∧o.cls=.type "tuple"∧o.data=.seq its n∧its.size≤sizeLine∧Vals xs its.toList
def absV:Value->Option V
 | .none=>some .non
 | .bool b=>some (.bl b)
 | .int i _=>some (.int i)
 | .str x _=>some (.str x)
 | .bytes b _=>some (.byt b)
 | .float b _=>some (.flt b)
 | .ref a=>some (.ref a)
 | .type n=>some (.ty n)
 | _=>none
theorem RelV.abs {x:V} {u:Value} (r:RelV x u):absV u=some x:=by
 cases x with
 | non=>cases r;rfl
 | bl _=>cases r;rfl
 | int _=>obtain⟨t,rfl⟩:=r;rfl
 | str _=>obtain⟨t,rfl⟩:=r;rfl
 | byt _=>obtain⟨t,rfl⟩:=r;rfl
 | flt _=>obtain⟨t,rfl⟩:=r;rfl
 | ref _=>cases r;rfl
 | ty _=>cases r;rfl
theorem RelV.inj {x y:V} {u:Value} (r:RelV x u) (q:RelV y u):x=y:=Option.some.inj (r.abs.symm.trans q.abs)
theorem Vals.inj:∀ {xs ys:List V} {us:List Value},Vals xs us->Vals ys us->xs=ys
 | _,_,_,.nil,.nil=>rfl
 | _,_,_,.cons r t,.cons r' t'=>by rw[r.inj r',Vals.inj t t']
section
variable {X:Cx} {pins:List (Addr × Obj)} {σ:St} {H:Hp} {s:Shared} {a:Addr} {xs ys:List V}
theorem SqL.of {K:PySem.W.Frag} (h:H a=some (.lst xs)):SqL K H a xs:=.inl (.inl h)
theorem SqT.of {K:PySem.W.Frag} (h:H a=some (.tup xs)):SqT K H a xs:=.inl (.inl h)
theorem Inv.list (I:Inv X pins σ H s) (h:SqL X.K H a xs):∃ its:List Value,Vals xs its∧PlainL s.heap a its.toArray∧xs.length≤sizeLine:=by
 rcases h with h | ⟨o,its,n,hk,hc,hd,hs,hz,r⟩
 ·obtain⟨z,its,n,r,e⟩:=h.ok I.hok
  exact⟨its,r,⟨_,n,e,rfl,rfl,rfl⟩,z⟩
 ·refine⟨its.toList,r,⟨o,n,I.kIn a o hk,hc,hd,by simpa using hs⟩,?_⟩
  have e:=r.length
  simp only [Array.length_toList] at e
  omega
theorem Inv.tuple (I:Inv X pins σ H s) (h:SqT X.K H a xs):∃ its:List Value,Vals xs its∧IsTup s.heap a its.toArray∧xs.length≤sizeLine:=by
 rcases h with h | ⟨o,its,n,hk,hc,hs,hz,r⟩
 ·obtain⟨z,its,r,p⟩:=h.ok I.hok
  exact⟨its,r,p.tup,z⟩
 ·refine⟨its.toList,r,⟨o,I.kIn a o hk,hc,n,by simpa using hs⟩,?_⟩
  have e:=r.length
  simp only [Array.length_toList] at e
  omega
theorem Inv.list_inj (I:Inv X pins σ H s) (h:SqL X.K H a xs) (h':SqL X.K H a ys):xs=ys:=by
 obtain⟨its,r,⟨o,n,e,_,_,d⟩,_⟩:=I.list h
 obtain⟨its',r',⟨o',n',e',_,_,d'⟩,_⟩:=I.list h'
 rw[e] at e';cases e'
 rw[d] at d'
 injection d' with d1 _
 have:its=its':=by simpa using congrArg Array.toList d1
 subst this
 exact r.inj r'
theorem Inv.tuple_inj (I:Inv X pins σ H s) (h:SqT X.K H a xs) (h':SqT X.K H a ys):xs=ys:=by
 obtain⟨its,r,⟨o,e,_,n,d⟩,_⟩:=I.tuple h
 obtain⟨its',r',⟨o',e',_,n',d'⟩,_⟩:=I.tuple h'
 rw[e] at e';cases e'
 rw[d] at d'
 injection d' with d1 _
 have:its=its':=by simpa using congrArg Array.toList d1
 subst this
 exact r.inj r'
end
abbrev Cx.wish (X:Cx) (E:Value->Shared->Prop):Cx:={ X with xe:=E }
/-- no exception leaves -/
abbrev Cx.nox (X:Cx):Cx:=X.wish fun _ _=>False
theorem Cx.Ok.wish {X:Cx} (ok:X.Ok) (E:Value->Shared->Prop):(X.wish E).Ok :=
 ⟨ok.mod,ok.kind,ok.glob,ok.blt,ok.above,ok.inj,ok.has,ok.cab,ok.hd,ok.frames,ok.stk,ok.exf,ok.bs,ok.bsz,ok.noex,ok.exfs,ok.funs,ok.frf⟩
theorem Cx.Ok.unwish {X:Cx} {E:Value->Shared->Prop} (ok:(X.wish E).Ok):X.Ok :=
 ⟨ok.mod,ok.kind,ok.glob,ok.blt,ok.above,ok.inj,ok.has,ok.cab,ok.hd,ok.frames,ok.stk,ok.exf,ok.bs,ok.bsz,ok.noex,ok.exfs,ok.funs,ok.frf⟩
section
variable {X:Cx} {pins:List (Addr × Obj)} {σ:St} {H:Hp} {s:Shared} {E:Value->Shared->Prop}
theorem Inv.wish (I:Inv X pins σ H s) (E:Value->Shared->Prop):Inv (X.wish E) pins σ H s:=⟨I.ok.wish E,I.os,I.bare,I.base,I.loc,I.cell,I.free,I.freeC,I.pin,I.hok,I.len⟩
theorem Inv.unwish (I:Inv (X.wish E) pins σ H s):Inv X pins σ H s:=⟨I.ok.unwish,I.os,I.bare,I.base,I.loc,I.cell,I.free,I.freeC,I.pin,I.hok,I.len⟩
theorem SP.unwish {D:Ends} {f:Flow} {s':Shared} (h:SP (X.wish E) pins D f s'):SP X pins D f s':=by
 cases f with
 | next=>obtain⟨σ',H',I,q⟩:=h;exact⟨σ',H',I.unwish,q⟩
 | brk=>obtain⟨σ',H',I,q⟩:=h;exact⟨σ',H',I.unwish,q⟩
 | cont=>obtain⟨σ',H',I,q⟩:=h;exact⟨σ',H',I.unwish,q⟩
 | ret u=>obtain⟨v,σ',H',I,r,q⟩:=h;exact⟨v,σ',H',I.unwish,r,q⟩
theorem PSs.nox {st:List Stmt} {t:TS} (h:PSs X.nox st t):PSs X st t:=fun pins s σ H D I hw =>
 wpAny_mono (h pins s σ H D (I.wish _) hw) (fun _ _ q=>q.unwish) fun _ _ z=>False.elim z
end
section
variable {X:Cx} {st:Stmt} {rest:List Stmt} {t u:TS} {e:Expr} {te:TE} {pos:Pos}
def tNext:TS:=fun D σ H=>D.nx σ H
def tSeq (t u:TS):TS:=fun D σ H=>t { D with nx:=u D } σ H
theorem pss_nil:PSs X [] tNext:=fun _ _ σ H _ I h=>wpAny_execs_nil ⟨σ,H,I,h⟩
theorem pss_cons (h1:PS X st t) (h2:PSs X rest u):PSs X (st::rest) (tSeq t u):=by
 intro pins s σ H D I h
 refine wpAny_execs_cons (thn (h1 pins s σ H { D with nx:=u D } I h) fun f s1 q=>?_)
 cases f with
 | next =>
  obtain⟨σ',H',I',q⟩:=q
  exact h2 pins s1 σ' H' D I' q
 | ret v=>exact q
 | brk=>exact q
 | cont=>exact q
theorem pss_one (h1:PS X st t):PSs X [st] t:=by
 intro pins s σ H D I h
 refine wpAny_execs_cons (thn (h1 pins s σ H D I h) fun f s1 q=>?_)
 cases f with
 | next=>exact wpAny_execs_nil q
 | ret v=>exact q
 | brk=>exact q
 | cont=>exact q
/-- in a def's body nothing is shown -/
theorem Inv.quiet {pins:List (Addr × Obj)} {σ:St} {H:Hp} {s:Shared} (I:Inv X pins σ H s):interactive X.env=false:=by simp [interactive,I.ok.kind]
/-- an expression whose value is dropped -/
def tDrop (te:TE):TS:=fun D σ H=>te σ H fun _ H1=>D.nx σ H1
theorem ps_expr (he:PE X e te) (hs:swapsWith e none pos.line X.env=pure false:=by rfl):PS X (.Expr e pos) (tDrop te):=by
 intro pins s σ H D I h
 exact wpAny_Expr_any (thn (he pins s σ H _ I h) fun v s1 ⟨x,H1,I1,r1,q1⟩=>⟨σ,H1,I1,q1⟩) I.quiet hs
def tRet (te:TE):TS:=fun D σ H=>te σ H D.rt
theorem ps_ret (he:PE X e te):PS X (.Return (some e) pos) (tRet te):=by
 intro pins s σ H D I h
 exact wpAny_Return_some (thn (he pins s σ H _ I h) fun v s1 ⟨x,H1,I1,r1,q1⟩=>⟨x,σ,H1,I1,r1,q1⟩)
def tIfS (c:TT) (t u:TS):TS:=fun D σ H=>c σ H fun b H1=>if b=true then t D σ H1 else u D σ H1
theorem ps_if {c:Expr} {a b:List Stmt} {tc:TT} (hc:PT X c tc) (ha:PSs X a t) (hb:PSs X b u):PS X (.If c a b pos) (tIfS tc t u):=by
 intro pins s σ H D I h
 refine wpAny_If (thn (hc pins s σ H _ I h) fun d s1 ⟨H1,I1,q1⟩=>?_)
 cases d with
 | true=>exact ha pins s1 σ H1 D I1 q1
 | false=>exact hb pins s1 σ H1 D I1 q1
/-- code that the proof never comes to -/
def tNever:TS:=fun _ _ _=>False
theorem ps_never:PS X st tNever:=fun _ _ _ _ _ _ h=>h.elim
end
abbrev TG:=V->St->Hp->(St->Hp->Prop)->Prop
abbrev TGs:=List V->St->Hp->(St->Hp->Prop)->Prop
def PG (X:Cx) (target:Expr) (t:TG):Prop :=
 ∀ (pins:List (Addr × Obj)) (s:Shared) (σ:St) (H:Hp) (v:V) (u:Value) (Q:St->Hp->Prop),Inv X pins σ H s->RelV v u->t v σ H Q ->
  wpAny (model X.prog X.w) X.A (assign target X.env u) (fun _ s'=>∃ σ' H',Inv X pins σ' H' s'∧Q σ' H') X.xe s
/-- several targets, one after another -/
def PGs (X:Cx) (ts:List Expr) (t:TGs):Prop :=
 ∀ (pins:List (Addr × Obj)) (s:Shared) (σ:St) (H:Hp) (vs:List V) (us:List Value) (Q:St->Hp->Prop),Inv X pins σ H s->Vals vs us->t vs σ H Q ->
  wpAny (model X.prog X.w) X.A (assignInOrder ((assignEach ts X.env).map (·.2)) us) (fun _ s'=>∃ σ' H',Inv X pins σ' H' s'∧Q σ' H') X.xe s
/-- o[i] = v, by values -/
abbrev TSet:=V->V->V->Hp->(Hp->Prop)->Prop
def PSet (X:Cx) (t:TSet):Prop :=
 ∀ (pins:List (Addr × Obj)) (s:Shared) (σ:St) (H:Hp) (o i v:V) (ov iv u:Value) (Q:Hp->Prop),Inv X pins σ H s->RelV o ov->RelV i iv->RelV v u->t o i v H Q ->
  wpAny (model X.prog X.w) X.A (setItem ov iv u) (fun _ s'=>∃ H',Inv X pins σ H' s'∧Q H') X.xe s
section
variable {X:Cx} {pos:Pos}
def gName (i:Nat):TG:=fun v σ H Q=>Q (σ.set i (some v)) H
theorem pg_name {i:Nat} {x:Str} (hN:X.N.Nodup) (hi:X.N[i]?=some x) (hx:Loc X.env.scope x) (hf:X.fn x=true∨X.env.scope.names.lookup x=some .local:=by first | exact .inl rfl | exact .inr rfl | assumption):PG X (.Name x pos) (gName i):=by
 intro pins s σ H v u Q I r h
 exact wpAny_assign_Name (store_ok I hN hi hx r (fun s' I'=>⟨_,H,I',h⟩) hf)
def gNil:TGs:=fun vs σ H Q=>vs=[]∧Q σ H
def gCons (t:TG) (u:TGs):TGs:=fun vs σ H Q=>∃ v r,vs=v::r∧t v σ H fun σ' H'=>u r σ' H' Q
theorem pgs_nil:PGs X [] gNil:=by
 intro pins s σ H vs us Q I r h
 obtain⟨e,h⟩:=h
 subst e
 cases r
 exact assignInOrder_nil ⟨σ,H,I,h⟩
theorem pgs_cons {e:Expr} {es:List Expr} {t:TG} {u:TGs} (h1:PG X e t) (h2:PGs X es u)
  (hs:(assignEach (e::es) X.env).map (·.2)=assign e X.env::(assignEach es X.env).map (·.2):=by rfl):PGs X (e::es) (gCons t u):=by
 intro pins s σ H vs us Q I r h
 obtain⟨v,vr,e1,h⟩:=h
 subst e1
 cases r with
 | cons r rr =>
  rw[hs]
  refine assignInOrder_cons (thn (h1 pins s σ H _ _ _ I r h) fun _ s1 ⟨σ1,H1,I1,q1⟩=>?_)
  exact h2 pins s1 σ1 H1 _ _ Q I1 rr q1
/-- (a, b, ..) = a tuple of that length -/
def gTup (K:PySem.W.Frag) (n:Nat) (t:TGs):TG:=fun v σ H Q=>∃ a xs,v=.ref a∧SqT K H a xs∧xs.length=n∧t xs σ H Q
theorem pg_tup {es:List Expr} {k:Nat} {t:TGs} {n:Nat} (hc:X.calm=true) (h:PGs X es t)
  (hn:(assignEach es X.env).length=n:=by rfl) (hst:(assignEach es X.env).findIdx? (·.1)=none:=by rfl):PG X (.Tuple es k pos) (gTup X.K n t):=by
 intro pins s σ H v u Q I r hw
 obtain⟨a,xs,e1,hq,hl,hw⟩:=hw
 subst e1
 cases r
 obtain⟨its,rv,ht,hz⟩:=I.tuple hq
 refine assign_Tuple_tuple (I.ok.hd hc) ht (by simp [hn,← hl,rv.length]) hst fun h' hx=>?_
 have I1:Inv X pins σ H { s with heap:=h' }:=I.kept (t':=s.toks) fun b o e=>hx b o (Nat.ne_of_lt (Heap.lt_size e)) e
 exact h pins _ σ H xs _ Q I1 (by simpa using rv) hw
/-- o[i] = .. -/
def gSub (to ti:TE) (t:TSet):TG:=fun v σ H Q=>to σ H fun o H1=>ti σ H1 fun i H2=>t o i v H2 fun H3=>Q σ H3
theorem pg_sub {o i:Expr} {to ti:TE} {t:TSet} (ho:PE X o to) (hi:PE X i ti) (hs:PSet X t)
  (ha:∀ v,assign (.Subscript o i pos) X.env v=(do
   let ov ← holding [v] (eval o X.env)
   let iv ← holding [v,ov] (eval i X.env)
   standAt pos
   holding [v,ov,iv] (setItem ov iv v)
   release [v,ov,iv] []):=by intro _;rfl):PG X (.Subscript o i pos) (gSub to ti t):=by
 intro pins s σ H v u Q I r h
 rw[ha]
 refine wpAny_bind (wpAny_holding (thn (ho pins s σ H _ I h) fun ov s1 ⟨x,H1,I1,r1,q1⟩=>?_))
 refine wpAny_bind (wpAny_holding (thn (hi pins s1 σ H1 _ I1 q1) fun iv s2 ⟨y,H2,I2,r2,q2⟩=>?_))
 refine wpAny_bind (wpAny_standAt (wpAny_bind (wpAny_holding (thn (hs pins s2 σ H2 x y v ov iv u _ I2 r1 r2 r q2) fun _ s3 ⟨H3,I3,q3⟩=>?_))))
 exact wpAny_release ⟨σ,H3,I3,q3⟩
/-- target = value -/
def tAsg (te:TE) (g:TG):TS:=fun D σ H=>te σ H fun x H1=>g x σ H1 D.nx
theorem ps_asg {tg e:Expr} {te:TE} {g:TG} (he:PE X e te) (hg:PG X tg g) (hs:swapsWithSole [tg] e pos.line X.env=pure false:=by rfl) (hw:swappedStores [tg] e X.env=pure none:=by rfl)
  (h1:(assignEach [tg] X.env).map (·.2)=[assign tg X.env]:=by rfl):PS X (.Assign [tg] e pos) (tAsg te g):=by
 intro pins s σ H D I h
 refine wpAny_Assign_stores (thn (he pins s σ H _ I h) fun v s1 ⟨x,H1,I1,r1,q1⟩=>?_) hs hw
 rw[h1]
 exact thn (hg pins s1 σ H1 x v _ I1 r1 q1) fun _ s2 q=>q
/-- name = value -/
theorem ps_set {i:Nat} {x:Str} {e:Expr} {te:TE} {pos':Pos} (hN:X.N.Nodup) (hi:X.N[i]?=some x) (hx:Loc X.env.scope x) (he:PE X e te) (hs:swapsWith e (some (.Name x pos')) pos.line X.env=pure false:=by rfl) (hf:X.fn x=true∨X.env.scope.names.lookup x=some .local:=by first | exact .inl rfl | exact .inr rfl | assumption) :
  PS X (.Assign [.Name x pos'] e pos) (tAsg te (gName i)):=by
 intro pins s σ H D I h
 refine wpAny_Assign_Name (thn (he pins s σ H _ I h) fun v s1 ⟨y,H1,I1,r1,q1⟩=>?_) hs
 exact store_ok I1 hN hi hx r1 (fun s2 I2=>⟨_,H1,I2,q1⟩) hf
end
section
variable {X:Cx} {pos:Pos}
/-- the invariant W with its measure -/
def tWhile (c:TT) (tb:TS):TS:=fun D σ H=>∃ W:Nat->St->Hp->Prop,(∃ m,W m σ H)∧∀ m σ H,W m σ H ->
 c σ H fun b H1=>if b=true then ∃ N:St->Hp->Prop,(∀ σ' H',N σ' H'->∃ m',m' < m∧W m' σ' H')∧tb { D with nx:=N,ct:=N,bk:=D.nx } σ H1 else D.nx σ H1
theorem ps_while {c:Expr} {body:List Stmt} {tc:TT} {tb:TS} (hp:PassesOwn (model X.prog X.w) X.A X.env X.xe) (hc:PT X c tc) (hb:PSs X body tb):PS X (.While c body [] pos) (tWhile tc tb):=by
 intro pins s σ H D I h
 obtain⟨W,⟨m0,w0⟩,turn⟩:=h
 refine wpAny_While (codeAny_whileLoop (fun n s'=>∃ σ' H',Inv X pins σ' H' s'∧W n σ' H') ?_ m0 ⟨σ,H,I,w0⟩)
 rintro n s1 ⟨σ1,H1,I1,w1⟩
 refine wpAny_passesOwn hp (thn (hc pins s1 σ1 H1 _ I1 (turn n σ1 H1 w1)) fun b s2 ⟨H2,I2,q2⟩=>?_)
 cases b with
 | true =>
  obtain⟨N,hN,q2⟩:=q2
  rw[if_pos rfl]
  refine wpAny_passesOwn hp (thn (hb pins s2 σ1 H2 _ I2 q2) fun f s3 q3=>?_)
  cases f with
  | next =>
   obtain⟨σ3,H3,I3,n3⟩:=q3
   obtain⟨m',hm,w3⟩:=hN σ3 H3 n3
   exact⟨m',hm,σ3,H3,I3,w3⟩
  | cont =>
   obtain⟨σ3,H3,I3,n3⟩:=q3
   obtain⟨m',hm,w3⟩:=hN σ3 H3 n3
   exact⟨m',hm,σ3,H3,I3,w3⟩
  | brk=>exact q3
  | ret v=>exact q3
 | false =>
  rw[if_neg Bool.false_ne_true]
  exact wpAny_execs_nil ⟨σ1,H2,I2,q2⟩
end
/-- at turn i: it yields x (the heap may grow), or it stops -/
structure It where
 go:Nat->Hp->Prop
 yld:Nat->Hp->V->Hp->Prop
 stop:Nat->Hp->Prop
/-- the iterator's own objects may turn: they are not the frame's, not pinned, younger than the entry (or a comprehension's own) -/
def FpOk (X:Cx) (pins:List (Addr × Obj)) (H:Hp) (b:Addr):Prop :=
 H b=none∧b≠X.env.locals∧b ∉ X.fs∧(b ∈ X.ex∨X.s₀.heap.objs.size≤b)∧(∀ x c,X.env.cells.lookup x=some c->c≠b)∧∀ p ∈ X.pn++pins,p.1≠b
theorem Inv.fpOk {X:Cx} {pins:List (Addr × Obj)} {σ:St} {H H':Hp} {s:Shared} {b:Addr} (I:Inv X pins σ H s) (hb:s.heap.objs.size≤b) (hn:H' b=none):FpOk X pins H' b:=by
 refine⟨hn,Nat.ne_of_gt (Nat.lt_of_lt_of_le I.lt hb),I.nofs hb,.inr (Nat.le_trans I.sz hb),fun x c e z=>?_,fun p hp z=>?_⟩
 ·obtain⟨v,q⟩:=I.cell x c e
  exact absurd (Nat.lt_of_lt_of_le q.lt (by rw[z];exact hb)) (Nat.lt_irrefl _)
 ·exact absurd (Nat.lt_of_lt_of_le (Heap.lt_size (I.pin p hp).1) (by rw[z];exact hb)) (Nat.lt_irrefl _)
structure Turn (P:Program) (w:World) (K:PySem.W.Frag) (tg:Expr) (J:It) (fp:List Addr) (it:Addr) (tn:Nat->Heap->Prop):Prop where
 mem:it ∈ fp
 obj:∀ i h,tn i h->∀ b ∈ fp,∃ o,h.get? b=some o∧∀ v,o.data≠.cell v
 keep:∀ i h h',tn i h->(∀ b ∈ fp,∀ o,h.get? b=some o->h'.get? b=some o)->tn i h'
 item:∀ (X:Cx),X.prog=P->X.w=w->X.K=K->X.calm=true->∀ (i:Nat) (pins:List (Addr × Obj)) (s:Shared) (σ:St) (H:Hp) (E:Value->Shared->Prop),Inv X pins σ H s->(∀ b ∈ fp,FpOk X pins H b)->tn i s.heap->J.go i H ->
  wpAny (model P w) X.A (pyNext (.ref it)) (fun r s1=>∃ u,r=some u ∧
   wpAny (model P w) X.A (letOwnedTupleGo tg (.ref it) u) (fun _ s2=>∃ x H',Inv X pins σ H' s2∧RelV x u∧J.yld i H x H'∧tn (i + 1) s2.heap∧∀ b ∈ fp,H' b=none) E s1) E s
 done:∀ (X:Cx),X.prog=P->X.w=w->X.K=K->X.calm=true->∀ (i:Nat) (pins:List (Addr × Obj)) (s:Shared) (σ:St) (H:Hp) (E:Value->Shared->Prop),Inv X pins σ H s->(∀ b ∈ fp,FpOk X pins H b)->tn i s.heap->J.stop i H ->
  wpAny (model P w) X.A (pyNext (.ref it)) (fun r s1=>r=none∧Inv X pins σ H s1) E s
 self:∀ (A:Around) (i:Nat) (s:Shared) (Q:Value->Shared->Prop) (E:Value->Shared->Prop),tn i s.heap->Q (.ref it) s->wpAny (model P w) A (pyIter (.ref it)) Q E s
abbrev TI:=St->Hp->(It->Hp->Prop)->Prop
/-- an iterator has come -/
def PIE (X:Cx) (pins:List (Addr × Obj)) (σ:St) (tg:Expr) (R:It->Hp->Prop) (itv:Value) (s2:Shared):Prop :=
 ∃ (it:Addr) (fp:List Addr) (tn:Nat->Heap->Prop) (J:It) (H':Hp),itv=.ref it∧Inv X pins σ H' s2∧Turn X.prog X.w X.K tg J fp it tn∧tn 0 s2.heap∧(∀ b ∈ fp,FpOk X pins H' b)∧R J H'
def PI (X:Cx) (tg iter:Expr) (wi:TI):Prop :=
 ∀ (pins:List (Addr × Obj)) (s:Shared) (σ:St) (H:Hp) (R:It->Hp->Prop),Inv X pins σ H s->wi σ H R ->
  wpAny (model X.prog X.w) X.A (eval iter X.env) (fun v s1=>wpAny (model X.prog X.w) X.A (pyIter v) (PIE X pins σ tg R) X.xe s1) X.xe s
/-- the step ahead of the store is nothing for an iterator that keeps no tuple -/
theorem go_of {M:Model} {A:Around} {E:Value->Shared->Prop} {s:Shared} {tg:Expr} {it:Addr} {u:Value} {o:Obj} {n:String} {vs:Array Value} {Q:Unit->Shared->Prop} (ho:s.heap.get? it=some o) (hc:o.cls=.type n) (hd:o.data=.fields vs)
  (hn:["enumerate","zip","dict_itemiterator","dict_reverseitemiterator","odict_iterator","itertools.zip_longest","itertools.pairwise"].contains n=false) (hQ:Q () s):wpAny M A (letOwnedTupleGo tg (.ref it) u) Q E s:=by
 unfold letOwnedTupleGo
 cases tg <;> first
  | exact wpAny_pure hQ
  | (cases u <;> first
      | exact wpAny_pure hQ
      | (refine wpAny_bind (wpAny_load ho ?_)
         rw[hc,hd]
         show wpAny M A (if (["enumerate","zip","dict_itemiterator","dict_reverseitemiterator","odict_iterator","itertools.zip_longest","itertools.pairwise"].contains n && vs[0]? == some (rawInt _))=true then _ else _) Q E s
         rw[if_neg (by intro h;rw[hn,Bool.false_and] at h;cases h)]
         exact wpAny_pure hQ))
/-- the list at a, as it stands at each turn (a loop may append to it) -/
def Itl (K:PySem.W.Frag) (a:Addr):It :=
 ⟨fun i H=>∃ xs x,SqL K H a xs∧xs[i]?=some x,fun i H x H'=>H'=H∧∀ xs,SqL K H a xs->xs[i]?=some x,fun i H=>∃ xs,SqL K H a xs∧xs.length≤i⟩
def Itt (K:PySem.W.Frag) (a:Addr):It :=
 ⟨fun i H=>∃ xs x,SqT K H a xs∧xs[i]?=some x,fun i H x H'=>H'=H∧∀ xs,SqT K H a xs->xs[i]?=some x,fun i H=>∃ xs,SqT K H a xs∧xs.length≤i⟩
/-- lo, lo + 1, .. (n of them) -/
def Itr (lo:Int) (n:Nat):It:=⟨fun i _=>i < n,fun i H x H'=>H'=H∧x=.int (lo + i),fun i _=>n≤i⟩
theorem turn_list {P:Program} {w:World} {K:PySem.W.Frag} {tg:Expr} (a it:Addr):Turn P w K tg (Itl K a) [it] it (fun i h=>h.IsListIter it a i) where
 mem:=by simp
 obj:=fun i h st b hb=>by
  have e:b=it:=by simpa using hb
  subst e
  obtain⟨o,e,c,d⟩:=st
  exact⟨o,e,fun v z=>by rw[d] at z;cases z⟩
 keep:=fun i h h' st k=>st.at fun o e=>k it (by simp) o e
 item:=by
  intro X hP hw hK hc i pins s σ H E I hf st hg
  subst hP hw hK
  obtain⟨xs,x,hq,hx⟩:=hg
  obtain⟨its,rv,p,hz⟩:=I.list hq
  obtain⟨u,hu,ru⟩:=rv.get hx
  obtain⟨f0,f1,f2,f3,f4,f5⟩:=hf it (by simp)
  refine wpAny_pyNext_list_item st p.isList (x:=u) (by simpa using hu) fun h' st' sb=>?_
  have I1:Inv X pins σ H { s with heap:=h' }:=I.turned (t':=s.toks) (fun b o hb e=>(sb.2 b hb).trans e) f0 f1 f3 f4 f5
  obtain⟨o,e,c,d⟩:=id st'
  exact⟨u,rfl,go_of (s:={ s with heap:=h' }) e c d (by decide) ⟨x,H,I1,ru,⟨rfl,fun ys hy=>by rw[I.list_inj hy hq];exact hx⟩,st',fun b hb=>(hf b hb).1⟩⟩
 done:=by
  intro X hP hw hK hc i pins s σ H E I hf st hg
  subst hP hw hK
  obtain⟨xs,hq,hx⟩:=hg
  obtain⟨its,rv,p,hz⟩:=I.list hq
  obtain⟨f0,f1,f2,f3,f4,f5⟩:=hf it (by simp)
  have hl:=rv.length
  exact wpAny_pyNext_list_end (I.ok.hd hc) st p.isList (by simp;omega) fun h' eb=>⟨rfl,I.turned (t':=s.toks) (fun b o hb e=>eb b o hb e) f0 f1 f3 f4 f5⟩
 self:=fun _ _ _ _ _ st h=>wpAny_pyIter_listiter st h
theorem turn_tuple {P:Program} {w:World} {K:PySem.W.Frag} {tg:Expr} (a it:Addr):Turn P w K tg (Itt K a) [it] it (fun i h=>h.IsTupleIter it a i) where
 mem:=by simp
 obj:=fun i h st b hb=>by
  have e:b=it:=by simpa using hb
  subst e
  obtain⟨o,e,c,d⟩:=st
  exact⟨o,e,fun v z=>by rw[d] at z;cases z⟩
 keep:=fun i h h' st k=>st.at fun o e=>k it (by simp) o e
 item:=by
  intro X hP hw hK hc i pins s σ H E I hf st hg
  subst hP hw hK
  obtain⟨xs,x,hq,hx⟩:=hg
  obtain⟨its,rv,p,hz⟩:=I.tuple hq
  obtain⟨u,hu,ru⟩:=rv.get hx
  obtain⟨f0,f1,f2,f3,f4,f5⟩:=hf it (by simp)
  refine wpAny_pyNext_tuple_item st (show s.heap.IsTuple a its.toArray from p) (x:=u) (by simpa using hu) fun h' st' sb=>?_
  have I1:Inv X pins σ H { s with heap:=h' }:=I.turned (t':=s.toks) (fun b o hb e=>(sb.2 b hb).trans e) f0 f1 f3 f4 f5
  obtain⟨o,e,c,d⟩:=id st'
  exact⟨u,rfl,go_of (s:={ s with heap:=h' }) e c d (by decide) ⟨x,H,I1,ru,⟨rfl,fun ys hy=>by rw[I.tuple_inj hy hq];exact hx⟩,st',fun b hb=>(hf b hb).1⟩⟩
 done:=by
  intro X hP hw hK hc i pins s σ H E I hf st hg
  subst hP hw hK
  obtain⟨xs,hq,hx⟩:=hg
  obtain⟨its,rv,p,hz⟩:=I.tuple hq
  obtain⟨f0,f1,f2,f3,f4,f5⟩:=hf it (by simp)
  have hl:=rv.length
  exact wpAny_pyNext_tuple_end (I.ok.hd hc) st (show s.heap.IsTuple a its.toArray from p) (by simp;omega) fun h' eb=>⟨rfl,I.turned (t':=s.toks) (fun b o hb e=>eb b o hb e) f0 f1 f3 f4 f5⟩
 self:=fun _ _ _ _ _ st h=>wpAny_pyIter_tupleiter st h
theorem turn_range {P:Program} {w:World} {K:PySem.W.Frag} {tg:Expr} (it:Addr) (lo:Int) (n:Nat):Turn P w K tg (Itr lo n) [it] it (fun i h=>IsRangeIter h it (lo + (i:Nat) * 1) ((n:Int) - (i:Nat)) 1) where
 mem:=by simp
 obj:=fun i h st b hb=>by
  have e:b=it:=by simpa using hb
  subst e
  exact⟨_,st,fun v z=>by
   have z':Data.fields _=Data.cell v:=z
   cases z'⟩
 keep:=fun i h h' st k=>k it (by simp) _ st
 item:=by
  intro X hP hw hK hc i pins s σ H E I hf st hg
  subst hP hw hK
  obtain⟨f0,f1,f2,f3,f4,f5⟩:=hf it (by simp)
  have W:=Walks.range (prog:=X.prog) (w:=X.w) (I.ok.hd hc) it lo 1 n
  refine W.item i s _ _ hg st fun v h' tk hv st' kk=>?_
  obtain⟨t,rfl⟩:=hv
  have I1:Inv X pins σ H { s with heap:=h',toks:=tk }:=I.turned (fun b o hb e=>kk b o (by simpa using hb) e) f0 f1 f3 f4 f5
  refine⟨_,rfl,go_of (s:={ s with heap:=h',toks:=tk }) (n:="range_iterator") st' rfl rfl (by decide) ⟨.int (lo + i),H,I1,⟨t,?_⟩,⟨rfl,rfl⟩,st',fun b hb=>(hf b hb).1⟩⟩
  rw[Int.mul_one]
 done:=by
  intro X hP hw hK hc i pins s σ H E I hf st hg
  subst hP hw hK
  obtain⟨f0,f1,f2,f3,f4,f5⟩:=hf it (by simp)
  exact wpAny_pyNext_range_end (I.ok.hd hc) st (by have:n≤i:=hg;omega) fun h' eb=>⟨rfl,I.turned (t':=s.toks) (fun b o hb e=>eb b o hb e) f0 f1 f3 f4 f5⟩
 self:=fun _ _ _ _ _ st h=>wpAny_pyIter_rangeiter st h
end L2
namespace L2
open PySem PySem.Spec PyProof.Rows
section
variable {X:Cx} {tg:Expr}
def iList (K:PySem.W.Frag) (tl:TE):TI:=fun σ H R=>tl σ H fun x H1=>∃ a,x=.ref a∧(∃ xs,SqL K H1 a xs)∧R (Itl K a) H1
def iTup (K:PySem.W.Frag) (tl:TE):TI:=fun σ H R=>tl σ H fun x H1=>∃ a,x=.ref a∧(∃ xs,SqT K H1 a xs)∧R (Itt K a) H1
theorem pi_list {l:Expr} {tl:TE} (hl:PE X l tl):PI X tg l (iList X.K tl):=by
 intro pins s σ H R I h
 refine thn (hl pins s σ H _ I h) fun v s1 ⟨x,H1,I1,r1,q1⟩=>?_
 obtain⟨a,e,⟨xs,hq⟩,q⟩:=q1
 subst e
 cases r1
 obtain⟨its,rv,p,hz⟩:=I1.list hq
 refine wpAny_pyIter_list p.isList ?_
 refine⟨s1.heap.objs.size,[s1.heap.objs.size],_,_,H1,rfl,I1.kept (t':=s1.toks) fun b o e=>Heap.get?_push_of_some _ e,turn_list a _,⟨_,Heap.get?_push_size _ rfl,rfl,rfl⟩,fun b hb=>?_,q⟩
 have e:b=s1.heap.objs.size:=by simpa using hb
 subst e
 exact I1.fpOk (Nat.le_refl _) (I1.hok.fresh (Nat.le_refl _))
theorem pi_tup {l:Expr} {tl:TE} (hl:PE X l tl):PI X tg l (iTup X.K tl):=by
 intro pins s σ H R I h
 refine thn (hl pins s σ H _ I h) fun v s1 ⟨x,H1,I1,r1,q1⟩=>?_
 obtain⟨a,e,⟨xs,hq⟩,q⟩:=q1
 subst e
 cases r1
 obtain⟨its,rv,p,hz⟩:=I1.tuple hq
 refine wpAny_pyIter_tuple (show s1.heap.IsTuple a its.toArray from p) ?_
 refine⟨s1.heap.objs.size,[s1.heap.objs.size],_,_,H1,rfl,I1.kept (t':=s1.toks) fun b o e=>Heap.get?_push_of_some _ e,turn_tuple a _,⟨_,Heap.get?_push_size _ rfl,rfl,rfl⟩,fun b hb=>?_,q⟩
 have e:b=s1.heap.objs.size:=by simpa using hb
 subst e
 exact I1.fpOk (Nat.le_refl _) (I1.hok.fresh (Nat.le_refl _))
/-- a range object just made, walked -/
theorem range_it {pins:List (Addr × Obj)} {σ:St} {H:Hp} {s:Shared} {R:It->Hp->Prop} {E:Value->Shared->Prop} {lo hi:Int} {t u v:Tok} {tk:Nat} (I:Inv X pins σ H s) (h1:-(2 ^ 62)≤lo) (h2:lo < 2 ^ 62) (h3:-(2 ^ 62)≤hi) (h4:hi < 2 ^ 62)
  (q:R (Itr lo (hi - lo).toNat) H):wpAny (model X.prog X.w) X.A (pyIter (.ref s.heap.objs.size)) (PIE X pins σ tg R) E { s with heap:=s.heap.push { cls:=.type "range",data:=.fields #[.int lo t,.int hi u,.int 1 v] },toks:=tk }:=by
 refine wpAny_pyIter_range (IsRange.new ..) (small_one h1 h2 h3 h4) ?_
 have I1:Inv X pins σ H { s with heap:=s.heap.push { cls:=.type "range",data:=.fields #[.int lo t,.int hi u,.int 1 v] },toks:=tk }:=I.kept fun b o e=>Heap.get?_push_of_some _ e
 refine⟨(s.heap.push { cls:=.type "range",data:=.fields #[.int lo t,.int hi u,.int 1 v] }).objs.size,[(s.heap.push { cls:=.type "range",data:=.fields #[.int lo t,.int hi u,.int 1 v] }).objs.size],_,_,H,rfl,
  I1.kept (t':=tk) fun b o e=>Heap.get?_push_of_some _ e,turn_range _ lo (hi - lo).toNat,?_,fun b hb=>?_,q⟩
 ·have e1:lo + ((0:Nat):Int) * 1=lo:=by simp
  have e2:(((hi - lo).toNat:Nat):Int) - ((0:Nat):Int)=Builtin.Range.rangeSize lo hi 1:=by rw[rangeSize_one];split <;> omega
  show IsRangeIter _ _ (lo + ((0:Nat):Int) * 1) ((((hi - lo).toNat:Nat):Int) - ((0:Nat):Int)) 1
  rw[e1,e2]
  exact Heap.get?_push_size _ rfl
 ·have e:b=(s.heap.push { cls:=.type "range",data:=.fields #[.int lo t,.int hi u,.int 1 v] }).objs.size:=by simpa using hb
  subst e
  exact I1.fpOk (Nat.le_refl _) (I1.hok.fresh (Nat.le_refl _))
def iRng1 (ta:TA):TI:=fun σ H R=>ta σ H fun vs H1=>∃ j:Int,vs=[.int j]∧-(2 ^ 62)≤j∧j < 2 ^ 62∧R (Itr 0 j.toNat) H1
theorem pi_range1 {a:Expr} {ta:TA} {p pos:Pos} (hg:Gl X "range") (hm:X.mg "range"=none) (ha:PA X [a] ta) (hs:starEach [a] X.env=[(false,eval a X.env)]:=by rfl):PI X tg (.Call (.Name "range" p) [a] [] pos) (iRng1 ta):=by
 intro pins s σ H R I h
 refine Call_ (ld_blt I hg hm boot_range (PyProof.Rows.callWith_type1 (thn (ha pos pins s σ H _ I h) fun us s1 ⟨vs,H1,I1,r1,q1⟩=>?_) hs rfl))
 obtain⟨j,e,q1,q2,q⟩:=q1
 subst e
 cases r1 with
 | cons r rr =>
  cases rr
  obtain⟨t,rfl⟩:=r
  exact call_range_1 (range_it I1 (by omega) (by omega) q1 q2 (by simpa using q))
/-- W: the invariant by the turn and a measure; N: what the body is to reach -/
def tFor (wi:TI) (g:TG) (tb:TS):TS:=fun D σ H=>wi σ H fun J H1=>∃ W:Nat->Nat->St->Hp->Prop,(∃ m,W 0 m σ H1)∧∀ i m σ H,W i m σ H ->
 (J.stop i H∧D.nx σ H)∨(J.go i H∧∃ N:St->Hp->Prop,(∀ σ' H',N σ' H'->∃ m',m' < m∧W (i + 1) m' σ' H')∧∀ x H',J.yld i H x H'->g x σ H' fun σ2 H2=>tb { D with nx:=N,ct:=N,bk:=D.nx } σ2 H2)
/-- the records at fp as they stand -/
def pinsAt (fp:List Addr) (h:Heap):List (Addr × Obj):=fp.filterMap fun b=>(h.get? b).map fun o=>(b,o)
theorem mem_pinsAt {fp:List Addr} {h:Heap} {b:Addr} {o:Obj} (hb:b ∈ fp) (e:h.get? b=some o):(b,o) ∈ pinsAt fp h:=List.mem_filterMap.mpr ⟨b,hb,by rw[e];rfl⟩
theorem of_pinsAt {fp:List Addr} {h:Heap} {p:Addr × Obj} (hp:p ∈ pinsAt fp h):p.1 ∈ fp∧h.get? p.1=some p.2:=by
 obtain⟨b,hb,e⟩:=List.mem_filterMap.mp hp
 cases q:h.get? b with
 | none=>rw[q] at e;cases e
 | some o =>
  rw[q] at e
  have e':(b,o)=p:=Option.some.inj e
  subst e'
  exact⟨hb,q⟩
theorem Inv.pinned {pins:List (Addr × Obj)} {σ:St} {H:Hp} {s:Shared} {fp:List Addr} (I:Inv X pins σ H s) (hf:∀ b ∈ fp,FpOk X pins H b) (ho:∀ b ∈ fp,∃ o,s.heap.get? b=some o∧∀ v,o.data≠.cell v):Inv X (pins++pinsAt fp s.heap) σ H s :=
 I.pins_of fun p hp=>(List.mem_append.mp hp).elim (fun z=>I.pin p (List.mem_append_right _ z)) fun z=>by
  obtain⟨hb,e⟩:=of_pinsAt z
  obtain⟨f0,f1,f2,_⟩:=hf p.1 hb
  obtain⟨o,e',d⟩:=ho p.1 hb
  rw[e] at e';cases e'
  exact⟨e,f0,f1,f2,d⟩
theorem Inv.unpinned {pins pl:List (Addr × Obj)} {σ:St} {H:Hp} {s:Shared} (I:Inv X (pins++pl) σ H s):Inv X pins σ H s:=I.pins_of fun p hp=>I.pin p (List.mem_append_right _ (List.mem_append_left _ hp))
theorem ps_for {iter:Expr} {body:List Stmt} {wi:TI} {g:TG} {tb:TS} {pos:Pos} (hp:PassesOwn (model X.prog X.w) X.A X.env X.xe) (hc:X.calm=true) (hi:PI X tg iter wi) (hg:PG X tg g) (hb:PSs X body tb)
  (hs:∀ x,foldedSetIterable iter X.env x=pure x:=by intro _;rfl):PS X (.For tg iter body [] pos) (tFor wi g tb):=by
 intro pins s σ H D I h
 refine wpAny_For (thn (hi pins s σ H _ I h) fun v s1 h1=>thn h1 fun itv s2 h2=>?_) hs
 obtain⟨it,fp,tn,J,H2,e,I2,T,st2,f2,W,⟨m0,w0⟩,turn⟩:=h2
 subst e
  -- what stays true of the iterator's objects through the loop
 have stat:∀ {H':Hp},(∀ b ∈ fp,H' b=none)->∀ b ∈ fp,FpOk X pins H' b:=fun hn b hb=>⟨hn b hb,(f2 b hb).2⟩
 refine codeAny_forLoop_any (fun n s'=>∃ i σ' H',Inv X pins σ' H' s'∧tn i s'.heap∧(∀ b ∈ fp,H' b=none)∧W i n σ' H') ?_ m0 ⟨0,σ,H2,I2,st2,fun b hb=>(f2 b hb).1,w0⟩
 rintro n s3 ⟨i,σ3,H3,I3,st3,fr3,w3⟩
 rcases turn i n σ3 H3 w3 with ⟨stop,qn⟩ | ⟨go,N,hN,step⟩
 ·refine wpAny_passesOwn hp (thn (T.done X rfl rfl rfl hc i pins s3 σ3 H3 X.xe I3 (stat fr3) st3 stop) fun r s4 ⟨hr,I4⟩=>?_)
  subst hr
  exact wpAny_execs_nil ⟨σ3,H3,I4,qn⟩
 ·refine wpAny_passesOwn hp (thn (T.item X rfl rfl rfl hc i pins s3 σ3 H3 X.xe I3 (stat fr3) st3 go) fun r s4 ⟨u,hr,h4⟩=>?_)
  subst hr
  refine wpAny_passesOwn hp (thn h4 fun _ s5 ⟨x,H5,I5,r5,y5,st5,fr5⟩=>?_)
  have I5':=I5.pinned (stat fr5) (T.obj _ _ st5)
  refine wpAny_passesOwn hp (thn (hg _ s5 σ3 H5 x u _ I5' r5 (step x H5 y5)) fun _ s6 ⟨σ6,H6,I6,q6⟩=>?_)
  refine wpAny_passesOwn hp (thn (hb _ s6 σ6 H6 _ I6 q6) fun f s7 q7=>?_)
  have again:∀ {σ7:St} {H7:Hp},Inv X (pins++pinsAt fp s5.heap) σ7 H7 s7->N σ7 H7->∃ m,m < n∧∃ i σ' H',Inv X pins σ' H' s7∧tn i s7.heap∧(∀ b ∈ fp,H' b=none)∧W i m σ' H':=fun {σ7 H7} I7 n7=>by
   obtain⟨m',hm,w7⟩:=hN σ7 H7 n7
   refine⟨m',hm,i + 1,σ7,H7,I7.unpinned,T.keep _ _ _ st5 fun b hb o e=>(I7.pin (b,o) (List.mem_append_right _ (List.mem_append_right _ (mem_pinsAt hb e)))).1,fun b hb=>?_,w7⟩
   obtain⟨o,e,d⟩:=T.obj _ _ st5 b hb
   exact (I7.pin (b,o) (List.mem_append_right _ (List.mem_append_right _ (mem_pinsAt hb e)))).2.1
  cases f with
  | next=>obtain⟨σ7,H7,I7,n7⟩:=q7;exact again I7 n7
  | cont=>obtain⟨σ7,H7,I7,n7⟩:=q7;exact again I7 n7
  | brk=>obtain⟨σ7,H7,I7,q7⟩:=q7;exact⟨σ7,H7,I7.unpinned,q7⟩
  | ret v=>obtain⟨x7,σ7,H7,I7,r7,q7⟩:=q7;exact⟨x7,σ7,H7,I7.unpinned,r7,q7⟩
end
/-- over a list that the body leaves as it is -/
theorem for_list {K:PySem.W.Frag} {a:Addr} {xs:List V} {g:TG} {tb:TS} {D:Ends} {σ:St} {H:Hp} (Pv:Nat->St->Hp->Prop) (h0:Pv 0 σ H) (hl:∀ i σ H,i≤xs.length->Pv i σ H->SqL K H a xs)
  (hs:∀ i x σ H,xs[i]?=some x->Pv i σ H->g x σ H fun σ2 H2=>tb { D with nx:=Pv (i + 1),ct:=Pv (i + 1),bk:=D.nx } σ2 H2) (hd:∀ σ H,Pv xs.length σ H->D.nx σ H) :
  ∃ W:Nat->Nat->St->Hp->Prop,(∃ m,W 0 m σ H)∧∀ i m σ H,W i m σ H ->
   ((Itl K a).stop i H∧D.nx σ H)∨((Itl K a).go i H∧∃ N:St->Hp->Prop,(∀ σ' H',N σ' H'->∃ m',m' < m∧W (i + 1) m' σ' H')∧∀ x H',(Itl K a).yld i H x H'->g x σ H' fun σ2 H2=>tb { D with nx:=N,ct:=N,bk:=D.nx } σ2 H2):=by
 refine⟨fun i m σ H=>m=xs.length - i∧i≤xs.length∧Pv i σ H,⟨xs.length,by simp,Nat.zero_le _,h0⟩,?_⟩
 rintro i m σ H ⟨rfl,hi,p⟩
 have q:=hl i σ H hi p
 by_cases hlt:i < xs.length
 ·refine .inr ⟨⟨xs,xs[i],q,by simp [hlt]⟩,Pv (i + 1),fun σ' H' p'=>⟨xs.length - (i + 1),by omega,rfl,hlt,p'⟩,fun x H' y=>?_⟩
  obtain⟨e,y⟩:=y
  subst e
  exact hs i x σ _ (y xs q) p
 ·have e:i=xs.length:=by omega
  subst e
  exact .inl ⟨⟨xs,q,Nat.le_refl _⟩,hd σ H p⟩
theorem for_tup {K:PySem.W.Frag} {a:Addr} {xs:List V} {g:TG} {tb:TS} {D:Ends} {σ:St} {H:Hp} (Pv:Nat->St->Hp->Prop) (h0:Pv 0 σ H) (hl:∀ i σ H,i≤xs.length->Pv i σ H->SqT K H a xs)
  (hs:∀ i x σ H,xs[i]?=some x->Pv i σ H->g x σ H fun σ2 H2=>tb { D with nx:=Pv (i + 1),ct:=Pv (i + 1),bk:=D.nx } σ2 H2) (hd:∀ σ H,Pv xs.length σ H->D.nx σ H) :
  ∃ W:Nat->Nat->St->Hp->Prop,(∃ m,W 0 m σ H)∧∀ i m σ H,W i m σ H ->
   ((Itt K a).stop i H∧D.nx σ H)∨((Itt K a).go i H∧∃ N:St->Hp->Prop,(∀ σ' H',N σ' H'->∃ m',m' < m∧W (i + 1) m' σ' H')∧∀ x H',(Itt K a).yld i H x H'->g x σ H' fun σ2 H2=>tb { D with nx:=N,ct:=N,bk:=D.nx } σ2 H2):=by
 refine⟨fun i m σ H=>m=xs.length - i∧i≤xs.length∧Pv i σ H,⟨xs.length,by simp,Nat.zero_le _,h0⟩,?_⟩
 rintro i m σ H ⟨rfl,hi,p⟩
 have q:=hl i σ H hi p
 by_cases hlt:i < xs.length
 ·refine .inr ⟨⟨xs,xs[i],q,by simp [hlt]⟩,Pv (i + 1),fun σ' H' p'=>⟨xs.length - (i + 1),by omega,rfl,hlt,p'⟩,fun x H' y=>?_⟩
  obtain⟨e,y⟩:=y
  subst e
  exact hs i x σ _ (y xs q) p
 ·have e:i=xs.length:=by omega
  subst e
  exact .inl ⟨⟨xs,q,Nat.le_refl _⟩,hd σ H p⟩
theorem for_range {lo:Int} {n:Nat} {g:TG} {tb:TS} {D:Ends} {σ:St} {H:Hp} (Pv:Nat->St->Hp->Prop) (h0:Pv 0 σ H)
  (hs:∀ i σ H,i < n->Pv i σ H->g (.int (lo + i)) σ H fun σ2 H2=>tb { D with nx:=Pv (i + 1),ct:=Pv (i + 1),bk:=D.nx } σ2 H2) (hd:∀ σ H,Pv n σ H->D.nx σ H) :
  ∃ W:Nat->Nat->St->Hp->Prop,(∃ m,W 0 m σ H)∧∀ i m σ H,W i m σ H ->
   ((Itr lo n).stop i H∧D.nx σ H)∨((Itr lo n).go i H∧∃ N:St->Hp->Prop,(∀ σ' H',N σ' H'->∃ m',m' < m∧W (i + 1) m' σ' H')∧∀ x H',(Itr lo n).yld i H x H'->g x σ H' fun σ2 H2=>tb { D with nx:=N,ct:=N,bk:=D.nx } σ2 H2):=by
 refine⟨fun i m σ H=>m=n - i∧i≤n∧Pv i σ H,⟨n,by simp,Nat.zero_le _,h0⟩,?_⟩
 rintro i m σ H ⟨rfl,hi,p⟩
 by_cases hlt:i < n
 ·refine .inr ⟨hlt,Pv (i + 1),fun σ' H' p'=>⟨n - (i + 1),by omega,rfl,hlt,p'⟩,fun x H' y=>?_⟩
  obtain⟨e,y⟩:=y
  subst e y
  exact hs i σ _ hlt p
 ·have e:i=n:=by omega
  subst e
  exact .inl ⟨Nat.le_refl _,hd σ H p⟩
end L2
namespace L2
open PySem PySem.Spec PyProof.Rows
abbrev R2:=V->V->Hp->VK->Prop
/-- a two-place operation on values: f is binaryOp op, inplaceOp op or compareOp op -/
def OpR (X:Cx) (f:Value->Value->Sem Value) (r:R2):Prop :=
 ∀ (pins:List (Addr × Obj)) (s:Shared) (σ:St) (H:Hp) (x y:V) (v u:Value) (Q:VK),Inv X pins σ H s->RelV x v->RelV y u->r x y H Q ->
  wpAny (model X.prog X.w) X.A (f v u) (EP X pins σ Q) X.xe s
/-- a one-place operation -/
def UnR (X:Cx) (f:Value->Sem Value) (r:V->Hp->VK->Prop):Prop :=
 ∀ (pins:List (Addr × Obj)) (s:Shared) (σ:St) (H:Hp) (x:V) (v:Value) (Q:VK),Inv X pins σ H s->RelV x v->r x H Q ->
  wpAny (model X.prog X.w) X.A (f v) (EP X pins σ Q) X.xe s
/-- a call of a value that is known (a builtin, a type) with values -/
def CallR (X:Cx) (f:Value) (r:List V->Hp->VK->Prop):Prop :=
 ∀ (pins:List (Addr × Obj)) (s:Shared) (σ:St) (H:Hp) (xs:List V) (us:List Value) (Q:VK),Inv X pins σ H s->Vals xs us->r xs H Q ->
  wpAny (model X.prog X.w) X.A (call f us) (EP X pins σ Q) X.xe s
def tOp (r:R2) (ta tb:TE):TE:=fun σ H Q=>ta σ H fun x H1=>tb σ H1 fun y H2=>r x y H2 Q
def tUn (r:V->Hp->VK->Prop) (ta:TE):TE:=fun σ H Q=>ta σ H fun x H1=>r x H1 Q
/-- ints in, under C, and a value out -/
def rI (C:Int->Int->Prop) (g:Int->Int->V):R2:=fun x y H Q=>∃ i j,x=.int i∧y=.int j∧C i j∧Q (g i j) H
def rI0 (g:Int->Int->V):R2:=fun x y H Q=>∃ i j,x=.int i∧y=.int j∧Q (g i j) H
def rU (g:Int->V):V->Hp->VK->Prop:=fun x H Q=>∃ i,x=.int i∧Q (g i) H
section
variable {X:Cx} {a b c:Expr} {ta tb tc:TE} {pos:Pos}
theorem binT (ha:PE X a ta) (hb:PE X b tb) {pins:List (Addr × Obj)} {s:Shared} {σ:St} {H:Hp} {R:V->V->Hp->Prop} (I:Inv X pins σ H s)
  (h:ta σ H fun x H1=>tb σ H1 fun y H2=>R x y H2) {Q:Value->Shared->Prop} {f:Value->Value->Sem Value}
  (hf:∀ v u s2 x y H2,Inv X pins σ H2 s2->RelV x v->RelV y u->R x y H2->wpAny (model X.prog X.w) X.A (f v u) Q X.xe s2) :
  wpAny (model X.prog X.w) X.A (eval a X.env) (fun v s₁=>wpAny (model X.prog X.w) X.A (eval b X.env) (fun u s₂=>wpAny (model X.prog X.w) X.A (f v u) Q X.xe s₂) X.xe s₁) X.xe s:=by
 refine thn (ha pins s σ H _ I h) fun v s1 ⟨x,H1,I1,r1,q1⟩=>?_
 refine thn (hb pins s1 σ H1 _ I1 q1) fun u s2 ⟨y,H2,I2,r2,q2⟩=>?_
 exact hf v u s2 x y H2 I2 r1 r2 q2
theorem pe_op {op:Operator} {r:R2} (ho:OpR X (binaryOp op) r) (ha:PE X a ta) (hb:PE X b tb):PE X (.BinOp a op b pos) (tOp r ta tb):=by
 intro pins s σ H Q I h
 exact wpAny_BinOp (binT ha hb I h fun v u s2 x y H2 I2 rx ry q=>ho pins s2 σ H2 x y v u Q I2 rx ry q)
theorem pe_un {op:UnaryOp} {r:V->Hp->VK->Prop} (ho:UnR X (unaryOp op) r) (ha:PE X a ta):PE X (.UnaryOp op a pos) (tUn r ta):=by
 intro pins s σ H Q I h
 exact UnaryOp_ (thn (ha pins s σ H _ I h) fun v s1 ⟨x,H1,I1,r1,q1⟩=>ho pins s1 σ H1 x v Q I1 r1 q1)
theorem opI {f:Value->Value->Sem Value} {C:Int->Int->Prop} {g:Int->Int->Int}
  (rule:∀ (i j:Int) (t u:Tok) (s:Shared) (Q:Value->Shared->Prop) (E:Value->Shared->Prop),C i j->Q (.int (g i j) s.toks) { s with toks:=s.toks + 1 }->wpAny (model X.prog X.w) X.A (f (.int i t) (.int j u)) Q E s) :
  OpR X f (rI C fun i j=>.int (g i j)):=by
 intro pins s σ H x y v u Q I rx ry h
 obtain⟨i,j,rfl,rfl,hc,q⟩:=h
 obtain⟨t,rfl⟩:=rx
 obtain⟨t',rfl⟩:=ry
 exact rule i j t t' s _ _ hc ⟨.int (g i j),H,I.tok _,⟨_,rfl⟩,q⟩
theorem opI0 {f:Value->Value->Sem Value} {g:Int->Int->Int}
  (rule:∀ (i j:Int) (t u:Tok) (s:Shared) (Q:Value->Shared->Prop) (E:Value->Shared->Prop),Q (.int (g i j) s.toks) { s with toks:=s.toks + 1 }->wpAny (model X.prog X.w) X.A (f (.int i t) (.int j u)) Q E s) :
  OpR X f (rI0 fun i j=>.int (g i j)):=by
 intro pins s σ H x y v u Q I rx ry h
 obtain⟨i,j,rfl,rfl,q⟩:=h
 obtain⟨t,rfl⟩:=rx
 obtain⟨t',rfl⟩:=ry
 exact rule i j t t' s _ _ ⟨.int (g i j),H,I.tok _,⟨_,rfl⟩,q⟩
theorem opB0 {f:Value->Value->Sem Value} {g:Int->Int->Bool}
  (rule:∀ (i j:Int) (t u:Tok) (s:Shared) (Q:Value->Shared->Prop) (E:Value->Shared->Prop),Q (.bool (g i j)) s->wpAny (model X.prog X.w) X.A (f (.int i t) (.int j u)) Q E s) :
  OpR X f (rI0 fun i j=>.bl (g i j)):=by
 intro pins s σ H x y v u Q I rx ry h
 obtain⟨i,j,rfl,rfl,q⟩:=h
 obtain⟨t,rfl⟩:=rx
 obtain⟨t',rfl⟩:=ry
 exact rule i j t t' s _ _ ⟨.bl (g i j),H,I,rfl,q⟩
def CDiv (i j:Int):Prop:=0 < j∧j < 1073741824
def CPow (i j:Int):Prop:=0≤j∧j≤1000000∧i.natAbs < 2 ^ 64
def CMul (i j:Int):Prop:=(-(2 ^ 64) < i∧i < 2 ^ 64)∨(-(2 ^ 64) < j∧j < 2 ^ 64)
theorem CMul.ok {i j:Int} (h:CMul i j):IntMulOk i j:=by
 rcases h with ⟨h1,h2⟩ | ⟨h1,h2⟩
 ·exact .of_left (intBits_le_64 h1 h2)
 ·exact .of_right (intBits_le_64 h1 h2)
theorem op_add:OpR X (binaryOp .Add) (rI0 fun i j=>.int (i + j)):=opI0 fun _ _ _ _ _ _ _ q=>add_int q
theorem op_sub:OpR X (binaryOp .Sub) (rI0 fun i j=>.int (i - j)):=opI0 fun _ _ _ _ _ _ _ q=>sub_int q
theorem op_mul:OpR X (binaryOp .Mult) (rI CMul fun i j=>.int (i * j)):=opI fun _ _ _ _ _ _ _ hc q=>mul_int q hc.ok
/-- // by a positive divisor -/
theorem op_fdiv:OpR X (binaryOp .FloorDiv) (rI CDiv fun i j=>.int (i / j)):=opI fun i j _ _ _ _ _ hc q=>by
 have h1:(0:Int) < j:=hc.1
 have h2:j < 1073741824:=hc.2
 exact floordiv_int (by omega) (by rw[Int.fdiv_eq_ediv_of_nonneg i (by omega)];exact q) (.inl (PyProof.noPylong_small (by omega)))
/-- % by a positive divisor of any size -/
theorem op_mod:OpR X (binaryOp .Mod) (rI (fun _ j=>0 < j) fun i j=>.int (i % j)):=opI fun i j _ _ _ _ _ hc q=>by
 have h1:(0:Int) < j:=hc
 exact mod_int' (by omega) (by rw[Int.fmod_eq_emod_of_nonneg i (by omega)];exact q)
theorem op_pow:OpR X (binaryOp .Pow) (rI CPow fun i j=>.int (i ^ j.toNat)):=opI fun _ _ _ _ _ _ _ hc q=>pow_int_small hc.1 hc.2.1 hc.2.2 q
theorem unI {f:Value->Sem Value} {g:Int->Int}
  (rule:∀ (i:Int) (t:Tok) (s:Shared) (Q:Value->Shared->Prop) (E:Value->Shared->Prop),Q (.int (g i) s.toks) { s with toks:=s.toks + 1 }->wpAny (model X.prog X.w) X.A (f (.int i t)) Q E s) :
  UnR X f (rU fun i=>.int (g i)):=by
 intro pins s σ H x v Q I rx h
 obtain⟨i,rfl,q⟩:=h
 obtain⟨t,rfl⟩:=rx
 exact rule i t s _ _ ⟨.int (g i),H,I.tok _,⟨_,rfl⟩,q⟩
theorem un_neg:UnR X (unaryOp .USub) (rU fun i=>.int (-i)):=unI fun _ _ _ _ _ q=>neg_int q
end
/-- the scalars that == tells apart as data does -/
def scal:V->V->Bool
 | .non,.non=>true | .non,.int _=>true | .int _,.non=>true | .non,.bl _=>true | .bl _,.non=>true | .non,.str _=>true | .str _,.non=>true
 | .int _,.int _=>true | .bl _,.bl _=>true | .str _,.str _=>true | .byt _,.byt _=>true
 | .int _,.str _=>true | .str _,.int _=>true | .bl _,.str _=>true | .str _,.bl _=>true
 | _,_=>false
def rEq:R2:=fun x y H Q=>scal x y=true∧Q (.bl (decide (x=y))) H
def rNe:R2:=fun x y H Q=>scal x y=true∧Q (.bl (!decide (x=y))) H
theorem dec_int {i j:Int}:decide (V.int i=V.int j)=(i == j):=by
 rw[Bool.eq_iff_iff]
 simp
theorem dec_bl {i j:Bool}:decide (V.bl i=V.bl j)=(i == j):=by
 rw[Bool.eq_iff_iff]
 simp
theorem dec_str {i j:Str}:decide (V.str i=V.str j)=(i == j):=by
 rw[Bool.eq_iff_iff]
 simp
theorem dec_byt {i j:Array UInt8}:decide (V.byt i=V.byt j)=(i.toList == j.toList):=by
 rw[Bool.eq_iff_iff]
 cases i
 cases j
 simp
section
variable {X:Cx} {a b c:Expr} {ta tb tc:TE} {pos:Pos}
theorem fin_bl {pins:List (Addr × Obj)} {σ:St} {H:Hp} {s:Shared} {Q:VK} {k k':Bool} (I:Inv X pins σ H s) (q:Q (.bl k) H) (e:k=k'):EP X pins σ Q (.bool k') s:=by
 subst e
 exact⟨.bl k,H,I,rfl,q⟩
theorem op_eq:OpR X (compareOp .Eq) rEq:=by
 intro pins s σ H x y v u Q I rx ry h
 obtain⟨hs,q⟩:=h
 cases x with
 | non =>
  cases rx
  cases y with
  | non=>cases ry;exact PySem.EqNone.eq_none_none (fin_bl I q (by simp))
  | bl j=>cases ry;exact PySem.EqNone.eq_none_bool (fin_bl I q (by simp))
  | int j=>obtain⟨t',rfl⟩:=ry;exact PySem.EqNone.eq_none_int (fin_bl I q (by simp))
  | str j=>obtain⟨t',rfl⟩:=ry;exact PySem.EqNone.eq_none_str (fin_bl I q (by simp))
  | _=>exact absurd (show false=true from hs) Bool.false_ne_true
 | bl i =>
  cases rx
  cases y with
  | non=>cases ry;exact PySem.EqNone.eq_bool_none (fin_bl I q (by simp))
  | bl j=>cases ry;exact eq_bool (fin_bl I q dec_bl)
  | str j=>obtain⟨t',rfl⟩:=ry;exact PySem.EqMixed.eq_bool_str (fin_bl I q (by simp))
  | _=>exact absurd (show false=true from hs) Bool.false_ne_true
 | int i =>
  obtain⟨t,rfl⟩:=rx
  cases y with
  | non=>cases ry;exact PySem.EqNone.eq_int_none (fin_bl I q (by simp))
  | int j=>obtain⟨t',rfl⟩:=ry;exact eq_int (fin_bl I q dec_int)
  | str j=>obtain⟨t',rfl⟩:=ry;exact PySem.EqMixed.eq_int_str (fin_bl I q (by simp))
  | _=>exact absurd (show false=true from hs) Bool.false_ne_true
 | str i =>
  obtain⟨t,rfl⟩:=rx
  cases y with
  | non=>cases ry;exact PySem.EqNone.eq_str_none (fin_bl I q (by simp))
  | bl j=>cases ry;exact PySem.EqMixed.eq_str_bool (fin_bl I q (by simp))
  | int j=>obtain⟨t',rfl⟩:=ry;exact PySem.EqMixed.eq_str_int (fin_bl I q (by simp))
  | str j=>obtain⟨t',rfl⟩:=ry;exact eq_str (fin_bl I q dec_str)
  | _=>exact absurd (show false=true from hs) Bool.false_ne_true
 | byt i =>
  obtain⟨t,rfl⟩:=rx
  cases y with
  | byt j=>obtain⟨t',rfl⟩:=ry;exact PySem.W.eq_bytes (fin_bl I q dec_byt)
  | _=>exact absurd (show false=true from hs) Bool.false_ne_true
 | _=>cases y <;> exact absurd (show false=true from hs) Bool.false_ne_true
theorem op_ne:OpR X (compareOp .NotEq) rNe:=by
 intro pins s σ H x y v u Q I rx ry h
 obtain⟨hs,q⟩:=h
 cases x with
 | non =>
  cases rx
  cases y with
  | non=>cases ry;exact PySem.EqNone.ne_none_none (fin_bl I q (by simp))
  | bl j=>cases ry;exact PySem.EqNone.ne_none_bool (fin_bl I q (by simp))
  | int j=>obtain⟨t',rfl⟩:=ry;exact PySem.EqNone.ne_none_int (fin_bl I q (by simp))
  | str j=>obtain⟨t',rfl⟩:=ry;exact PySem.EqNone.ne_none_str (fin_bl I q (by simp))
  | _=>exact absurd (show false=true from hs) Bool.false_ne_true
 | bl i =>
  cases rx
  cases y with
  | non=>cases ry;exact PySem.EqNone.ne_bool_none (fin_bl I q (by simp))
  | bl j=>cases ry;exact ne_bool (fin_bl I q (congrArg not dec_bl))
  | str j=>obtain⟨t',rfl⟩:=ry;exact PySem.EqMixed.ne_bool_str (fin_bl I q (by simp))
  | _=>exact absurd (show false=true from hs) Bool.false_ne_true
 | int i =>
  obtain⟨t,rfl⟩:=rx
  cases y with
  | non=>cases ry;exact PySem.EqNone.ne_int_none (fin_bl I q (by simp))
  | int j=>obtain⟨t',rfl⟩:=ry;exact ne_int (fin_bl I q (congrArg not dec_int))
  | str j=>obtain⟨t',rfl⟩:=ry;exact PySem.EqMixed.ne_int_str (fin_bl I q (by simp))
  | _=>exact absurd (show false=true from hs) Bool.false_ne_true
 | str i =>
  obtain⟨t,rfl⟩:=rx
  cases y with
  | non=>cases ry;exact PySem.EqNone.ne_str_none (fin_bl I q (by simp))
  | bl j=>cases ry;exact PySem.EqMixed.ne_str_bool (fin_bl I q (by simp))
  | int j=>obtain⟨t',rfl⟩:=ry;exact PySem.EqMixed.ne_str_int (fin_bl I q (by simp))
  | str j=>obtain⟨t',rfl⟩:=ry;exact ne_str (fin_bl I q (congrArg not dec_str))
  | _=>exact absurd (show false=true from hs) Bool.false_ne_true
 | byt i =>
  obtain⟨t,rfl⟩:=rx
  cases y with
  | byt j=>obtain⟨t',rfl⟩:=ry;exact PySem.W.ne_bytes (fin_bl I q (congrArg not dec_byt))
  | _=>exact absurd (show false=true from hs) Bool.false_ne_true
 | _=>cases y <;> exact absurd (show false=true from hs) Bool.false_ne_true
theorem op_lt:OpR X (compareOp .Lt) (rI0 fun i j=>.bl (decide (i < j))):=opB0 fun _ _ _ _ _ _ _ q=>lt_int q
theorem op_le:OpR X (compareOp .LtE) (rI0 fun i j=>.bl (decide (i≤j))):=opB0 fun _ _ _ _ _ _ _ q=>le_int q
theorem op_gt:OpR X (compareOp .Gt) (rI0 fun i j=>.bl (decide (j < i))):=opB0 fun _ _ _ _ _ _ _ q=>gt_int q
/-- is None, is not None: the right side a value none -/
theorem op_isN:OpR X (compareOp .Is) (fun x y H Q=>y=.non∧Q (.bl (decide (x=.non))) H):=by
 intro pins s σ H x y v u Q I rx ry h
 obtain⟨rfl,q⟩:=h
 cases ry
 refine is_none_gen (fin_bl I q ?_)
 cases x <;> first
  | (cases rx;rfl)
  | (obtain⟨t,rfl⟩:=rx;rfl)
theorem op_notN:OpR X (compareOp .IsNot) (fun x y H Q=>y=.non∧Q (.bl (!decide (x=.non))) H):=by
 intro pins s σ H x y v u Q I rx ry h
 obtain⟨rfl,q⟩:=h
 cases ry
 refine isnot_none_gen (fin_bl I q ?_)
 cases x <;> first
  | (cases rx;rfl)
  | (obtain⟨t,rfl⟩:=rx;rfl)
theorem nomark (b:Expr) {op:CmpOp} (h:op≠.In:=by decide) (h2:op≠.NotIn:=by decide):behindInMarks op b=false:=by
 have e1:(op == CmpOp.In)=false:=by cases op <;> first | rfl | exact absurd rfl h
 have e2:(op == CmpOp.NotIn)=false:=by cases op <;> first | rfl | exact absurd rfl h2
 cases b <;> simp [behindInMarks,e1,e2]
/-- a comparison as a value; hm: nomark b, or (for in, not in) by with_unfolding_all rfl -/
theorem pe_cmpR {op:CmpOp} {r:R2} (ho:OpR X (compareOp op) r) (ha:PE X a ta) (hb:PE X b tb) (hm:behindInMarks op b=false):PE X (.Compare a [op] [b] pos) (tOp r ta tb):=by
 intro pins s σ H Q I h
 exact wpAny_Compare1 (binT ha hb I h fun v u s2 x y H2 I2 rx ry q=>ho pins s2 σ H2 x y v u Q I2 rx ry q) hm
/-- a reading of a value as a test -/
def tTest (t:TE):TT:=fun σ H Q=>t σ H fun x H'=>∃ k,x=.bl k∧Q k H'
theorem pt_cmpR {op:CmpOp} {r:R2} (ho:OpR X (compareOp op) r) (ha:PE X a ta) (hb:PE X b tb) (hm:behindInMarks op b=false):PT X (.Compare a [op] [b] pos) (tTest (tOp r ta tb)):=by
 intro pins s σ H Q I h
 refine wpAny_isTrue_Compare1 (thn (ha pins s σ H _ I h) fun v s1 ⟨x,H1,I1,r1,q1⟩=>thn (hb pins s1 σ H1 _ I1 q1) fun u s2 ⟨y,H2,I2,r2,q2⟩ =>
  thn (ho pins s2 σ H2 x y v u _ I2 r1 r2 q2) fun c s3 ⟨z,H3,I3,r3,k,e,q3⟩=>?_) hm
 subst e
 cases r3
 exact wpAny_truthy_bool ⟨H3,I3,q3⟩
/-- a op1 b op2 c -/
def tChain (r r':R2) (ta tb tc:TE):TE:=fun σ H Q=>ta σ H fun x H1=>tb σ H1 fun y H2=>r x y H2 fun z H3=>∃ k,z=.bl k ∧
 (if k=true then tc σ H3 fun w' H4=>r' y w' H4 Q else Q (.bl false) H3)
theorem pe_chain {op op':CmpOp} {r r':R2} (ho:OpR X (compareOp op) r) (ho':OpR X (compareOp op') r') (ha:PE X a ta) (hb:PE X b tb) (hc:PE X c tc)
  (hm:lastMarks [op,op'] [b,c]=false:=by with_unfolding_all rfl):PE X (.Compare a [op,op'] [b,c] pos) (tChain r r' ta tb tc):=by
 intro pins s σ H Q I h
 refine Compare_chain (thn (ha pins s σ H _ I h) fun v s1 ⟨x,H1,I1,r1,q1⟩=>chain_link (thn (hb pins s1 σ H1 _ I1 q1) fun u s2 ⟨y,H2,I2,r2,q2⟩ =>
  thn (ho pins s2 σ H2 x y v u _ I2 r1 r2 q2) fun d s3 ⟨z,H3,I3,r3,k,e,q3⟩=>?_)) hm
 subst e
 cases r3
 refine wpAny_truthy_bool ?_
 cases k with
 | false=>exact ite_ff ⟨.bl false,H3,I3,rfl,q3⟩
 | true=>exact ite_tt (chain_last (thn (hc pins s3 σ H3 _ I3 q3) fun w' s4 ⟨z',H4,I4,r4,q4⟩=>ho' pins s4 σ H4 y z' u w' Q I4 r2 r4 q4))
theorem line63:(sizeLine:Nat) < 2 ^ 63:=by rw[sizeLine_eq];decide
theorem vals1 {x:V} {us:List Value} (r:Vals [x] us):∃ u,us=[u]∧RelV x u:=by
 cases r with
 | cons r1 r2=>cases r2;exact⟨_,rfl,r1⟩
theorem vals2 {x y:V} {us:List Value} (r:Vals [x,y] us):∃ u w',us=[u,w']∧RelV x u∧RelV y w':=by
 cases r with
 | cons r1 r2 =>
  cases r2 with
  | cons r3 r4=>cases r4;exact⟨_,_,rfl,r1,r3⟩
theorem call_abs:CallR X (.builtin "abs") (fun xs H Q=>∃ i,xs=[.int i]∧Q (.int (if i < 0 then -i else i)) H):=by
 intro pins s σ H xs us Q I r h
 obtain⟨i,rfl,q⟩:=h
 obtain⟨u,rfl,t,rfl⟩:=vals1 r
 exact call_abs_int fun u tk=>⟨.int (if i < 0 then -i else i),H,I.tok _,⟨_,rfl⟩,q⟩
theorem call_max2 (hc:X.calm=true):CallR X (.builtin "max") (fun xs H Q=>∃ i j,xs=[.int i,.int j]∧Q (.int (if j > i then j else i)) H):=by
 intro pins s σ H xs us Q I r h
 obtain⟨i,j,rfl,q⟩:=h
 obtain⟨u,w',rfl,⟨t,rfl⟩,⟨t',rfl⟩⟩:=vals2 r
 refine max_two_ints (I.ok.hd hc) fun h' tk k=>⟨_,H,I.kept k,?_,q⟩
 by_cases hj:j > i
 ·rw[if_pos hj,if_pos hj];exact⟨_,rfl⟩
 ·rw[if_neg hj,if_neg hj];exact⟨_,rfl⟩
theorem call_min2 (hc:X.calm=true):CallR X (.builtin "min") (fun xs H Q=>∃ i j,xs=[.int i,.int j]∧Q (.int (if j < i then j else i)) H):=by
 intro pins s σ H xs us Q I r h
 obtain⟨i,j,rfl,q⟩:=h
 obtain⟨u,w',rfl,⟨t,rfl⟩,⟨t',rfl⟩⟩:=vals2 r
 refine min_two_ints (I.ok.hd hc) fun h' tk k=>⟨_,H,I.kept k,?_,q⟩
 by_cases hj:j < i
 ·rw[if_pos hj,if_pos hj];exact⟨_,rfl⟩
 ·rw[if_neg hj,if_neg hj];exact⟨_,rfl⟩
theorem call_int1:CallR X (.type "int") (fun xs H Q=>(∃ i,xs=[.int i]∧Q (.int i) H)∨∃ k,xs=[.bl k]∧Q (.int (if k then 1 else 0)) H):=by
 intro pins s σ H xs us Q I r h
 rcases h with ⟨i,rfl,q⟩ | ⟨k,rfl,q⟩
 ·obtain⟨u,rfl,t,rfl⟩:=vals1 r
  exact call_int_int ⟨.int i,H,I,⟨_,rfl⟩,q⟩
 ·obtain⟨u,rfl,r1⟩:=vals1 r
  cases r1
  exact call_int_bool ⟨.int (if k then 1 else 0),H,I.tok _,⟨_,rfl⟩,q⟩
end
end L2
namespace L2
open PySem PySem.Spec PyProof.Rows
structure ObjM (h:Heap) (x dx C:Addr) (mA:Str->Option Value):Prop where
 obj:h.get? x=some (PySem.W.instObj C dx)
 ns:h.Ns1 dx mA
 ne:dx≠x
theorem lookIn_ns {h:Heap} {dx:Addr} {mA:Str->Option Value} (n:h.Ns1 dx mA):∃ od,h.get? dx=some od∧∀ name,PySem.W.lookIn name od=some (mA name):=by
 obtain⟨o,es,ep,ho,hd,hk,_,hm⟩:=n
 refine⟨o,ho,fun name=>?_⟩
 have e:=hm name
 unfold nsFind findBy at e
 rw[← Array.find?_toList] at e
 unfold PySem.W.lookIn
 rw[hd]
 dsimp only
 split
 ·rename_i y q
  rw[q] at e
  exact congrArg some e
 ·rename_i q
  rw[q] at e
  have a:es.toList.any (·.refKey)=false:=by
   rw[List.any_eq_false]
   intro y hy
   obtain⟨z,t,hkey⟩:=hk y (Array.mem_toList_iff.mp hy)
   simp [DictEntry.refKey,hkey]
  have a':¬ es.toList.any (·.refKey)=true:=by rw[a];exact Bool.false_ne_true
  rw[if_neg a']
  exact congrArg some e
theorem ObjM.look {h:Heap} {x dx C:Addr} {mA:Str->Option Value} (I:ObjM h x dx C mA):∃ od,PySem.W.InstAt h x (PySem.W.instObj C dx) C (some od)∧∀ name,PySem.W.lookIn name od=some (mA name) :=
 let ⟨od,ho,hl⟩:=lookIn_ns I.ns
 ⟨od,⟨I.obj,rfl,rfl,ho⟩,hl⟩
section
variable {prog:Program} {w:World} {A:Around} {E:Value->Shared->Prop} {s:Shared} {K:PySem.W.Frag} {x dx C f:Addr} {mA:Str->Option Value} {name:Str} {v:Value}
end
section
variable {P:Program} {w:World} {H H':Hp} {h h':Heap} {a C dx:Addr} {fs fs':List (Str × V)}
theorem ins_get (hok:HOk P w H h) (e:H a=some (.ins C dx fs)):∃ mA,ObjM h a dx C mA∧(∀ f,RelO (fs.lookup f) (mA f))∧PySem.Within mA (fs.map (·.1))∧fs.length≤1000∧H dx=some (.own a):=by
 obtain⟨d,z,ne,ob,mA,n,r,q⟩:=(show ObjOk P w H h a (.ins C dx fs) from hok a _ e)
 exact⟨mA,⟨ob,n,ne⟩,r,q,z,d⟩
end
structure Cls (K:PySem.W.Frag) (C:Addr):Prop where
 pg:PySem.W.plainGet K C Str.empty=true
 hd:PySem.W.hasDictIn K C=true
 po:PySem.W.plainOver K C=true
 sa:PySem.W.findIn K (.ref C) "__setattr__"=some (some (.builtin "object.__setattr__"))
theorem Cls.get {K:PySem.W.Frag} {C:Addr} (c:Cls K C) (f:Str):PySem.W.plainGet K C f=true:=c.pg
/-- a constant of the class -/
structure Con (K:PySem.W.Frag) (C:Addr) (f:Str) (v:V) (u:Value):Prop where
 at_:PySem.W.findIn K (.ref C) f=some (some u)
 rel:RelV v u
 get:PySem.W.specialIn K u "__get__"=some none
 cp:PySem.W.copiedNames.contains f=false
section
variable {X:Cx} {pins:List (Addr × Obj)} {σ:St} {H:Hp} {s:Shared} {a C dx:Addr} {fs:List (Str × V)} {f:Str} {v:V} {A:Around} {E:Value->Shared->Prop}
end
section
variable {X:Cx} {o e value:Expr} {f:Str} {pos pos' tpos:Pos} {ta tv:TE}
end
section
variable {X:Cx} {pins:List (Addr × Obj)} {σ:St} {H:Hp} {s:Shared} {A:Around} {E:Value->Shared->Prop} {Q:Value->Shared->Prop} {c:Value} {b:Bool}
/-- the type of a value, as the fragment's deciders take it; for an instance its class -/
inductive TyOf (K:PySem.W.Frag) (H:Hp):V->Value->Prop where
 | non:TyOf K H .non (.type "NoneType")
 | bl (x:Bool):TyOf K H (.bl x) (.type "bool")
 | int (i:Int):TyOf K H (.int i) (.type "int")
 | str (x:Str):TyOf K H (.str x) (.type "str")
 | flt (x:UInt64):TyOf K H (.flt x) (.type "float")
 | lst {a:Addr} {xs:List V} (e:H a=some (.lst xs)):TyOf K H (.ref a) (.type "list")
 | frz {a:Addr} {o:Obj} {xs:List V} (e:H a=some (.frz o (.lst xs))):TyOf K H (.ref a) (.type "list")
 | tup {a:Addr} {xs:List V} (e:H a=some (.tup xs)):TyOf K H (.ref a) (.type "tuple")
 | dK {a:Addr} {kvs:List (Key × V)} (e:H a=some (.dK kvs)):TyOf K H (.ref a) (.type "dict")
 | dT {a:Addr} {kvs:List (List Key × V)} (e:H a=some (.dT kvs)):TyOf K H (.ref a) (.type "dict")
 | ins {a C dx : Addr} {fs : List (Str × V)} (e : H a = some (.ins C dx fs)) (cl : Cls K C) (ha : PySem.W.findIn K (.ref C) "__class__" = some (some (.builtin "object.__class__")))
     (hn:PySem.W.specialIn K (.builtin "object.__class__") "__get__"=some (some (.builtin "getset_descriptor.__get__"))) (htk:PySem.W.takesIn K (.builtin "object.__class__")=some true)
     (hm:PySem.W.mroIn K C (.type "object")=some true):TyOf K H (.ref a) (.ref C)
/-- isinstance(x, c) for one class c, a built-in or an own one: kitOne's answer -/
theorem isinst_ok {x:V} {u t:Value} (I:Inv X pins σ H s) (rx:RelV x u) (ty:TyOf X.K H x t) (e:PySem.W.kitOne X.K t c=some b) (h:∀ tk,Q (.bool b) { s with toks:=tk }) :
  wpAny (model X.prog X.w) A (call (.builtin "isinstance") [u,c]) Q E s:=by
 cases ty with
 | non=>cases (show u=Value.none from rx);exact PySem.W.kia_one PySem.W.kitx_none I.kIn True.intro e (fun z=>nomatch z) h
 | bl y=>cases (show u=Value.bool y from rx);exact PySem.W.kia_one PySem.W.kitx_bool I.kIn True.intro e (fun z=>nomatch z) h
 | int i=>obtain⟨t,q⟩:=(show ∃ t,u=Value.int i t from rx);cases q;exact PySem.W.kia_one PySem.W.kitx_int I.kIn True.intro e (fun z=>nomatch z) h
 | str y=>obtain⟨t,q⟩:=(show ∃ t,u=Value.str y t from rx);cases q;exact PySem.W.kia_one PySem.W.kitx_str I.kIn True.intro e (fun z=>nomatch z) h
 | flt y=>obtain⟨t,q⟩:=(show ∃ t,u=Value.float y t from rx);cases q;exact PySem.W.kia_one PySem.W.kitx_float I.kIn True.intro e (fun z=>nomatch z) h
 | @lst a xs ea =>
  cases (show u=Value.ref a from rx)
  obtain⟨_,_,n,_,h1⟩:=(show ObjOk X.prog X.w H s.heap a (.lst xs) from I.hok a _ ea)
  exact PySem.W.kia_one PySem.W.kitx_list I.kIn ⟨_,h1,rfl⟩ e (fun z=>nomatch z) h
 | @frz a ob xs ea =>
  cases (show u=Value.ref a from rx)
  obtain⟨_,_,_,n,_,h1⟩:=(show ObjOk X.prog X.w H s.heap a (.frz ob (.lst xs)) from I.hok a _ ea)
  exact PySem.W.kia_one PySem.W.kitx_list I.kIn ⟨_,h1,rfl⟩ e (fun z=>nomatch z) h
 | @tup a xs ea =>
  cases (show u=Value.ref a from rx)
  obtain⟨_,_,_,p⟩:=(show ObjOk X.prog X.w H s.heap a (.tup xs) from I.hok a _ ea)
  obtain⟨o,h1,h2,_⟩:=p
  exact PySem.W.kia_one PySem.W.kitx_tuple I.kIn ⟨o,h1,h2⟩ e (fun z=>nomatch z) h
 | @dK a kvs ea =>
  cases (show u=Value.ref a from rx)
  obtain⟨_,_,vs,_,p⟩:=(show ObjOk X.prog X.w H s.heap a (.dK kvs) from I.hok a _ ea)
  obtain⟨o,es,ep,h1,h2,_⟩:=p
  exact PySem.W.kia_one PySem.W.kitx_dict I.kIn ⟨o,h1,h2.1⟩ e (fun z=>nomatch z) h
 | @dT a kvs ea =>
  cases (show u=Value.ref a from rx)
  obtain⟨_,_,xs,_,o,es,ep,h1,h2,_⟩:=(show ObjOk X.prog X.w H s.heap a (.dT kvs) from I.hok a _ ea)
  exact PySem.W.kia_one PySem.W.kitx_dict I.kIn ⟨o,h1,h2.1⟩ e (fun z=>nomatch z) h
 | @ins a C dx fs ea cl ha hn htk hm =>
  cases (show u=Value.ref a from rx)
  obtain⟨mA,O,_⟩:=ins_get I.hok ea
  obtain⟨od,J,_⟩:=O.look
  exact PySem.W.kia_one (PySem.W.kitx_own (cl.get _) cl.hd ha hn htk hm) I.kIn J e (fun z=>nomatch z) h
end
end L2
namespace L2
open PySem PySem.Spec PyProof.Rows
structure Room (k:Nat) (A:Around):Prop where
 hd:A.handled=none
 dp:A.depth + 3 * k + 5 < recursionLimit
 un:A.units + 16 * k + 200 < cLine
 gd:A.guards=some []
theorem Room.mono {j k:Nat} {A:Around} (r:Room k A) (h:j≤k):Room j A:=⟨r.hd,by have:=r.dp;omega,by have:=r.un;omega,r.gd⟩
theorem Room.deeper {k:Nat} {A:Around} (r:Room (k + 1) A) (env:Env):Room k (A.deeper env) :=
 ⟨r.hd,by have:=r.dp;show A.depth + 1 + 3 * k + 5 < _;omega,by have:=r.un;show A.units + 3 + 16 * k + 200 < _;omega,r.gd⟩
theorem Room.depth {k:Nat} {A:Around} (r:Room k A):A.depth < recursionLimit:=by have:=r.dp;omega
theorem Room.units {k:Nat} {A:Around} (r:Room k A):A.units + 64 < cLine:=by have:=r.un;omega
def tNil:TA:=fun _ H Q=>Q [] H
def tCons (ta:TE) (tr:TA):TA:=fun σ H Q=>ta σ H fun x H1=>tr σ H1 fun xs H2=>Q (x::xs) H2
section
variable {X:Cx} {e:Expr} {es:List Expr} {te:TE} {t:TA} {pos:Pos}
theorem pa_nil:PA X [] tNil:=fun _ _ _ _ H Q I h=>Calls.spliced_nil ⟨[],H,I,.nil,h⟩
theorem pa_cons (ha:PE X e te) (hr:PA X es t) (hs:starEach (e::es) X.env=(false,eval e X.env)::starEach es X.env:=by rfl):PA X (e::es) (tCons te t):=by
 intro pos pins s σ H Q I h
 rw[hs]
 show wpAny _ _ (spliced ((false,eval e X.env)::backTo pos (starEach es X.env))) _ _ s
 refine Calls.spliced_cons (thn (ha pins s σ H _ I h) fun u s1 ⟨x,H1,I1,r1,q1⟩=>?_)
 exact thn (hr pos pins s1 σ H1 _ I1 q1) fun us s2 ⟨xs,H2,I2,r2,q2⟩=>⟨x::xs,H2,I2,.cons r1 r2,q2⟩
/-- a tuple, a list of written items -/
def tTup (t:TA):TE:=fun σ H Q=>t σ H fun xs H1=>xs.length≤sizeLine∧∀ p,H1 p=none->Q (.ref p) (upd H1 p (.tup xs))
def tLst (t:TA):TE:=fun σ H Q=>t σ H fun xs H1=>xs.length≤sizeLine∧∀ p,H1 p=none->Q (.ref p) (upd H1 p (.lst xs))
theorem pe_tup {x1} (h:PA X es t):PE X (.Tuple es x1 pos) (tTup t):=by
 intro pins s σ H Q I hq
 refine wpAny_Tuple_spliced (thn (h pos pins s σ H _ I hq) fun us s1 ⟨xs,H1,I1,r,z,q⟩=>⟨by rw[← r.length];exact z,?_⟩)
 have hf:H1 s1.heap.objs.size=none:=I1.hok.fresh (Nat.le_refl _)
 refine⟨.ref s1.heap.objs.size,upd H1 s1.heap.objs.size (.tup xs),I1.laid (t':=s1.toks) (fun b u e=>Heap.get?_push_of_some _ e) (Nat.le_refl _) ?_,rfl,q _ hf⟩
 exact⟨z,us,r,⟨_,Heap.get?_push_size _ rfl,rfl,⟨_,rfl⟩,rfl⟩⟩
theorem pe_lst (h:PA X es t):PE X (.List es pos) (tLst t):=by
 intro pins s σ H Q I hq
 refine wpAny_List_spliced (thn (h pos pins s σ H _ I hq) fun us s1 ⟨xs,H1,I1,r,z,q⟩=>⟨by rw[← r.length];exact z,?_⟩)
 have hf:H1 s1.heap.objs.size=none:=I1.hok.fresh (Nat.le_refl _)
 refine⟨.ref s1.heap.objs.size,upd H1 s1.heap.objs.size (.lst xs),I1.laid (t':=s1.toks) (fun b u e=>Heap.get?_push_of_some _ e) (Nat.le_refl _) ?_,rfl,q _ hf⟩
 exact⟨z,us,0,r,Heap.get?_push_size _ rfl⟩
end
/-- a def's promise: the bound arguments in the parameters' order, the heap, the wanted end, the wanted exception -/
abbrev Sp:=List V->Hp->VK->XK->Prop
/-- how an exception lies behind a call (file 08 gives it): the callers' frames, abstract heap and state ahead of the call, the wish, the exception, the state -/
abbrev CXT:=List Env->Hp->Shared->XK->Value->Shared->Prop
/-- the state at a call -/
structure Env0 (P:Program) (w:World) (K:PySem.W.Frag) (mg:Str->Option Value) (base:Heap) (A:Around) (outer:List Env) (s:Shared) (H:Hp):Prop where
 frames:A.frames=some outer
 mod:Mod K mg base
 bs:∀ b o,base.get? b=some o->s.heap.get? b=some o∧H b=none
 bsz:base.objs.size≤s.heap.objs.size
 funs:s.heap.FunFrames base outer
 frf:∀ b ∈ frs outer,H b=none
 hok:HOk P w H s.heap
 bare:AllBare s.gens
/-- a call's end -/
def CE (outer:List Env) (P:Program) (w:World) (H:Hp) (s:Shared) (Q:VK) (u:Value) (s':Shared):Prop :=
 ∃ v H',s'.os=s.os∧AllBare s'.gens∧Un (frs outer) [] H H' s.heap s'.heap∧HOk P w H' s'.heap∧RelV v u∧Q v H'
def CR (CX:CXT) (outer:List Env) (P:Program) (w:World) (H:Hp) (s:Shared) (Q:VK) (E:XK) (r:Result) (s':Shared):Prop :=
 match r with
 | .ok (.ret u)=>CE outer P w H s Q u s'
 | .ok _=>False
 | .error e=>CX outer H s E e s'
structure FnOk (P:Program) (w:World) (K:PySem.W.Frag) (mg:Str->Option Value) (base:Heap) (CX:CXT) (k:Nat) (f:Addr) (fd:FuncData) (ps:List Str) (sp:Sp):Prop where
 len:∀ vs H Q E,sp vs H Q E->vs.length=ps.length
 run:∀ (A:Around) (outer:List Env) (s:Shared) (H:Hp) (args:Args) (us:List Value) (vs:List V) (Q:VK) (E:XK),Room k A->Env0 P w K mg base A outer s H->BindsTo s fd args (ps.zip us)->Vals vs us->sp vs H Q E ->
  codeAny (model P w) A (.call (.ref f) args) (CR CX outer P w H s Q E) s
theorem FnOk.mono {P:Program} {w:World} {K:PySem.W.Frag} {mg:Str->Option Value} {base:Heap} {CX:CXT} {j k:Nat} {f:Addr} {fd:FuncData} {ps:List Str} {sp:Sp} (F:FnOk P w K mg base CX j f fd ps sp) (h:j≤k) :
  FnOk P w K mg base CX k f fd ps sp:=⟨F.len,fun A outer s H args us vs Q E hr=>F.run A outer s H args us vs Q E (hr.mono h)⟩
/-- a weaker promise -/
theorem FnOk.imp {P:Program} {w:World} {K:PySem.W.Frag} {mg:Str->Option Value} {base:Heap} {CX:CXT} {k:Nat} {f:Addr} {fd:FuncData} {ps:List Str} {sp sp':Sp} (F:FnOk P w K mg base CX k f fd ps sp)
  (h:∀ vs H Q E,sp' vs H Q E->sp vs H Q E):FnOk P w K mg base CX k f fd ps sp' :=
 ⟨fun vs H Q E q=>F.len vs H Q E (h _ _ _ _ q),fun A outer s H args us vs Q E hr he hb hv hs=>F.run A outer s H args us vs Q E hr he hb hv (h _ _ _ _ hs)⟩
section
variable {X:Cx} {pins:List (Addr × Obj)} {σ:St} {H:Hp} {s s':Shared}
/-- from a body: what a callee wants -/
theorem Inv.env0 (I:Inv X pins σ H s):Env0 X.prog X.w X.K X.mg X.base X.A X.stack s H :=
 ⟨I.ok.frames,I.ok.mod,I.bs,Nat.le_trans I.ok.bsz I.sz,I.stack,I.stkFree,I.hok,I.bare⟩
/-- behind a call -/
theorem Inv.after {Q:VK} {u:Value} (I:Inv X pins σ H s) (h:CE X.stack X.prog X.w H s Q u s'):EP X pins σ Q u s':=by
 obtain⟨v,H',os,bare,un,hok,r,q⟩:=h
 obtain⟨hh,g,d,t,os'⟩:=s'
 obtain rfl:os'=s.os:=os
 exact⟨v,H',I.call (h':=hh) (g':=g) (d':=d) (t':=t) (ch:=[]) un hok bare (fun b z=>absurd z (by simp)),r,q⟩
end
/-- f(..): the written arguments, then the defaults dvs; E: what is wanted of an exception -/
def tCall (sp:Sp) (dvs:List V) (E:XK) (t:TA):TE:=fun σ H Q=>t σ H fun vs H1=>sp (vs++dvs) H1 Q E
/-- how the parameters are bound: us the positional arguments, kw the keywords' values by name, ds the defaults that fill up -/
def Binds (K:PySem.W.Frag) (fd:FuncData) (ps:List Str) (ds:List Value):Prop :=
 ∀ (s:Shared) (us:List Value),K.In s.heap->(us++ds).length=ps.length->BindsTo s fd ⟨us,[]⟩ (ps.zip (us++ds))
/-- every parameter is given -/
theorem Binds.all {K:PySem.W.Frag} {fd:FuncData} {ps:List Str} (h:∀ us:List Value,us.length=ps.length->bindArgs fd ⟨us,[]⟩=pure (ps.zip us)):Binds K fd ps []:=fun s us _ hl=>by
 rw[List.append_nil] at hl ⊢
 exact .of_eq (h us hl)
/-- an exception of a callee reaches what this body wants of exceptions -/
def Passes (CX:CXT) (X:Cx) (E:XK):Prop:=∀ (pins:List (Addr × Obj)) (σ:St) (H:Hp) (s:Shared) (e:Value) (s':Shared),Inv X pins σ H s->CX X.stack H s E e s'->X.xe e s'
section
variable {X:Cx} {CX:CXT} {k:Nat} {f C:Addr} {fd:FuncData} {ps:List Str} {sp:Sp} {dvs:List V} {ds:List Value} {E:XK} {x m:Str} {p pos apos:Pos} {e o:Expr} {es:List Expr} {ta:TE} {t:TA}
/-- the callee runs -/
theorem run_fn {pins:List (Addr × Obj)} {σ:St} {H:Hp} {s:Shared} {Q:VK} {us:List Value} {vs:List V} (F:FnOk X.prog X.w X.K X.mg X.base CX k f fd ps sp) (hr:Room k X.A) (hb:Binds X.K fd ps ds) (hd:Vals dvs ds) (hx:Passes CX X E)
  (I:Inv X pins σ H s) (r:Vals vs us) (h:sp (vs++dvs) H Q E):wpAny (model X.prog X.w) X.A (call (.ref f) us) (EP X pins σ Q) X.xe s:=by
 have r2:Vals (vs++dvs) (us++ds):=r.append hd
 have hl:(us++ds).length=ps.length:=by rw[← r2.length];exact F.len _ _ _ _ h
 refine wpAny_call (codeAny_mono (F.run X.A X.stack s H ⟨us,[]⟩ (us++ds) (vs++dvs) Q E hr I.env0 (hb s us I.kIn hl) r2 h) fun r s' hq=>?_)
 cases r with
 | error e=>exact hx pins σ H s e s' I hq
 | ok fl =>
  cases fl with
  | ret u=>exact I.after hq
  | next=>exact False.elim hq
  | brk=>exact False.elim hq
  | cont=>exact False.elim hq
theorem pe_call (F:FnOk X.prog X.w X.K X.mg X.base CX k f fd ps sp) (hr:Room k X.A) (hg:Gl X x) (hm:X.mg x=some (.ref f)) (hk:PySem.W.keepIn X.K (.ref f)=true) (hb:Binds X.K fd ps ds) (hd:Vals dvs ds) (hx:Passes CX X E)
  (ha:PA X (e::es) t) (hdb:(x == ("__debug__":Str))=false:=by decide) (he:starEach (e::es) X.env=(false,eval e X.env)::starEach es X.env:=by rfl) (hpl:(backTo pos (starEach es X.env)).any (·.1)=false:=by rfl) :
  PE X (.Call (.Name x p) (e::es) [] pos) (tCall sp dvs E t):=by
 intro pins s σ H Q I h
 refine wpAny_Call_Name_kw (ld_glob I hg hm ?_ hdb)
 refine PySem.W.callWith_K (h₀:=X.base) I.ok.mod.kin hk (thn (ha pos pins s σ H _ I h) fun us s1 ⟨vs,H1,I1,r,q⟩=>⟨I1.kIn,?_⟩) he hpl
 exact run_fn F hr hb hd hx I1 r q
end
section
variable {X:Cx} {CX:CXT} {k:Nat} {f C:Addr} {fd:FuncData} {ps ks:List Str} {sp:Sp} {E:XK} {x m:Str} {p pos apos kpos:Pos} {e o:Expr} {es:List Expr} {kws:List Keyword} {te ta:TE} {t tk:TA} {nm:Option Str}
variable {g:List Value->List Value->List Value} {gV:List V->List V->List V}
end
/-- names: the parameters first -/
structure FnScope (N P:List Str) (sc:Scope):Prop where
 kind:sc.kind=.function
 co:sc.isCoroutine=false
 gen:sc.isGenerator=false
 nd:N.Nodup
 pre:N.take P.length=P
 par:∀ x ∈ P,sc.names.lookup x=some .local∨sc.names.lookup x=some .cell
 nofree:∀ y ∈ sc.names,y.2≠.free
theorem bindL_out {kindOf:Str->Option NameKind} {x:Str}:∀ {binds:List (Str × Value)} {m:Str->Option Value},(∀ v,(x,v) ∉ binds)->bindL kindOf binds m x=m x
 | [],_,_=>rfl
 | (n,v)::r,m,h=>by
  unfold bindL
  rw[bindL_out fun w hw=>h w (List.mem_cons_of_mem _ hw)]
  split
  ·have:x≠n:=by rintro rfl;exact h v List.mem_cons_self
   simp [this]
  ·rfl
theorem bindC_out {kindOf:Str->Option NameKind} {x:Str}:∀ {binds:List (Str × Value)} {m:Str->Option Value},(∀ v,(x,v) ∉ binds)->bindC kindOf binds m x=m x
 | [],_,_=>rfl
 | (n,v)::r,m,h=>by
  unfold bindC
  rw[bindC_out fun w hw=>h w (List.mem_cons_of_mem _ hw)]
  split
  ·rfl
  ·have:x≠n:=by rintro rfl;exact h v List.mem_cons_self
   simp [this]
theorem bindL_get {kindOf:Str->Option NameKind} {x:Str} {v:Value}:∀ {P:List Str} {vs:List Value} {i:Nat} {m:Str->Option Value},P.Nodup->P[i]?=some x->vs[i]?=some v->kindOf x=some .local ->
  bindL kindOf (P.zip vs) m x=some v
 | [],_,_,_,_,h,_,_=>by simp at h
 | _::_,[],_,_,_,_,h,_=>by simp at h
 | p::P,w::vs,0,m,nd,h1,h2,hk=>by
  simp at h1 h2;subst h1;subst h2
  show bindL kindOf ((p,w)::P.zip vs) m p=_
  unfold bindL
  rw[bindL_out fun v hv=>(List.nodup_cons.mp nd).1 (List.of_mem_zip hv).1,if_pos hk]
  simp
 | p::P,w::vs,i + 1,m,nd,h1,h2,hk=>by
  show bindL kindOf ((p,w)::P.zip vs) m x=_
  unfold bindL
  exact bindL_get (i:=i) (List.nodup_cons.mp nd).2 (by simpa using h1) (by simpa using h2) hk
theorem bindC_get {kindOf:Str->Option NameKind} {x:Str} {v:Value}:∀ {P:List Str} {vs:List Value} {i:Nat} {m:Str->Option Value},P.Nodup->P[i]?=some x->vs[i]?=some v->kindOf x≠some .local ->
  bindC kindOf (P.zip vs) m x=some v
 | [],_,_,_,_,h,_,_=>by simp at h
 | _::_,[],_,_,_,_,h,_=>by simp at h
 | p::P,w::vs,0,m,nd,h1,h2,hk=>by
  simp at h1 h2;subst h1;subst h2
  show bindC kindOf ((p,w)::P.zip vs) m p=_
  unfold bindC
  rw[bindC_out fun v hv=>(List.nodup_cons.mp nd).1 (List.of_mem_zip hv).1,if_neg hk]
  simp
 | p::P,w::vs,i + 1,m,nd,h1,h2,hk=>by
  show bindC kindOf ((p,w)::P.zip vs) m x=_
  unfold bindC
  exact bindC_get (i:=i) (List.nodup_cons.mp nd).2 (by simpa using h1) (by simpa using h2) hk
/-- the names' values at the entry -/
def start (N:List Str) (vs:List V):St:=vs.map some++List.replicate (N.length - vs.length) none
/-- the context of a def's body, at its entry; an exception leaves the frame, then lies as CX says -/
def cxOf (CX:CXT) (P:Program) (w:World) (K:PySem.W.Frag) (mg:Str->Option Value) (base:Heap) (N:List Str) (qual:Str) (scope:Scope) (f:Addr) (cd:Value) (A:Around) (outer:List Env) (s:Shared) (H:Hp) (E:XK):Cx where
 prog:=P
 w:=w
 K:=K
 mg:=mg
 base:=base
 A:=A.deeper (envOfC qual scope s.heap.objs.size f cd)
 N:=N
 s₀:=s
 H₀:=H
 env:=envOfC qual scope s.heap.objs.size f cd
 outer:=outer
 stack:=envOfC qual scope s.heap.objs.size f cd::outer
 ex:=[]
 calm:=true
 fn:=fun _=>true
 pn:=[]
 xe:=fun e s'=>wpAny (model P w) (A.deeper (envOfC qual scope s.heap.objs.size f cd)) (leaving (envOfC qual scope s.heap.objs.size f cd) e) (fun _ s''=>CX outer H s E e s'') (fun e' s''=>CX outer H s E e' s'') s'
theorem cell_has {sc:Scope} {n:Nat} {x:Str} (h:sc.names.lookup x=some .cell):∃ c,(cellsFrom n sc.names []).lookup x=some c:=by
 have q:=PySem.W.cellsFrom_some sc.names n [] (.inl h)
 exact Option.isSome_iff_exists.mp q
theorem inv_start {CX:CXT} {P:Program} {w:World} {K:PySem.W.Frag} {mg:Str->Option Value} {base:Heap} {N ps:List Str} {qual:Str} {scope:Scope} {f:Addr} {cd:Value} {A:Around} {outer:List Env} {s s1:Shared} {H:Hp} {E:XK} {us:List Value} {vs:List V}
  (S:FnScope N ps scope) (hd:A.handled=none) (e0:Env0 P w K mg base A outer s H) (hl:vs.length=ps.length) (r:Vals vs us)
  (x:InCallC s s.heap.objs.size (bindL (envOfC qual scope s.heap.objs.size f cd).kindOf (ps.zip us) fun _=>none) (cellsFrom (s.heap.objs.size + 1) scope.names []) (bindC (envOfC qual scope s.heap.objs.size f cd).kindOf (ps.zip us) fun _=>none) s1) :
  Inv (cxOf CX P w K mg base N qual scope f cd A outer s H E) [] (start N vs) H s1:=by
 have hpl:ps.length≤N.length:=by have:=congrArg List.length S.pre;rw[List.length_take] at this;omega
 obtain⟨h1,tk,rfl,hk⟩:=x.done
 have noA:∀ b:Addr,b ∉ (cxOf CX P w K mg base N qual scope f cd A outer s H E).ex:=fun b z=>absurd (show b ∈ ([]:List Addr) from z) (by simp)
 refine⟨⟨e0.mod,S.kind,rfl,rfl,Nat.le_refl _,fun y z c h1 h2=>?_,fun y hy=>?_,fun y c _ h=>?_,fun _=>hd,Around.frames_deeper e0.frames,.inr ⟨rfl,rfl⟩,fun b z=>absurd z (noA b),e0.bs,e0.bsz,fun b _ _=>noA b,fun b z=>absurd z (noA b),e0.funs,e0.frf⟩,
  rfl,e0.bare,Un.kept hk,⟨_,x.toInCall.ns,fun i y v h1 h2 h3=>?_⟩,fun y c h=>⟨_,x.cell y c h⟩,e0.hok.fresh (Nat.le_refl _),fun y c h=>?_,fun p hp=>absurd (show p ∈ ([]:List (Addr × Obj)) from hp) (by simp),e0.hok.kept hk,?_⟩
 ·exact name_of_addr x.apart (PySem.mem_of_lookup h1) (PySem.mem_of_lookup h2)
 ·have hy:scope.names.lookup y=some .cell∨scope.names.lookup y=some .free:=hy
  rcases hy with hy | hy
  ·exact cell_has hy
  ·exact absurd rfl (S.nofree _ (PySem.mem_of_lookup hy))
 ·exact Nat.le_of_lt (x.above y c (PySem.mem_of_lookup h))
 ·have hi:i < vs.length:=by
   unfold start at h2
   by_cases hi:i < vs.length
   ·exact hi
   ·rw[List.getElem?_append_right (by simpa using hi)] at h2
    rw[List.getElem?_replicate] at h2
    split at h2 <;> cases h2
  have ha:vs[i]?=some v:=by
   unfold start at h2
   rw[List.getElem?_append_left (by simpa using hi),List.getElem?_map] at h2
   cases e:vs[i]? with
   | none=>rw[e] at h2;cases h2
   | some a=>rw[e] at h2;cases h2;rfl
  obtain⟨u,hu,rv⟩:=r.get ha
  have hp:ps[i]?=some y:=by
   rw[← S.pre,List.getElem?_take_of_lt (by omega)];exact h1
  have ndP:ps.Nodup:=by rw[← S.pre];exact S.nd.sublist (List.take_sublist _ _)
  refine⟨u,rv,?_⟩
  rcases S.par y (List.mem_of_getElem? hp) with k | k
  ·exact .inl ⟨k,bindL_get ndP hp hu k⟩
  ·obtain⟨c,e⟩:=cell_has (n:=s.heap.objs.size + 1) k
   refine .inr ⟨.inl k,c,e,?_⟩
   have q:=x.cell y c e
   rw[bindC_get ndP hp hu (by show scope.names.lookup y≠_;rw[k];decide)] at q
   exact q
 ·exact e0.hok.fresh (Nat.le_of_lt (x.above y c (PySem.mem_of_lookup h)))
 ·unfold start
  show _=N.length
  rw[List.length_append,List.length_map,List.length_replicate]
  omega
/-- THE RULE: a def (or a method) of the text, by its body. The body's reading t is chosen for each entry; it is run at the parameters' values -/
theorem fn_of {CX:CXT} {P:Program} {w:World} {K:PySem.W.Frag} {mg:Str->Option Value} {base:Heap} {k:Nat} {f:Addr} {name qual:Str} {params:Arguments} {body:List Stmt} {scope:Scope} {dV kV doc pm cdv ct oc:Value} {an od:Option Addr}
  {osl:Array (Option Value)} {N ps:List Str} {sp:Sp} (lk:K.lookup f=some ⟨oc,od,.func (PySem.W.fnOf name qual params body scope dV kV doc pm an cdv ct),osl⟩) (hcd:PySem.W.codeIn K cdv qual=true) (S:FnScope N ps scope)
  (len:∀ vs H Q E,sp vs H Q E->vs.length=ps.length)
  (hbody:∀ (A:Around) (outer:List Env) (s:Shared) (H:Hp) (vs:List V) (Q:VK) (E:XK),Room k (A.deeper (envOfC qual scope s.heap.objs.size f cdv))->sp vs H Q E ->
   ∃ t,PSs (cxOf CX P w K mg base N qual scope f cdv A outer s H E) body t∧t { nx:=fun _ H'=>Q .non H',rt:=Q } (start N vs) H) :
  FnOk P w K mg base CX (k + 1) f (PySem.W.fnOf name qual params body scope dV kV doc pm an cdv ct) ps sp:=by
 refine⟨len,fun A outer s H args us vs Q E hr e0 hb r hsp=>?_⟩
 have hl:=len _ _ _ _ hsp
 have KX:K.In s.heap:=e0.mod.kin.keeps fun b o e=>(e0.bs b o e).1
 have lim:s.heap.NoLimit:=e0.mod.nolimit.keeps fun b o e=>(e0.bs b o e).1
 have hkind:∀ y ∈ ps.zip us,scope.names.lookup y.1=some .local∨(scope.names.lookup y.1=some .cell∧((cellsFrom (s.heap.objs.size + 1) scope.names []).lookup y.1).isSome=true):=fun ⟨n,v⟩ hy=>by
  rcases S.par n (List.of_mem_zip hy).1 with q | q
  ·exact .inl q
  ·exact .inr ⟨q,PySem.W.cellsFrom_some _ _ _ (.inl q)⟩
 refine codeAny_call_function hr.depth (KX _ _ lk) rfl S.co S.gen rfl (PySem.W.codeRec_of KX hcd) (hb _ _ _ _ ?_)
 refine wpAny_newFunctionEnv_cells S.kind hkind fun env he s1 x=>?_
 subst he
 refine⟨lim.keeps x.toInCall.keep,codeAny_func ?_⟩
 obtain⟨t,ht,hq⟩:=hbody A outer s H vs Q E (hr.deeper _) hsp
 have I:Inv (cxOf CX P w K mg base N qual scope f cdv A outer s H E) [] (start N vs) H s1:=inv_start S hr.hd e0 hl r x
 refine wpAny_mono (ht [] s1 (start N vs) H _ I hq) (fun fl s' hs=>?_) fun e s' hs=>hs
 have fin:∀ {σ':St} {H':Hp} {v:V} {u:Value},Inv (cxOf CX P w K mg base N qual scope f cdv A outer s H E) [] σ' H' s'->RelV v u->Q v H'->CE outer P w H s Q u s' :=
  fun {σ' H' v u} J rv q=>⟨v,H',J.os,J.bare,J.base,J.hok,rv,q⟩
 cases fl with
 | ret u =>
  obtain⟨v,σ',H',J,rv,q⟩:=hs
  exact fin J rv q
 | next =>
  obtain⟨σ',H',J,q⟩:=hs
  exact fin (v:=V.non) (u:=Value.none) J rfl q
 | brk =>
  obtain⟨_,_,_,q⟩:=hs
  exact False.elim q
 | cont =>
  obtain⟨_,_,_,q⟩:=hs
  exact False.elim q
end L2
namespace L2
open PySem PySem.Spec PyProof.Rows
section
variable {X:Cx} {x:Str} {p pos:Pos} {e:Expr} {es:List Expr} {t:TA} {id T:String} {r:List V->Hp->VK->Prop}
def tCB (r:List V->Hp->VK->Prop) (t:TA):TE:=fun σ H Q=>t σ H fun vs H1=>r vs H1 Q
/-- f(e, ..), f a built-in function -/
theorem pe_callB (hc:CallR X (.builtin id) r) (hg:Gl X x) (hm:X.mg x=none) (hv:bootBuiltins x=some (.builtin id)) (ha:PA X (e::es) t) (hn:x≠"__name__":=by decide) (hdb:(x == ("__debug__":Str))=false:=by decide)
  (he:starEach (e::es) X.env=(false,eval e X.env)::starEach es X.env:=by rfl) (hpl:(backTo pos (starEach es X.env)).any (·.1)=false:=by rfl):PE X (.Call (.Name x p) (e::es) [] pos) (tCB r t):=by
 intro pins s σ H Q I h
 refine wpAny_Call_Name_kw (ld_blt I hg hm hv ?_ hn hdb)
 exact PyProof.Rows.callWith_builtin1 (thn (ha pos pins s σ H _ I h) fun us s1 ⟨vs,H1,I1,r1,q1⟩=>hc pins s1 σ H1 vs us Q I1 r1 q1) he hpl
/-- T(e, ..), T a built-in type -/
theorem pe_callTy (hc:CallR X (.type T) r) (hg:Gl X x) (hm:X.mg x=none) (hv:bootBuiltins x=some (.type T)) (ha:PA X (e::es) t) (hn:x≠"__name__":=by decide) (hdb:(x == ("__debug__":Str))=false:=by decide)
  (he:starEach (e::es) X.env=(false,eval e X.env)::starEach es X.env:=by rfl) (hpl:(backTo pos (starEach es X.env)).any (·.1)=false:=by rfl):PE X (.Call (.Name x p) (e::es) [] pos) (tCB r t):=by
 intro pins s σ H Q I h
 refine wpAny_Call_Name_kw (ld_blt I hg hm hv ?_ hn hdb)
 exact PyProof.Rows.callWith_type1 (thn (ha pos pins s σ H _ I h) fun us s1 ⟨vs,H1,I1,r1,q1⟩=>hc pins s1 σ H1 vs us Q I1 r1 q1) he hpl
end
end L2
namespace HT
open PySem PyProof.Rows
/-- t < u of tuples of ints -/
def lexLt:List Int->List Int->Bool
 | [],[]=>false
 | [],_::_=>true
 | _::_,[]=>false
 | x::xs,y::ys=>if x=y then lexLt xs ys else decide (x < y)
section
open PySem.SeqAt
open PySem.AutoSeq1 (wpAny_loadPart')
open PySem.MeetsSeq PySem.MeetsSeq2 PySem.MeetsSeq3
end
section
variable {prog:Program} {w:World} {A:Around} {E:Value->Shared->Prop} {s:Shared}
/-- t + u, t not empty -/
theorem cat_tup {t b:Addr} {vs ws:List Value} {Q:Value->Shared->Prop} (ht:IsTup s.heap t vs.toArray) (hb:IsTup s.heap b ws.toArray) (hv:vs≠[])
  (h1:ws=[]->Q (.ref t) s) (h2:ws≠[]->Q (.ref s.heap.objs.size) { s with heap:=s.heap.push { cls:=.type "tuple",data:=.seq (vs++ws).toArray } })
  (hsz:vs.length + ws.length≤sizeLine):wpAny (model prog w) A (binaryOp .Add (.ref t) (.ref b)) Q E s:=by
 obtain⟨⟨cls,dd,data,sl⟩,ho,hc,n,hd⟩:=id ht
 obtain⟨⟨cls2,dd2,data2,sl2⟩,ho2,hc2,n2,hd2⟩:=id hb
 simp only at hc hd hc2 hd2
 subst hc hd hc2 hd2
 have e:vs.toArray++ws.toArray=(vs++ws).toArray:=by simp
 by_cases hw:ws=[]
 ·exact concat_meets ⟨_,ho,rfl⟩ ⟨_,ho2,rfl⟩ noFill_tuple_add seq_tuple_add PySem.F.slot_tuple_add PySem.F.entry_tuple_add (PySem.F.args_tuple_add_2 _ _)
   (tuple_addW1 t b vs.toArray ws.toArray n n2 dd dd2 sl sl2 (by simpa using hv) (by simp [hw])) ⟨ho,ho2,h1 hw⟩
 ·refine concat_meets ⟨_,ho,rfl⟩ ⟨_,ho2,rfl⟩ noFill_tuple_add seq_tuple_add PySem.F.slot_tuple_add PySem.F.entry_tuple_add (PySem.F.args_tuple_add_2 _ _)
   (tuple_addW2 t b vs.toArray ws.toArray n n2 dd dd2 sl sl2 (by simpa using hv) (by simpa using hw) (by rw[List.size_toArray,List.size_toArray];exact hsz)) ⟨ho,ho2,?_⟩
  rw[e]
  exact h2 hw
/-- a slice's bound as a place among n (d where it is left out) -/
def sIx (n d:Nat):Option Int->Nat
 | none=>d
 | some v=>if v < 0 then (v + (n:Int)).toNat else min v.toNat n
theorem sIx_none (n d:Nat):sIx n d none=d:=rfl
theorem sIx_nat (n d k:Nat):sIx n d (some (k:Int))=min k n:=by
 show (if (k:Int) < 0 then ((k:Int) + (n:Int)).toNat else min (k:Int).toNat n)=min k n
 rw[if_neg (by omega),Int.toNat_natCast]
theorem sIx_le (n d:Nat) (hd:d≤n) (o:Option Int):sIx n d o≤n:=by
 cases o with
 | none=>exact hd
 | some v =>
  show (if v < 0 then (v + (n:Int)).toNat else min v.toNat n)≤n
  by_cases hv:v < 0
  ·rw[if_pos hv];omega
  ·rw[if_neg hv];exact Nat.min_le_right _ _
theorem clip_eq (v:Int) (n d:Nat):(if v < 0 then max (v + (n:Int)) 0 else min v (n:Int))=((sIx n d (some v):Nat):Int):=by
 show (if v < 0 then max (v + (n:Int)) 0 else min v (n:Int))=(((if v < 0 then (v + (n:Int)).toNat else min v.toNat n):Nat):Int)
 by_cases hv:v < 0
 ·simp only [if_pos hv];omega
 ·simp only [if_neg hv];omega
theorem adjust_gen (lo hi:Option Int) (n:Nat):Builtin.Slice.sliceAdjust lo hi 1 (n:Int)=(((sIx n 0 lo:Nat):Int),((sIx n n hi:Nat):Int)):=by
 have h1:¬ ((1:Int) < 0):=by omega
 unfold Builtin.Slice.sliceAdjust
 simp only [h1,if_false]
 refine Prod.ext ?_ ?_
 ·cases lo with
  | none=>rfl
  | some v=>exact clip_eq v n 0
 ·cases hi with
  | none=>rfl
  | some v=>exact clip_eq v n n
theorem places_gen (i j:Nat):Builtin.Slice.slicePlaces (i:Int) (j:Int) 1=j - i:=by
 unfold Builtin.Slice.slicePlaces
 have h1:(1:Int) > 0:=by omega
 simp only [h1,if_true,Int.ediv_one]
 split <;> omega
theorem slicePart_ {v:Value} {o:Option Int} {Q:Option Int->Shared->Prop} (p:IsPart v o) (h:Q o s):wpAny (model prog w) A (Builtin.Slice.slicePartIndex v) Q E s:=by
 cases p with
 | none=>exact slicePart_none h
 | int i t=>exact slicePart_int h
theorem sliceApplied_gen {sl:Addr} {vl vu:Value} {lo hi:Option Int} {n:Nat} {Q:Int × Int × Nat->Shared->Prop} (hs:s.heap.IsSliceOf sl vl vu .none) (pl:IsPart vl lo) (pu:IsPart vu hi)
  (h:Q (((sIx n 0 lo:Nat):Int),1,sIx n n hi - sIx n 0 lo) s):wpAny (model prog w) A (Builtin.Slice.sliceApplied (.ref sl) (pure (n:Int))) Q E s:=by
 obtain⟨os,hos,hcs,hds⟩:=id hs
 unfold Builtin.Slice.sliceApplied Builtin.Slice.sliceFields
 refine wpAny_bind (wpAny_bind (wpAny_field hos hds (x:=vl) rfl (wpAny_bind (wpAny_field hos hds (x:=vu) rfl (wpAny_bind (wpAny_field hos hds (x:=.none) rfl (wpAny_pure ?_)))))))
 refine wpAny_bind (slicePart_none ?_)
 show wpAny _ _ (if ((1:Int) == 0)=true then _ else _) _ _ s
 rw[if_neg (by decide)]
 refine wpAny_bind (slicePart_ pl (wpAny_bind (slicePart_ pu (wpAny_bind (wpAny_pure ?_)))))
 show wpAny _ _ (match Builtin.Slice.sliceAdjust lo hi 1 (n:Int) with | (lo,hi)=>pure (lo,(1:Int),Builtin.Slice.slicePlaces lo hi 1)) _ _ s
 rw[adjust_gen lo hi n]
 show wpAny _ _ (pure (((sIx n 0 lo:Nat):Int),(1:Int),Builtin.Slice.slicePlaces ((sIx n 0 lo:Nat):Int) ((sIx n n hi:Nat):Int) 1)) _ _ s
 rw[places_gen]
 exact wpAny_pure h
theorem pick_gen (xs:Array Value) (i k:Nat):((List.range k).filterMap fun (m:Nat)=>xs[((i:Int) + (m:Int) * 1).toNat]?).toArray=((xs.toList.drop i).take k).toArray:=by
 have e:(fun (m:Nat)=>xs[((i:Int) + (m:Int) * 1).toNat]?)=fun m=>xs[i + m]?:=by
  funext m
  have:((i:Int) + (m:Int) * 1).toNat=i + m:=by omega
  rw[this]
 rw[e]
 have:=pick_run xs i k
 rw[List.filterMap_map] at this
 have e2:((fun x=>xs[x]?) ∘ fun x=>i + x)=fun m=>xs[i + m]?:=rfl
 rw[e2] at this
 rw[this]
theorem getItem_tuple_cut {t sl:Addr} {items:Array Value} {vl vu:Value} {lo hi:Option Int} {Q:Value->Shared->Prop} (ht:IsTup s.heap t items) (hs:s.heap.IsSliceOf sl vl vu .none) (pl:IsPart vl lo) (pu:IsPart vu hi)
  (hw:¬ (sIx items.size 0 lo=0∧sIx items.size items.size hi=items.size))
  (h:Q (.ref s.heap.objs.size) { s with heap:=s.heap.push { cls:=.type "tuple",data:=.seq ((items.toList.drop (sIx items.size 0 lo)).take (sIx items.size items.size hi - sIx items.size 0 lo)).toArray } })
  (hsz:items.size≤sizeLine):wpAny (model prog w) A (getItem (.ref t) (.ref sl)) Q E s:=by
 have htake:sizeOk (.seq ((items.toList.drop (sIx items.size 0 lo)).take (sIx items.size items.size hi - sIx items.size 0 lo)).toArray):=by
  show ((items.toList.drop (sIx items.size 0 lo)).take (sIx items.size items.size hi - sIx items.size 0 lo)).toArray.size≤sizeLine
  rw[List.size_toArray,List.length_take,List.length_drop,Array.length_toList]
  omega
 have hj:sIx items.size items.size hi≤items.size:=sIx_le _ _ (Nat.le_refl _) hi
 obtain⟨os,hos,hcs,hds⟩:=id hs
 have hTs:s.TypeIs (.ref sl) "slice":=⟨os,hos,hcs⟩
 unfold getItem
 try with_reducible refine wpAny_holding ?_
 first | refine wpAny_bind (wpAny_pure ?_) | skip
 refine wpAny_bind (wpAny_sequenceKey ht.typeIs (by decide) ?_)
 refine wpAny_bind (wpAny_callSpecial?_slot (name:=Str.ofString "__getitem__") ht.typeIs PyProof.Rows.slot_tuple_getitem
  (wpAny_call_entry PyProof.Rows.slot_tuple_getitem ht.typeIs entry_tuple_getitem ?_ (args_tuple_getitem _ _)))
 show wpAny _ _ (Builtin.Tuple.tupleItemsOf (.ref t) >>= _) _ _ s
 refine wpAny_bind (tupleItemsOf_ ht ?_)
 refine wpAny_bind (wpAny_typeOf hTs ?_)
 rw[if_pos (by decide)]
 refine wpAny_bind (sliceApplied_gen hs pl pu ?_)
 have hno:¬ ((((sIx items.size 0 lo:Nat):Int) == 0 && (1:Int) == 1 && (sIx items.size items.size hi - sIx items.size 0 lo) == items.size)=true):=by
  intro q
  rw[Bool.and_eq_true,Bool.and_eq_true] at q
  have q1:((sIx items.size 0 lo:Nat):Int)=0:=eq_of_beq q.1.1
  have q2:sIx items.size items.size hi - sIx items.size 0 lo=items.size:=eq_of_beq q.2
  exact hw ⟨by omega,by omega⟩
 show wpAny _ _ (if (((sIx items.size 0 lo:Nat):Int) == 0 && (1:Int) == 1 && (sIx items.size items.size hi - sIx items.size 0 lo) == items.size)=true then _ else _) _ _ s
 rw[if_neg hno,pick_gen]
 first
  | exact wpAny_bind (m:=Builtin.Tuple.tupleExact _) (wpAny_newObj_type (wpAny_pure ⟨_,rfl,wpAny_pure h⟩) htake)
  | exact wpAny_bind (m:=Builtin.Tuple.tupleExact _) (wpAny_newObj_type (wpAny_bind (wpAny_pure (wpAny_pure ⟨_,rfl,wpAny_pure h⟩))) htake)
  | exact wpAny_bind (wpAny_bind (m:=Builtin.Tuple.tupleExact _) (wpAny_newObj_type (wpAny_pure (wpAny_pure ⟨_,rfl,wpAny_pure h⟩)) htake))
  | exact wpAny_bind (wpAny_bind (m:=Builtin.Tuple.tupleExact _) (wpAny_newObj_type (wpAny_pure ⟨_,rfl,wpAny_pure h⟩) htake))
end
end HT
namespace L2
open PySem PySem.Spec PyProof.Rows
abbrev TO:=St->Hp->(Option Int->Hp->Prop)->Prop
/-- a slice's part (left out, or an int) -/
def PO (X:Cx) (e:Option Expr) (t:TO):Prop :=
 ∀ (pins:List (Addr × Obj)) (s:Shared) (σ:St) (H:Hp) (Q:Option Int->Hp->Prop),Inv X pins σ H s->t σ H Q ->
  wpAny (model X.prog X.w) X.A (evalPart e X.env) (fun u s'=>∃ o H',Inv X pins σ H' s'∧IsPart u o∧Q o H') X.xe s
def tNoPart:TO:=fun _ H Q=>Q none H
def tPart (t:TE):TO:=fun σ H Q=>t σ H fun x H1=>∃ i,x=.int i∧Q (some i) H1
theorem intsAre_of {ns:List Int}:∀ {us:List Value},Vals (ns.map V.int) us->IntsAre us ns:=by
 induction ns with
 | nil=>intro us r;rw[List.map_nil] at r;cases r;exact .nil
 | cons n ns ih =>
  intro us r
  rw[List.map_cons] at r
  cases r with
  | cons r1 r2 =>
   obtain⟨t,e⟩:=r1
   subst e
   exact .cons n t (ih r2)
section
variable {X:Cx} {e:Expr} {te:TE} {lo hi:Option Expr} {tl th:TO} {pos p2:Pos}
theorem po_none:PO X none tNoPart:=by
 intro pins s σ H Q I h
 rw[evalPart_none]
 exact wpAny_pure ⟨none,H,I,.none,h⟩
theorem po_some (h:PE X e te):PO X (some e) (tPart te):=by
 intro pins s σ H Q I hw
 rw[evalPart_some]
 refine thn (h pins s σ H _ I hw) fun u s1 ⟨x,H1,I1,r1,q1⟩=>?_
 obtain⟨i,rfl,q⟩:=q1
 obtain⟨t,rfl⟩:=r1
 exact⟨some i,H1,I1,.int i t,q⟩
/-- what a slice of a value is, by values: the slice object stands at sl -/
def SlR (X:Cx) (r:V->Option Int->Option Int->Hp->VK->Prop):Prop :=
 ∀ (pins:List (Addr × Obj)) (s:Shared) (σ:St) (H:Hp) (x:V) (v vl vu:Value) (lo hi:Option Int) (sl:Addr) (Q:VK),Inv X pins σ H s->RelV x v->s.heap.IsSliceOf sl vl vu .none->IsPart vl lo->IsPart vu hi->r x lo hi H Q ->
  ∃ T id,typeLookup (.type T) "__getitem__"=pure (some (.builtin id))∧s.TypeIs v T∧wpAny (model X.prog X.w) X.A (getItem v (.ref sl)) (EP X pins σ Q) X.xe s
def tSl (r:V->Option Int->Option Int->Hp->VK->Prop) (te:TE) (tl th:TO):TE:=fun σ H Q=>te σ H fun x H1=>tl σ H1 fun l H2=>th σ H2 fun u H3=>r x l u H3 Q
/-- a[lo:hi], any a -/
theorem pe_slice {r:V->Option Int->Option Int->Hp->VK->Prop} (hr:SlR X r) (he:PE X e te) (hl:PO X lo tl) (hu:PO X hi th):PE X (.Subscript e (.Slice lo hi none p2) pos) (tSl r te tl th):=by
 intro pins s σ H Q I h
 refine Subscript_ (thn (he pins s σ H _ I h) fun v s1 ⟨x,H1,I1,r1,q1⟩=>?_)
 refine wpAny_Slice (thn (hl pins s1 σ H1 _ I1 q1) fun vl s2 ⟨l,H2,I2,pl,q2⟩=>thn (hu pins s2 σ H2 _ I2 q2) fun vu s3 ⟨u,H3,I3,pu,q3⟩=>?_)
 rw[evalPart_none]
 refine wpAny_pure ?_
 have I4:Inv X pins σ H3 { s3 with heap:=s3.heap.push { cls:=.type "slice",data:=.fields #[vl,vu,.none] } }:=I3.kept (t':=s3.toks) fun b ob q=>Heap.get?_push_of_some _ q
 obtain⟨T,id,hT,ht,hg⟩:=hr pins { s3 with heap:=s3.heap.push { cls:=.type "slice",data:=.fields #[vl,vu,.none] } } σ H3 x v vl vu l u s3.heap.objs.size Q I4 r1 (Heap.IsSliceOf.new ..) pl pu q3
 show wpAny (model X.prog X.w) X.A (subscriptTail e (.Slice lo hi none p2) v (.ref s3.heap.objs.size)) (EP X pins σ Q) X.xe { s3 with heap:=s3.heap.push { cls:=.type "slice",data:=.fields #[vl,vu,.none] } }
 exact tail_any (ops:=[.ref s3.heap.objs.size,v]) ht hT hg (by with_unfolding_all rfl)
/-- the items of xs[lo:hi] -/
def cutV (xs:List V) (lo hi:Option Int):List V:=(xs.drop (HT.sIx xs.length 0 lo)).take (HT.sIx xs.length xs.length hi - HT.sIx xs.length 0 lo)
theorem cutV_length (xs:List V) (lo hi:Option Int):(cutV xs lo hi).length≤xs.length:=by
 unfold cutV
 rw[List.length_take,List.length_drop]
 omega
/-- t[lo:hi], not the whole of it (the whole would be t itself) -/
def rSlT (K:PySem.W.Frag):V->Option Int->Option Int->Hp->VK->Prop:=fun x lo hi H Q=>∃ a xs,x=.ref a∧SqT K H a xs ∧
 ¬ (HT.sIx xs.length 0 lo=0∧HT.sIx xs.length xs.length hi=xs.length)∧∀ p,H p=none->Q (.ref p) (upd H p (.tup (cutV xs lo hi)))
theorem sl_tup:SlR X (rSlT X.K):=by
 intro pins s σ H x v vl vu lo hi sl Q I rx hs pl pu h
 obtain⟨a,xs,rfl,hx,hw,q⟩:=h
 cases rx
 obtain⟨its,r,ht,hz⟩:=I.tuple hx
 have hlen:its.toArray.size=xs.length:=by rw[List.size_toArray];exact r.length.symm
 refine⟨"tuple",_,PyProof.Rows.slot_tuple_getitem.lookup,ht.typeIs,?_⟩
 refine HT.getItem_tuple_cut ht hs pl pu (by rw[hlen];exact hw) ?_ (by rw[hlen];exact hz)
 rw[hlen]
 refine⟨.ref s.heap.objs.size,_,I.laid (t':=s.toks) (o:=.tup (cutV xs lo hi)) (fun b ob q=>Heap.get?_push_of_some _ q) (Nat.le_refl _) ?_,rfl,q _ (I.hok.fresh (Nat.le_refl _))⟩
 exact⟨Nat.le_trans (cutV_length xs lo hi) hz,_,(r.drop (HT.sIx xs.length 0 lo)).take (HT.sIx xs.length xs.length hi - HT.sIx xs.length 0 lo),TupN.new _ _⟩
/-- t + u, t not empty: u empty gives t itself -/
def rCatT (K:PySem.W.Frag):R2:=fun x y H Q=>∃ a b xs ys,x=.ref a∧y=.ref b∧SqT K H a xs∧SqT K H b ys∧xs≠[]∧xs.length + ys.length≤sizeLine ∧
 (ys=[]->Q (.ref a) H)∧(ys≠[]->∀ p,H p=none->Q (.ref p) (upd H p (.tup (xs++ys))))
theorem Vals.nil_iff {xs:List V} {us:List Value} (r:Vals xs us):us=[]↔xs=[]:=by
 cases r with
 | nil=>simp
 | cons _ _=>simp
theorem op_catT:OpR X (binaryOp .Add) (rCatT X.K):=by
 intro pins s σ H x y v u Q I rx ry h
 obtain⟨a,b,xs,ys,rfl,rfl,ha,hb,hx,hz,q1,q2⟩:=h
 cases rx
 cases ry
 obtain⟨its,r1,p1,_⟩:=I.tuple ha
 obtain⟨its2,r2,p2,_⟩:=I.tuple hb
 refine HT.cat_tup p1 p2 (fun z=>hx (r1.nil_iff.mp z)) (fun z=>⟨.ref a,H,I,rfl,q1 (r2.nil_iff.mp z)⟩) (fun z=>?_) (by rw[← r1.length,← r2.length];exact hz)
 refine⟨.ref s.heap.objs.size,_,I.laid (t':=s.toks) (o:=.tup (xs++ys)) (fun b ob q=>Heap.get?_push_of_some _ q) (Nat.le_refl _) ?_,rfl,q2 (fun w=>z (r2.nil_iff.mpr w)) _ (I.hok.fresh (Nat.le_refl _))⟩
 exact⟨by rw[List.length_append];exact hz,_,r1.append r2,TupN.new _ _⟩
end
end L2
namespace L2
open PySem PySem.Spec PyProof.Rows
/-- the place that an index of any sign means -/
def ixN (n:Nat) (i:Int):Option Nat:=if 0≤i then (if i < n then some i.toNat else none) else if -(n:Int)≤i then some (i + n).toNat else none
def atI {α:Type} (xs:List α) (i:Int):Option α:=(ixN xs.length i).bind fun j=>xs[j]?
theorem ixN_seq {n:Nat} {i:Int} {j:Nat} (h:ixN n i=some j):seqIndex? i n=some j∧j < n∧-(n:Int)≤i∧i < n:=by
 unfold ixN at h
 by_cases h0:0≤i
 ·rw[if_pos h0] at h
  by_cases h1:i < n
  ·rw[if_pos h1] at h
   have e:i.toNat=j:=Option.some.inj h
   exact⟨by rw[seqIndex_of h0 h1,e],by omega,by omega,h1⟩
  ·rw[if_neg h1] at h;cases h
 ·rw[if_neg h0] at h
  by_cases h1:-(n:Int)≤i
  ·rw[if_pos h1] at h
   have e:(i + n).toNat=j:=Option.some.inj h
   exact⟨by rw[seqIndex_neg (by omega) h1,e],by omega,h1,by omega⟩
  ·rw[if_neg h1] at h;cases h
theorem atI_get {α:Type} {xs:List α} {i:Int} {v:α} (h:atI xs i=some v):∃ j,seqIndex? i xs.length=some j∧xs[j]?=some v∧j < xs.length∧-(xs.length:Int)≤i∧i < xs.length:=by
 unfold atI at h
 cases e:ixN xs.length i with
 | none=>rw[e] at h;cases h
 | some j =>
  rw[e] at h
  obtain⟨h1,h2,h3,h4⟩:=ixN_seq e
  exact⟨j,h1,h,h2,h3,h4⟩
theorem atI_nat {α:Type} {xs:List α} {j:Nat} {v:α} (h:xs[j]?=some v):atI xs (j:Int)=some v:=by
 have hj:j < xs.length:=(List.getElem?_eq_some_iff.mp h).1
 have e:ixN xs.length (j:Int)=some j:=by
  unfold ixN
  rw[if_pos (by omega),if_pos (by omega)];simp
 unfold atI;rw[e];exact h
/-- what stands as an index of a plain subscript -/
def PlainIx (b:Expr):Prop:=∀ o i,subscripted b false o i=operate [o,i] (getItem o i)
/-- a subscript by values -/
def IxR (X:Cx) (r:R2):Prop :=
 ∀ (value slice:Expr) (pins:List (Addr × Obj)) (s:Shared) (σ:St) (H:Hp) (x y:V) (v u:Value) (Q:VK),Inv X pins σ H s->RelV x v->RelV y u->r x y H Q ->
  subscripted slice false v u=operate [v,u] (getItem v u)->wpAny (model X.prog X.w) X.A (subscriptTail value slice v u) (EP X pins σ Q) X.xe s
/-- a call of a builtin's method by values: the receiver, the arguments -/
def MtR (X:Cx) (id:String) (r:V->List V->Hp->VK->Prop):Prop :=
 ∀ (pins:List (Addr × Obj)) (s:Shared) (σ:St) (H:Hp) (x:V) (xs:List V) (v:Value) (us:List Value) (Q:VK),Inv X pins σ H s->RelV x v->Vals xs us->r x xs H Q ->
  wpAny (model X.prog X.w) X.A (call (.builtin id) (v::us)) (EP X pins σ Q) X.xe s
section
variable {X:Cx} {a b:Expr} {ta tb:TE} {pos:Pos}
/-- a[b] -/
theorem pe_ix {r:R2} (hr:IxR X r) (ha:PE X a ta) (hb:PE X b tb) (hs:PlainIx b):PE X (.Subscript a b pos) (tOp r ta tb):=by
 intro pins s σ H Q I h
 exact Subscript_ (binT ha hb I h fun v u s2 x y H2 I2 rx ry q=>hr a b pins s2 σ H2 x y v u Q I2 rx ry q (hs _ _))
def rIxL (K:PySem.W.Frag):R2:=fun x y H Q=>∃ p xs i v,x=.ref p∧y=.int i∧SqL K H p xs∧atI xs i=some v∧Q v H
def rIxT (K:PySem.W.Frag):R2:=fun x y H Q=>∃ p xs i v,x=.ref p∧y=.int i∧SqT K H p xs∧atI xs i=some v∧Q v H
theorem ix_list:IxR X (rIxL X.K):=by
 intro value slice pins s σ H x y v u Q I rx ry h hs
 obtain⟨p,xs,i,z,rfl,rfl,hq,he,q⟩:=h
 cases rx
 obtain⟨t,rfl⟩:=ry
 obtain⟨its,r,pl,hz⟩:=I.list hq
 obtain⟨j,h1,h2,h3,h4,h5⟩:=atI_get he
 obtain⟨w,ew,rw'⟩:=r.get h2
 have hl:=r.length
 have hn:=line63
 have fin:EP X pins σ Q w s:=⟨z,H,I,rw',q⟩
 by_cases h0:0≤i
 ·have hj:i.toNat=j:=by
   rw[seqIndex_of h0 h5] at h1
   exact Option.some.inj h1
  exact item_listR pl.isList h0 (by omega) (by rw[hj];simpa using ew) fin hs
 ·have hj:(i + (its.toArray.size:Int)).toNat=j:=by
   rw[seqIndex_neg (by omega) h4] at h1
   rw[List.size_toArray,← hl]
   exact Option.some.inj h1
  exact subscriptTail_builtinR (x:=w) pl.isList.typeIs slot_list_getitem.lookup
   (wpAny_getItem_list_neg (Q:=fun r s'=>r=w∧EP X pins σ Q r s') pl.isList (by omega) (by rw[List.size_toArray] <;> omega) (by omega) (by rw[hj];simpa using ew) ⟨rfl,fin⟩) hs
theorem ix_tup:IxR X (rIxT X.K):=by
 intro value slice pins s σ H x y v u Q I rx ry h hs
 obtain⟨p,xs,i,z,rfl,rfl,hq,he,q⟩:=h
 cases rx
 obtain⟨t,rfl⟩:=ry
 obtain⟨its,r,pl,hz⟩:=I.tuple hq
 obtain⟨j,h1,h2,h3,h4,h5⟩:=atI_get he
 obtain⟨w,ew,rw'⟩:=r.get h2
 have hl:=r.length
 have hn:=line63
 have fin:EP X pins σ Q w s:=⟨z,H,I,rw',q⟩
 exact subscriptTail_builtinR (x:=w) pl.typeIs slot_tuple_getitem.lookup
  (getItem_tuple (j:=j) (Q:=fun r s'=>r=w∧EP X pins σ Q r s') pl (by omega) (by omega) (by rw[List.size_toArray,← hl];exact h1) (by simpa using ew) ⟨rfl,fin⟩) hs
/-- the list's object behind a store -/
theorem mapSeq_set (its:List Value) (n j:Nat) (u:Value):Obj.mapSeq (·.setIfInBounds j u) { cls:=.type "list",data:=.seq its.toArray n }={ cls:=.type "list",data:=.seq (its.set j u).toArray n }:=by
 simp [Obj.mapSeq]
theorem Inv.lst {pins:List (Addr × Obj)} {σ:St} {H:Hp} {s:Shared} {p:Addr} {xs:List V} (I:Inv X pins σ H s) (h:H p=some (.lst xs)) :
  ∃ (its:List Value) (n:Nat),Vals xs its∧s.heap.get? p=some { cls:=.type "list",data:=.seq its.toArray n }∧xs.length≤sizeLine:=by
 obtain⟨z,its,n,r,e⟩:=I.hok p _ h
 exact⟨its,n,r,e,z⟩
/-- the list at p is written by an update of its object -/
theorem Inv.lstUpd {pins:List (Addr × Obj)} {σ:St} {H:Hp} {s:Shared} {p:Addr} {xs ys:List V} {its its':List Value} {n n':Nat} {f:Obj->Obj} (I:Inv X pins σ H s) (h:H p=some (.lst xs))
  (ho:s.heap.get? p=some { cls:=.type "list",data:=.seq its.toArray n }) (hf:f { cls:=.type "list",data:=.seq its.toArray n }={ cls:=.type "list",data:=.seq its'.toArray n' }) (r:Vals ys its') (hz:ys.length≤sizeLine) (t:Nat) :
  Inv X pins σ (upd H p (.lst ys)) { s with heap:=s.heap.update p f,toks:=t }:=by
 have e:(s.heap.update p f).get? p=some { cls:=.type "list",data:=.seq its'.toArray n' }:=by
  rw[Heap.get?_update_self f ho (by rw[hf] <;> rfl),hf]
 refine I.write (x:=p) (e:=p) (by rw[h];trivial) (.inl rfl) (fun b u hb q=>(Heap.get?_update_other _ _ (Ne.symm hb)).trans q) ⟨_,e⟩ ?_
 exact⟨hz,its',n',r,e⟩
def rSetL:V->V->V->Hp->(Hp->Prop)->Prop:=fun o i v H Q=>∃ p xs k j,o=.ref p∧i=.int k∧H p=some (.lst xs)∧ixN xs.length k=some j∧Q (upd H p (.lst (xs.set j v)))
theorem set_list:PSet X rSetL:=by
 intro pins s σ H o i v ov iv u Q I ro ri rv h
 obtain⟨p,xs,k,j,rfl,rfl,hp,hj,q⟩:=h
 cases ro
 obtain⟨t,rfl⟩:=ri
 obtain⟨its,n,r,ho,hz⟩:=I.lst hp
 obtain⟨h1,h2,h3,h4⟩:=ixN_seq hj
 have hl:=r.length
 have hn:=line63
 have I':Inv X pins σ (upd H p (.lst (xs.set j v))) { s with heap:=s.heap.update p (Obj.mapSeq (·.setIfInBounds j u)) } :=
  I.lstUpd hp ho (mapSeq_set its n j u) (r.set rv j) (by rw[List.length_set];exact hz) s.toks
 by_cases h0:0≤k
 ·have hk:k.toNat=j:=by
   rw[seqIndex_of h0 h4] at h1
   exact Option.some.inj h1
  exact PySem.W.ki_setAt ho h0 (by omega) (by rw[List.size_toArray,← hl];exact h4) (by rw[hk];exact⟨_,I',q⟩)
 ·have hk:(k + (its.toArray.size:Int)).toNat=j:=by
   rw[seqIndex_neg (by omega) h3] at h1
   rw[List.size_toArray,← hl]
   exact Option.some.inj h1
  exact PySem.W.ki_setBack ho (by omega) (by rw[List.size_toArray,← hl];exact h3) (by omega) (by rw[hk];exact⟨_,I',q⟩)
def flatV:V->Bool
 | .non=>true
 | .bl _=>true
 | .int _=>true
 | .str _=>true
 | _=>false
/-- == of flat values -/
def eqV:V->V->Bool
 | .non,.non=>true
 | .bl a,.bl b=>a == b
 | .bl a,.int b=>(if a then 1 else 0) == b
 | .int a,.bl b=>a == (if b then 1 else 0)
 | .int a,.int b=>a == b
 | .str a,.str b=>a == b
 | _,_=>false
theorem eqAt_V {A:Around} {s:Shared} {y x:V} {u v:Value} (ry:RelV y u) (rx:RelV x v) (fy:flatV y=true) (fx:flatV x=true):SeqAt.EqAt A s u v (eqV y x):=by
 cases y with
 | non =>
  cases ry
  cases x with
  | non=>cases rx;exact SeqAt.EqAt.same _
  | bl b=>cases rx;exact SeqAt.EqAt.none_bool b
  | int b=>obtain⟨t,rfl⟩:=rx;exact SeqAt.EqAt.none_int b t
  | str b=>obtain⟨t,rfl⟩:=rx;exact SeqAt.EqAt.none_str b t
  | _=>exact absurd (show false=true from fx) Bool.false_ne_true
 | bl a =>
  cases ry
  cases x with
  | non=>cases rx;exact SeqAt.EqAt.bool_none a
  | bl b=>cases rx;exact SeqAt.EqAt.bool_bool a b
  | int b=>obtain⟨t,rfl⟩:=rx;exact SeqAt.EqAt.bool_int a b t
  | str b=>obtain⟨t,rfl⟩:=rx;exact SeqAt.EqAt.bool_str a b t
  | _=>exact absurd (show false=true from fx) Bool.false_ne_true
 | int a =>
  obtain⟨t',rfl⟩:=ry
  cases x with
  | non=>cases rx;exact SeqAt.EqAt.int_none a t'
  | bl b=>cases rx;exact SeqAt.EqAt.int_bool a t' b
  | int b=>obtain⟨t,rfl⟩:=rx;exact SeqAt.EqAt.int_int a t' b t
  | str b=>obtain⟨t,rfl⟩:=rx;exact SeqAt.EqAt.int_str a t' b t
  | _=>exact absurd (show false=true from fx) Bool.false_ne_true
 | str a =>
  obtain⟨t',rfl⟩:=ry
  cases x with
  | non=>cases rx;exact SeqAt.EqAt.str_none a t'
  | bl b=>cases rx;exact SeqAt.EqAt.str_bool a t' b
  | int b=>obtain⟨t,rfl⟩:=rx;exact SeqAt.EqAt.str_int a t' b t
  | str b=>obtain⟨t,rfl⟩:=rx;exact SeqAt.EqAt.str_str a t' b t
  | _=>exact absurd (show false=true from fx) Bool.false_ne_true
 | _=>exact absurd (show false=true from fy) Bool.false_ne_true
/-- the items' answers, read off the values (a value's own answer does not lean on its token) -/
def eqU (x:V) (u:Value):Bool:=match u with
 | .none=>eqV .non x
 | .bool b=>eqV (.bl b) x
 | .int i _=>eqV (.int i) x
 | .str z _=>eqV (.str z) x
 | _=>false
theorem eqU_of {x y:V} {u:Value} (r:RelV y u) (f:flatV y=true):eqU x u=eqV y x:=by
 cases y with
 | non=>cases r;rfl
 | bl b=>cases r;rfl
 | int i=>obtain⟨t,rfl⟩:=r;rfl
 | str z=>obtain⟨t,rfl⟩:=r;rfl
 | _=>exact absurd (show false=true from f) Bool.false_ne_true
theorem any_eqU {x:V}:∀ {xs:List V} {us:List Value},Vals xs us->xs.all flatV=true->us.any (eqU x)=xs.any fun y=>eqV y x
 | _,_,.nil,_=>rfl
 | y::xs,u::us,.cons r t,f=>by
  rw[List.all_cons,Bool.and_eq_true] at f
  rw[List.any_cons,List.any_cons,eqU_of r f.1,any_eqU t f.2]
theorem mem_eqAt {A:Around} {s:Shared} {x:V} {v:Value} (rx:RelV x v) (fx:flatV x=true):∀ {xs:List V} {us:List Value},Vals xs us->xs.all flatV=true->∀ u ∈ us,SeqAt.EqAt A s u v (eqU x u)
 | _,_,.nil,_=>fun u hu=>by cases hu
 | y::xs,u::us,.cons r t,f=>fun u' hu=>by
  rw[List.all_cons,Bool.and_eq_true] at f
  rcases List.mem_cons.mp hu with rfl | hu
  ·rw[eqU_of r f.1];exact eqAt_V r rx f.1 fx
  ·exact mem_eqAt rx fx t f.2 u' hu
def inV (x:V) (xs:List V):Bool:=xs.any fun y=>eqV y x
/-- x in a list or tuple of flat items -/
def rIn (K:PySem.W.Frag) (neg:Bool):R2:=fun x y H Q=>∃ p xs,y=.ref p∧(SqL K H p xs∨SqT K H p xs)∧flatV x=true∧xs.all flatV=true∧Q (.bl (if neg then !inV x xs else inV x xs)) H
theorem op_in_seq:OpR X (compareOp .In) (rIn X.K false):=by
 intro pins s σ H x y v u Q I rx ry h
 obtain⟨p,xs,rfl,hq,fx,fs,q⟩:=h
 cases ry
 rcases hq with hq | hq
 ·obtain⟨its,r,pl,hz⟩:=I.list hq
  refine SeqAt.in_listAt (eqU x) pl.isList (fun w hw=>mem_eqAt rx fx r fs w (by simpa using hw)) ⟨.bl _,H,I,rfl,?_⟩
  rw[show its.toArray.any (eqU x)=its.any (eqU x) by simp,any_eqU r fs]
  exact q
 ·obtain⟨its,r,pl,hz⟩:=I.tuple hq
  refine SeqAt.in_tupleAt (eqU x) pl (fun w hw=>mem_eqAt rx fx r fs w (by simpa using hw)) ⟨.bl _,H,I,rfl,?_⟩
  rw[show its.toArray.any (eqU x)=its.any (eqU x) by simp,any_eqU r fs]
  exact q
theorem op_notIn_seq:OpR X (compareOp .NotIn) (rIn X.K true):=by
 intro pins s σ H x y v u Q I rx ry h
 obtain⟨p,xs,rfl,hq,fx,fs,q⟩:=h
 cases ry
 rcases hq with hq | hq
 ·obtain⟨its,r,pl,hz⟩:=I.list hq
  refine SeqAt.notIn_listAt (eqU x) pl.isList (fun w hw=>mem_eqAt rx fx r fs w (by simpa using hw)) ⟨.bl _,H,I,rfl,?_⟩
  rw[show its.toArray.any (eqU x)=its.any (eqU x) by simp,any_eqU r fs]
  exact q
 ·obtain⟨its,r,pl,hz⟩:=I.tuple hq
  refine SeqAt.notIn_tupleAt (eqU x) pl (fun w hw=>mem_eqAt rx fx r fs w (by simpa using hw)) ⟨.bl _,H,I,rfl,?_⟩
  rw[show its.toArray.any (eqU x)=its.any (eqU x) by simp,any_eqU r fs]
  exact q
theorem call_len_seq:CallR X (.builtin "len") (fun xs H Q=>∃ p ys,xs=[.ref p]∧(SqL X.K H p ys∨SqT X.K H p ys)∧Q (.int ys.length) H):=by
 intro pins s σ H xs us Q I r h
 obtain⟨p,ys,rfl,hq,q⟩:=h
 obtain⟨u,rfl,rx⟩:=vals1 r
 cases rx
 have hn:=line63
 rcases hq with hq | hq
 ·obtain⟨its,r',pl,hz⟩:=I.list hq
  have hlen:=r'.length
  exact Calls.call_len_list pl.isList (by simp only [List.size_toArray] <;> omega) ⟨.int ys.length,H,I.tok _,⟨s.toks + 1,by rw[List.size_toArray,hlen]⟩,q⟩
 ·obtain⟨its,r',pl,hz⟩:=I.tuple hq
  have hlen:=r'.length
  exact len_tuple pl (by simp only [List.size_toArray] <;> omega) ⟨.int ys.length,H,I.tok _,⟨s.toks + 1,by rw[List.size_toArray,hlen]⟩,q⟩
theorem call_list_of:CallR X (.type "list") (fun xs H Q=>∃ p ys,xs=[.ref p]∧(SqL X.K H p ys∨SqT X.K H p ys)∧∀ l,H l=none->Q (.ref l) (upd H l (.lst ys))):=by
 intro pins s σ H xs us Q I r h
 obtain⟨p,ys,rfl,hq,q⟩:=h
 obtain⟨u,rfl,rx⟩:=vals1 r
 cases rx
 have fin : ∀ (its : List Value), Vals ys its → ys.length ≤ sizeLine → ∀ (h' : Heap) (c' : Nat), (∀ b o', s.heap.get? b = some o' → h'.get? b = some o') →
     h'.get? s.heap.objs.size=some { cls:=.type "list",dict:=none,data:=.seq its.toArray c',slots:=#[] }->EP X pins σ Q (.ref s.heap.objs.size) { s with heap:=h' }:=fun its r' hz h' c' kp e =>
  ⟨.ref s.heap.objs.size,_,I.laid (t':=s.toks) kp (Nat.le_refl _) (show ObjOk X.prog X.w _ h' _ (.lst ys) from ⟨hz,its,c',r',e⟩),rfl,q _ (I.hok.fresh (Nat.le_refl _))⟩
 rcases hq with hq | hq
 ·obtain⟨its,r',pl,hz⟩:=I.list hq
  have hlen:=r'.length
  obtain⟨o,ho,hc,n,hd⟩:=pl.isList
  exact call_list_seq p (.inl rfl) ho hc hd (fun h' c' kp e=>fin its r' hz h' c' kp e) (by simp only [List.size_toArray] <;> omega)
 ·obtain⟨its,r',pl,hz⟩:=I.tuple hq
  have hlen:=r'.length
  obtain⟨o,ho,hc,n,hd⟩:=pl
  exact call_list_seq p (.inr rfl) ho hc hd (fun h' c' kp e=>fin its r' hz h' c' kp e) (by simp only [List.size_toArray] <;> omega)
theorem call_tuple_of:CallR X (.type "tuple") (fun xs H Q=>∃ p ys,xs=[.ref p]∧((SqL X.K H p ys∧∀ l,H l=none->Q (.ref l) (upd H l (.tup ys)))∨(SqT X.K H p ys∧Q (.ref p) H))):=by
 intro pins s σ H xs us Q I r h
 obtain⟨p,ys,rfl,h⟩:=h
 obtain⟨u,rfl,rx⟩:=vals1 r
 cases rx
 rcases h with ⟨hq,q⟩ | ⟨hq,q⟩
 ·obtain⟨its,r',pl,hz⟩:=I.list hq
  have hlen:=r'.length
  refine call_tuple_list pl.isList (fun h' kp=>?_) (by simp only [List.size_toArray] <;> omega)
  have I1:Inv X pins σ H { s with heap:=h' }:=I.kept (t':=s.toks) kp
  have I2:Inv X pins σ (upd H h'.objs.size (.tup ys)) { s with heap:=h'.push { cls:=.type "tuple",data:=.seq its.toArray } } :=
   I1.laid (t':=s.toks) (fun b o e=>Heap.get?_push_of_some _ e) (Nat.le_refl _) (show ObjOk X.prog X.w _ _ _ (.tup ys) from ⟨hz,its,r',TupN.new _ _⟩)
  exact⟨.ref h'.objs.size,_,I2,rfl,q _ (I1.hok.fresh (Nat.le_refl _))⟩
 ·obtain⟨its,r',pl,hz⟩:=I.tuple hq
  exact call_tuple_same pl ⟨.ref p,H,I,rfl,q⟩
/-- the value is of that builtin type -/
def tyV (K:PySem.W.Frag) (T:String) (x:V) (H:Hp):Prop:=match x with
 | .str _=>T="str"
 | .int _=>T="int"
 | .ref p => (T = "list" ∧ ∃ xs, SqL K H p xs) ∨ (T = "tuple" ∧ ∃ o, K.lookup p = some o ∧ o.cls = .type "tuple" ∧ o.dict = none) ∨
     (T="dict"∧((∃ kvs,H p=some (.dK kvs))∨∃ kvs,H p=some (.dT kvs)))∨(T="set"∧∃ S n,H p=some (.set S n))
 | _=>False
theorem tyV_is {pins:List (Addr × Obj)} {σ:St} {H:Hp} {s:Shared} {T:String} {x:V} {v:Value} (I:Inv X pins σ H s) (r:RelV x v) (ty:tyV X.K T x H) :
  s.TypeIs v T∧∀ a,v=.ref a->∃ ob,s.heap.get? a=some ob∧ob.dict=none:=by
 cases x with
 | str z =>
  obtain⟨t,rfl⟩:=r
  cases (show T="str" from ty)
  exact⟨typeIs_str s z t,fun _ e=>nomatch e⟩
 | int i =>
  obtain⟨t,rfl⟩:=r
  cases (show T="int" from ty)
  exact⟨typeIs_int s i t,fun _ e=>nomatch e⟩
 | ref p =>
  cases r
  rcases ty with ⟨rfl,xs,hq⟩ | ⟨rfl,o,hk,hc,hd⟩ | ⟨rfl,hk⟩ | ⟨rfl,S,n,hk⟩
  ·obtain⟨its,_,pl,_⟩:=I.list hq
   refine⟨pl.isList.typeIs,fun a e=>?_⟩
   cases e
   obtain⟨o,n,e,c,hd,_⟩:=pl
   exact⟨o,e,hd⟩
  ·refine⟨⟨o,I.kIn p o hk,hc⟩,fun a e=>?_⟩
   cases e
   exact⟨o,I.kIn _ o hk,hd⟩
  ·have z:∃ o,s.heap.get? p=some o∧o.ExactDict:=by
    rcases hk with ⟨kvs,hk⟩ | ⟨kvs,hk⟩
    ·obtain⟨_,_,_,_,o,_,_,e,ex,_⟩:=I.hok p _ hk
     exact⟨o,e,ex⟩
    ·obtain⟨_,_,_,_,o,_,_,e,ex,_⟩:=I.hok p _ hk
     exact⟨o,e,ex⟩
   obtain⟨o,e,ex⟩:=z
   refine⟨⟨o,e,ex.1⟩,fun a e2=>?_⟩
   cases e2
   exact⟨o,e,ex.2.1⟩
  ·obtain⟨o,_,_,_,e,ex,_⟩:=I.hok p _ hk
   refine⟨⟨o,e,ex.1⟩,fun a e2=>?_⟩
   cases e2
   exact⟨o,e,ex.2.1⟩
 | _=>exact False.elim ty
def tBM (K:PySem.W.Frag) (T:String) (r:V->List V->Hp->VK->Prop) (to:TE) (t:TA):TE:=fun σ H Q=>to σ H fun x H1=>tyV K T x H1∧t σ H1 fun xs H2=>r x xs H2 Q
variable {o e:Expr} {es:List Expr} {to:TE} {t:TA} {name:Str} {apos cpos:Pos} {T id:String} {r:V->List V->Hp->VK->Prop}
theorem pe_bm (pa:PlainAttrs T) (slot:Slot T name id) (hty:typeOf (.builtin id)=pure (.type "method_descriptor")) (hm:MtR X id r) (ho:PE X o to) (ha:PA X (e::es) t)
  (hbase:attributeBase o name X.env (eval o X.env)=eval o X.env:=by rfl)
  (hfew:((backTo cpos (starEach (e::es) X.env)).all (fun x=>!x.1) && (backToKw cpos (keywordEach [] X.env)).all (fun x=>x.1.isSome)
   && decide ((e::es).length + ([]:List Keyword).length + (if ([]:List Keyword).isEmpty then 0 else 1) < 30))=true:=by rfl)
  (hline:(apos.endLine == cpos.line)=true:=by rfl) (hs:starEach (e::es) X.env=(false,eval e X.env)::starEach es X.env:=by rfl) (hplain:(backTo cpos (starEach es X.env)).any (·.1)=false:=by rfl) :
  PE X (.Call (.Attribute o name apos) (e::es) [] cpos) (tBM X.K T r to t):=by
 intro pins s σ H Q I h
 refine wpAny_Call_method_late hbase hfew hline rfl (thn (ho pins s σ H _ I h) fun v s1 ⟨x,H1,I1,r1,ty,q1⟩=>?_)
 obtain⟨h1,h2⟩:=tyV_is I1 r1 ty
 refine⟨T,id,pa,slot,hty,h1,h2,?_⟩
 have hA:=ha cpos pins s1 σ H1 _ I1 q1
 rw[hs] at hA ⊢
 refine Calls.callWith_builtin (by show (false || (backTo cpos (starEach es X.env)).any (·.1))=false;rw[hplain] <;> rfl) (Calls.evalArgs_plain ?_)
 exact thn hA fun us s2 ⟨vs,H2,I2,r2,q2⟩=>hm pins s2 σ H2 x vs v us Q I2 r1 r2 q2
end
end L2
namespace L2
open PySem PySem.Spec PyProof.Rows
def MtM (X:Cx) (id:String) (r:V->List V->Hp->VK->Prop):Prop :=
 ∀ (pins:List (Addr × Obj)) (s:Shared) (σ:St) (H:Hp) (x:V) (xs:List V) (v:Value) (us:List Value) (Q:VK),Inv X pins σ H s->RelV x v->Vals xs us->r x xs H Q ->
  wpAny (model X.prog X.w) X.A (call (.builtin id) (v::us)) (EP X pins σ Q) X.xe s
theorem Vals.one:∀ {x:V} {us:List Value},Vals [x] us->∃ u,us=[u]∧RelV x u
 | _,_,.cons r .nil=>⟨_,rfl,r⟩
theorem Vals.two:∀ {x y:V} {us:List Value},Vals [x,y] us->∃ u v,us=[u,v]∧RelV x u∧RelV y v
 | _,_,_,.cons r (.cons q .nil)=>⟨_,_,rfl,r,q⟩
theorem Vals.eraseIdx:∀ {xs:List V} {us:List Value} (i:Nat),Vals xs us->Vals (xs.eraseIdx i) (us.eraseIdx i)
 | _,_,_,.nil=>.nil
 | _,_,0,.cons _ t=>t
 | _,_,i + 1,.cons r t=>.cons r (Vals.eraseIdx i t)
theorem Vals.rep {xs:List V} {us:List Value} (h:Vals xs us):∀ k:Nat,Vals (List.replicate k xs).flatten (List.replicate k us).flatten
 | 0=>.nil
 | k + 1=>by
  rw[List.replicate_succ,List.replicate_succ,List.flatten_cons,List.flatten_cons]
  exact Vals.append h (Vals.rep h k)
theorem len_erase {α:Type}:∀ (l:List α) (i:Nat),(l.eraseIdx i).length≤l.length
 | [],_=>Nat.le_refl _
 | _::_,0=>Nat.le_succ _
 | _::r,i + 1=>Nat.succ_le_succ (len_erase r i)
theorem foldl_rep (its:List Value):∀ (k:Nat) (acc:List Value),
  List.foldl (fun x1 x2=>x1++x2) acc.toArray (List.replicate k its.toArray)=(acc++(List.replicate k its).flatten).toArray
 | 0,acc=>by simp
 | k + 1,acc=>by
  have e:acc.toArray++its.toArray=(acc++its).toArray:=by simp
  have e2:(acc++its)++(List.replicate k its).flatten=acc++(List.replicate (k + 1) its).flatten:=by
   rw[List.replicate_succ,List.flatten_cons,List.append_assoc]
  rw[← e2,← foldl_rep its k (acc++its),← e,List.replicate_succ,List.foldl_cons]
section
variable {X:Cx} {pins:List (Addr × Obj)} {σ:St} {H:Hp} {s:Shared} {l b:Addr} {xs ys zs:List V}
theorem Inv.lset {its its':List Value} {n:Nat} {f:Array Value->Array Value} {t':Nat} (I:Inv X pins σ H s) (hH:H l=some (.lst xs))
  (e:s.heap.get? l=some { cls:=.type "list",data:=.seq its.toArray n }) (hf:f its.toArray=its'.toArray) (hv:Vals ys its') (hz:ys.length≤sizeLine) :
  Inv X pins σ (upd H l (.lst ys)) { s with heap:=s.heap.update l (Obj.mapSeq f),toks:=t' }:=by
 have q:=PySem.IsL.update e f
 rw[hf] at q
 refine I.write (x:=l) (e:=l) (by rw[hH];exact trivial) (.inl rfl) (fun b' u hb hu=>(Heap.get?_update_other s.heap (Obj.mapSeq f) (Ne.symm hb)).trans hu) ⟨_,q⟩ ?_
 exact⟨hz,its',_,hv,q⟩
theorem Inv.lnew {its:List Value} {t':Nat} (I:Inv X pins σ H s) (hv:Vals ys its) (hz:ys.length≤sizeLine) :
  Inv X pins σ (upd H s.heap.objs.size (.lst ys)) { s with heap:=s.heap.push { cls:=.type "list",data:=.seq its.toArray },toks:=t' } :=
 I.laid (fun _ _ q=>Heap.get?_push_of_some _ q) (Nat.le_refl _) ⟨hz,its,0,hv,Heap.get?_push_size _ rfl⟩
theorem Inv.fresh (I:Inv X pins σ H s):H s.heap.objs.size=none:=I.hok.fresh (Nat.le_refl _)
theorem Inv.lstM (I:Inv X pins σ H s) (hH:H l=some (.lst xs)):xs.length≤sizeLine∧∃ (its:List Value) (n:Nat),Vals xs its∧xs.length=its.length∧s.heap.get? l=some { cls:=.type "list",data:=.seq its.toArray n }:=by
 obtain⟨z,its,n,r,e⟩:=I.hok l _ hH
 exact⟨z,its,n,r,r.length,e⟩
theorem notLongL {n:Nat} (h:n≤sizeLine):Builtin.List.listTooLong n=false:=by
 unfold Builtin.List.listTooLong
 exact decide_eq_false (by omega)
end
section
variable {X:Cx}
def rAppend:V->List V->Hp->VK->Prop:=fun x vs H Q=>∃ l xs y,x=.ref l∧vs=[y]∧H l=some (.lst xs)∧xs.length < sizeLine∧Q .non (upd H l (.lst (xs++[y])))
theorem mt_append:MtM X "list.append" rAppend:=by
 intro pins s σ H x vs v us Q I rx rv h
 obtain⟨l,xs,y,rfl,rfl,hH,hz,q⟩:=h
 cases rx
 obtain⟨u,rfl,ru⟩:=rv.one
 obtain⟨z,its,n,r,hl,e⟩:=I.lstM hH
 refine call_meets F.slot_list_append ⟨_,e,rfl⟩ F.entry_list_append (F.args_list_append_2 _ _) (PySem.list_append l its.toArray n u (by rw[List.size_toArray];omega)) ⟨e,?_⟩
 refine⟨.non,_,I.lset (its':=its++[u]) hH e (by simp) (r.append (.cons ru .nil)) ?_,rfl,q⟩
 rw[List.length_append,List.length_singleton]
 omega
def rExtend:V->List V->Hp->VK->Prop:=fun x vs H Q=>∃ l b xs zs,x=.ref l∧vs=[.ref b]∧H l=some (.lst xs)∧H b=some (.lst zs)∧xs.length + zs.length≤sizeLine∧Q .non (upd H l (.lst (xs++zs)))
theorem mt_extend:MtM X "list.extend" rExtend:=by
 intro pins s σ H x vs v us Q I rx rv h
 obtain⟨l,b,xs,zs,rfl,rfl,hH,hB,hz,q⟩:=h
 cases rx
 obtain⟨u,rfl,ru⟩:=rv.one
 cases ru
 obtain⟨z,its,n,r,hl,e⟩:=I.lstM hH
 obtain⟨z2,its2,n2,r2,hl2,e2⟩:=I.lstM hB
 have hsz:its.toArray.size + its2.toArray.size≤sizeLine:=by rw[List.size_toArray,List.size_toArray];omega
 have hlong:¬ (!its.toArray.isEmpty && Builtin.List.listTooLong (its.toArray.size + its2.toArray.size))=true:=by
  rw[notLongL hsz,Bool.and_false]
  exact Bool.false_ne_true
 refine call_meets F.slot_list_extend ⟨_,e,rfl⟩ F.entry_list_extend (F.args_list_extend_2 _ _)
  (AutoSeq1.list_extend_list_list_0 l its.toArray n b its2.toArray n2 hlong (by rw[List.size_toArray];omega) (by omega)) ⟨e,e2,?_⟩
 refine⟨.non,_,I.lset (its':=its++its2) hH e (by simp) (r.append r2) ?_,rfl,q⟩
 rw[List.length_append]
 omega
def rPopAt:V->List V->Hp->VK->Prop:=fun x vs H Q=>∃ l xs i k y,x=.ref l∧vs=[.int i]∧H l=some (.lst xs)∧-(2 ^ 63)≤i∧i < 2 ^ 63∧seqIndex? i xs.length=some k∧xs[k]?=some y∧Q y (upd H l (.lst (xs.eraseIdx k)))
theorem mt_popAt:MtM X "list.pop" rPopAt:=by
 intro pins s σ H x vs v us Q I rx rv h
 obtain⟨l,xs,i,k,y,rfl,rfl,hH,h1,h2,hk,hy,q⟩:=h
 cases rx
 obtain⟨u,rfl,ru⟩:=rv.one
 obtain⟨t,rfl⟩:=ru
 obtain⟨z,its,n,r,hl,e⟩:=I.lstM hH
 obtain⟨w,hw,rw'⟩:=r.get hy
 refine call_meets F.slot_list_pop ⟨_,e,rfl⟩ F.entry_list_pop (F.args_list_pop_2 _ _)
  (MeetsSeq.list_pop_at l its.toArray n i t k w (fitsIndex_both h1 h2) (by rw[List.size_toArray,← hl];exact hk) (by rw[← Array.getElem?_toList];exact hw) (by rw[List.size_toArray];omega)) ⟨e,?_⟩
 refine⟨y,_,I.lset (its':=its.eraseIdx k) hH e ?_ (r.eraseIdx k) ?_,rw',q⟩
 ·show its.toArray.eraseIdxIfInBounds k=(its.eraseIdx k).toArray
  rw[List.eraseIdxIfInBounds_toArray]
 ·have:=len_erase xs k
  omega
/-- a list times an int (a negative one is nothing) -/
def rRep:R2:=fun x y H Q=>∃ l k xs,x=.ref l∧y=.int k∧H l=some (.lst xs)∧-(2 ^ 63)≤k∧k < 2 ^ 63∧xs.length * k.toNat≤sizeLine ∧
 ∀ p,H p=none->Q (.ref p) (upd H p (.lst (List.replicate k.toNat xs).flatten))
theorem len_rep {α:Type} (xs:List α) (k:Nat):(List.replicate k xs).flatten.length=k * xs.length:=by
 induction k with
 | zero=>simp
 | succ k ih=>rw[List.replicate_succ,List.flatten_cons,List.length_append,ih,Nat.succ_mul,Nat.add_comm]
theorem op_rep:OpR X (binaryOp .Mult) rRep:=by
 intro pins s σ H x y v u Q I rx ry h
 obtain⟨l,k,xs,rfl,rfl,hH,h1,h2,hz,q⟩:=h
 cases rx
 obtain⟨t,rfl⟩:=ry
 obtain⟨z,its,n,r,hl,e⟩:=I.lstM hH
 have hlen:its.toArray.size * k.toNat≤sizeLine:=by rw[List.size_toArray,← hl];exact hz
 have hcap:¬ its.toArray.size * k.toNat > (2 ^ 63 - 1) / 8:=by
  have:(sizeLine:Nat)≤(2 ^ 63 - 1) / 8:=by decide
  omega
 have hfit:¬ (!Builtin.List.listFitsIndex k)=true:=by
  rw[fitsIndex_both h1 h2]
  exact Bool.false_ne_true
 have hlong:¬ Builtin.List.listTooLong (its.toArray.size * k.toNat)=true:=by
  rw[notLongL hlen]
  exact Bool.false_ne_true
 have hnew:List.foldl (fun x1 x2=>x1++x2) #[] (List.replicate (if its.toArray.isEmpty=true then 0 else k.toNat) its.toArray)=(List.replicate k.toNat its).flatten.toArray:=by
  have f0:∀ m:Nat,List.foldl (fun x1 x2=>x1++x2) #[] (List.replicate m its.toArray)=(List.replicate m its).flatten.toArray:=fun m=>by
   have:=foldl_rep its m []
   rw[List.nil_append] at this
   exact this
  rw[f0]
  cases its with
  | nil=>simp
  | cons a r'=>rw[if_neg (by simp)]
 refine wpAny_binaryOp_repeat_ref (T:="list") (U:="int") (by decide) ⟨_,e,rfl⟩ (fun s'=>typeIs_int s' k t) noFill_list_mul F.fills_int_mul F.slot_int_rmul repeat_list F.slot_int_index.lookup
  (call_meets F.slot_int_rmul (typeIs_int s k t) F.entry_int_rmul (F.args_int_rmul_2 _ _) (int___rmul___int_list k t l its.toArray n)
   ⟨e,rfl,⟨_,e,rfl⟩,call_meets F.slot_list_mul ⟨_,e,rfl⟩ F.entry_list_mul (F.args_list_mul_2 _ _) (AutoListH.list___mul___list_int_3 l its.toArray n k t hfit hcap hlong) ⟨e,?_⟩⟩)
 rw[hnew]
 exact⟨.ref _,_,I.lnew (t':=s.toks) (r.rep k.toNat) (by rw[len_rep,Nat.mul_comm];exact hz),rfl,q _ I.fresh⟩
end
section
variable {prog:Program} {w:World} {A:Around} {E:Value->Shared->Prop} {s:Shared}
end
section
variable {X:Cx}
end
end L2
namespace Att
open PySem PySem.W PySem.Calls PyProof.Rows
theorem ints_of_wellAll {P:Params} {h:Heap}:∀ (ns:List Int) (vs:List Value),WellAll P h vs (ns.map WData.int)->IntsAre vs ns:=by
 intro ns
 induction ns with
 | nil =>
  intro vs w
  rw[List.map_nil] at w
  cases w
  exact .nil
 | cons n ns ih =>
  intro vs w
  rw[List.map_cons] at w
  cases w with
  | cons a b =>
   cases a
   exact .cons _ _ (ih _ b)
theorem script_of {l:OpenLaw} {n:Nat} (hn:l.most=some n) {P:Params} {h:Heap} {args:List WData} {vals:List Value}
  (hpre:l.row.toRowW.claim.pre args=true) (hwl:WellAll P h vals args) :
  ∃ a vs ns,vals=[Value.ref a]∧args=[WData.list (ns.map WData.int)]∧h.get? a=some { cls:=.type "list",data:=.seq vs.toArray }∧IntsAre vs ns∧ns.length≤n:=by
 have hsh:WShape.hasAll [] args [.list .int]=true:=(pre_splitW hpre).1
 have hc:l.pre.holds [] { args:=args }=true:=(pre_splitW hpre).2
 obtain⟨d,r,rfl,h1,h2⟩:=hasAllW_cons hsh
 obtain rfl:=hasAllW_nil h2
 obtain⟨xs,rfl,h3⟩:=hasW_list h1
 obtain⟨ns,rfl⟩:=items_int h3
 have hlen:ns.length≤n:=by
  unfold OpenLaw.pre at hc
  have h4:(WTm.not (.lt (.lit (.int (n:Int))) (.len (.arg 0)))).holds [] { args:=[.list (ns.map .int)] }=true:=by
   have h4:=(holds_andW hc).1
   rw[hn] at h4
   exact h4
  have h5:=condW_of h4 (w_not (w_lt w_lit (w_len_list (w_arg rfl))))
  rw[List.length_map] at h5
  refine Nat.le_of_not_lt fun q=>?_
  have q':(n:Int) < ((ns.length:Nat):Int):=by omega
  first
   | (rw[decide_eq_true q'] at h5;exact absurd h5 (by decide))
   | (simp at h5;omega)
 cases hwl with
 | cons w1 w2 =>
  cases w2
  cases w1 with
  | list ho hall=>exact⟨_,_,ns,rfl,rfl,ho,ints_of_wellAll ns _ hall,hlen⟩
theorem post_true (l:OpenLaw) (args:List WData):l.row.toRowW.claim.post args (.bool true) args=true :=
 postW_of (r:=l.row.toRowW) (X:=(true == true))
  (show WShape.has [] (.bool true) .bool=true by first | rfl | decide | simp [WShape.has,WShape.arms,WShape.armsAll])
  (show (WTm.eq .res (.lit (.bool true))).value [] { args:=args,res:=some (.bool true),after:=args }=some (.bool (true == true)) from w_eq_bool (w_res rfl) w_lit) rfl
/-- the same from a codeAny of the CALL (for a layer whose function contracts speak of calls) -/
theorem attach_call {l:OpenLaw} {n:Nat} {q:Program} {loose:List Str} {XP:(Str->Option Value)->Heap->Prop} {YP:World->Heap->Prop} {d:DefRec}
  (hn:l.most=some n) (hdf:d.params.defaults=[])
  (call:∀ (w:World) (s₀ s₁:Shared) (mg mb:Str->Option Value) (fa:Addr) (o:Obj) (pm cd doc:Value) (a:Addr) (vs:List Value) (ns:List Int),
   Ground q loose [] XP w s₀ mg mb s₁.heap->YP w s₁.heap ->
   s₁.heap.get? fa=some o->o.data=.func (docDef d.name d.params d.body d.scope pm cd doc)->s₁.heap.CodeRec cd d.name->mg d.name=some (.ref fa) ->
   s₁.heap.get? a=some { cls:=.type "list",data:=.seq vs.toArray }->IntsAre vs ns->ns.length≤n->s₁.gens=#[] ->
   codeAny (model l.prog w) callerA (.call (.ref fa) ⟨[.ref a],[]⟩) (fun r s'=>r=.ok (.ret (.bool true))∧OldK s₁.heap s'.heap∧s'.os=s₁.os∧AllBare s'.gens) s₁) :
  WalkO q loose XP YP l.row.toRowW d [] (fun f vs=>PySem.call f vs):=by
 intro w s₀ s₁ mg mb G Y fa o pm cd doc dV kV ho hd hcd hD hmg hg args vals as hpre hlay hrd hwl hlo
 obtain rfl:dV=.none:=Dflts.none hD hdf
 obtain rfl:kV=.none:=Dflts.noKw hD
 obtain⟨a,vs,ns,rfl,rfl,hobj,hints,hlen⟩:=script_of hn hpre hwl
 refine enter_call (codeAny_mono (call w s₀ s₁ mg mb fa o pm cd doc a vs ns G Y ho (fd_plain hd) hcd hmg hobj hints hlen hg) fun r s' hq=>?_)
 obtain⟨rfl,h2,h3,h4⟩:=hq
 exact⟨.inl ⟨.bool true,.bool true,[],rfl,fun _=>rfl,.bool true,post_true l _,fun _=>⟨List.Pairwise.nil,fun _ hm=>(nomatch hm)⟩⟩,h2,h3,h4⟩
section
variable {prog:Program} {w:World} {A:Around} {E:Value->Shared->Prop} {s:Shared} {K:Frag}
end
end Att
namespace L2
open PySem PySem.Spec PyProof.Rows
theorem vals_ints:∀ {vs:List Value} {ns:List Int},IntsAre vs ns->Vals (ns.map V.int) vs
 | _,_,.nil=>.nil
 | _,_,.cons n t h=>.cons ⟨t,rfl⟩ (vals_ints h)
/-- nothing is tracked but the script, known to the object (or it is an object of the module) -/
def Only (H:Hp):Prop:=∀ b,H b=none∨∃ o xs,H b=some (.frz o (.lst xs))
/-- THE HEAD: the law's promise, at the heap behind the top. F, the promise of the law's def, may use that base is part of the heap (so K.In base, base.Ns mainGlobals mg stand in Mod) -/
theorem law_call {P:Program} {w:World} {K:PySem.W.Frag} {mg mb:Str->Option Value} {CX:CXT} {k:Nat} {fa a:Addr} {fd:FuncData} {x:Str} {sp:Sp} {s₁:Shared} {vs:List Value} {ns:List Int}
  (KX:K.In s₁.heap) (hns:s₁.heap.Ns mainGlobals mg) (hb:s₁.heap.Ns builtinsNs mb) (hbb:∀ x:Str,x≠"__name__"->mb x=bootBuiltins x) (hlim:s₁.heap.NoLimit) (hg:s₁.gens=#[])
  (ha:s₁.heap.get? a=some { cls:=.type "list",data:=.seq vs.toArray }) (hi:IntsAre vs ns) (hl:ns.length≤sizeLine) (hr:Room k callerA)
  (F:∀ base:Heap,K.In base->base.Ns mainGlobals mg->FnOk P w K mg base CX k fa fd [x] sp) (hbind:∀ (s:Shared) (u:Value),BindsTo s fd ⟨[u],[]⟩ [(x,u)])
  (hsp:∀ H:Hp,Only H->SqL K H a (ns.map V.int)->sp [.ref a] H (fun v _=>v=.bl true) fun _ _ _=>False)
  (hCX:∀ H e s',CX [] H s₁ (fun _ _ _=>False) e s'->False) :
  codeAny (model P w) callerA (.call (.ref fa) ⟨[.ref a],[]⟩) (fun r s'=>r=.ok (.ret (.bool true))∧OldK s₁.heap s'.heap∧s'.os=s₁.os∧AllBare s'.gens) s₁:=by
 have rv:=vals_ints hi
 have lenV:=hi.length
  -- from an abstract heap in which nothing but the script may be tracked
 have core : ∀ H : Hp, Only H → SqL K H a (ns.map V.int) → HOk P w H s₁.heap → (∀ b, H b ≠ none → b = a) → (H a ≠ none → K.lookup a = none) →
     codeAny (model P w) callerA (.call (.ref fa) ⟨[.ref a],[]⟩) (fun r s'=>r=.ok (.ret (.bool true))∧OldK s₁.heap s'.heap∧s'.os=s₁.os∧AllBare s'.gens) s₁:=by
  intro H hO hS hok hA hK
  have base_of:∀ {b:Addr} {o:Obj},s₁.heap.get? b=some o->H b=none->(hidT s₁.heap H).get? b=some o:=fun e n=>hidT_get e n
  have noA:∀ {b:Addr} {o:Obj} {es:Array DictEntry} {ep:Nat},s₁.heap.get? b=some o->o.data=.dict es ep->H b=none:=fun {b o es ep} e d=>by
   cases q:H b with
   | none=>rfl
   | some u =>
    have e':b=a:=hA b (by rw[q];simp)
    subst e'
    rw[ha] at e;cases e
    have d':Data.seq vs.toArray _=Data.dict es ep:=d
    cases d'
  have nsK:∀ {b:Addr} {m:Str->Option Value},s₁.heap.Ns b m->(hidT s₁.heap H).Ns b m:=fun {b m} ⟨o,es,ep,e,d,r⟩=>⟨o,es,ep,base_of e (noA e d),d,r⟩
  have hKb:K.In (hidT s₁.heap H):=fun b o e=>base_of (KX b o e) (by
   cases q:H b with
   | none=>rfl
   | some u =>
    have e':b=a:=hA b (by rw[q];simp)
    subst e'
    rw[hK (by rw[q];simp)] at e;cases e)
  have hM:Mod K mg (hidT s₁.heap H):=⟨hKb,nsK hns,⟨mb,nsK hb,hbb⟩,let ⟨mc,h1,h2⟩:=hlim;⟨mc,nsK h1,h2⟩⟩
  have e0:Env0 P w K mg (hidT s₁.heap H) callerA [] s₁ H:=⟨rfl,hM,fun b o e=>of_hidT e,Nat.le_of_eq (hidT_size _ _),trivial,fun b hb=>absurd (show b ∈ ([]:List Addr) from hb) (by simp),hok,.of_eq hg⟩
  refine codeAny_mono ((F _ hKb (nsK hns)).run callerA [] s₁ H ⟨[.ref a],[]⟩ [.ref a] [.ref a] _ _ hr e0 (hbind s₁ (.ref a)) (.cons rfl .nil) (hsp H hO hS)) fun r s' h=>?_
  cases r with
  | error e=>exact (hCX H e s' h).elim
  | ok fl =>
   cases fl with
   | next=>exact False.elim h
   | brk=>exact False.elim h
   | cont=>exact False.elim h
   | ret u =>
    obtain⟨v,H',os,bare,un,hok',r',q⟩:=h
    have q':v=.bl true:=q
    subst q'
    obtain rfl:u=Value.bool true:=r'
    refine⟨rfl,OldK.of_keep fun b o e=>?_,os,bare⟩
    cases q:H b with
    | none=>exact un.keep b o e q (by intro z;exact absurd (show b ∈ ([]:List Addr) from z) (by simp)) (by simp)
    | some u =>
     rcases hO b with z | ⟨ob,xs,z⟩
     ·rw[q] at z;cases z
     ·have z2:=un.frzs b ob _ z
      obtain⟨e1,_⟩:=hok b _ z
      obtain⟨e2,_⟩:=hok' b _ z2
      rw[e] at e1;cases e1
      exact e2
 cases hk:K.lookup a with
 | some o =>
    -- the script is one of the module's own objects
  have e:=KX a o hk
  rw[ha] at e
  cases e
  refine core (fun _=>none) (fun _=>.inl rfl) (.inr ⟨_,vs.toArray,_,hk,rfl,rfl,rfl,by rw[List.size_toArray,lenV];exact hl,by simpa using rv⟩) (fun b u z=>by have z':(none:Option HO)=some u:=z;cases z') (fun b z=>absurd rfl z) fun z=>absurd rfl z
 | none =>
  refine core (fun b=>if b=a then some (.frz { cls:=.type "list",data:=.seq vs.toArray } (.lst (ns.map V.int))) else none) (fun b=>?_) (.inl (.inr ⟨{ cls:=.type "list",data:=.seq vs.toArray },if_pos rfl⟩)) (fun b u z=>?_) (fun b z=>?_) fun _=>hk
  ·by_cases hb:b=a
   ·exact .inr ⟨_,_,if_pos hb⟩
   ·exact .inl (if_neg hb)
  ·by_cases hb:b=a
   ·have z':=(if_pos hb).symm.trans z
    cases z'
    subst hb
    exact⟨ha,by rw[List.length_map];exact hl,vs,_,rv,ha⟩
   ·have z':=(if_neg hb).symm.trans z
    cases z'
  ·by_cases hb:b=a
   ·exact hb
   ·exact absurd (if_neg hb) z
end L2
namespace L2
open PySem PySem.Spec PyProof.Rows
/-- the goal that k_head leaves (case hc), from the law's promise. F gives the function object fd (K's own) once, then the promise over every base -/
theorem walk_of {l:PySem.W.OpenLaw} {n k:Nat} {q:Program} {loose:List Str} {XP:(Str->Option Value)->Heap->Prop} {YP:World->Heap->Prop} {d:DefRec} {K:Params->PySem.W.Frag} {CX:World->CXT} {sp:World->Sp} {x:Str}
  (hn:l.most=some n) (hn2:n≤sizeLine) (hdf:d.params.defaults=[]) (hr:Room k callerA)
  (hY:∀ (w:World) (h:Heap),YP w h->(K w.params).In h)
  (F:∀ (w:World) (mg:Str->Option Value) (fa:Addr) (h:Heap),(K w.params).In h->h.Ns mainGlobals mg->mg d.name=some (.ref fa) ->
   ∃ fd:FuncData,(∀ (s:Shared) (u:Value),BindsTo s fd ⟨[u],[]⟩ [(x,u)]) ∧
    ∀ base:Heap,(K w.params).In base->base.Ns mainGlobals mg->FnOk l.prog w (K w.params) mg base (CX w) k fa fd [x] (sp w))
  (hsp:∀ (w:World) (H:Hp) (a:Addr) (ns:List Int),ns.length≤n->Only H->SqL (K w.params) H a (ns.map V.int)->sp w [.ref a] H (fun v _=>v=.bl true) fun _ _ _=>False)
  (hCX:∀ (w:World) (H:Hp) (s:Shared) (e:Value) (s':Shared),CX w [] H s (fun _ _ _=>False) e s'->False) :
  PySem.W.WalkO q loose XP YP l.row.toRowW d [] (fun f vs=>PySem.call f vs):=by
 refine Att.attach_call hn hdf fun w s₀ s₁ mg mb fa o pm cd doc a vs ns G Y ho hd hcd hmg hobj hints hlen hg=>?_
 have KX:=hY w _ Y
 obtain⟨fd,hb,hF⟩:=F w mg fa _ KX G.T.g hmg
 exact law_call KX G.T.g G.T.b G.T.builtins G.T.nolimit hg hobj hints (Nat.le_trans hlen hn2) hr hF hb (fun H hO hS=>hsp w H a ns hlen hO hS) fun H e s'=>hCX w H s₁ e s'
end L2
namespace L2
open PySem PySem.Spec PyProof.Rows
def defArgs (s:Stmt):Arguments:=match s with
 | .FunctionDef _ a _ _ _ _ _ _ _ _=>a
 | _=>{ posonlyargs:=[],args:=[],vararg:=none,kwonlyargs:=[],kw_defaults:=[],kwarg:=none,defaults:=[] }
def defBody (s:Stmt):List Stmt:=match s with
 | .FunctionDef _ _ b _ _ _ _ _ _ _=>b
 | _=>[]
def defScope (s:Stmt):Scope:=match s with
 | .FunctionDef _ _ _ _ _ _ sc _ _ _=>sc
 | _=>{ kind:=.function,names:=[],isGenerator:=false,isCoroutine:=false }
abbrev CX0:CXT:=fun _ _ _ _ _ _=>False
abbrev E0:XK:=fun _ _ _=>False
theorem pass0 {X:Cx}:Passes CX0 X E0:=fun _ _ _ _ _ _ _ h=>h.elim
structure Fun (K:PySem.W.Frag) (x qual:Str) (st:Stmt) (f:Addr) (fd:FuncData):Prop where
 ex:∃ (oc:Value) (od:Option Addr) (kV doc pm:Value) (an:Option Addr) (cdv ct:Value) (osl:Array (Option Value)),
  fd=PySem.W.fnOf x qual (defArgs st) (defBody st) (defScope st) .none kV doc pm an cdv ct∧K.lookup f=some ⟨oc,od,.func fd,osl⟩∧PySem.W.codeIn K cdv qual=true
 kp:PySem.W.keepIn K (.ref f)=true
section
variable {P:Program} {w:World} {K:PySem.W.Frag} {mg:Str->Option Value} {base:Heap}
/-- THE RULE for a def: its body as a term of rules, and the reading of that term -/
theorem Fun.ok {x qual:Str} {st:Stmt} {f:Addr} {fd:FuncData} {N ps:List Str} {k:Nat} {sp:Sp} (F:Fun K x qual st f fd) (S:FnScope N ps (defScope st)) (len:∀ vs H Q E,sp vs H Q E->vs.length=ps.length)
  (hbody:∀ (cdv:Value) (A:Around) (outer:List Env) (s:Shared) (H:Hp) (vs:List V) (Q:VK) (E:XK),Room k (A.deeper (envOfC qual (defScope st) s.heap.objs.size f cdv))->sp vs H Q E ->
   ∃ t,PSs (cxOf CX0 P w K mg base N qual (defScope st) f cdv A outer s H E).nox (defBody st) t∧t { nx:=fun _ H'=>Q .non H',rt:=Q } (start N vs) H):FnOk P w K mg base CX0 (k + 1) f fd ps sp:=by
 obtain⟨oc,od,kV,doc,pm,an,cdv,ct,osl,rfl,lk,hcd⟩:=F.ex
 refine fn_of lk hcd S len fun A outer s H vs Q E hr hsp=>?_
 obtain⟨t,h,q⟩:=hbody cdv A outer s H vs Q E hr hsp
 exact⟨t,h.nox,q⟩
/-- how its arguments bind (no defaults): h is «fun _ _ _ _ _ _ us hl => match us, hl with | [_, _], _ => rfl», one _ a parameter -/
theorem Fun.binds {x qual:Str} {st:Stmt} {f:Addr} {fd:FuncData} {ps:List Str} (F:Fun K x qual st f fd)
  (h:∀ (kV doc pm:Value) (an:Option Addr) (cdv ct:Value) (us:List Value),us.length=ps.length->bindArgs (PySem.W.fnOf x qual (defArgs st) (defBody st) (defScope st) .none kV doc pm an cdv ct) ⟨us,[]⟩=pure (ps.zip us)):Binds K fd ps []:=by
 obtain⟨oc,od,kV,doc,pm,an,cdv,ct,osl,rfl,lk,hcd⟩:=F.ex
 exact .all (h kV doc pm an cdv ct)
theorem fun_mk {x qual:Str} {st:Stmt} {f:Addr} {oc:Value} {od an:Option Addr} {osl:Array (Option Value)} {kV doc pm cdv ct:Value} (l:K.lookup f=some ⟨oc,od,.func (PySem.W.fnOf x qual (defArgs st) (defBody st) (defScope st) .none kV doc pm an cdv ct),osl⟩)
  (c:PySem.W.codeIn K cdv qual=true) (k:PySem.W.keepIn K (.ref f)=true):Fun K x qual st f (PySem.W.fnOf x qual (defArgs st) (defBody st) (defScope st) .none kV doc pm an cdv ct):=⟨⟨oc,od,kV,doc,pm,an,cdv,ct,osl,rfl,l,c⟩,k⟩
end
section
variable {X:Cx}
theorem pv (i:Nat) {x:Str} {pos:Pos} (hN:X.N[i]?=some x:=by rfl) (hv:Vis X.env.scope x:=by first | exact Or.inl rfl | exact Or.inr (Or.inl rfl) | exact Or.inr (Or.inr rfl)) (hd:(x == ("__debug__":Str))=false:=by decide)
  (hcd:(x == ("__classdict__":Str))=false:=by decide):PE X (.Name x pos) (tVar i):=pe_var hN hv hd hcd
end
theorem iteF {A B:Prop} (h:B):if false=true then A else B:=by
 rw[if_neg Bool.false_ne_true]
 exact h
theorem iteT {A B:Prop} (h:A):if true=true then A else B:=by
 rw[if_pos rfl]
 exact h
theorem ite2 {c A B:Prop} [Decidable c] (h1:c->A) (h2:¬ c->B):if c then A else B:=by
 by_cases h:c
 ·rw[if_pos h]
  exact h1 h
 ·rw[if_neg h]
  exact h2 h
theorem iteNS {c A B:Prop} [Decidable c] (hc:c) (h:B):if (!decide c)=true then A else B:=by
 rw[decide_eq_true hc]
 exact iteF h
/-- all that was tracked is as it was -/
def Same (H H':Hp):Prop:=∀ b o,H b=some o->H' b=some o
theorem Same.refl (H:Hp):Same H H:=fun _ _ h=>h
theorem Same.trans {H H1 H2:Hp} (a:Same H H1) (b:Same H1 H2):Same H H2:=fun c o h=>b c o (a c o h)
theorem Same.free {H H':Hp} (e:Same H H') {l:Addr} (h:H' l=Option.none):H l=Option.none:=by
 cases q:H l with
 | none=>rfl
 | some o =>
  rw[e l o q] at h
  cases h
theorem Same.seq {K:PySem.W.Frag} {H H':Hp} {a:Addr} {xs:List V} (e:Same H H') (h:SqL K H a xs):SqL K H' a xs:=by
 rcases h with (h | ⟨o,h⟩) | h
 ·exact .inl (.inl (e _ _ h))
 ·exact .inl (.inr ⟨o,e _ _ h⟩)
 ·exact .inr h
end L2
namespace L2
open PySem PySem.Spec PyProof.Rows
section
variable {κ:Type} [DecidableEq κ]
def valV (kvs:List (κ × V)) (k:κ):Option V:=(kvs.find? fun kv=>decide (kv.1=k)).map (·.2)
/-- in its place, or at the end -/
def putK (kvs:List (κ × V)) (k:κ) (v:V):List (κ × V) :=
 if (kvs.any fun kv=>decide (kv.1=k))=true then kvs.map (fun kv=>if kv.1=k then (kv.1,v) else kv) else kvs++[(k,v)]
def dropK (kvs:List (κ × V)) (k:κ):List (κ × V):=kvs.filter fun kv=>decide (kv.1≠k)
theorem valV_pos {p:κ × V} {r:List (κ × V)} {k:κ} (e:p.1=k):valV (p::r) k=some p.2:=by simp [valV,List.find?_cons,e]
theorem valV_neg {p:κ × V} {r:List (κ × V)} {k:κ} (e:¬ p.1=k):valV (p::r) k=valV r k:=by simp [valV,List.find?_cons,e]
theorem valV_any (k:κ):∀ kvs:List (κ × V),(kvs.any fun kv=>decide (kv.1=k))=(valV kvs k).isSome
 | []=>rfl
 | p::r=>by
  rw[List.any_cons]
  by_cases e:p.1=k
  ·simp only [valV_pos e,decide_eq_true e,Bool.true_or,Option.isSome_some]
  ·rw[valV_neg e,decide_eq_false e,Bool.false_or];exact valV_any k r
theorem RelO.isSome_eq {o:Option V} {u:Option Value} (r:RelO o u):o.isSome=u.isSome:=by
 cases o with
 | none=>cases u with
  | none=>rfl
  | some _=>exact (show False from r).elim
 | some _=>cases u with
  | none=>exact (show False from r).elim
  | some _=>rfl
/-- raw tables of the same keys -/
theorem KV.val {kvs:List (κ × V)} {vs:List (κ × Value)} (r:KV kvs vs) (k:κ):RelO (valV kvs k) (valueAt vs k):=by
 unfold KV at r
 induction r with
 | nil=>exact True.intro
 | @cons p q ps qs h t ih =>
  obtain⟨h1,h2⟩:=h
  by_cases e:p.1=k
  ·have e':q.1=k:=h1.symm.trans e
   have b:valueAt (q::qs) k=some q.2:=by simp [valueAt,List.find?_cons,e']
   rw[valV_pos e,b];exact h2
  ·have e':¬ q.1=k:=fun z=>e (h1.trans z)
   have b:valueAt (q::qs) k=valueAt qs k:=by simp [valueAt,List.find?_cons,e']
   rw[valV_neg e,b];exact ih
end
theorem kV_is {P:Program} {w:World} {k:Key} {u:Value} (r:RelV (kV k) u):(mixKind P w).is k u=true:=by
 cases k with
 | inl i=>obtain⟨t,e⟩:=(show ∃ t,u=Value.int i t from r);subst e;exact mixKind_int P w i t
 | inr x=>obtain⟨t,e⟩:=(show ∃ t,u=Value.str x t from r);subst e;exact mixKind_str P w x t
theorem items_are {P:Program} {w:World}:∀ {ks:List Key} {us:List Value},Vals (ks.map kV) us->ItemsAre (mixKind P w) ks us
 | [],_,r=>by rw[List.map_nil] at r;cases r;exact .nil
 | k::ks,_,r=>by
  rw[List.map_cons] at r
  cases r with
  | cons h t=>exact .cons (kV_is h) (items_are t)
/-- raw entries of a dict with tuple keys -/
abbrev KT (H:Hp):List (List Key × V)->List (List Key × Addr × Value)->Prop:=Paired fun p q=>p.1=q.1∧H q.2.1=some (.tup (p.1.map kV))∧RelV p.2 q.2.2
theorem KT.val {H:Hp} {kvs:List (List Key × V)} {xs:List (List Key × Addr × Value)} (r:KT H kvs xs) (k:List Key):RelO (valV kvs k) ((atKey xs k).map (·.2)):=by
 induction r with
 | nil=>exact True.intro
 | @cons p q ps qs h t ih =>
  obtain⟨h1,_,h2⟩:=h
  by_cases e:p.1=k
  ·have e':q.1=k:=h1.symm.trans e
   have b:atKey (q::qs) k=some q.2:=by simp [atKey,List.find?_cons,e']
   rw[valV_pos e,b];exact h2
  ·have e':¬ q.1=k:=fun z=>e (h1.trans z)
   have b:atKey (q::qs) k=atKey qs k:=by simp [atKey,List.find?_cons,e']
   rw[valV_neg e,b];exact ih
theorem KT.keeps {H H':Hp} {kvs:List (List Key × V)} {xs:List (List Key × Addr × Value)} (r:KT H kvs xs) (ht:∀ b ys,H b=some (.tup ys)->H' b=some (.tup ys)):KT H' kvs xs :=
 Paired.mapP r fun _ _ z=>⟨z.1,ht _ _ z.2.1,z.2.2⟩
section
variable {P:Program} {w:World} {H:Hp} {h:Heap} {a:Addr}
theorem rd_of {u:HO} (ok:HOk P w H h) (e:Rd H a u):ObjOk P w H h a u:=e.ok ok
theorem dk_rd {kvs:List (Key × V)} (ok:HOk P w H h) (e:Rd H a (.dK kvs)):kvs.length≤sizeLine∧(a == sysModules)=false∧∃ vs,KV kvs vs∧h.DictOf (mixKind P w) a vs :=
 show ObjOk P w H h a (.dK kvs) from rd_of ok e
/-- a tracked tuple of ints and texts is a key -/
theorem key_of {ks:List Key} (ok:HOk P w H h) (e:H a=some (.tup (ks.map kV))):(tupleKind (mixKind P w)).is h ks a:=by
 obtain⟨_,its,r,o,h1,h2,⟨n,h3⟩,_⟩:=(show ObjOk P w H h a (.tup (ks.map kV)) from ok a _ e)
 exact⟨o,its.toArray,n,h1,h2,h3,by simpa using items_are r⟩
theorem dt_rd {kvs:List (List Key × V)} (ok:HOk P w H h) (e:Rd H a (.dT kvs)):kvs.length≤sizeLine∧(a == sysModules)=false ∧
  ∃ xs,KT H kvs xs∧h.DictOfH (tupleKind (mixKind P w)) a xs:=by
 obtain⟨z,y,xs,r,o,es,ep,h1,h2,h3,h4,h5⟩:=(show ObjOk P w H h a (.dT kvs) from rd_of ok e)
 refine⟨z,y,xs,r,o,es,ep,h1,h2,h3,h4,fun x hx=>?_,h5⟩
 have all:∀ {l:List (List Key × V)} {m:List (List Key × Addr × Value)},KT H l m->∀ x ∈ m,(tupleKind (mixKind P w)).is h x.1 x.2.1:=by
  intro l m q
  induction q with
  | nil=>intro x hx;exact nomatch hx
  | @cons p q ps qs hq t ih =>
   intro x hx
   rcases List.mem_cons.mp hx with e | hx
   ·subst e
    exact key_of ok (by rw[← hq.1];exact hq.2.1)
   ·exact ih x hx
 exact all r x hx
end
/-- what the dict at a holds at the key y -/
def DGet (H:Hp) (a:Addr) (y:V) (r:Option V):Prop :=
 (∃ kvs k,Rd H a (.dK kvs)∧y=kV k∧r=valV kvs k)∨∃ kvs k b,Rd H a (.dT kvs)∧y=.ref b∧H b=some (.tup (k.map kV))∧r=valV kvs k
/-- the heap behind a[y] = v -/
def DPut (H:Hp) (a:Addr) (y v:V) (H':Hp):Prop :=
 (∃ kvs k,H a=some (.dK kvs)∧y=kV k∧kvs.length < sizeLine∧H'=upd H a (.dK (putK kvs k v))) ∨
 ∃ kvs k b,H a=some (.dT kvs)∧y=.ref b∧H b=some (.tup (k.map kV))∧kvs.length < sizeLine∧H'=upd H a (.dT (putK kvs k v))
section
variable {X:Cx} {pins:List (Addr × Obj)} {σ:St} {H:Hp} {s:Shared} {a:Addr} {y v:V} {u r:Value} {o:Option V} {A:Around} {E:Value->Shared->Prop}
theorem Inv.big (I:Inv X pins σ H s):sysModules < s.heap.objs.size:=by
 have h:mainGlobals < s.heap.objs.size:=(I.mod.glob.keeps I.bk).lt
 exact Nat.lt_trans (by decide) h
theorem d_notIn {Q:Value->Shared->Prop} (hu:A.units + 1 < cLine) (I:Inv X pins σ H s) (g:DGet H a y o) (ry:RelV y u) (h:∀ s',Inv X pins σ H s'->Q (.bool (!o.isSome)) s') :
  wpAny (model X.prog X.w) A (compareOp .NotIn u (.ref a)) Q E s:=by
 rcases g with ⟨kvs,k,e,ey,l⟩ | ⟨kvs,k,b,e,ey,eb,l⟩
 ·subst ey
  obtain⟨z,hd,vs,rel,dd⟩:=dk_rd I.hok e
  refine wpAny_notIn_of (kV_is ry) hd dd.mapOf ?_
  rw[← (rel.val k).isSome_eq,← l]
  exact h _ (I.tok _)
 ·subst ey
  cases (show u=Value.ref b from ry)
  obtain⟨z,hd,xs,rel,dd⟩:=dt_rd I.hok e
  refine wpAny_notIn_heap (tupleKind_room_in1 hu) (key_of I.hok eb) hd dd ?_
  have q:=(rel.val k).isSome_eq
  rw[Option.isSome_map] at q
  rw[← q,← l]
  exact h _ (I.tok _)
end
section
variable {X:Cx} {pins:List (Addr × Obj)} {σ:St} {H:Hp} {s:Shared} {a:Addr} {kvs:List (Key × V)} {k:Key} {u:Value} {A:Around} {E:Value->Shared->Prop}
end
def tDNotIn (ty td:TE):TE:=fun σ H Q=>ty σ H fun y H1=>td σ H1 fun x H2=>∃ a o,x=.ref a∧DGet H2 a y o∧Q (.bl (!o.isSome)) H2
section
variable {X:Cx} {o i e value:Expr} {pos pos' tpos:Pos} {td ty tv:TE}
theorem pc_dnotin (hu:X.A.units + 1 < cLine) (hi:PE X i ty) (ho:PE X o td):PC X .NotIn i o (tDNotIn ty td):=by
 intro pins s σ H Q I h
 refine thn (hi pins s σ H _ I h) fun iv s1 ⟨y,H1,I1,ry,q1⟩=>thn (ho pins s1 σ H1 _ I1 q1) fun u s2 ⟨x,H2,I2,rx,a,ov,ex,g,q2⟩=>?_
 subst ex
 obtain rfl:u=Value.ref a:=rx
 exact d_notIn hu I2 g ry fun s3 I3=>⟨.bl (!ov.isSome),H2,I3,rfl,q2⟩
end
section
variable {X:Cx} {pos:Pos}
end
end L2
set_option maxHeartbeats 4000000
namespace Srt
open PySem PySem.W PyProof.Rows
section
variable {N:Nat} {r:Nat->Int} {cmp:Nat->Nat->(Bool->Shared->Prop)->Shared->Prop} {s:Shared}
def ky (r:Nat->Int) (p:Array Nat) (m:Nat):Int:=r (p.getD m 0)
def Up (r:Nat->Int) (p:Array Nat) (n:Nat):Prop:=∀ i j,i≤j->j < n->ky r p i≤ky r p j
def Dn (r:Nat->Int) (p:Array Nat) (n:Nat):Prop:=∀ i j,i≤j->j < n->ky r p j≤ky r p i
def Ask (N:Nat) (r:Nat->Int) (cmp:Nat->Nat->(Bool->Shared->Prop)->Shared->Prop) (s:Shared):Prop :=
 ∀ i j C,i < N->j < N->C (decide (r i < r j)) s->cmp i j C s
def Gd (N:Nat) (p:Array Nat):Prop:=p.Perm (List.toArray (List.range N))
theorem Gd.sz {p:Array Nat} (g:Gd N p):p.size=N:=by
 have:=g.size_eq
 simpa using this
theorem Gd.lt {p:Array Nat} (g:Gd N p) (h:0 < N) (m:Nat):p.getD m 0 < N:=by
 by_cases hm:m < p.size
 ·have e:p.getD m 0=p[m]:=by simp [Array.getD,hm]
  rw[e]
  have h1:p[m] ∈ p:=Array.getElem_mem hm
  have h2:p[m] ∈ List.toArray (List.range N):=g.mem_iff.mp h1
  simpa using h2
 ·have e:p.getD m 0=0:=by simp [Array.getD,hm]
  omega
theorem ky_of {p q:Array Nat} {i j:Nat} (h:p[i]?=q[j]?):ky r p i=ky r q j:=by
 have e:∀ (a:Array Nat) (k:Nat),a.getD k 0=(a[k]?).getD 0:=fun a k=>by
  by_cases hk:k < a.size <;> simp [Array.getD,hk]
 unfold ky
 rw[e,e,h]
theorem ky_rev {p:Array Nat} {i j:Nat} (hj:j≤p.size) (k:Nat):ky r (kas_rev p i j) k=if i≤k∧k < j then ky r p (i + j - 1 - k) else ky r p k:=by
 have e:=getElem?_mirror_all (i:=i) hj k
 by_cases h:i≤k∧k < j
 ·rw[if_pos h] at e ⊢
  exact ky_of e
 ·rw[if_neg h] at e ⊢
  exact ky_of e
theorem ky_bub {p:Array Nat} {k d:Nat} (hs:k < p.size) (hd:d≤k) (m:Nat) :
  ky r (bubble p k d) m=if m=k - d then ky r p k else if k - d < m∧m≤k then ky r p (m - 1) else ky r p m:=by
 have e:=getElem?_bubble hs d hd m
 by_cases h1:m=k - d
 ·rw[if_pos h1] at e ⊢
  exact ky_of e
 ·rw[if_neg h1] at e ⊢
  by_cases h2:k - d < m∧m≤k
  ·rw[if_pos h2] at e ⊢
   exact ky_of e
  ·rw[if_neg h2] at e ⊢
   exact ky_of e
theorem Gd.rev {p:Array Nat} (g:Gd N p) (i j:Nat):Gd N (kas_rev p i j):=(mirror_perm p i j _).trans g
theorem Gd.bub {p:Array Nat} (g:Gd N p) (i j:Nat):Gd N (bubble p i j):=(bubble_perm p i j).trans g
theorem asc_wp (h:Ask N r cmp s) (hN:0 < N) {p:Array Nat} (g:Gd N p) {Q:Nat->Shared->Prop}:∀ f n,1≤n->Up r p n ->
  (∀ m,n≤m->m≤n + f->Up r p m->(m < n + f->ky r p m < ky r p (m - 1))->Q m s)->(kas_asc p f n).kasWp cmp Q s
 | 0,n,_,hu,q=>q n (Nat.le_refl _) (Nat.le_refl _) hu (fun z=>absurd z (Nat.lt_irrefl _))
 | f + 1,n,h1,hu,q=>by
  refine h _ _ _ (g.lt hN _) (g.lt hN _) ?_
  by_cases c:r (p.getD n 0) < r (p.getD (n - 1) 0)
  ·rw[decide_eq_true c]
   exact q n (Nat.le_refl _) (by omega) hu (fun _=>c)
  ·rw[decide_eq_false c]
   refine asc_wp h hN g f (n + 1) (by omega) (fun i j hij hj=>?_) (fun m a b u d=>q m (by omega) (by omega) u (fun z=>d (by omega)))
   have c':ky r p (n - 1)≤ky r p n:=by unfold ky;omega
   by_cases e:j=n
   ·subst e
    by_cases e2:i=j
    ·subst e2;exact Int.le_refl _
    ·exact Int.le_trans (hu i (j - 1) (by omega) (by omega)) c'
   ·exact hu i j hij (by omega)
theorem ky_rev_eq {p:Array Nat} {i j:Nat} (hj:j≤p.size) (v:Int) (he:∀ k,i≤k->k < j->ky r p k=v) (k:Nat):ky r (kas_rev p i j) k=ky r p k:=by
 rw[ky_rev hj]
 split
 ·rename_i c
  rw[he _ (by omega) (by omega),he k c.1 c.2]
 ·rfl
theorem desc_wp (h:Ask N r cmp s) (hN:0 < N) {Q:Array Nat × Nat × Nat->Shared->Prop}:∀ f p n q,Gd N p->1≤n->n + f≤N->Dn r p n->q + 1≤n->(∀ i,n - (q + 1)≤i->i < n->ky r p i=ky r p (n - 1)) ->
  (∀ p' n' q',Gd N p'->n≤n'->n'≤n + f->Dn r p' n'->q' + 1≤n'->(∀ i,n' - (q' + 1)≤i->i < n'->ky r p' i=ky r p' (n' - 1))->Q (p',n',q') s)->(kas_desc f p n q).kasWp cmp Q s
 | 0,p,n,q,g,_,_,hd,hq,he,z=>z p n q g (Nat.le_refl _) (Nat.le_refl _) hd hq he
 | f + 1,p,n,q,g,h1,hf,hd,hq,he,z=>by
  refine h _ _ _ (g.lt hN _) (g.lt hN _) ?_
  by_cases c:r (p.getD n 0) < r (p.getD (n - 1) 0)
  ·rw[decide_eq_true c]
   have c':ky r p n < ky r p (n - 1):=c
   have dn:∀ {p':Array Nat},(∀ k,ky r p' k=ky r p k)->Dn r p' (n + 1):=fun e i j hij hj=>by
    rw[e,e]
    by_cases ej:j=n
    ·subst ej
     by_cases ei:i=j
     ·subst ei;exact Int.le_refl _
     ·exact Int.le_trans (Int.le_of_lt c') (hd i (j - 1) (by omega) (by omega))
    ·exact hd i j hij (by omega)
   show KasT.kasWp cmp (if q > 0 then kas_desc f (kas_rev p (n - (q + 1)) n) (n + 1) 0 else kas_desc f p (n + 1) 0) Q s
   by_cases hq0:q > 0
   ·rw[if_pos hq0]
    have e:=ky_rev_eq (r:=r) (p:=p) (i:=n - (q + 1)) (j:=n) (by rw[g.sz];omega) (ky r p (n - 1)) he
    exact desc_wp h hN f _ (n + 1) 0 (g.rev _ _) (by omega) (by omega) (dn e) (by omega) (fun i a b=>by congr 1;omega)
     (fun p' n' q' g' a b d e1 e2=>z p' n' q' g' (by omega) (by omega) d e1 e2)
   ·rw[if_neg hq0]
    exact desc_wp h hN f _ (n + 1) 0 g (by omega) (by omega) (dn fun _=>rfl) (by omega) (fun i a b=>by congr 1;omega)
     (fun p' n' q' g' a b d e1 e2=>z p' n' q' g' (by omega) (by omega) d e1 e2)
  ·rw[decide_eq_false c]
   refine h _ _ _ (g.lt hN _) (g.lt hN _) ?_
   by_cases d:r (p.getD (n - 1) 0) < r (p.getD n 0)
   ·rw[decide_eq_true d]
    exact z p n q g (Nat.le_refl _) (by omega) hd hq he
   ·rw[decide_eq_false d]
    have e:ky r p n=ky r p (n - 1):=by unfold ky;omega
    refine desc_wp h hN f p (n + 1) (q + 1) g (by omega) (by omega) (fun i j hij hj=>?_) (by omega) (fun i a b=>?_)
     (fun p' n' q' g' a b d e1 e2=>z p' n' q' g' (by omega) (by omega) d e1 e2)
    ·by_cases ej:j=n
     ·subst ej
      by_cases ei:i=j
      ·subst ei;exact Int.le_refl _
      ·rw[e];exact hd i (j - 1) (by omega) (by omega)
     ·exact hd i j hij (by omega)
    ·rw[show n + 1 - 1=n by omega]
     by_cases ei:i=n
     ·rw[ei]
     ·rw[e];exact he i (by omega) (by omega)
theorem tail3_wp (h:Ask N r cmp s) (hN:0 < N) {Q:Nat × Array Nat->Shared->Prop} {p:Array Nat} {n:Nat} (g:Gd N p) (h1:1≤n) (hn:n≤N) (hd:Dn r p n)
  (z:∀ m p',Gd N p'->1≤m->m≤N->Up r p' m->Q (m,p') s):(kas_tail3 n N p).kasWp cmp Q s:=by
 unfold kas_tail3
 rw[KasT.kasWp_bind]
 refine asc_wp h hN (g.rev 0 n) _ n h1 (fun i j hij hj=>?_) (fun m a b u _=>z m _ (g.rev 0 n) (by omega) (by omega) u)
 rw[ky_rev (by rw[g.sz];omega),ky_rev (by rw[g.sz];omega),if_pos (by omega),if_pos (by omega)]
 exact hd _ _ (by omega) (by omega)
theorem descPart_wp (h:Ask N r cmp s) (hN:0 < N) {Q:Nat × Array Nat->Shared->Prop} {p:Array Nat} {n:Nat} (g:Gd N p) (h1:1≤n) (hn:n + 1≤N) (hd:Dn r p (n + 1))
  (z:∀ m p',Gd N p'->1≤m->m≤N->Up r p' m->Q (m,p') s):(kas_descPart n N p).kasWp cmp Q s:=by
 unfold kas_descPart
 rw[KasT.kasWp_bind]
 refine desc_wp h hN _ p (n + 1) 0 g (by omega) (by omega) hd (by omega) (fun i a b=>by congr 1;omega) (fun p' n' q' g' a b d e1 e2=>?_)
 show KasT.kasWp cmp (if q' > 0 then kas_tail3 n' N (kas_rev p' (n' - (q' + 1)) n') else kas_tail3 n' N p') Q s
 by_cases hq:q' > 0
 ·rw[if_pos hq]
  have e:=ky_rev_eq (r:=r) (p:=p') (i:=n' - (q' + 1)) (j:=n') (by rw[g'.sz];omega) (ky r p' (n' - 1)) e2
  exact tail3_wp h hN (g'.rev _ _) (by omega) (by omega) (fun i j hij hj=>by rw[e,e];exact d i j hij hj) z
 ·rw[if_neg hq]
  exact tail3_wp h hN g' (by omega) (by omega) d z
theorem count_wp (h:Ask N r cmp s) (hN:0 < N) {Q:Nat × Array Nat->Shared->Prop} {p:Array Nat} (g:Gd N p)
  (z:∀ m p',Gd N p'->1≤m->m≤N->Up r p' m->Q (m,p') s):(kas_count N p).kasWp cmp Q s:=by
 unfold kas_count
 rw[KasT.kasWp_bind]
 refine asc_wp h hN g _ 1 (Nat.le_refl _) (fun i j hij hj=>?_) (fun m a b u d=>?_)
 ·have:i=j:=by omega
  subst this;exact Int.le_refl _
 show KasT.kasWp cmp (if (m == N)=true then .ret (m,p) else if m > 1 then .ask (p.getD 0 0) (p.getD (m - 1) 0) fun c=>if c=true then .ret (m,p) else kas_descPart m N (kas_rev p 0 m) else kas_descPart m N p) Q s
 by_cases hm:m=N
 ·rw[if_pos (by simpa using hm)]
  exact z m p g a (by omega) u
 ·rw[if_neg (by simpa using hm)]
  have d':=d (by omega)
  by_cases h1:m > 1
  ·rw[if_pos h1]
   refine h _ _ _ (g.lt hN _) (g.lt hN _) ?_
   by_cases c:r (p.getD 0 0) < r (p.getD (m - 1) 0)
   ·rw[decide_eq_true c]
    exact z m p g a (by omega) u
   ·rw[decide_eq_false c]
    have c':ky r p (m - 1)≤ky r p 0:=by unfold ky;omega
    have eq:∀ k,0≤k->k < m->ky r p k=ky r p 0:=fun k _ hk=>by
     have a1:=u 0 k (by omega) hk
     have a2:=u k (m - 1) (by omega) (by omega)
     omega
    have e:=ky_rev_eq (r:=r) (p:=p) (i:=0) (j:=m) (by rw[g.sz];omega) (ky r p 0) eq
    refine descPart_wp h hN (g.rev 0 m) (by omega) (by omega) (fun i j hij hj=>?_) z
    rw[e,e]
    by_cases ej:j=m
    ·subst ej
     by_cases ei:i=j
     ·subst ei;exact Int.le_refl _
     ·rw[eq i (by omega) (by omega)]
      have:=eq (j - 1) (by omega) (by omega)
      omega
    ·rw[eq i (by omega) (by omega),eq j (by omega) (by omega)]
     exact Int.le_refl _
  ·rw[if_neg h1]
   have e1:m=1:=by omega
   subst e1
   refine descPart_wp h hN g (by omega) (by omega) (fun i j hij hj=>?_) z
   by_cases ej:j=1
   ·subst ej
    by_cases ei:i=1
    ·subst ei;exact Int.le_refl _
    ·have:i=0:=by omega
     subst this
     exact Int.le_of_lt d'
   ·have:i=j:=by omega
    subst this;exact Int.le_refl _
theorem place_wp (h:Ask N r cmp s) (hN:0 < N) {Q:Nat->Shared->Prop} {p:Array Nat} {k:Nat} (g:Gd N p) (hu:Up r p k):∀ f l rr,l≤rr->rr≤k->rr - l≤f->(∀ i,i < l->ky r p i≤ky r p k)->(∀ i,rr≤i->i < k->ky r p k < ky r p i) ->
  (∀ l',l'≤k->(∀ i,i < l'->ky r p i≤ky r p k)->(∀ i,l'≤i->i < k->ky r p k < ky r p i)->Q l' s)->(kas_place p k f l rr).kasWp cmp Q s
 | 0,l,rr,h1,h2,h3,a,b,z=>z l (by omega) a (fun i x y=>b i (by omega) y)
 | f + 1,l,rr,h1,h2,h3,a,b,z=>by
  unfold kas_place
  by_cases hl:l ≥ rr
  ·rw[if_pos hl]
   exact z l (by omega) a (fun i x y=>b i (by omega) y)
  ·rw[if_neg hl]
   refine h _ _ _ (g.lt hN _) (g.lt hN _) ?_
   by_cases c:r (p.getD k 0) < r (p.getD ((l + rr) / 2) 0)
   ·rw[decide_eq_true c]
    have c':ky r p k < ky r p ((l + rr) / 2):=c
    exact place_wp h hN g hu f l ((l + rr) / 2) (by omega) (by omega) (by omega) a (fun i x y=>Int.lt_of_lt_of_le c' (hu _ _ x y)) z
   ·rw[decide_eq_false c]
    have c':ky r p ((l + rr) / 2)≤ky r p k:=by unfold ky;omega
    exact place_wp h hN g hu f ((l + rr) / 2 + 1) rr (by omega) (by omega) (by omega) (fun i x=>Int.le_trans (hu i ((l + rr) / 2) (by omega) (by omega)) c') b z
theorem bin_wp (h:Ask N r cmp s) (hN:0 < N) {Q:Array Nat->Shared->Prop}:∀ f p k,Gd N p->k + f≤N->Up r p k->(∀ p',Gd N p'->Up r p' (k + f)->Q p' s)->(kas_bin f p k).kasWp cmp Q s
 | 0,p,k,g,_,hu,z=>z p g hu
 | f + 1,p,k,g,hk,hu,z=>by
  unfold kas_bin
  rw[KasT.kasWp_bind]
  refine place_wp h hN g hu k 0 k (by omega) (Nat.le_refl _) (by omega) (fun i x=>absurd x (Nat.not_lt_zero _)) (fun i x y=>absurd (Nat.lt_of_le_of_lt x y) (Nat.lt_irrefl _)) (fun l hl a b=>?_)
  have e:=fun m=>ky_bub (r:=r) (p:=p) (k:=k) (d:=k - l) (by rw[g.sz];omega) (by omega) m
  refine bin_wp h hN f _ (k + 1) (g.bub _ _) (by omega) (fun i j hij hj=>?_) (fun p' g' u'=>z p' g' (by rw[show k + (f + 1)=k + 1 + f by omega];exact u'))
  rw[e,e]
  have ekl:k - (k - l)=l:=by omega
  rw[ekl]
  by_cases i1:i=l
  ·rw[if_pos i1]
   by_cases j1:j=l
   ·rw[if_pos j1];exact Int.le_refl _
   ·rw[if_neg j1,if_pos (by omega)]
    exact Int.le_of_lt (b _ (by omega) (by omega))
  ·rw[if_neg i1]
   by_cases i2:l < i∧i≤k
   ·rw[if_pos i2,if_neg (by omega),if_pos (by omega)]
    exact hu _ _ (by omega) (by omega)
   ·rw[if_neg i2]
    by_cases j1:j=l
    ·rw[if_pos j1];exact a _ (by omega)
    ·rw[if_neg j1]
     by_cases j2:l < j∧j≤k
     ·rw[if_pos j2];exact hu _ _ (by omega) (by omega)
     ·rw[if_neg j2];exact hu _ _ hij (by omega)
/-- the sort's tree, asked by ranks, ends at an order of the places by which the ranks rise -/
theorem sort_wp (h:Ask N r cmp s) (hN:0 < N) {Q:Array Nat->Shared->Prop} (z:∀ p,Gd N p->Up r p N->Q p s):(kas_sort N).kasWp cmp Q s:=by
 unfold kas_sort
 rw[KasT.kasWp_bind]
 refine count_wp h hN (Array.Perm.refl _) (fun m p g h1 hm u=>?_)
 show KasT.kasWp cmp (if m < N then kas_bin (N - max m 1) p (max m 1) else .ret p) Q s
 by_cases c:m < N
 ·rw[if_pos c,Nat.max_eq_left h1]
  exact bin_wp h hN _ p m g (by omega) u (fun p' g' u'=>z p' g' (by rw[show m + (N - m)=N by omega] at u';exact u'))
 ·rw[if_neg c]
  have:m=N:=by omega
  subst this
  exact z p g u
end
end Srt
namespace Srt
open PySem PySem.W PyProof.Rows
section
variable {n:Nat} {lt:Nat->Nat->Bool}
def rank (n:Nat) (lt:Nat->Nat->Bool) (i:Nat):Int:=(((List.range n).countP fun k=>lt k i:Nat):Int)
theorem countP_lt {α:Type} {p q:α->Bool}:∀ {l:List α} {x:α},(∀ y ∈ l,p y=true->q y=true)->x ∈ l->p x=false->q x=true->l.countP p < l.countP q
 | [],_,_,hx,_,_=>by cases hx
 | a::r,x,h,hx,hp,hq=>by
  have hr:∀ y ∈ r,p y=true->q y=true:=fun y hy=>h y (List.mem_cons_of_mem _ hy)
  have mono:r.countP p≤r.countP q:=List.countP_mono_left hr
  rw[List.countP_cons,List.countP_cons]
  rcases List.mem_cons.mp hx with e | hx
  ·subst e
   simp only [hp,hq,Bool.false_eq_true,if_false,if_true]
   omega
  ·have ih:=countP_lt hr hx hp hq
   cases hpa:p a with
   | false=>simp only [Bool.false_eq_true,if_false];split <;> omega
   | true =>
    have:=h a List.mem_cons_self hpa
    simp only [this,if_true]
    omega
theorem rank_lt (hi:∀ i,lt i i=false) (ht:∀ i j k,i < n->j < n->k < n->lt i j=true->lt j k=true->lt i k=true) (hn:∀ i j k,i < n->j < n->k < n->lt i k=true->lt i j=true∨lt j k=true)
  {i j:Nat} (h1:i < n) (h2:j < n):decide (rank n lt i < rank n lt j)=lt i j:=by
 unfold rank
 cases e:lt i j with
 | true =>
  refine decide_eq_true ?_
  have:=countP_lt (p:=fun k=>lt k i) (q:=fun k=>lt k j) (l:=List.range n) (x:=i) (fun k hk q=>ht k i j (List.mem_range.mp hk) h1 h2 q e) (List.mem_range.mpr h1) (hi i) e
  omega
 | false =>
  refine decide_eq_false ?_
  have:(List.range n).countP (fun k=>lt k j)≤(List.range n).countP (fun k=>lt k i):=List.countP_mono_left fun k hk q=>by
   rcases hn k i j (List.mem_range.mp hk) h1 h2 q with z | z
   ·exact z
   ·rw[e] at z;cases z
  omega
end
section
variable {prog:Program} {w:World} {A:Around} {E:Value->Shared->Prop} {s:Shared}
abbrev Stay (a:Addr) (h h':Heap):Prop:=∀ b o,b≠a->h.get? b=some o->h'.get? b=some o
def outOf (vs:List Value) (p:Array Nat):List Value:=p.toList.map fun i=>vs.getD i Value.none
theorem out_range (vs:List Value):outOf vs (List.toArray (List.range vs.length))=vs:=by
 unfold outOf
 refine List.ext_getElem (by simp) fun i h1 h2=>?_
 simp
 rw[List.getElem?_eq_getElem h2]
 rfl
theorem gd_len {vs:List Value} {p:Array Nat} (g:Gd vs.length p):(outOf vs p).length=vs.length:=by
 unfold outOf
 rw[List.length_map,Array.length_toList,g.sz]
/-- list.sort of a list whose items are told apart by ranks; nothing is written by a comparison -/
theorem lsort {a:Addr} {vs:List Value} {n:Nat} {P:PySem.Fin->Shared->Prop} {r:Nat->Int} {κ:SortKind} (ho:s.heap.get? a=some (seqObj "list" vs.toArray n)) (h64:vs.length < 64)
  (hk:2≤vs.length->∀ (s':Shared) (Q:SortKind->Shared->Prop),Stay a s.heap s'.heap->Q κ s'->wpAny (model prog w) A (keyKind' vs.toArray) Q (fun _ _=>False) s')
  (hc:∀ (s':Shared) (i j:Nat) (C:Bool->Shared->Prop),Stay a s.heap s'.heap->i < vs.length->j < vs.length->C (decide (r i < r j)) s'->kas_ask prog w A κ vs i j C s')
  (h:∀ (p:Array Nat) (h':Heap) (c:Nat),Gd vs.length p->Up r p vs.length->Stay a s.heap h'->h'.get? a=some (seqObj "list" (outOf vs p).toArray c)->P (.done (.ret .none)) { s with heap:=h' }) :
  wpAny (model prog w) A (Builtin.«list.sort» ⟨[.ref a],[]⟩) P E s:=by
 rw[list_sort_plain]
 have ha:a < s.heap.objs.size:=Heap.lt_size ho
 have line:(64:Nat)≤sizeLine:=by rw[sizeLine_eq];decide
 refine wpAny_bind (listItems_at ho rfl (wpAny_bind (listUpdate_at ho rfl ?_ (by rw[List.size_toArray];omega) (Nat.zero_le _))))
 have e1:=get?_update_seq ho fun _=>(#[]:Array Value)
 generalize (if ((fun _=>(#[]:Array Value)) vs.toArray).size == vs.toArray.size then n else n + 1)=n1 at e1
 have k1:Stay a s.heap (s.heap.update a (Obj.mapSeq fun _=>(#[]:Array Value))):=fun b o hb q=>(Heap.get?_update_other s.heap _ (Ne.symm hb)).trans q
 refine wpAny_bind (seqEpoch_at e1 rfl (wpAny_bind (wpAny_newTuple ?_ (by show vs.length≤_;omega))))
 refine wpAny_bind (wpAny_newList ?_ (Nat.zero_le _))
 refine wpAny_holding ?_
 show wpAny (model prog w) A _ P E { s with heap:=(((s.heap.update a (Obj.mapSeq fun _=>(#[]:Array Value))).push (seqObj "tuple" vs.toArray 0)).push (seqObj "list" #[] 0):Heap) }
 generalize hg:((s.heap.update a (Obj.mapSeq fun _=>(#[]:Array Value))).push (seqObj "tuple" vs.toArray 0)).push (seqObj "list" #[] 0)=g
 have e2:g.get? a=some (seqObj "list" #[] n1):=by rw[← hg];exact Heap.get?_push_of_some _ (Heap.get?_push_of_some _ e1)
 have k2:Stay a s.heap g:=fun b o hb q=>by rw[← hg];exact Heap.get?_push_of_some _ (Heap.get?_push_of_some _ (k1 b o hb q))
 have fin:∀ (p:Array Nat),Gd vs.length p->Up r p vs.length->P (.done (.ret .none)) { s with heap:=g.update a (Obj.mapSeq fun _=>(outOf vs p).toArray) }:=fun p g1 u1 =>
  h p _ _ g1 u1 (fun b o hb q=>(Heap.get?_update_other g _ (Ne.symm hb)).trans (k2 b o hb q)) (get?_update_seq e2 fun _=>(outOf vs p).toArray)
 by_cases h2:vs.length < 2
 ·have h2':vs.toArray.size < 2:=by rw[List.size_toArray];exact h2
  simp only [if_pos h2']
  refine wpAny_bind (wpAny_pure ?_)
  rw[StateT.run_pure]
  refine wpAny_bind (wpAny_pure ?_)
  have eo:((arrOf (SortSt.mk' general' (vs.toArray.zip vs.toArray) #[] 7 none)).map (·.2))=vs.toArray:=by
   apply Array.toList_inj.mp
   show ((vs.toArray.zip vs.toArray).map (·.2)).toList=_
   rw[Array.toList_map]
   simp only [Array.toList_zip,List.toList_toArray]
   exact List.map_snd_zip (Nat.le_refl _)
  dsimp only
  refine wpAny_bind (seqEpoch_at e2 rfl ?_)
  rw[eo]
  refine wpAny_bind (listUpdate_at e2 rfl ?_ (Nat.zero_le _) (by rw[List.size_toArray];omega))
  simp only [bne_self_eq_false,Bool.false_eq_true,if_false]
  have f:=fin (List.toArray (List.range vs.length)) (Array.Perm.refl _) (fun i j hij hj=>by
   have:i=j:=by omega
   subst this;exact Int.le_refl _)
  rw[out_range] at f
  exact wpAny_pure f
 ·have h2':¬ vs.toArray.size < 2:=by rw[List.size_toArray];exact h2
  simp only [if_neg h2']
  refine wpAny_bind (wpAny_mono (hk (by omega) { s with heap:=g } (fun κ' s'=>κ'=κ∧s'={ s with heap:=g }) k2 ⟨rfl,rfl⟩) (fun κ' s' hq=>?_) fun _ _ x=>x.elim)
  obtain⟨rfl,rfl⟩:=hq
  refine wpAny_bind (wpAny_mono (kat_run (ks:=vs) (Q:=fun st' s'=>∃ p:Array Nat,arrOf st'=p.map (kas_item (vs.toArray.zip vs.toArray))∧failedOf st'=none∧s'={ s with heap:=g }∧Gd vs.length p∧Up r p vs.length)
   (G:=fun p s'=>s'={ s with heap:=g }∧Gd vs.length p∧Up r p vs.length) rfl (by omega) h64 (fun p st' s' _ b2 b3 b4=>⟨p,b2,b3,b4.1,b4.2.1,b4.2.2⟩)
   (sort_wp (r:=r) (fun i j C hi hj q=>hc _ i j C k2 hi hj q) (by omega) fun p g1 u1=>⟨rfl,g1,u1⟩)) ?_ fun _ _ e=>e)
  rintro ⟨⟨⟩,st'⟩ s' ⟨p,har,hf,rfl,g1,u1⟩
  have hout:=kat_snds (ks:=vs) (vs:=vs) rfl har
  have ol:(outOf vs p).length=vs.length:=gd_len g1
  dsimp only
  rw[hout]
  refine wpAny_bind (seqEpoch_at e2 rfl ?_)
  refine wpAny_bind (listUpdate_at e2 rfl ?_ (Nat.zero_le _) (by show (outOf vs p).toArray.size≤_;rw[List.size_toArray];omega))
  rw[hf]
  simp only [bne_self_eq_false,Bool.false_eq_true,if_false]
  exact wpAny_pure (fin p g1 u1)
/-- sorted(l) -/
theorem sorted_by {l:Addr} {vs:List Value} {Q:Value->Shared->Prop} {r:Nat->Int} {κ:SortKind} (hl:s.heap.IsList l vs.toArray) (h64:vs.length < 64)
  (hk:2≤vs.length->∀ (A':Around) (s':Shared) (Q:SortKind->Shared->Prop),(∀ b o,s.heap.get? b=some o->s'.heap.get? b=some o)->Q κ s'->wpAny (model prog w) A' (keyKind' vs.toArray) Q (fun _ _=>False) s')
  (hc:∀ (A':Around) (s':Shared) (i j:Nat) (C:Bool->Shared->Prop),(∀ b o,s.heap.get? b=some o->s'.heap.get? b=some o)->i < vs.length->j < vs.length->C (decide (r i < r j)) s'->kas_ask prog w A' κ vs i j C s')
  (h:∀ (p:Array Nat) (h':Heap) (c:Nat),Gd vs.length p->Up r p vs.length->(∀ b o,s.heap.get? b=some o->h'.get? b=some o)->h'.get? (s.heap.objs.size + 1)=some (seqObj "list" (outOf vs p).toArray c)->Q (.ref (s.heap.objs.size + 1)) { s with heap:=h' }) :
  wpAny (model prog w) A (call (.builtin "sorted") [.ref l]) Q E s:=by
 have line:(64:Nat)≤sizeLine:=by rw[sizeLine_eq];decide
 refine Calls.call_function_entry kind_sorted plain_sorted entry_sorted (args_sorted1 _) ?_
 unfold Builtin.«sorted»
 refine wpAny_bind (m:=checkCount "sorted" 1 1 _) (wpAny_pure (wpAny_bind (collect_list hl (wpAny_bind (wpAny_newList ?_ (by omega))) (by omega))))
 generalize hg:(s.heap.push (seqObj "list" #[] 0)).update s.heap.objs.size (Obj.mapSeq (·++vs.toArray))=g
 have sz:g.objs.size=s.heap.objs.size + 1:=by rw[← hg,Heap.size_update,size_push']
 have k1:∀ b o,s.heap.get? b=some o->g.get? b=some o:=fun b o q=>by
  rw[← hg]
  exact (Heap.get?_update_other _ _ (Ne.symm (Nat.ne_of_lt (Heap.lt_size q)))).trans (Heap.get?_push_of_some _ q)
 have hoL:(g.push { cls:=.type "list",data:=.seq vs.toArray }).get? (s.heap.objs.size + 1)=some (seqObj "list" vs.toArray 0):=by rw[← sz];exact Heap.get?_push_size _ rfl
 have k2:∀ b o,s.heap.get? b=some o->(g.push { cls:=.type "list",data:=.seq vs.toArray }).get? b=some o:=fun b o q=>Heap.get?_push_of_some _ (k1 b o q)
 have ne:∀ b o,s.heap.get? b=some o->b≠s.heap.objs.size + 1:=fun b o q=>Nat.ne_of_lt (Nat.lt_succ_of_lt (Heap.lt_size q))
 show wpAny _ _ _ _ _ { s with heap:=g.push { cls:=.type "list",data:=.seq vs.toArray } }
 rw[sz]
 refine wpAny_bind (wpAny_holding (wpAny_call_entry slot_list_sort ⟨_,hoL,rfl⟩ entry_list_sort ?_ (args_list_sort _)))
 refine lsort (s:={ s with heap:=g.push { cls:=.type "list",data:=.seq vs.toArray } }) (r:=r) (κ:=κ) hoL h64 (fun h2 s' Q' st q=>hk h2 _ s' Q' (fun b o e=>st b o (ne b o e) (k2 b o e)) q)
  (fun s' i j C st hi hj q=>hc _ s' i j C (fun b o e=>st b o (ne b o e) (k2 b o e)) hi hj q) fun p h' c g1 u1 st e=>⟨_,rfl,?_⟩
 exact wpAny_pure ⟨_,rfl,h p h' c g1 u1 (fun b o e=>st b o (ne b o e) (k2 b o e)) e⟩
def lexI:List Int->List Int->Bool
 | [],[]=>false
 | [],_::_=>true
 | _::_,[]=>false
 | x::xs,y::ys=>if x=y then lexI xs ys else decide (x < y)
theorem lexI_irr:∀ xs,lexI xs xs=false
 | []=>rfl
 | x::xs=>by show (if x=x then lexI xs xs else _)=false;rw[if_pos rfl];exact lexI_irr xs
theorem lexI_trans:∀ xs ys zs,lexI xs ys=true->lexI ys zs=true->lexI xs zs=true
 | [],[],_,h,_=>by cases h
 | [],_::_,[],_,h=>by cases h
 | [],_::_,_::_,_,_=>rfl
 | _::_,[],_,h,_=>by cases h
 | _::_,_::_,[],_,h=>by cases h
 | x::xs,y::ys,z::zs,h1,h2=>by
  simp only [lexI] at h1 h2 ⊢
  by_cases e1:x=y
  ·subst e1
   rw[if_pos rfl] at h1
   by_cases e2:x=z
   ·rw[if_pos e2] at h2 ⊢;exact lexI_trans xs ys zs h1 h2
   ·rw[if_neg e2] at h2 ⊢;exact h2
  ·rw[if_neg e1] at h1
   have l1:x < y:=of_decide_eq_true h1
   by_cases e2:y=z
   ·subst e2
    rw[if_neg e1];exact h1
   ·rw[if_neg e2] at h2
    have l2:y < z:=of_decide_eq_true h2
    rw[if_neg (by omega)]
    exact decide_eq_true (by omega)
theorem lexI_neg:∀ xs ys zs,lexI xs zs=true->lexI xs ys=true∨lexI ys zs=true
 | [],[],_,h=>.inr h
 | [],_::_,_,_=>.inl rfl
 | _::_,_,[],h=>by cases h
 | _::_,[],_::_,_=>.inr rfl
 | x::xs,y::ys,z::zs,h=>by
  simp only [lexI] at h ⊢
  by_cases e:x=z
  ·subst e
   rw[if_pos rfl] at h
   by_cases e1:x=y
   ·subst e1
    rw[if_pos rfl,if_pos rfl];exact lexI_neg xs ys zs h
   ·rw[if_neg e1,if_neg (Ne.symm e1)]
    by_cases l:x < y
    ·exact .inl (decide_eq_true l)
    ·exact .inr (decide_eq_true (by omega))
  ·rw[if_neg e] at h
   have l:x < z:=of_decide_eq_true h
   by_cases e1:x=y
   ·subst e1
    rw[if_neg e];exact .inr h
   ·by_cases e2:y=z
    ·subst e2
     rw[if_neg e1];exact .inl h
    ·rw[if_neg e1,if_neg e2]
     by_cases l1:x < y
     ·exact .inl (decide_eq_true l1)
     ·exact .inr (decide_eq_true (by omega))
/-- the values of a list that are tuples of ints -/
def TupI (h:Heap) (v:Value) (k:List Int):Prop:=∃ a o its n,v=.ref a∧h.get? a=some o∧o.cls=.type "tuple"∧o.data=.seq its n∧IntsAre its.toList k
theorem TupI.to {h h':Heap} {v:Value} {k:List Int} (t:TupI h v k) (e:∀ b o,h.get? b=some o->h'.get? b=some o):TupI h' v k :=
 let ⟨a,o,its,n,q1,q2,q3⟩:=t
 ⟨a,o,its,n,q1,e _ _ q2,q3⟩
theorem katI {C:Bool->Shared->Prop}:∀ {xs ys:List Value} {k k':List Int} (i:Nat),IntsAre xs k->IntsAre ys k'->C (lexI k k') s->KatLex prog w A true (decide (k.length < k'.length)) C (xs.zip ys) i s
 | _,_,_,_,i,.nil,.nil,h=>h
 | _,_,_,_,i,.nil,.cons c u h',h=>by
  rw[List.zip_nil_left]
  refine kat_nil ?_
  rw[decide_eq_true (by simp)]
  exact h
 | _,_,_,_,i,.cons a t h',.nil,h=>by
  rw[List.zip_nil_right]
  refine kat_nil ?_
  rw[decide_eq_false (by simp)]
  exact h
 | _,_,_,_,i,.cons a t (vs:=xs) (ns:=k) h1,.cons c u (vs:=ys) (ns:=k') h2,h=>by
  rw[List.zip_cons_cons]
  refine kat_cons (wpAny_eqBool_int ?_)
  have ef:decide ((a::k).length < (c::k').length)=decide (k.length < k'.length):=by simp
  have hh:C (if a=c then lexI k k' else decide (a < c)) s:=h
  rw[ef]
  by_cases e:a=c
  ·rw[if_pos e] at hh
   rw[show (a == c)=true by simpa using e]
   exact kat_yes (katI (i + 1) h1 h2 hh)
  ·rw[if_neg e] at hh
   rw[show (a == c)=false by simpa using e]
   refine kat_no ?_
   cases hi:(true && i == 0) with
   | true=>exact oneLt_int hh
   | false=>exact kat_one _ _ (lt_int hh)
theorem tup_ask {vs:List Value} {ks:List (List Int)} (hk:Paired (TupI s.heap) vs ks) {i j:Nat} {C:Bool->Shared->Prop} (hi:i < vs.length) (hj:j < vs.length) (h:C (lexI (ks.getD i []) (ks.getD j [])) s):kas_ask prog w A (tuples' true) vs i j C s:=by
 have at_:∀ {vs:List Value} {ks:List (List Int)} (i:Nat),Paired (TupI s.heap) vs ks->i < vs.length->TupI s.heap (vs.getD i Value.none) (ks.getD i []):=by
  intro vs ks i p
  induction p generalizing i with
  | nil=>intro h;exact absurd h (by simp)
  | cons r t ih =>
   intro h
   cases i with
   | zero=>exact r
   | succ i=>exact ih i (by simpa using h)
 obtain⟨a,o,its,n,e1,q1,q2,q3,q4⟩:=at_ i hk hi
 obtain⟨a',o',its',n',e1',q1',q2',q3',q4'⟩:=at_ j hk hj
 unfold kas_ask
 rw[e1,e1']
 refine kat_lt q1 q3 q1' q3' ?_
 have l1:its.size=(ks.getD i []).length:=by have:=q4.length;simpa using this
 have l2:its'.size=(ks.getD j []).length:=by have:=q4'.length;simpa using this
 rw[l1,l2]
 exact katI 0 q4 q4' h
theorem tup_kind {vs:List Value} {ks:List (List Int)} (hk:Paired (TupI s.heap) vs ks) (hne:∀ k ∈ ks,k≠[]) (h2:2≤vs.length) {Q:SortKind->Shared->Prop} (h:Q (tuples' true) s):wpAny (model prog w) A (keyKind' vs.toArray) Q E s:=by
 have mk:∀ {vs:List Value} {ks:List (List Int)},Paired (TupI s.heap) vs ks->(∀ k ∈ ks,k≠[])->∃ fs:List Value,KatTups s.heap vs fs∧fs.length=vs.length∧∀ f ∈ fs,∃ n t,f=.int n t:=by
  intro vs ks p
  induction p with
  | nil=>exact fun _=>⟨[],.nil,rfl,fun f hf=>nomatch hf⟩
  | cons r t ih =>
   intro hn
   obtain⟨fs,g1,g2,g3⟩:=ih fun k hk=>hn k (List.mem_cons_of_mem _ hk)
   obtain⟨a,o,its,n,e1,q1,q2,q3,q4⟩:=r
   have hne:=hn _ List.mem_cons_self
   subst e1
   cases hz:its.toList with
   | nil=>rw[hz] at q4;cases q4;exact absurd rfl hne
   | cons v r =>
    rw[hz] at q4
    obtain⟨m,tk,ev⟩:=q4.all v List.mem_cons_self
    refine⟨v::fs,.cons q1 q2 q3 ?_ g1,by simp [g2],fun f hf=>?_⟩
    ·rw[← Array.getElem?_toList,hz];rfl
    ·rcases List.mem_cons.mp hf with e | hf
     ·exact⟨m,tk,e.trans ev⟩
     ·exact g3 f hf
 obtain⟨fs,g1,g2,g3⟩:=mk hk hne
 refine kat_kind (T:=.type "int") g1 (by omega) (fun v hv=>?_) (by decide +kernel) h
 obtain⟨m,tk,rfl⟩:=g3 v hv
 exact Looks.of_pure rfl
theorem int_ask {vs:List Value} {ns:List Int} (hk:IntsAre vs ns) {i j:Nat} {C:Bool->Shared->Prop} (hi:i < vs.length) (hj:j < vs.length) (h:C (decide (ns.getD i 0 < ns.getD j 0)) s):kas_ask prog w A oneType' vs i j C s:=by
 have at_:∀ {vs:List Value} {ns:List Int} (i:Nat),IntsAre vs ns->i < vs.length->∃ t,vs.getD i Value.none=.int (ns.getD i 0) t:=by
  intro vs ns i p
  induction p generalizing i with
  | nil=>intro h;exact absurd h (by simp)
  | cons n t r ih =>
   intro h
   cases i with
   | zero=>exact⟨t,rfl⟩
   | succ i=>exact ih i (by simpa using h)
 obtain⟨t,e1⟩:=at_ i hk hi
 obtain⟨u,e2⟩:=at_ j hk hj
 unfold kas_ask
 rw[e1,e2]
 exact kat_lt_int h
theorem int_kind {vs:List Value} {ns:List Int} (hk:IntsAre vs ns) (h2:2≤vs.length) {Q:SortKind->Shared->Prop} (h:Q oneType' s):wpAny (model prog w) A (keyKind' vs.toArray) Q E s:=by
 refine kas_kind (T:=.type "int") h2 (fun v hv=>?_) (by decide +kernel) (by decide +kernel) h
 obtain⟨m,tk,rfl⟩:=hk.all v hv
 exact Looks.of_pure rfl
end
end Srt
namespace Z3
open PySem
section
variable {prog:Program} {w:World} {A:Around} {E:Value->Shared->Prop} {s:Shared}
/-- a sequence (t: a tuple, else a list) and an iterator over it -/
def SqAt (t:Bool) (h:Heap) (l:Addr) (xs:Array Value):Prop:=if t=true then h.IsTuple l xs else h.IsList l xs
def ItAt (t:Bool) (h:Heap) (it l:Addr) (i:Nat):Prop:=if t=true then h.IsTupleIter it l i else h.IsListIter it l i
def itObj (t:Bool) (l:Addr):Obj:=if t=true then { cls:=.type "tuple_iterator",data:=.fields #[.ref l,.int 0 0] } else { cls:=.type "list_iterator",data:=.fields #[.ref l,.int 0 0] }
theorem ItAt.to {t:Bool} {h h':Heap} {it l:Addr} {i:Nat} (x:ItAt t h it l i) (e:∀ o,h.get? it=some o->h'.get? it=some o):ItAt t h' it l i:=by
 cases t with
 | true=>exact Heap.IsTupleIter.at (show h.IsTupleIter it l i from x) e
 | false=>exact Heap.IsListIter.at (show h.IsListIter it l i from x) e
theorem ItAt.obj {t:Bool} {h:Heap} {it l:Addr} {i:Nat} (x:ItAt t h it l i):∃ o n,h.get? it=some o∧o.cls=.type n∧o.data=.fields #[.ref l,.int i 0]:=by
 cases t with
 | true=>obtain⟨o,a,b,c⟩:=(show h.IsTupleIter it l i from x);exact⟨o,_,a,b,c⟩
 | false=>obtain⟨o,a,b,c⟩:=(show h.IsListIter it l i from x);exact⟨o,_,a,b,c⟩
theorem ItAt.new {t:Bool} {h:Heap} {l:Addr}:ItAt t (h.push (itObj t l)) h.objs.size l 0:=by
 cases t with
 | true=>exact⟨_,Heap.get?_push_size _ rfl,rfl,rfl⟩
 | false=>exact⟨_,Heap.get?_push_size _ rfl,rfl,rfl⟩
theorem iter_at {t:Bool} {l:Addr} {xs:Array Value} {Q:Value->Shared->Prop} (hl:SqAt t s.heap l xs) (h:Q (.ref s.heap.objs.size) { s with heap:=s.heap.push (itObj t l) }):wpAny (model prog w) A (pyIter (.ref l)) Q E s:=by
 cases t with
 | true=>exact wpAny_pyIter_tuple hl h
 | false=>exact wpAny_pyIter_list hl h
theorem draw_tup {it l:Addr} {i:Nat} {xs:Array Value} {x:Value} {Q:Value->Shared->Prop} (hi:s.heap.IsTupleIter it l i) (hl:s.heap.IsTuple l xs) (hx:xs[i]?=some x)
  (h:∀ h',h'.IsTupleIter it l (i + 1)->Heap.SameBut it s.heap h'->Q x { s with heap:=h' }):wpAny (model prog w) A (Builtin.SmallTypes.nextOf (.ref it)) Q E s:=by
 obtain⟨o1,q1,q2,q3⟩:=id hi
 obtain⟨o2,q4,_,n2,q5⟩:=hl
 unfold Builtin.SmallTypes.nextOf
 refine wpAny_bind (wpAny_callSpecial?_slot (name:=Str.ofString "__next__") hi.typeIs F.slot_tuple_iterator_next (wpAny_call_entry F.slot_tuple_iterator_next hi.typeIs F.entry_tuple_iterator_next ?_ (F.args_tuple_iterator_next_1 _)))
 show wpAny _ _ (field (.ref it) 0 >>= _) _ _ s
 refine wpAny_bind (wpAny_field q1 q3 (x:=.ref l) rfl ?_)
 show wpAny _ _ (if (Value.ref l == Value.none)=true then _ else _) _ _ s
 rw[if_neg (show ¬ ((Value.ref l == Value.none)=true) from Bool.false_ne_true)]
 show wpAny _ _ (field (.ref it) 1 >>= _) _ _ s
 refine wpAny_bind (wpAny_field q1 q3 (x:=.int i 0) rfl ?_)
 show wpAny _ _ (seqItems? (.ref l) >>= _) _ _ s
 refine wpAny_bind (wpAny_seqItems q4 q5 ?_)
 simp only [Int.toNat_natCast,hx]
 refine wpAny_bind (wpAny_setField q1 q3 (by simp) (wpAny_pure ⟨x,rfl,wpAny_pure (h _ ?_ (Heap.SameBut.update ..))⟩))
 exact⟨_,Heap.get?_update_self _ q1 (Obj.isFreed_of_fields (Obj.data_mapFields q3 _)),(Obj.cls_mapFields ..).trans q2,by rw[Obj.data_mapFields q3];simp [rawInt]⟩
theorem stop_tup {it l:Addr} {i:Nat} {xs:Array Value} {Q:Value->Shared->Prop} (hh:A.handled=none) (hi:s.heap.IsTupleIter it l i) (hl:s.heap.IsTuple l xs) (hx:xs[i]?=none)
  (h:∀ h' e,Heap.ExtBut it s.heap h'->(∃ o,h'.get? e=some o∧o.cls=.type "StopIteration")->E (.ref e) { s with heap:=h' }):wpAny (model prog w) A (Builtin.SmallTypes.nextOf (.ref it)) Q E s:=by
 obtain⟨o1,q1,q2,q3⟩:=id hi
 obtain⟨o2,q4,_,n2,q5⟩:=hl
 unfold Builtin.SmallTypes.nextOf
 refine wpAny_bind (wpAny_callSpecial?_slot (name:=Str.ofString "__next__") hi.typeIs F.slot_tuple_iterator_next (wpAny_call_entry F.slot_tuple_iterator_next hi.typeIs F.entry_tuple_iterator_next ?_ (F.args_tuple_iterator_next_1 _)))
 show wpAny _ _ (field (.ref it) 0 >>= _) _ _ s
 refine wpAny_bind (wpAny_field q1 q3 (x:=.ref l) rfl ?_)
 show wpAny _ _ (if (Value.ref l == Value.none)=true then _ else _) _ _ s
 rw[if_neg (show ¬ ((Value.ref l == Value.none)=true) from Bool.false_ne_true)]
 show wpAny _ _ (field (.ref it) 1 >>= _) _ _ s
 refine wpAny_bind (wpAny_field q1 q3 (x:=.int i 0) rfl ?_)
 show wpAny _ _ (seqItems? (.ref l) >>= _) _ _ s
 refine wpAny_bind (wpAny_seqItems q4 q5 ?_)
 simp only [Int.toNat_natCast,hx]
 refine wpAny_bind (wpAny_rule (wpAny_bind (wpAny_setField q1 q3 (by simp) ?_)))
 show wpAny _ _ (newExc (.type "StopIteration") [] >>= _) _ _ { s with heap:=_ }
 refine wpAny_bind (by
  simp only [newExc,newTuple]
  refine wpAny_bind (wpAny_newObj_type ?_ (by size_fits))
  refine wpAny_bind (m:=firstArgMember _ _) (wpAny_of_eq (a:=Value.none) (by first | rfl | (simp only [firstArgMember];rfl)) ?_)
  refine wpAny_newObj_type ?_ (by size_fits)
  simp only [raiseNew]
  refine wpAny_bind (wpAny_handled ?_)
  first | rw[show A.in1.handled=none from hh] | rw[hh]
  exact wpAny_bind (wpAny_pure (wpAny_throw (h _ _ (((Heap.SameBut.update ..).extBut.push _).push _) ⟨_,Heap.get?_push_size _ rfl,rfl⟩))))
theorem draw_at {t:Bool} {it l:Addr} {i:Nat} {xs:Array Value} {x:Value} {Q:Value->Shared->Prop} (hi:ItAt t s.heap it l i) (hl:SqAt t s.heap l xs) (hx:xs[i]?=some x)
  (h:∀ h',ItAt t h' it l (i + 1)->Heap.SameBut it s.heap h'->Q x { s with heap:=h' }):wpAny (model prog w) A (Builtin.SmallTypes.nextOf (.ref it)) Q E s:=by
 cases t with
 | true=>exact draw_tup hi hl hx h
 | false=>exact wpAny_nextOf_list_item hi hl hx h
theorem stop_at {t:Bool} {it l:Addr} {i:Nat} {xs:Array Value} {Q:Value->Shared->Prop} (hh:A.handled=none) (hi:ItAt t s.heap it l i) (hl:SqAt t s.heap l xs) (hx:xs[i]?=none)
  (h:∀ h' e,Heap.ExtBut it s.heap h'->(∃ o,h'.get? e=some o∧o.cls=.type "StopIteration")->E (.ref e) { s with heap:=h' }):wpAny (model prog w) A (Builtin.SmallTypes.nextOf (.ref it)) Q E s:=by
 cases t with
 | true=>exact stop_tup hh hi hl hx h
 | false=>exact wpAny_nextOf_list_end hh hi hl hx h
end
end Z3
namespace U3
open PySem PyProof.Rows
section
variable {prog:Program} {w:World} {A:Around} {E:Value->Shared->Prop} {s:Shared}
theorem draw_lst {it l:Addr} {xs:Array Value} (hne:l≠it):∀ (n i:Nat) (s:Shared) (Q:List Value->Shared->Prop),s.heap.IsListIter it l i->s.heap.IsList l xs->i + n≤xs.size ->
  (∀ h',h'.IsListIter it l (i + n)->Heap.SameBut it s.heap h'->Q ((xs.toList.drop i).take n) { s with heap:=h' })->wpAny (model prog w) A (draw (.ref it) n) Q E s
 | 0,i,s,Q,hi,_,_,h=>by
  show wpAny _ _ (pure []) Q E s
  exact wpAny_pure (by simpa using h s.heap hi (Heap.SameBut.refl ..))
 | n + 1,i,s,Q,hi,hl,hle,h=>by
  have lt:i < xs.size:=by omega
  show wpAny _ _ (pyNext (.ref it) >>= _) Q E s
  refine wpAny_bind (wpAny_pyNext_list_item hi hl (x:=xs[i]) (by simp [lt]) fun g1 i1 e1=>?_)
  refine wpAny_bind (wpAny_holding (draw_lst hne n (i + 1) _ _ i1 (hl.extBut e1.extBut hne) (by omega) fun g2 i2 e2=>wpAny_pure ?_))
  have hd:xs.toList.drop i=xs[i]::xs.toList.drop (i + 1):=by simp [List.drop_eq_getElem_cons,lt]
  have q:=h g2 (by rw[show i + (n + 1)=i + 1 + n by omega];exact i2) (e1.trans e2)
  rw[hd,List.take_succ_cons] at q
  exact q
theorem unpack_lst {l:Addr} {xs:Array Value} {targets:List (Bool × (Value->Sem Unit))} {Q:Unit->Shared->Prop} (hh:A.handled=none) (hl:s.heap.IsList l xs)
  (hn:targets.length=xs.size) (hs:targets.findIdx? (·.1)=none)
  (h:∀ h',Heap.ExtBut s.heap.objs.size s.heap h'->wpAny (model prog w) A (assignInOrder (targets.map (·.2)) xs.toList) Q E { s with heap:=h' }) :
  wpAny (model prog w) A (unpack (.ref l) targets) Q E s:=by
 have ne:l≠s.heap.objs.size:=by obtain⟨o,ho,_⟩:=hl;exact Nat.ne_of_lt (Heap.lt_size ho)
 unfold unpack
 rw[hn,hs]
 refine wpAny_bind (wpAny_holding ?_)
 unfold unpackItems
 refine wpAny_bind ?_
 unfold notIterableAtAll
 refine wpAny_bind (wpAny_specialOf hl.typeIs slot_list_iter.lookup ?_)
 refine wpAny_pure ?_
 simp only [Bool.false_eq_true,if_false]
 refine wpAny_bind (wpAny_holding (wpAny_pyIter_list hl ?_))
 refine wpAny_bind (wpAny_holding (draw_lst ne xs.size 0 _ _ ⟨_,Heap.get?_push_size _ rfl,rfl,rfl⟩ (hl.push _) (by omega) fun g1 i1 e1=>?_))
 have all:List.take xs.size (List.drop 0 xs.toList)=xs.toList:=by
  rw[List.drop_zero];exact List.take_of_length_le (by simp)
 rw[all,if_neg (by simp)]
 have l1:g1.IsList l xs:=(hl.push _).extBut e1.extBut ne
 refine wpAny_bind (wpAny_holding (wpAny_pyNext_list_end hh i1 l1 (by simp) fun g2 e2=>?_))
 simp only [Option.isSome_none,Bool.false_eq_true,if_false]
 exact wpAny_pure (h g2 fun b o hb e=>e2 b o hb (e1.extBut b o hb (Heap.get?_push_of_some _ e)))
theorem assign_tuple_lst {env:Env} {elts:List Expr} {x1} {pos:Pos} {l:Addr} {xs:Array Value} {Q:Unit->Shared->Prop} (hh:A.handled=none) (hl:s.heap.IsList l xs)
  (hn:(assignEach elts env).length=xs.size) (hs:(assignEach elts env).findIdx? (·.1)=none)
  (h:∀ h',Heap.ExtBut s.heap.objs.size s.heap h'->wpAny (model prog w) A (assignInOrder ((assignEach elts env).map (·.2)) xs.toList) Q E { s with heap:=h' }) :
  wpAny (model prog w) A (assign (.Tuple elts x1 pos) env (.ref l)) Q E s:=by
 rw[assign_Tuple]
 exact wpAny_bind (wpAny_standAt (unpack_lst hh hl hn hs h))
end
end U3
namespace L3
open PySem PySem.Spec PyProof.Rows L2
abbrev Fls:Value->Shared->Prop:=fun _ _=>False
abbrev testsOf (ifs:List Expr) (env:Env):Sem Bool :=
 forIn ifs true fun c r=>if r=true then do let ok ← isTrue c env (eval c env);pure (ForInStep.yield ok) else pure (ForInStep.yield r)
section
variable {prog:Program} {w:World} {A:Around} {R:Result->Shared->Prop} {s:Shared}
/-- a list comprehension of one clause, turn by turn; nothing raises in it -/
theorem comp_turns {elt tg iter:Expr} {ifs:List Expr} {scope:Scope} {pos:Pos} {it acc:Value} {env:Env} (W:Nat->Shared->Prop)
  (step:∀ n s,W n s->wpAny (model prog w) A (pyNext it) (fun r s1=>(r=none∧R (.ok .next) s1)∨∃ v,r=some v ∧
   wpAny (model prog w) A (letOwnedTupleGo tg it v) (fun _ s2=>wpAny (model prog w) A (assign tg env v) (fun _ s3 =>
    wpAny (model prog w) A (testsOf ifs env) (fun ok s4=>if ok=true then wpAny (model prog w) A (eval elt env) (fun x s5 =>
     wpAny (model prog w) A (call (.builtin "list.append") [acc,x]) (fun _ s6=>∃ m,m < n∧W m s6) Fls s5) Fls s4 else ∃ m,m < n∧W m s4) Fls s3) Fls s2) Fls s1) Fls s)
  (n:Nat) (h:W n s):codeAny (model prog w) A (.compLoop (.ListComp elt [⟨tg,iter,ifs,0⟩] scope pos) 0 it acc env) R s:=by
 refine codeAny_loop rfl W (fun k s1 hk=>?_) n h
 show wpAny _ A ((compTurn (.ListComp elt [⟨tg,iter,ifs,0⟩] scope pos) 0 it acc env).onRaise (fun x=>do noteFrame x env;theTreesLotGoes x)) _ _ s1
 refine wpAny_noted ?_
 rw[compTurn_list]
 refine wpAny_bind (wpAny_standAt (wpAny_bind (wpAny_mono (step k s1 hk) (fun r s2 h2=>?_) fun _ _ z=>z.elim)))
 rcases h2 with ⟨rfl,h2⟩ | ⟨v,rfl,h2⟩
 ·exact wpAny_pure h2
 ·refine wpAny_bind (wpAny_mono h2 (fun _ s3 h3=>?_) fun _ _ z=>z.elim)
  refine wpAny_bind (wpAny_mono h3 (fun _ s4 h4=>?_) fun _ _ z=>z.elim)
  refine wpAny_bind (wpAny_mono h4 (fun ok s5 h5=>?_) fun _ _ z=>z.elim)
  cases ok with
  | false=>exact wpAny_pure ⟨rfl,h5⟩
  | true =>
   refine wpAny_bind (wpAny_bind (wpAny_mono h5 (fun x s6 h6=>?_) fun _ _ z=>z.elim))
   refine wpAny_bind (wpAny_mono h6 (fun _ s7 h7=>?_) fun _ _ z=>z.elim)
   exact wpAny_pure (wpAny_pure ⟨rfl,h7⟩)
end
def clOf (cells:List (Str × Addr)):List (Str × NameKind)->List (Str × Addr)->List (Str × Addr)
 | [],cs=>cs
 | (n,k)::r,cs=>clOf cells r (if k=.free then (n,(cells.lookup n).getD 0)::cs else cs)
theorem clOf_mem {cells:List (Str × Addr)}:∀ {names:List (Str × NameKind)} {cs:List (Str × Addr)} {p:Str × Addr},p ∈ clOf cells names cs->p ∈ cs∨((p.1,NameKind.free) ∈ names∧p.2=(cells.lookup p.1).getD 0)
 | [],_,_,h=>.inl h
 | (n,k)::r,cs,p,h=>by
  rcases clOf_mem (names:=r) h with q | ⟨q1,q2⟩
  ·by_cases hk:k=.free
   ·rw[if_pos hk] at q
    rcases List.mem_cons.mp q with e | q
    ·subst e;subst hk;exact .inr ⟨List.mem_cons_self,rfl⟩
    ·exact .inl q
   ·rw[if_neg hk] at q;exact .inl q
  ·exact .inr ⟨List.mem_cons_of_mem _ q1,q2⟩
theorem clOf_has {cells:List (Str × Addr)}:∀ {names:List (Str × NameKind)} {cs:List (Str × Addr)} {x:Str},((x,NameKind.free) ∈ names∨∃ c,(x,c) ∈ cs)->∃ c,(x,c) ∈ clOf cells names cs
 | [],_,_,h=>h.elim (fun z=>nomatch z) id
 | (n,k)::r,cs,x,h=>by
  refine clOf_has (names:=r) ?_
  rcases h with h | ⟨c,h⟩
  ·rcases List.mem_cons.mp h with e | h
   ·cases e
    exact .inr ⟨_,by rw[if_pos rfl];exact List.mem_cons_self⟩
   ·exact .inl h
  ·refine .inr ⟨c,?_⟩
   split
   ·exact List.mem_cons_of_mem _ h
   ·exact h
theorem closure_go {env:Env}:∀ (names:List (Str × NameKind)) (cs:List (Str × Addr)),(∀ y ∈ names,y.2=.free->∃ c,env.cells.lookup y.1=some c) ->
  (forIn names cs fun x r=>(match x with | (n,k)=>if (k == NameKind.free)=true then do let c ← cellOf env n;pure (ForInStep.yield ((n,c)::r)) else pure (ForInStep.yield r):Sem (ForInStep (List (Str × Addr)))))=pure (clOf env.cells names cs)
 | [],cs,_=>rfl
 | (n,k)::r,cs,h=>by
  rw[List.forIn_cons]
  by_cases hk:k=.free
  ·subst hk
   obtain⟨c,hc⟩:=h (n,.free) List.mem_cons_self rfl
   have e1:cellOf env n=pure c:=by unfold cellOf;rw[hc]
   have e2:clOf env.cells ((n,NameKind.free)::r) cs=clOf env.cells r ((n,c)::cs):=by
    show clOf env.cells r (if NameKind.free=NameKind.free then (n,(env.cells.lookup n).getD 0)::cs else cs)=_
    rw[if_pos rfl,hc]
    rfl
   rw[e2,← closure_go r ((n,c)::cs) fun y hy=>h y (List.mem_cons_of_mem _ hy)]
   simp only [beq_self_eq_true,if_true,e1,pure_bind]
  ·have e2:clOf env.cells ((n,k)::r) cs=clOf env.cells r cs:=by
    show clOf env.cells r (if k=NameKind.free then _ else cs)=_
    rw[if_neg hk]
   have hb:(k == NameKind.free)=false:=by simpa using hk
   rw[e2,← closure_go r cs fun y hy=>h y (List.mem_cons_of_mem _ hy)]
   simp only [hb,Bool.false_eq_true,if_false,pure_bind]
theorem closure_is {scope:Scope} {env:Env} (h:∀ y ∈ scope.names,y.2=.free->∃ c,env.cells.lookup y.1=some c):closureFor scope env=pure (clOf env.cells scope.names []):=by
 have q:=closure_go (env:=env) scope.names [] h
 unfold closureFor
 refine Eq.trans ?_ q
 first | rfl | simp
theorem look_relabel_free {env:Env}:∀ {names:List (Str × NameKind)} {x:Str},names.lookup x=some .free ->
  (names.map fun (n,k)=>if (k == NameKind.free && env.scope.kind == .function && env.kindOf n == some .cell) then (n,NameKind.cell) else (n,k)).lookup x=some .cell ∨
  (names.map fun (n,k)=>if (k == NameKind.free && env.scope.kind == .function && env.kindOf n == some .cell) then (n,NameKind.cell) else (n,k)).lookup x=some .free
 | [],_,h=>by simp at h
 | (n,k)::r,x,h=>by
  have ih:=@look_relabel_free env r x
  rw[List.map_cons]
  by_cases hx:(x == n)=true
  ·rw[List.lookup_cons,hx] at h
   have h':k=.free:=by simpa using h
   subst h'
   dsimp only
   split
   ·left;rw[List.lookup_cons,hx]
   ·right;rw[List.lookup_cons,hx]
  ·have hx':(x == n)=false:=by simpa using hx
   rw[List.lookup_cons,hx'] at h
   dsimp only
   split
   ·rw[List.lookup_cons,hx'];exact ih h
   ·rw[List.lookup_cons,hx'];exact ih h
theorem of_relabel {env:Env}:∀ {names:List (Str × NameKind)} {x:Str},(∀ y ∈ names,y.2≠.cell) ->
  ((names.map fun (n,k)=>if (k == NameKind.free && env.scope.kind == .function && env.kindOf n == some .cell) then (n,NameKind.cell) else (n,k)).lookup x=some .cell ∨
  (names.map fun (n,k)=>if (k == NameKind.free && env.scope.kind == .function && env.kindOf n == some .cell) then (n,NameKind.cell) else (n,k)).lookup x=some .free)->(x,NameKind.free) ∈ names
 | [],_,_,h=>by simp at h
 | (n,k)::r,x,hc,h=>by
  rw[List.map_cons] at h
  by_cases hx:(x == n)=true
  ·have e:x=n:=by simpa using hx
   subst e
   dsimp only at h
   by_cases hk:(k == NameKind.free && env.scope.kind == .function && env.kindOf x == some .cell)=true
   ·rw[if_pos hk] at h
    have:k=.free:=by
     simp only [Bool.and_eq_true] at hk
     simpa using hk.1.1
    subst this
    exact List.mem_cons_self
   ·rw[if_neg hk,List.lookup_cons,hx] at h
    rcases h with h | h
    ·exact absurd (by simpa using h) (hc (x,k) List.mem_cons_self)
    ·have:k=.free:=by simpa using h
     subst this
     exact List.mem_cons_self
  ·have hx':(x == n)=false:=by simpa using hx
   refine List.mem_cons_of_mem _ (of_relabel (env:=env) (fun y hy=>hc y (List.mem_cons_of_mem _ hy)) ?_)
   dsimp only at h
   split at h
   ·rw[List.lookup_cons,hx'] at h;exact h
   ·rw[List.lookup_cons,hx'] at h;exact h
/-- what is looked at of the two scopes: closed, for decide -/
def compOk (N:List Str) (sc0 scope:Scope) (fr:List Str) (js:List Nat):Bool :=
 decide (scope.kind=.function) && (scope.names.all fun y=>decide (y.2≠.cell) && (decide (y.2≠.free) || decide (sc0.names.lookup y.1=some .cell) || decide (sc0.names.lookup y.1=some .free)) &&
  (decide (y.2≠.local) || decide (scope.names.lookup y.1=some .local))) && decide (fr.length=js.length) &&
 ((fr.zip js).all fun p=>decide (N[p.2]?=some p.1) && decide (scope.names.lookup p.1=some .free) && (decide (sc0.names.lookup p.1=some .cell) || decide (sc0.names.lookup p.1=some .free)))
/-- the context of the block -/
def cxComp (X:Cx) (own fr:List Str) (scope:Scope) (fp:List Addr) (pins:List (Addr × Obj)) (s3:Shared) (H3:Hp):Cx :=
 { X with N:=own++fr,s₀:=s3,H₀:=H3,env:=compEnvC scope (clOf X.env.cells scope.names []) s3.heap.objs.size X.env,outer:=X.stack,stack:=X.stack,ex:=fp,fn:=fun _=>false,pn:=X.pn++pins,xe:=Fls }
/-- the tests of a clause -/
def PTs (X:Cx) (ifs:List Expr) (t:TT):Prop :=
 ∀ (pins:List (Addr × Obj)) (s:Shared) (σ:L2.St) (H:Hp) (Q:Bool->Hp->Prop),Inv X pins σ H s->t σ H Q->wpAny (model X.prog X.w) X.A (testsOf ifs X.env) (TP X pins σ Q) X.xe s
def tTrue:TT:=fun _ H Q=>Q true H
theorem pts_nil {X:Cx}:PTs X [] tTrue:=fun _ _ _ H _ I h=>wpAny_tests_nil ⟨H,I,h⟩
theorem pts_one {X:Cx} {c:Expr} {t:TT} (h:PT X c t):PTs X [c] t:=fun pins s σ H Q I q=>wpAny_tests_one (h pins s σ H Q I q)
def start3 (own:List Str) (js:List Nat) (σ:L2.St):L2.St:=List.replicate own.length none++js.map fun j=>(σ[j]?).join
/-- the reading: W is the word, by the turn, a measure, what is laid by so far, the names, the heap; D the new list -/
def CompGo (own:List Str) (js:List Nat) (g:TG) (tt:TT) (te:TE) (σ:L2.St) (Q:VK) (J:It) (H1:Hp):Prop:=∀ D,H1 D=none->∃ W:Nat->Nat->List V->L2.St->Hp->Prop,
 (∃ m,W 0 m [] (start3 own js σ) (upd H1 D (.lst [])))∧∀ i m ys σ' H',W i m ys σ' H'->H' D=some (.lst ys) ->
  (J.stop i H'∧Q (.ref D) H')∨(J.go i H'∧∀ x H2,J.yld i H' x H2->g x σ' H2 fun σ3 H3=>tt σ3 H3 fun b H4 =>
   if b=true then te σ3 H4 fun v H5=>H5 D=some (.lst ys)∧ys.length < sizeLine∧∃ m',m' < m∧W (i + 1) m' (ys++[v]) σ3 (upd H5 D (.lst (ys++[v])))
   else H4 D=some (.lst ys)∧∃ m',m' < m∧W (i + 1) m' ys σ3 H4)
def tComp (own:List Str) (js:List Nat) (wi:TI) (g:TG) (tt:TT) (te:TE):TE:=fun σ H Q=>wi σ H fun J H1=>CompGo own js g tt te σ Q J H1
section
variable {X:Cx} {elt tg iter:Expr} {ifs:List Expr} {scope sc0:Scope} {pos:Pos} {own fr N:List Str} {js:List Nat} {wi:TI} {g:TG} {tt:TT} {te:TE}
theorem join_some {σ:L2.St} {js:List Nat} {k:Nat} {v:V} (e:(js.map fun j=>(σ[j]?).join)[k]?=some (some v)):∃ j,js[k]?=some j∧σ[j]?=some (some v):=by
 rw[List.getElem?_map] at e
 cases hj:js[k]? with
 | none=>rw[hj] at e;cases e
 | some j =>
  rw[hj] at e
  refine⟨j,rfl,?_⟩
  have e':(σ[j]?).join=some v:=by simpa using e
  cases hs:σ[j]? with
  | none=>rw[hs] at e';cases e'
  | some o=>rw[hs] at e';exact congrArg some e'
theorem inv_comp {pins:List (Addr × Obj)} {σ:L2.St} {H3:Hp} {s3:Shared} {fp:List Addr} {h4:Heap} {t4:Nat} {m4:Str->Option Value}
  (hN:X.N=N) (hsc:X.env.scope=sc0) (hok:compOk N sc0 scope fr js=true) (I:Inv X pins σ H3 s3) (hf:∀ b ∈ fp,FpOk X pins H3 b) (hlt:∀ b ∈ fp,b < s3.heap.objs.size)
  (k:∀ b o,s3.heap.get? b=some o->h4.get? b=some o) (hns:h4.Ns s3.heap.objs.size m4):Inv (cxComp X own fr scope fp pins s3 H3) [] (start3 own js σ) H3 { s3 with heap:=h4,toks:=t4 }:=by
 subst hN hsc
 unfold compOk at hok
 simp only [Bool.and_eq_true,decide_eq_true_eq,List.all_eq_true] at hok
 obtain⟨⟨⟨hk,hall⟩,hlen⟩,hfr⟩:=hok
 have hfree:∀ y ∈ scope.names,y.2=.free->∃ c,X.env.cells.lookup y.1=some c:=fun y hy e=>by
  have q:=(hall y hy).1.2
  simp only [Bool.or_eq_true,decide_eq_true_eq] at q
  rcases q with (q | q) | q
  ·exact absurd e q
  ·exact I.ok.has y.1 (.inl q)
  ·exact I.ok.has y.1 (.inr q)
 have hcl:∀ x c,(clOf X.env.cells scope.names []).lookup x=some c->X.env.cells.lookup x=some c:=fun x c e=>by
  rcases clOf_mem (PySem.mem_of_lookup e) with z | ⟨z1,z2⟩
  ·exact absurd z (by simp)
  ·obtain⟨c',hc'⟩:=hfree _ z1 rfl
   have hc'':X.env.cells.lookup x=some c':=hc'
   have z2':c=(X.env.cells.lookup x).getD 0:=z2
   rw[hc''] at z2' ⊢
   simp at z2'
   rw[z2']
 have hasC:∀ x,(x,NameKind.free) ∈ scope.names->∃ c,(clOf X.env.cells scope.names []).lookup x=some c:=fun x hx=>by
  obtain⟨c,hc⟩:=clOf_has (cells:=X.env.cells) (cs:=[]) (.inl hx)
  cases q:(clOf X.env.cells scope.names []).lookup x with
  | some c'=>exact⟨c',rfl⟩
  | none =>
   have:∀ (l:List (Str × Addr)),(x,c) ∈ l->l.lookup x≠none:=fun l=>by
    induction l with
    | nil=>intro z;cases z
    | cons p r ih =>
     intro z
     obtain⟨p1,p2⟩:=p
     rw[List.lookup_cons]
     rcases List.mem_cons.mp z with z | z
     ·cases z
      simp
     ·split
      ·simp
      ·exact ih z
   exact absurd q (this _ hc)
 have hcell:∀ y ∈ scope.names,y.2≠.cell:=fun y hy=>(hall y hy).1.1
 have sz:X.base.objs.size≤s3.heap.objs.size:=Nat.le_trans I.ok.bsz I.sz
 refine⟨⟨I.ok.mod,hk,I.ok.glob,I.ok.blt,Nat.le_refl _,fun x y c e1 e2=>I.ok.inj x y c (hcl x c e1) (hcl y c e2),fun x hx=>hasC x (of_relabel hcell hx),fun x c z=>absurd z (by simp [cxComp]),
  I.ok.hd,I.ok.frames,.inl rfl,fun b hb=>⟨Nat.ne_of_lt (hlt b hb),fun x c e=>(hf b hb).2.2.2.2.1 x c (hcl x c e)⟩,I.bs,sz,fun b o e hb=>?_,fun b hb z=>?_,I.stack,I.stkFree⟩,
  rfl,I.bare,Un.kept k,⟨m4,hns,fun i x v e1 e2 e3=>?_⟩,fun x c e=>?_,I.hok.fresh (Nat.le_refl _),fun x c e=>I.freeC x c (hcl x c e),fun p hp=>?_,I.hok.kept k,?_⟩
 ·obtain⟨_,_,_,f3,_⟩:=hf b hb
  rcases f3 with f3 | f3
  ·exact I.ok.noex b o e f3
  ·exact absurd (Nat.lt_of_lt_of_le (Heap.lt_size e) (Nat.le_trans I.ok.bsz f3)) (Nat.lt_irrefl _)
 ·obtain⟨_,f1,f2,_⟩:=hf b hb
  rcases List.mem_cons.mp (I.stkSub b z) with z | z
  ·exact f1 z
  ·exact f2 z
 ·have e2':(List.replicate own.length (none:Option V)++js.map fun j=>(σ[j]?).join)[i]?=some (some v):=e2
  have e1':(own++fr)[i]?=some x:=e1
  by_cases hi:i < own.length
  ·rw[List.getElem?_append_left (by simpa using hi),List.getElem?_replicate,if_pos hi] at e2'
   cases e2'
  ·rw[List.getElem?_append_right (by simpa using hi),List.length_replicate] at e2'
   rw[List.getElem?_append_right (by omega)] at e1'
   obtain⟨j,hj,hv⟩:=join_some e2'
   have hz:(fr.zip js)[i - own.length]?=some (x,j):=by
    rw[List.getElem?_zip_eq_some]
    exact⟨e1',hj⟩
   have q:=hfr _ (List.mem_of_getElem? hz)
   obtain⟨⟨q1,q2⟩,q3⟩:=q
   have q3'':X.env.scope.names.lookup x=some .cell∨X.env.scope.names.lookup x=some .free:=by simpa using q3
   have q3':X.env.kindOf x=some .cell∨X.env.kindOf x=some .free:=q3''
   obtain⟨m,hn,hl⟩:=I.loc
   obtain⟨u,r,l⟩:=hl j x v q1 hv (q3'.elim (fun z=>.inr (.inl z)) fun z=>.inr (.inr z))
   refine⟨u,r,.inr ⟨look_relabel_free q2,?_⟩⟩
   rcases l with ⟨z,_⟩ | ⟨_,c,hc,hcellv⟩
   ·rcases q3' with w | w <;> (rw[z] at w;cases w)
   ·obtain⟨c',hc'⟩:=hasC x (PySem.mem_of_lookup q2)
    have e:=hcl x c' hc'
    rw[hc] at e
    cases e
    obtain⟨o,ho,hd⟩:=hcellv
    exact⟨c,hc',o,k c o ho,hd⟩
 ·obtain⟨v,o,ho,hd⟩:=I.cell x c (hcl x c e)
  exact⟨v,o,k c o ho,hd⟩
 ·have hp':p ∈ X.pn++pins:=by
   have:p ∈ (X.pn++pins)++([]:List (Addr × Obj)):=hp
   simpa using this
  obtain⟨a,b,c,d,f⟩:=I.pin p hp'
  refine⟨k _ _ a,b,Nat.ne_of_lt (Heap.lt_size a),fun z=>?_,f⟩
  rcases List.mem_cons.mp (I.stkSub p.1 z) with z | z
  ·exact c z
  ·exact d z
 ·show (List.replicate own.length (none:Option V)++js.map fun j=>(σ[j]?).join).length=(own++fr).length
  simp [hlen]
theorem comp_core {pins:List (Addr × Obj)} {s:Shared} {σ:L2.St} {H:Hp} {Q:VK} {use:Option (Value->Sem Unit)} {Qo:Value->Shared->Prop} {cpos:Pos}
  (hc:X.calm=true) (hi:PI X tg iter wi) (hg:∀ fp pins s3 H3,PG (cxComp X own fr scope fp pins s3 H3) tg g) (ht:∀ fp pins s3 H3,PTs (cxComp X own fr scope fp pins s3 H3) ifs tt)
  (he:∀ fp pins s3 H3,PE (cxComp X own fr scope fp pins s3 H3) elt te) (hok:compOk N sc0 scope fr js=true) (hN:X.N=N) (hsc:X.env.scope=sc0)
  (hs:∀ x,foldedSetIterable iter X.env x=pure x) (I:Inv X pins σ H s) (h:tComp own js wi g tt te σ H Q)
  (fin:∀ (C D:Addr) (s6:Shared) (H6:Hp) (m6:Str->Option Value),Inv X pins σ H6 s6->FpOk X pins H6 C->s6.heap.Ns C m6->Q (.ref D) H6->compPost (model X.prog X.w) X.A X.xe use Qo (.ref D) C (.ok .next) s6) :
  wpAny (model X.prog X.w) X.A (comprehension (.ListComp elt [⟨tg,iter,ifs,0⟩] scope pos) scope X.env cpos (newList []) false (eval iter X.env) use) Qo X.xe s:=by
 have hok':=hok
 unfold compOk at hok'
 simp only [Bool.and_eq_true,decide_eq_true_eq,List.all_eq_true] at hok'
 obtain⟨⟨⟨hk,hall⟩,hlen⟩,hfr⟩:=hok'
 have hcell:∀ y ∈ scope.names,y.2≠.cell:=fun y hy=>(hall y hy).1.1
 have hloc:∀ y ∈ scope.names,y.2=.local->scope.names.lookup y.1=some .local:=fun y hy e=>by
  have q:=(hall y hy).2
  simp only [Bool.or_eq_true,decide_eq_true_eq] at q
  rcases q with q | q
  ·exact absurd e q
  ·exact q
 have hfree:∀ y ∈ scope.names,y.2=.free->∃ c,X.env.cells.lookup y.1=some c:=fun y hy e=>by
  have q:=(hall y hy).1.2
  simp only [Bool.or_eq_true,decide_eq_true_eq] at q
  rw[← hsc] at q
  rcases q with (q | q) | q
  ·exact absurd e q
  ·exact I.ok.has y.1 (.inl q)
  ·exact I.ok.has y.1 (.inr q)
 refine wpAny_comprehension_free (use:=use) rfl hs (closure_is hfree) hk hloc (thn (hi pins s σ H _ I h) fun v s1 h1=>thn h1 fun itv s2 h2=>?_)
 obtain⟨it,fp,tn,J,H2,e,I2,T,st2,f2,rd⟩:=h2
 subst e
 have hD2:H2 s2.heap.objs.size=none:=I2.fresh
 obtain⟨W,⟨m0,w0⟩,turn⟩:=rd s2.heap.objs.size hD2
  -- the new list
 refine wpAny_newList ?_ (Nat.zero_le _)
 have I3:Inv X pins σ (upd H2 s2.heap.objs.size (.lst [])) { s2 with heap:=s2.heap.push { cls:=.type "list",data:=.seq ([]:List Value).toArray } }:=I2.lnew (t':=s2.toks) .nil (Nat.zero_le _)
 generalize hs3:({ s2 with heap:=s2.heap.push { cls:=.type "list",data:=.seq ([]:List Value).toArray } }:Shared)=s3 at I3
 generalize hD:s2.heap.objs.size=D at *
 have fpl:∀ b ∈ fp,b < D:=fun b hb=>by
  obtain⟨o,ho,_⟩:=T.obj _ _ st2 b hb
  rw[← hD];exact Heap.lt_size ho
 have k23:∀ b o,s2.heap.get? b=some o->s3.heap.get? b=some o:=fun b o e=>by rw[← hs3];exact Heap.get?_push_of_some _ e
 have hD3:s3.heap.objs.size=D + 1:=by rw[← hs3,← hD];exact Heap.size_push ..
 have f3:∀ b ∈ fp,FpOk X pins (upd H2 D (.lst [])) b:=fun b hb=>by
  obtain⟨f0,f⟩:=f2 b hb
  exact⟨by rw[upd_ne (Nat.ne_of_lt (fpl b hb))];exact f0,f⟩
 refine wpAny_newFunctionEnv hcell (by intro y hy;simp at hy) (fun h4 hns4 hsb4=>?_) hk
 have k34:∀ b o,s3.heap.get? b=some o->h4.get? b=some o:=fun b o e=>hsb4.extBut b o (Nat.ne_of_lt (Heap.lt_size e)) (Heap.get?_push_of_some _ e)
 have I4:=inv_comp (own:=own) (t4:=s3.toks + ([]:List (Str × Value)).length) hN hsc hok I3 f3 (fun b hb=>Nat.lt_of_lt_of_le (fpl b hb) (by rw[hD3];exact Nat.le_succ _)) k34 hns4
 have tn4:tn 0 h4:=T.keep 0 s2.heap h4 st2 fun b hb o e=>k34 b o (k23 b o e)
 have I4o:=I4.ok
 have fpS:∀ {H'':Hp},(∀ b ∈ fp,H'' b=none)->∀ b ∈ fp,FpOk (cxComp X own fr scope fp pins s3 (upd H2 D (.lst []))) [] H'' b:=fun hn b hb =>
  ⟨hn b hb,(I4o.exf b hb).1,I4o.exfs b hb,.inl hb,(I4o.exf b hb).2,fun p hp=>(f2 b hb).2.2.2.2.2 p (by
   have:p ∈ (X.pn++pins)++([]:List (Addr × Obj)):=hp
   simpa using this)⟩
 have loop : codeAny (model X.prog X.w) X.A (.compLoop (.ListComp elt [⟨tg, iter, ifs, 0⟩] scope pos) 0 (.ref it) (.ref D) (compEnvC scope (clOf X.env.cells scope.names []) s3.heap.objs.size X.env))
     (compPost (model X.prog X.w) X.A X.xe use Qo (.ref D) s3.heap.objs.size) { s3 with heap:=h4,toks:=s3.toks + ([]:List (Str × Value)).length }:=by
  refine comp_turns (fun n s'=>∃ i ys σ' H',Inv (cxComp X own fr scope fp pins s3 (upd H2 D (.lst []))) [] σ' H' s'∧tn i s'.heap∧(∀ b ∈ fp,H' b=none)∧H' D=some (.lst ys)∧W i n ys σ' H')
   ?step m0 ⟨0,[],_,_,I4,tn4,fun b hb=>(f3 b hb).1,upd_same,w0⟩
  rintro n s5 ⟨i,ys,σ5,H5,I5,tn5,fr5,d5,w5⟩
  rcases turn i n ys σ5 H5 w5 d5 with ⟨stop,q⟩ | ⟨go,stp⟩
  ·refine thn (T.done (cxComp X own fr scope fp pins s3 (upd H2 D (.lst []))) rfl rfl rfl hc i [] s5 σ5 H5 Fls I5 (fpS fr5) tn5 stop) fun r s6 ⟨hr,I6⟩=>.inl ⟨hr,?_⟩
   obtain⟨m6,hn6,_⟩:=id I6.loc
   have u1:Un (frs X.stack) fp H2 H5 s2.heap s6.heap:=(Un.laid k23 (Nat.le_of_eq hD) hD2).trans I6.base
   have fC:H5 s3.heap.objs.size=none:=I6.free
   have IX:Inv X pins σ H5 s6:=I2.call' (s':=s6) (ch:=fp) (by
    have:=I6.os
    rw[← hs3] at this
    exact this) u1 I6.hok I6.bare fun b hb=>by
     obtain⟨_,g1,_,g3,g4,g5⟩:=f2 b hb
     exact⟨g3,g1,g4,g5⟩
   exact fin s3.heap.objs.size D s6 H5 m6 IX (I2.fpOk (by rw[hD3,hD];exact Nat.le_succ _) fC) hn6 q
  ·refine thn (T.item (cxComp X own fr scope fp pins s3 (upd H2 D (.lst []))) rfl rfl rfl hc i [] s5 σ5 H5 Fls I5 (fpS fr5) tn5 go) fun r s6 ⟨u,hr,h6⟩=>.inr ⟨u,hr,thn h6 fun _ s7 ⟨x,H7,I7,r7,y7,tn7,fr7⟩=>?_⟩
   have I7':=I7.pinned (fpS fr7) (T.obj _ _ tn7)
   refine thn (hg fp pins s3 (upd H2 D (.lst [])) _ s7 σ5 H7 x u _ I7' r7 (stp x H7 y7)) fun _ s8 ⟨σ8,H8,I8,q8⟩=>?_
   refine thn (ht fp pins s3 (upd H2 D (.lst [])) _ s8 σ8 H8 _ I8 q8) fun ok s9 ⟨H9,I9,q9⟩=>?_
   have back:∀ {σ':L2.St} {H':Hp} {s':Shared},Inv (cxComp X own fr scope fp pins s3 (upd H2 D (.lst []))) ([]++pinsAt fp s7.heap) σ' H' s'->tn (i + 1) s'.heap∧∀ b ∈ fp,H' b=none:=fun {σ' H' s'} J=>by
    refine⟨T.keep _ _ _ tn7 fun b hb o e=>(J.pin (b,o) (List.mem_append_right _ (List.mem_append_right _ (mem_pinsAt hb e)))).1,fun b hb=>?_⟩
    obtain⟨o,e,_⟩:=T.obj _ _ tn7 b hb
    exact (J.pin (b,o) (List.mem_append_right _ (List.mem_append_right _ (mem_pinsAt hb e)))).2.1
   cases ok with
   | false =>
    rw[if_neg Bool.false_ne_true] at q9
    obtain⟨d9,m',hm,w9⟩:=q9
    rw[if_neg Bool.false_ne_true]
    exact⟨m',hm,i + 1,ys,σ8,H9,I9.unpinned,(back I9).1,(back I9).2,d9,w9⟩
   | true =>
    rw[if_pos rfl] at q9 ⊢
    refine thn (he fp pins s3 (upd H2 D (.lst [])) _ s9 σ8 H9 _ I9 q9) fun xv s10 ⟨v,H10,I10,r10,d10,len,m',hm,w10⟩=>?_
    refine thn (mt_append (X:=cxComp X own fr scope fp pins s3 (upd H2 D (.lst []))) _ s10 σ8 H10 (.ref D) [v] (.ref D) [xv] (fun _ H'=>H'=upd H10 D (.lst (ys++[v]))) I10 rfl (.cons r10 .nil) ⟨D,ys,v,rfl,rfl,d10,len,rfl⟩) fun _ s11 ⟨_,H11,I11,_,e11⟩=>?_
    subst e11
    exact⟨m',hm,i + 1,ys++[v],σ8,_,I11.unpinned,(back I11).1,(back I11).2,upd_same,w10⟩
 exact codeAny_compStart_list loop (T.self X.A 0 _ _ _ tn4 loop)
theorem pe_comp (hc:X.calm=true) (hi:PI X tg iter wi) (hg:∀ fp pins s3 H3,PG (cxComp X own fr scope fp pins s3 H3) tg g) (ht:∀ fp pins s3 H3,PTs (cxComp X own fr scope fp pins s3 H3) ifs tt)
  (he:∀ fp pins s3 H3,PE (cxComp X own fr scope fp pins s3 H3) elt te) (hok:compOk N sc0 scope fr js=true:=by decide +kernel) (hN:X.N=N:=by rfl) (hsc:X.env.scope=sc0:=by rfl)
  (hs:∀ x,foldedSetIterable iter X.env x=pure x:=by intro _;rfl):PE X (.ListComp elt [⟨tg,iter,ifs,0⟩] scope pos) (tComp own js wi g tt te):=by
 intro pins s σ H Q I h
 rw[eval_ListComp]
 refine comp_core hc hi hg ht he hok hN hsc hs I h fun C D s6 H6 m6 I6 f6 n6 q6=>⟨m6,n6,fun h7 sb=>⟨.ref D,H6,?_,rfl,q6⟩⟩
 obtain⟨f0,f1,_,f3,f4,f5⟩:=f6
 exact I6.turned (it:=C) (t':=s6.toks) (fun b o hb e=>sb.extBut b o hb e) f0 f1 f3 f4 f5
/-- name = [..], where the machine stores ahead of letting the block's names go -/
theorem ps_setcomp {i:Nat} {y:Str} {py spos:Pos} (hc:X.calm=true) (hi:PI X tg iter wi) (hg:∀ fp pins s3 H3,PG (cxComp X own fr scope fp pins s3 H3) tg g) (ht:∀ fp pins s3 H3,PTs (cxComp X own fr scope fp pins s3 H3) ifs tt)
  (he:∀ fp pins s3 H3,PE (cxComp X own fr scope fp pins s3 H3) elt te) (hNd:X.N.Nodup) (hy:X.N[i]?=some y) (hx:Loc X.env.scope y) (hok:compOk N sc0 scope fr js=true:=by decide +kernel) (hN:X.N=N:=by rfl) (hsc:X.env.scope=sc0:=by rfl)
  (hsw:swapsWith (.ListComp elt [⟨tg,iter,ifs,0⟩] scope pos) (some (.Name y py)) spos.line X.env=pure true:=by rfl) (hf:X.fn y=true∨X.env.scope.names.lookup y=some .local:=by first | exact .inl rfl | exact .inr rfl | assumption)
  (hs:∀ x,foldedSetIterable iter X.env x=pure x:=by intro _;rfl):PS X (.Assign [.Name y py] (.ListComp elt [⟨tg,iter,ifs,0⟩] scope pos) spos) (tAsg (tComp own js wi g tt te) (gName i)):=by
 intro pins s σ H D I h
 rw[exec_Assign_Name_used _ _ _ _ hsw]
 refine wpAny_bind (wpAny_standAt (wpAny_bind ?_))
 show wpAny _ _ (do let _ ← comprehension (.ListComp elt [⟨tg,iter,ifs,0⟩] scope pos) scope X.env _ (newList []) false (eval iter X.env) (some (assign (.Name y py) X.env))) _ _ s
 refine wpAny_bind (wpAny_mono (comp_core (use:=some (assign (.Name y py) X.env)) (Qo:=fun _ s'=>SP X pins D .next s') hc hi hg ht he hok hN hsc hs I h fun C L s6 H6 m6 I6 f6 n6 q6=>?_) (fun _ s' q=>wpAny_pure (wpAny_pure q)) fun _ _ z=>z)
 obtain⟨f0,f1,f2,f3,f4,f5⟩:=f6
 show wpAny _ _ (assign (.Name y py) X.env (.ref L)) _ _ s6
 refine wpAny_assign_Name (store_ok2 I6 hNd hy hx (v:=.ref L) rfl (fun s7 I7 ⟨a,sb,ha⟩=>?_) hf)
 have ne:C≠a:=by
  rcases ha with e | e
  ·rw[e];exact f1
  ·exact fun z=>f4 y a e z.symm
 refine⟨m6,n6.sameBut sb ne,fun h8 sb8=>⟨σ.set i (some (.ref L)),H6,?_,q6⟩⟩
 exact I7.turned (it:=C) (t':=s7.toks) (fun b o hb e=>sb8.extBut b o hb e) f0 f1 f3 f4 f5
end
end L3
namespace L3
open PySem PySem.Spec PyProof.Rows L2
section
variable {X:Cx} {pins:List (Addr × Obj)} {σ:L2.St} {H H':Hp} {s:Shared} {h':Heap} {ch:List Addr} {t':Nat}
/-- several own records have turned, the abstract heap has grown -/
theorem turnsTo (I:Inv X pins σ H s) (hf:∀ b ∈ ch,FpOk X pins H b) (k:∀ b o,b ∉ ch->s.heap.get? b=some o->h'.get? b=some o) (hH:∀ b u,H b=some u->H' b=some u)
  (hfree:∀ b o,s.heap.get? b=some o->H b=none->H' b=none) (hok:HOk X.prog X.w H' h'):Inv X pins σ H' { s with heap:=h',toks:=t' }:=by
 refine I.step (g':=s.gens) (d':=s.drawn) (ch:=ch) (fun b hb=>?_) (fun b o _ _ hc e _=>k b o hc e) (fun b o _ _ hc e _=>⟨o.slots,k b o hc e⟩) (fun b o _ e n=>hfree b o e n) (fun b o hc e=>⟨o,k b o hc e⟩)
  (fun b xs e=>hH _ _ e) (fun b o u e=>hH _ _ e) (fun b ps e=>⟨#[],by rw[hH _ _ e];simp⟩) (fun m hm=>?_) hok I.bare
 ·obtain⟨_,f1,_,f3,f4,f5⟩:=hf b hb
  exact⟨f3,f1,f4,f5⟩
 ·obtain⟨o,es,ep,ho,r⟩:=hm
  exact⟨o,es,ep,k _ o (fun z=>(hf _ z).2.1 rfl) ho,r⟩
theorem turns (I:Inv X pins σ H s) (hf:∀ b ∈ ch,FpOk X pins H b) (k:∀ b o,b ∉ ch->s.heap.get? b=some o->h'.get? b=some o):Inv X pins σ H { s with heap:=h',toks:=t' }:=by
 refine turnsTo I hf k (fun _ _ e=>e) (fun _ _ _ n=>n) fun b u e=>?_
 refine (I.hok b u e).stay (fun c v hc q=>k c v (fun z=>?_) q) (fun _ q=>q) fun _ _ q=>q
 have n:=(hf c z).1
 rcases hc with rfl | hc
 ·rw[n] at e;cases e
 ·rw[n] at hc;cases hc
theorem turnsTup {xs:List V} {its:List Value} {T:Addr} (I:Inv X pins σ H s) (hf:∀ b ∈ ch,FpOk X pins H b) (k:∀ b o,b ∉ ch->s.heap.get? b=some o->h'.get? b=some o) (hT:s.heap.objs.size≤T)
  (hz:xs.length≤sizeLine) (hv:Vals xs its) (ht:TupN h' T its.toArray):Inv X pins σ (upd H T (.tup xs)) { s with heap:=h',toks:=t' }:=by
 have fr:H T=none:=I.hok.fresh hT
 have ne:∀ b u,H b=some u->b≠T:=fun b u e=>ne_of_none e fr
 refine turnsTo I hf k (fun b u e=>by rw[upd_ne (ne b u e)];exact e) (fun b o e n=>by rw[upd_ne (Nat.ne_of_lt (Nat.lt_of_lt_of_le (Heap.lt_size e) hT))];exact n) fun b u e=>?_
 by_cases hb:b=T
 ·subst hb
  rw[upd_same] at e
  cases e
  exact⟨hz,its,hv,ht⟩
 ·rw[upd_ne hb] at e
  refine (I.hok b u e).stay (fun c v hc q=>k c v (fun z=>?_) q) (fun c q=>by rw[upd_ne (ne c _ q)];exact q) fun c ys q=>by rw[upd_ne (ne c _ q)];exact q
  have n:=(hf c z).1
  rcases hc with rfl | hc
  ·rw[n] at e;cases e
  ·rw[n] at hc;cases hc
end
def SqX (t:Bool) (K:PySem.W.Frag) (H:Hp) (a:Addr) (xs:List V):Prop:=if t=true then SqT K H a xs else SqL K H a xs
section
variable {X:Cx} {pins:List (Addr × Obj)} {σ:L2.St} {H:Hp} {s:Shared} {a:Addr} {xs ys:List V} {t:Bool}
theorem seqX (I:Inv X pins σ H s) (h:SqX t X.K H a xs):∃ its:List Value,Vals xs its∧Z3.SqAt t s.heap a its.toArray∧xs.length≤sizeLine:=by
 cases t with
 | true=>obtain⟨its,r,p,z⟩:=I.tuple (show SqT X.K H a xs from h);exact⟨its,r,p,z⟩
 | false=>obtain⟨its,r,p,z⟩:=I.list (show SqL X.K H a xs from h);exact⟨its,r,p.isList,z⟩
theorem seqX_inj (I:Inv X pins σ H s) (h:SqX t X.K H a xs) (h':SqX t X.K H a ys):xs=ys:=by
 cases t with
 | true=>exact I.tuple_inj h h'
 | false=>exact I.list_inj h h'
end
section
variable {X:Cx} {pos:Pos}
def gLst (K:PySem.W.Frag) (n:Nat) (t:TGs):TG:=fun v σ H Q=>∃ a xs,v=.ref a∧SqL K H a xs∧xs.length=n∧t xs σ H Q
theorem pg_lst {es:List Expr} {k:Nat} {t:TGs} {n:Nat} (hc:X.calm=true) (h:PGs X es t) (hn:(assignEach es X.env).length=n:=by rfl) (hst:(assignEach es X.env).findIdx? (·.1)=none:=by rfl):PG X (.Tuple es k pos) (gLst X.K n t):=by
 intro pins s σ H v u Q I r hw
 obtain⟨a,xs,e1,hq,hl,hw⟩:=hw
 subst e1
 cases r
 obtain⟨its,rv,ht,hz⟩:=I.list hq
 refine U3.assign_tuple_lst (I.ok.hd hc) ht.isList (by simp [hn,← hl,rv.length]) hst fun h' hx=>?_
 have I1:Inv X pins σ H { s with heap:=h' }:=I.kept (t':=s.toks) fun b o e=>hx b o (Nat.ne_of_lt (Heap.lt_size e)) e
 exact h pins _ σ H xs _ Q I1 (by simpa using rv) hw
theorem truth_bl {prog:Program} {w:World} {A:Around} {bs:List Bool} {its:List Value} (r:Vals (bs.map V.bl) its):TruthOf prog w A (fun i v=>its.toArray[i]?=some v) (fun i=>bs.getD i true):=by
 intro i v s Q E hP hq
 have hP':its[i]?=some v:=by simpa using hP
 have hl:=r.length
 have hi:i < its.length:=(List.getElem?_eq_some_iff.mp hP').1
 have hb:i < bs.length:=by rw[List.length_map] at hl;omega
 obtain⟨u,hu,ru⟩:=r.get (i:=i) (x:=V.bl bs[i]) (by rw[List.getElem?_map,List.getElem?_eq_getElem hb];rfl)
 rw[hP'] at hu
 cases hu
 have e:v=Value.bool bs[i]:=ru
 subst e
 have e2:bs.getD i true=bs[i]:=by simp [List.getD,hb]
 have hq':Q (bs.getD i true) s:=hq
 rw[e2] at hq'
 exact wpAny_truthy_bool hq'
theorem all_range (bs:List Bool):((List.range bs.length).all fun i=>bs.getD i true)=bs.all id:=by
 rw[Bool.eq_iff_iff,List.all_eq_true,List.all_eq_true]
 constructor
 ·intro h b hb
  obtain⟨i,hi,e⟩:=List.getElem_of_mem hb
  have:=h i (List.mem_range.mpr hi)
  rw[← e]
  simpa [List.getD,hi] using this
 ·intro h i hi
  have hi':=List.mem_range.mp hi
  have:=h bs[i] (List.getElem_mem hi')
  simpa [List.getD,hi'] using this
theorem call_all (hh:X.calm=true):CallR X (.builtin "all") (fun xs H Q=>∃ (p:Addr) (bs:List Bool),xs=[.ref p]∧SqL X.K H p (bs.map V.bl)∧Q (.bl (bs.all id)) H):=by
 intro pins s σ H xs us Q I r h
 obtain⟨p,bs,rfl,hq,q⟩:=h
 obtain⟨u,rfl,rx⟩:=vals1 r
 cases rx
 obtain⟨its,rv,pl,hz⟩:=I.list hq
 have hl:=rv.length
 have lt:p≠s.heap.objs.size:=by obtain⟨o,e,_⟩:=pl.isList;exact Nat.ne_of_lt (Heap.lt_size e)
 refine call_all_walk (wpAny_pyIter_list pl.isList ?_)
 have W:=Walks.list (prog:=X.prog) (w:=X.w) (A:=X.A.in1) (show X.A.in1.handled=none from I.ok.hd hh) s.heap.objs.size p lt its.toArray
 refine⟨s.heap.objs.size,_,_,_,_,_,_,rfl,W,⟨⟨_,Heap.get?_push_size _ rfl,rfl,rfl⟩,pl.isList.push _⟩,truth_bl rv,fun h' tk hk=>?_⟩
 refine⟨.bl (bs.all id),H,I.kept (t':=tk) fun b o e=>hk b o (fun z=>?_) (Heap.get?_push_of_some _ e),?_,q⟩
 ·have:b=s.heap.objs.size:=by simpa using z
  exact absurd (Heap.lt_size e) (by rw[this];exact Nat.lt_irrefl _)
 ·show Value.bool _=Value.bool _
  have e1:its.toArray.size=bs.length:=by rw[List.size_toArray,← hl,List.length_map]
  rw[e1,all_range]
theorem call_isi {n:String}:CallR X (.builtin "isinstance") (fun xs H Q=>∃ x t b,xs=[x,.ty n]∧TyOf X.K H x t∧PySem.W.kitOne X.K t (.type n)=some b∧Q (.bl b) H):=by
 intro pins s σ H xs us Q I r h
 obtain⟨x,t,b,rfl,ty,e,q⟩:=h
 obtain⟨u,c,rfl,ru,rc⟩:=r.two
 cases rc
 exact isinst_ok I ru ty e fun tk=>⟨.bl b,H,I.tok tk,rfl,q⟩
variable {a b c d:Expr} {ta tb tc td:TE}
end
end L3
namespace L3
open PySem PySem.Spec PyProof.Rows L2
mutual
def Is (K:PySem.W.Frag) (H:Hp):PyData->V->Prop
 | .none,v=>v=.non
 | .bool b,v=>v=.bl b
 | .int i,v=>v=.int i
 | .str x,v=>v=.str x
 | .tuple ds,v=>∃ p vs,v=.ref p∧H p=some (.tup vs)∧IsAll K H ds vs
 | .list ds,v=>∃ p vs,v=.ref p∧H p=some (.lst vs)∧IsAll K H ds vs
 | .dict kvs,v=>kvs=[]∧∃ p,v=.ref p∧H p=some (.dK [])
def IsAll (K:PySem.W.Frag) (H:Hp):List PyData->List V->Prop
 | [],vs=>vs=[]
 | d::ds,vs=>∃ v r,vs=v::r∧Is K H d v∧IsAll K H ds r
end
section
variable {K:PySem.W.Frag} {H H':Hp}
mutual
theorem Is.same (e:Same H H'):∀ (d:PyData) {v:V},Is K H d v->Is K H' d v
 | .none,_,h=>h
 | .bool _,_,h=>h
 | .int _,_,h=>h
 | .str _,_,h=>h
 | .tuple ds,_,h=>let ⟨p,vs,q1,q2,q3⟩:=h;⟨p,vs,q1,e _ _ q2,IsAll.same e ds q3⟩
 | .list ds,_,h=>let ⟨p,vs,q1,q2,q3⟩:=h;⟨p,vs,q1,e _ _ q2,IsAll.same e ds q3⟩
 | .dict kvs,_,h=>let ⟨q0,p,q1,q2⟩:=h;⟨q0,p,q1,e _ _ q2⟩
theorem IsAll.same (e:Same H H'):∀ (ds:List PyData) {vs:List V},IsAll K H ds vs->IsAll K H' ds vs
 | [],_,h=>h
 | d::ds,_,h=>let ⟨v,r,q1,q2,q3⟩:=h;⟨v,r,q1,Is.same e d q2,IsAll.same e ds q3⟩
end
theorem IsAll.length:∀ {ds:List PyData} {vs:List V},IsAll K H ds vs->vs.length=ds.length
 | [],_,h=>by rw[show _=[] from h];rfl
 | d::ds,_,⟨v,r,q1,q2,q3⟩=>by rw[q1,List.length_cons,List.length_cons,IsAll.length q3]
theorem IsAll.get':∀ {ds:List PyData} {vs:List V} {i:Nat} {v:V},IsAll K H ds vs->vs[i]?=some v->∃ d,ds[i]?=some d∧Is K H d v
 | [],_,i,v,h,e=>by rw[show _=[] from h] at e;simp at e
 | d::ds,_,0,v,⟨u,r,q1,q2,q3⟩,e=>by
  subst q1
  have e':u=v:=by simpa using e
  subst e';exact⟨d,rfl,q2⟩
 | d::ds,_,i + 1,v,⟨u,r,q1,q2,q3⟩,e=>by
  subst q1
  obtain⟨d',h1,h2⟩:=IsAll.get' (i:=i) q3 (by simpa using e)
  exact⟨d',by simpa using h1,h2⟩
theorem IsAll.of:∀ {ds:List PyData} {vs:List V},vs.length=ds.length->(∀ (i:Nat) (d:PyData) (v:V),ds[i]?=some d->vs[i]?=some v->Is K H d v)->IsAll K H ds vs
 | [],[],_,_=>rfl
 | [],_::_,h,_=>by simp at h
 | _::_,[],h,_=>by simp at h
 | d::ds,v::vs,h,q=>⟨v,vs,rfl,q 0 d v rfl rfl,IsAll.of (by simpa using h) fun i d' v' h1 h2=>q (i + 1) d' v' (by simpa using h1) (by simpa using h2)⟩
theorem IsAll.ints (ns:List Int):IsAll K H (ns.map .int) (ns.map V.int):=by
 refine IsAll.of (by simp) fun i d v h1 h2=>?_
 rw[List.getElem?_map] at h1 h2
 cases e:ns[i]? with
 | none=>rw[e] at h1;cases h1
 | some n=>rw[e] at h1 h2;cases h1;cases h2;exact rfl
theorem IsAll.of_ints:∀ {ns:List Int} {vs:List V},IsAll K H (ns.map .int) vs->vs=ns.map V.int
 | [],_,h=>h
 | n::ns,_,⟨v,r,q1,q2,q3⟩=>by
  have e:v=.int n:=q2
  rw[q1,e,IsAll.of_ints q3];rfl
end
section
variable {X:Cx} {pins:List (Addr × Obj)} {σ:L2.St} {H:Hp} {s:Shared}
mutual
theorem reads_of (I:Inv X pins σ H s):∀ (d:PyData) {v:V} {u:Value},Is X.K H d v->RelV v u->∃ as,Reads s.heap u d as
 | .none,_,_,h,r=>by
  have e:_=V.non:=h
  subst e;cases r;exact⟨_,.none⟩
 | .bool b,_,_,h,r=>by
  have e:_=V.bl b:=h
  subst e;cases r;exact⟨_,.bool b⟩
 | .int i,_,_,h,r=>by
  have e:_=V.int i:=h
  subst e;obtain⟨t,rfl⟩:=r;exact⟨_,.int i t⟩
 | .str x,_,_,h,r=>by
  have e:_=V.str x:=h
  subst e;obtain⟨t,rfl⟩:=r;exact⟨_,.str x t⟩
 | .tuple ds,_,_,h,r=>by
  obtain⟨p,vs,rfl,q2,q3⟩:=(show ∃ p vs,_=V.ref p∧H p=some (.tup vs)∧IsAll X.K H ds vs from h)
  cases r
  obtain⟨its,rv,⟨o,e1,e2,n,e3⟩,_⟩:=I.tuple (SqT.of q2)
  obtain⟨as,ra⟩:=readsAll_of I ds q3 rv
  exact⟨_,.tuple e1 e2 e3 (by simpa using ra)⟩
 | .list ds,_,_,h,r=>by
  obtain⟨p,vs,rfl,q2,q3⟩:=(show ∃ p vs,_=V.ref p∧H p=some (.lst vs)∧IsAll X.K H ds vs from h)
  cases r
  obtain⟨its,rv,⟨o,n,e1,e2,_,e3⟩,_⟩:=I.list (SqL.of q2)
  obtain⟨as,ra⟩:=readsAll_of I ds q3 rv
  exact⟨_,.list e1 e2 e3 (by simpa using ra)⟩
 | .dict kvs,_,_,h,r=>by
  obtain⟨e0,p,rfl,q2⟩:=(show kvs=[]∧∃ p,_=V.ref p∧H p=some (.dK []) from h)
  subst e0
  cases r
  obtain⟨_,_,vs,kv,o,es,ep,g1,g2,g3,_,g4,_⟩:=(show ObjOk X.prog X.w H s.heap p (.dK []) from I.hok p _ q2)
  cases kv
  have e1:es.toList=[]:=by cases h:es.toList with
   | nil=>rfl
   | cons x r=>rw[h] at g4;cases g4
  exact⟨_,.dict g1 g2.1 g3 (by rw[e1];exact .nil) (by rw[e1];exact .nil)⟩
theorem readsAll_of (I:Inv X pins σ H s):∀ (ds:List PyData) {vs:List V} {us:List Value},IsAll X.K H ds vs->Vals vs us->∃ as,ReadsAll s.heap us ds as
 | [],_,_,h,r=>by
  have e:_=[]:=h
  subst e;cases r;exact⟨_,.nil⟩
 | d::ds,_,_,h,r=>by
  obtain⟨v,vr,rfl,q2,q3⟩:=(show ∃ v r,_=v::r∧Is X.K H d v∧IsAll X.K H ds r from h)
  cases r with
  | cons r1 r2 =>
   obtain⟨as,a1⟩:=reads_of I d q2 r1
   obtain⟨bs,a2⟩:=readsAll_of I ds q3 r2
   exact⟨_,.cons a1 a2⟩
end
/-- == and != of data -/
theorem op_eqD:OpR X (compareOp .Eq) (fun x y H Q=>∃ da db,Is X.K H da x∧Is X.K H db y∧da.canLay0=true∧db.canLay0=true∧X.A.units + min da.depth db.depth < cLine∧Q (.bl (PyData.eqv da db)) H):=by
 intro pins s σ H x y v u Q I rx ry h
 obtain⟨da,db,h1,h2,c1,c2,hu,q⟩:=h
 obtain⟨as,ra⟩:=reads_of I da h1 rx
 obtain⟨bs,rb⟩:=reads_of I db h2 ry
 exact SeqAt.compareEq_reads ra rb c1 c2 hu (fin_bl I q rfl)
theorem getD_rel {ys:List V} {its:List Value} (r:Vals ys its) {i:Nat} (hi:i < ys.length):RelV (ys.getD i .non) (its.getD i .none):=by
 have hl:=r.length
 obtain⟨u,hu,ru⟩:=r.get (i:=i) (x:=ys[i]) (List.getElem?_eq_getElem hi)
 have e1:ys.getD i .non=ys[i]:=by simp [List.getD,hi]
 have e2:its.getD i .none=u:=by simp [List.getD,hu]
 rw[e1,e2];exact ru
theorem vals_out {ys:List V} {its:List Value} (r:Vals ys its):∀ (l:List Nat),(∀ i ∈ l,i < ys.length)->Vals (l.map fun i=>ys.getD i .non) (l.map fun i=>its.getD i Value.none)
 | [],_=>.nil
 | i::l,h=>.cons (getD_rel r (h i List.mem_cons_self)) (vals_out r l fun j hj=>h j (List.mem_cons_of_mem _ hj))
theorem gd_mem {n:Nat} {p:Array Nat} (g:Srt.Gd n p):∀ i ∈ p.toList,i < n:=fun i hi=>by
 have:=g.mem_iff.mp (Array.mem_toList_iff.mp hi)
 simpa using this
theorem gd_perm {α:Type} {n:Nat} {p:Array Nat} (g:Srt.Gd n p) (f:Nat->α):(p.toList.map f).Perm ((List.range n).map f):=by
 have h:=Array.perm_iff_toList_perm.mp g
 exact (by simpa using h:p.toList.Perm (List.range n)).map f
theorem up_pair {n:Nat} {p:Array Nat} {r:Nat->Int} {R:Nat->Nat->Prop} (g:Srt.Gd n p) (u:Srt.Up r p n) (h:∀ i j,i < n->j < n->r i≤r j->R i j):p.toList.Pairwise R:=by
 rw[List.pairwise_iff_getElem]
 intro i j hi hj hij
 have sz:=g.sz
 have hi':i < p.size:=by simpa using hi
 have hj':j < p.size:=by simpa using hj
 have q:=u i j (Nat.le_of_lt hij) (by omega)
 have e:∀ k (hk:k < p.size),p.getD k 0=p[k]:=fun k hk=>by simp [Array.getD,hk]
 unfold Srt.ky at q
 rw[e i hi',e j hj'] at q
 have m:∀ k (hk:k < p.size),p[k] < n:=fun k hk=>gd_mem g _ (by simp)
 have:=h p[i] p[j] (m i hi') (m j hj') q
 simpa using this
theorem range_getD {α:Type} (l:List α) (d:α):(List.range l.length).map (fun i=>l.getD i d)=l:=by
 refine List.ext_getElem (by simp) fun i h1 h2=>?_
 simp [List.getD,h2]
theorem call_sortedI:CallR X (.builtin "sorted") (fun xs H Q=>∃ p ns,xs=[.ref p]∧SqL X.K H p (ns.map V.int)∧ns.length < 64∧∀ ms:List Int,ms.Perm ns->ms.Pairwise (·≤·)->∀ l,H l=none->Q (.ref l) (upd H l (.lst (ms.map V.int)))):=by
 intro pins s σ H xs us Q I r h
 obtain⟨p,ns,rfl,hq,h64,q⟩:=h
 obtain⟨u,rfl,rx⟩:=vals1 r
 cases rx
 obtain⟨its,rv,pl,hz⟩:=I.list hq
 have hl:=rv.length
 rw[List.length_map] at hl
 have hI:IntsAre its ns:=intsAre_of rv
 have line:(64:Nat)≤sizeLine:=by rw[sizeLine_eq];decide
 refine Srt.sorted_by (r:=fun i=>ns.getD i 0) (κ:=oneType') pl.isList (by omega) (fun h2 A' s' Q' _ q'=>Srt.int_kind hI h2 q') (fun A' s' i j C _ hi hj q'=>Srt.int_ask hI hi hj q') fun pp h' c g u kp e=>?_
 have g':Srt.Gd ns.length pp:=by rw[hl];exact g
 have u':Srt.Up (fun i=>ns.getD i 0) pp ns.length:=by rw[hl];exact u
 have pm:(pp.toList.map fun i=>ns.getD i 0).Perm ns:=by
  have:=gd_perm g' fun i=>ns.getD i 0
  rw[range_getD] at this
  exact this
 have pw:(pp.toList.map fun i=>ns.getD i 0).Pairwise (·≤·):=by
  rw[List.pairwise_map]
  exact up_pair g' u' fun i j _ _ z=>z
 have fr:H (s.heap.objs.size + 1)=none:=I.hok.fresh (Nat.le_succ _)
 have ev:((pp.toList.map fun i=>ns.getD i 0).map V.int)=pp.toList.map fun i=>(ns.map V.int).getD i .non:=by
  rw[List.map_map]
  refine List.map_congr_left fun i hi=>?_
  have:=gd_mem g' i hi
  simp [List.getD,this]
 refine⟨.ref (s.heap.objs.size + 1),_,I.laid (a:=s.heap.objs.size + 1) (o:=.lst ((pp.toList.map fun i=>ns.getD i 0).map V.int)) (t':=s.toks) kp (Nat.le_succ _) ⟨?_,Srt.outOf its pp,c,?_,e⟩,rfl,q _ pm pw _ fr⟩
 ·have:=pm.length_eq
  rw[List.length_map,this];omega
 ·rw[ev]
  exact vals_out rv pp.toList fun i hi=>by rw[List.length_map];exact gd_mem g' i hi
theorem call_sortedT:CallR X (.builtin "sorted") (fun xs H Q=>∃ p ys ks,xs=[.ref p]∧SqL X.K H p ys∧ys.length < 64∧Paired (fun (y:V) (k:List Int)=>∃ a,y=.ref a∧SqT X.K H a (k.map V.int)) ys ks∧(∀ k ∈ ks,k≠[]) ∧
  ∀ qs:List (V × List Int),qs.Perm (ys.zip ks)->qs.Pairwise (fun a b=>Srt.lexI b.2 a.2=false)->∀ l,H l=none->Q (.ref l) (upd H l (.lst (qs.map (·.1))))):=by
 intro pins s σ H xs us Q I r h
 obtain⟨p,ys,ks,rfl,hq,h64,hp,hne,q⟩:=h
 obtain⟨u,rfl,rx⟩:=vals1 r
 cases rx
 obtain⟨its,rv,pl,hz⟩:=I.list hq
 have hl:=rv.length
 have hlk:ys.length=ks.length:=Paired.length hp
 have line:(64:Nat)≤sizeLine:=by rw[sizeLine_eq];decide
 have hT:∀ {ys:List V} {ks:List (List Int)} {its:List Value},Paired (fun (y:V) (k:List Int)=>∃ a,y=.ref a∧SqT X.K H a (k.map V.int)) ys ks->Vals ys its->Paired (Srt.TupI s.heap) its ks:=by
  intro ys ks its hp
  induction hp generalizing its with
  | nil=>intro rv;cases rv;exact .nil
  | cons r t ih =>
   intro rv
   cases rv with
   | cons r1 r2 =>
    refine .cons ?_ (ih r2)
    obtain⟨a,rfl,qa⟩:=r
    cases r1
    obtain⟨its',rv',⟨o,e1,e2,n,e3⟩,_⟩:=I.tuple qa
    exact⟨a,o,its'.toArray,n,rfl,e1,e2,e3,by simpa using intsAre_of rv'⟩
 have tp:=hT hp rv
 have mono:∀ {h':Heap},(∀ b o,s.heap.get? b=some o->h'.get? b=some o)->Paired (Srt.TupI h') its ks:=fun k=>Paired.mapP tp fun v k' z=>z.to k
 refine Srt.sorted_by (r:=Srt.rank its.length fun i j=>Srt.lexI (ks.getD i []) (ks.getD j [])) (κ:=tuples' true) pl.isList (by omega) (fun h2 A' s' Q' k q'=>Srt.tup_kind (mono k) hne h2 q')
  (fun A' s' i j C k hi hj q'=>Srt.tup_ask (mono k) hi hj (by rw[Srt.rank_lt (lt:=fun i j=>Srt.lexI (ks.getD i []) (ks.getD j [])) (fun i=>Srt.lexI_irr _) (fun _ _ _ _ _ _=>Srt.lexI_trans _ _ _) (fun _ _ _ _ _ _=>Srt.lexI_neg _ _ _) hi hj] at q';exact q')) fun pp h' c g u kp e=>?_
 have fr:H (s.heap.objs.size + 1)=none:=I.hok.fresh (Nat.le_succ _)
 have pm:(pp.toList.map fun i=>(ys.getD i .non,ks.getD i [])).Perm (ys.zip ks):=by
  have h1:=gd_perm g fun i=>(ys.getD i V.non,ks.getD i [])
  have e1:(List.range its.length).map (fun i=>(ys.getD i V.non,ks.getD i []))=ys.zip ks:=by
   refine List.ext_getElem (by simp;omega) fun i h1 h2=>?_
   have hi:i < its.length:=by simpa using h1
   have a1:i < ys.length:=by omega
   have a2:i < ks.length:=by omega
   simp [List.getD,a1,a2]
  rw[e1] at h1
  exact h1
 have pw:(pp.toList.map fun i=>(ys.getD i V.non,ks.getD i [])).Pairwise (fun a b=>Srt.lexI b.2 a.2=false):=by
  rw[List.pairwise_map]
  refine up_pair g u fun i j hi hj z=>?_
  have w:=Srt.rank_lt (n:=its.length) (lt:=fun i j=>Srt.lexI (ks.getD i []) (ks.getD j [])) (fun i=>Srt.lexI_irr _) (fun _ _ _ _ _ _=>Srt.lexI_trans _ _ _) (fun _ _ _ _ _ _=>Srt.lexI_neg _ _ _) hj hi
  rw[decide_eq_false (by omega)] at w
  exact w.symm
 have ev:(pp.toList.map fun i=>(ys.getD i V.non,ks.getD i [])).map (·.1)=pp.toList.map fun i=>ys.getD i V.non:=by
  rw[List.map_map];rfl
 refine⟨.ref (s.heap.objs.size + 1),_,I.laid (a:=s.heap.objs.size + 1) (o:=.lst ((pp.toList.map fun i=>(ys.getD i V.non,ks.getD i [])).map (·.1))) (t':=s.toks) kp (Nat.le_succ _) ⟨?_,Srt.outOf its pp,c,?_,e⟩,rfl,q _ pm pw _ fr⟩
 ·have:=pm.length_eq
  rw[List.length_map,this,List.length_zip];omega
 ·rw[ev]
  exact vals_out rv pp.toList fun i hi=>by have:=gd_mem g i hi;omega
end
end L3
namespace L3
open PySem PySem.Spec PyProof.Rows L2
def Ok (P:Program) (w:World) (K:PySem.W.Frag) (mg:Str->Option Value) (base:Heap) (k:Nat) (x:Str) (ps:List Str) (sp:Sp):Prop :=
 ∃ (f:Addr) (fd:FuncData),FnOk P w K mg base CX0 k f fd ps sp∧Binds K fd ps []∧PySem.W.keepIn K (.ref f)=true∧mg x=some (.ref f)
def DefOk (K:PySem.W.Frag) (mg:Str->Option Value) (x:Str) (st:Stmt) (ps:List Str):Prop :=
 ∃ (f:Addr) (fd:FuncData),Fun K x x st f fd∧Binds K fd ps []∧mg x=some (.ref f)
section
variable {P:Program} {w:World} {K:PySem.W.Frag} {mg:Str->Option Value} {base:Heap} {x:Str} {ps N:List Str} {sp sp':Sp} {k:Nat} {st:Stmt}
theorem Ok.mono {j:Nat} (O:Ok P w K mg base j x ps sp) (h:j≤k):Ok P w K mg base k x ps sp:=let ⟨f,fd,F,r⟩:=O;⟨f,fd,F.mono h,r⟩
theorem Ok.imp (O:Ok P w K mg base k x ps sp) (h:∀ vs H Q E,sp' vs H Q E->sp vs H Q E):Ok P w K mg base k x ps sp':=let ⟨f,fd,F,r⟩:=O;⟨f,fd,F.imp h,r⟩
theorem mk_ok (D:DefOk K mg x st ps) (S:FnScope N ps (defScope st)) (len:∀ vs H Q E,sp vs H Q E->vs.length=ps.length)
  (hbody:∀ (f:Addr) (cdv:Value) (A:Around) (outer:List Env) (s:Shared) (H:Hp) (vs:List V) (Q:VK) (E:XK),Room k (A.deeper (envOfC x (defScope st) s.heap.objs.size f cdv))->sp vs H Q E ->
   ∃ t,PSs (cxOf CX0 P w K mg base N x (defScope st) f cdv A outer s H E).nox (defBody st) t∧t { nx:=fun _ H'=>Q .non H',rt:=Q } (start N vs) H):Ok P w K mg base (k + 1) x ps sp:=by
 obtain⟨f,fd,F,b,m⟩:=D
 exact⟨f,fd,F.ok S len (fun cdv A outer s H vs Q E hr h=>hbody f cdv A outer s H vs Q E hr h),b,F.kp,m⟩
theorem pe_callD {X:Cx} {p pos:Pos} {e:Expr} {es:List Expr} {t:TA} (O:Ok X.prog X.w X.K X.mg X.base k x ps sp) (hr:Room k X.A) (hg:Gl X x) (ha:PA X (e::es) t)
  (hdb:(x == ("__debug__":Str))=false:=by decide) (he:starEach (e::es) X.env=(false,eval e X.env)::starEach es X.env:=by rfl) (hpl:(backTo pos (starEach es X.env)).any (·.1)=false:=by rfl) :
  PE X (.Call (.Name x p) (e::es) [] pos) (tCall sp [] E0 t):=by
 obtain⟨f,fd,F,b,kp,m⟩:=O
 exact pe_call F hr hg m kp b .nil pass0 ha hdb he hpl
end
/-- the built-ins' names are not taken -/
structure Bi (mg:Str->Option Value):Prop where
 z_len:mg "len"=none
 z_range:mg "range"=none
 z_zip:mg "zip"=none
 z_all:mg "all"=none
 z_sorted:mg "sorted"=none
 z_isinstance:mg "isinstance"=none
 z_min:mg "min"=none
 z_max:mg "max"=none
 z_tuple:mg "tuple"=none
 z_list:mg "list"=none
 z_int:mg "int"=none
 z_bool:mg "bool"=none
 z_str:mg "str"=none
 z_enumerate:mg "enumerate"=none
 z_sum:mg "sum"=none
 z_abs:mg "abs"=none
 z_set:mg "set"=none
 z_reversed:mg "reversed"=none
 z_any:mg "any"=none
 z_repr:mg "repr"=none
 z_dict:mg "dict"=none
def But (p:Addr) (H H':Hp):Prop:=∀ b o,b≠p->H b=some o->H' b=some o
section
variable {K:PySem.W.Frag} {H H1 H2:Hp} {p a:Addr} {o:HO} {xs ys:List V}
theorem But.refl:But p H H:=fun _ _ _ h=>h
theorem But.trans (a:But p H H1) (b:But p H1 H2):But p H H2:=fun c o n h=>b c o n (a c o n h)
theorem But.upd:But p H (upd H p o):=fun b u n h=>by rw[upd_ne n];exact h
theorem Same.but (h:Same H H1):But p H H1:=fun b o _ q=>h b o q
theorem But.new (h:H a=none):But p H (L2.upd H a o):=fun b u _ q=>by rw[upd_ne (ne_of_none q h)];exact q
theorem same_new (h:H a=none):Same H (upd H a o):=fun b u q=>by rw[upd_ne (ne_of_none q h)];exact q
end
mutual
def tupD:PyData->Bool
 | .none | .bool _ | .int _ | .str _=>true
 | .tuple ds=>tupAll ds
 | .list _ | .dict _=>false
def tupAll:List PyData->Bool
 | []=>true
 | d::ds=>tupD d && tupAll ds
end
/-- a pot: its two numbers -/
def Pot (H:Hp) (p:Addr):Prop:=∃ a b:Int,H p=some (.lst [.int a,.int b])∧0≤a∧0≤b∧b < 2147483647
theorem Pot.lst {H:Hp} {p:Addr} (h:Pot H p):∃ xs,H p=some (.lst xs):=let ⟨a,b,e,_⟩:=h;⟨_,e⟩
def spPot (K:PySem.W.Frag):Sp:=fun vs H Q _=>∃ a k,∃ ns:List Int,vs=[.ref a,.int k]∧SqL K H a (ns.map V.int)∧0≤k∧k≤100∧∀ l H',Same H H'->H l=none->Pot H' l->Q (.ref l) H'
def spTake:Sp:=fun vs H Q _=>∃ p m,vs=[.ref p,.int m]∧Pot H p∧0 < m∧m < 1073741824∧∀ r H',0≤r->r < m->But p H H'->Pot H' p->Q (.int r) H'
def spLength:Sp:=fun vs H Q _=>∃ p y,vs=[.ref p,.int y]∧Pot H p∧0≤y∧y < 5∧∀ r H',1≤r->r≤10 ^ 18->But p H H'->Pot H' p->Q (.int r) H'
def spTied:Sp:=fun vs H Q _=>∃ p n y a b,vs=[.ref p,.int n,.int y,.int a,.int b]∧Pot H p∧∀ k H',But p H H'->Pot H' p->Q (.bl k) H'
def spOrder:Sp:=fun vs H Q _=>∃ p m,vs=[.ref p,.int m]∧Pot H p∧0≤m∧m≤1000∧∀ l H' (ms:List Int),But p H H'->Pot H' p->H l=none->l≠p->H' l=some (.lst (ms.map V.int))->ms.Perm ((List.range m.toNat).map fun i:Nat=>(i:Int))->Q (.ref l) H'
abbrev Tie:=Int × Int × Int
def tieI (t:Tie):List Int:=[t.1,t.2.1,t.2.2]
def tieD (t:Tie):PyData:=.tuple ((tieI t).map .int)
def webD (n:Int) (ties:List Tie):PyData:=.tuple [.int n,.tuple (ties.map tieD)]
/-- less by its ends -/
def endLt (s t:Tie):Prop:=s.1 < t.1∨(s.1=t.1∧s.2.1 < t.2.1)
structure WebOk (n:Int) (ties:List Tie):Prop where
 n1:1≤n
 n24:n≤24
 rise:ties.Pairwise endLt
 few:ties.length≤60
 tie:∀ t ∈ ties,0≤t.1∧t.1 < t.2.1∧t.2.1 < n∧1≤t.2.2∧t.2.2≤10 ^ 18
def spWeb (K:PySem.W.Frag):Sp:=fun vs H Q _=>∃ p m,vs=[.ref p,.int m]∧Pot H p∧1≤m∧m≤24∧∀ v H' n ties,But p H H'->Pot H' p->WebOk n ties->n≤m->Is K H' (webD n ties) v->Q v H'
end L3
namespace L3
structure Grown (n:Nat) (ms:List Int) (b a:Nat) (ties:List Tie):Prop where
 few:ties.length≤60
 ok:∀ t ∈ ties,0≤t.1∧t.1 < t.2.1∧t.2.1 < (n:Int)∧1≤t.2.2∧t.2.2≤10 ^ 18
 of:∀ t ∈ ties,∃ a' b':Nat,a' < b'∧b' < n∧(b' < b∨(b'=b∧a' < a))∧((t.1=ms.getD a' 0∧t.2.1=ms.getD b' 0)∨(t.1=ms.getD b' 0∧t.2.1=ms.getD a' 0))
 nd:ties.Pairwise fun s t=>¬ (s.1=t.1∧s.2.1=t.2.1)
theorem Grown.start {n:Nat} {ms:List Int}:Grown n ms 0 0 []:=⟨Nat.zero_le _,(fun t h=>by cases h),(fun t h=>by cases h),List.Pairwise.nil⟩
theorem Grown.down {n:Nat} {ms:List Int} {b:Nat} {ties:List Tie} (g:Grown n ms b b ties):Grown n ms (b + 1) 0 ties :=
 ⟨g.few,g.ok,fun t h=>by
  obtain⟨a',b',h1,h2,h3,h4⟩:=g.of t h
  exact⟨a',b',h1,h2,.inl (by omega),h4⟩,g.nd⟩
theorem Grown.skip {n:Nat} {ms:List Int} {b a:Nat} {ties:List Tie} (g:Grown n ms b a ties):Grown n ms b (a + 1) ties :=
 ⟨g.few,g.ok,fun t h=>by
  obtain⟨a',b',h1,h2,h3,h4⟩:=g.of t h
  exact⟨a',b',h1,h2,by omega,h4⟩,g.nd⟩
structure Perm0 (n:Nat) (ms:List Int):Prop where
 len:ms.length=n
 lo:∀ i,i < n->0≤ms.getD i 0∧ms.getD i 0 < (n:Int)
 inj:∀ i j,i < n->j < n->ms.getD i 0=ms.getD j 0->i=j
theorem Perm0.of {n:Nat} {ms:List Int} (h:ms.Perm ((List.range n).map fun i:Nat=>(i:Int))):Perm0 n ms:=by
 have hl:ms.length=n:=by simpa using h.length_eq
 have nd:ms.Nodup:=(h.nodup_iff).mpr (by
  rw[List.Nodup,List.pairwise_map]
  exact (List.nodup_range (n:=n)).imp fun h z=>h (by omega))
 refine⟨hl,fun i hi=>?_,fun i j hi hj e=>?_⟩
 ·have e:ms.getD i 0=ms[i]:=by simp [List.getD,show i < ms.length by omega]
  have m:ms[i]'(by omega) ∈ (List.range n).map fun i:Nat=>(i:Int):=h.mem_iff.mp (List.getElem_mem _)
  rw[e]
  obtain⟨k,hk,ek⟩:=List.mem_map.mp m
  have:=List.mem_range.mp hk
  omega
 ·have e1:ms.getD i 0=ms[i]:=by simp [List.getD,show i < ms.length by omega]
  have e2:ms.getD j 0=ms[j]:=by simp [List.getD,show j < ms.length by omega]
  rw[e1,e2] at e
  exact (List.getElem_inj nd).mp e
theorem Grown.add {n:Nat} {ms:List Int} {b a:Nat} {ties:List Tie} {x y l:Int} (g:Grown n ms b a ties) (pm:Perm0 n ms) (ha:a < b) (hb:b < n) (hf:ties.length < 60) (hl:1≤l) (hl2:l≤10 ^ 18)
  (hxy:(x=ms.getD a 0∧y=ms.getD b 0)∨(x=ms.getD b 0∧y=ms.getD a 0)) (hle:x≤y):Grown n ms b (a + 1) (ties++[(x,y,l)]):=by
 have han:=Nat.lt_trans ha hb
 have la:=pm.lo a han
 have lb:=pm.lo b hb
 have ne:ms.getD a 0≠ms.getD b 0:=fun e=>Nat.ne_of_lt ha (pm.inj a b han hb e)
 refine⟨by rw[List.length_append,List.length_singleton];exact hf,fun t ht=>?_,fun t ht=>?_,?_⟩
 ·rcases List.mem_append.mp ht with h | h
  ·exact g.ok t h
  ·have e:t=(x,y,l):=List.mem_singleton.mp h
   subst e
   refine⟨?_,?_,?_,hl,hl2⟩
   ·show 0≤x
    rcases hxy with ⟨q1,q2⟩ | ⟨q1,q2⟩
    ·rw[q1];exact la.1
    ·rw[q1];exact lb.1
   ·show x < y
    refine Int.lt_iff_le_and_ne.mpr ⟨hle,fun z=>?_⟩
    rcases hxy with ⟨q1,q2⟩ | ⟨q1,q2⟩
    ·exact ne (q1.symm.trans (z.trans q2))
    ·exact ne (q2.symm.trans (z.symm.trans q1))
   ·show y < (n:Int)
    rcases hxy with ⟨q1,q2⟩ | ⟨q1,q2⟩
    ·rw[q2];exact lb.2
    ·rw[q2];exact la.2
 ·rcases List.mem_append.mp ht with h | h
  ·obtain⟨a',b',h1,h2,h3,h4⟩:=g.of t h
   exact⟨a',b',h1,h2,h3.imp id fun z=>⟨z.1,Nat.lt_succ_of_lt z.2⟩,h4⟩
  ·have e:t=(x,y,l):=List.mem_singleton.mp h
   subst e
   exact⟨a,b,ha,hb,.inr ⟨rfl,Nat.lt_succ_self _⟩,hxy⟩
 ·rw[List.pairwise_append]
  refine⟨g.nd,List.pairwise_singleton _ _,fun t ht u hu=>?_⟩
  have e:u=(x,y,l):=List.mem_singleton.mp hu
  subst e
  rintro ⟨e1,e2⟩
  obtain⟨a',b',h1,h2,h3,h4⟩:=g.of t ht
  have e1':t.1=x:=e1
  have e2':t.2.1=y:=e2
  have h1n:=Nat.lt_trans h1 h2
  have fin:a'=a->b'=b->False:=fun ea eb=>h3.elim (fun z=>Nat.ne_of_lt z eb) fun z=>Nat.ne_of_lt z.2 ea
  have fin2:a'=b->b'=a->False:=fun ea eb=>Nat.lt_asymm ha (by rw[← ea,← eb];exact h1)
  rcases h4 with ⟨p1,p2⟩ | ⟨p1,p2⟩ <;> rcases hxy with ⟨q1,q2⟩ | ⟨q1,q2⟩
  ·exact fin (pm.inj a' a h1n han (p1.symm.trans (e1'.trans q1))) (pm.inj b' b h2 hb (p2.symm.trans (e2'.trans q2)))
  ·exact fin2 (pm.inj a' b h1n hb (p1.symm.trans (e1'.trans q1))) (pm.inj b' a h2 han (p2.symm.trans (e2'.trans q2)))
  ·exact fin2 (pm.inj a' b h1n hb (p2.symm.trans (e2'.trans q2))) (pm.inj b' a h2 han (p1.symm.trans (e1'.trans q1)))
  ·exact fin (pm.inj a' a h1n han (p2.symm.trans (e2'.trans q2))) (pm.inj b' b h2 hb (p1.symm.trans (e1'.trans q1)))
theorem rise_of {ts:List Tie} (h:ts.Pairwise fun a b=>Srt.lexI (tieI b) (tieI a)=false) (nd:ts.Pairwise fun s t=>¬ (s.1=t.1∧s.2.1=t.2.1)):ts.Pairwise endLt:=by
 refine (h.and nd).imp fun {a b} hab=>?_
 obtain⟨h1,h2⟩:=hab
 obtain⟨a1,a2,a3⟩:=a
 obtain⟨b1,b2,b3⟩:=b
 simp only [tieI,Srt.lexI] at h1
 show a1 < b1∨(a1=b1∧a2 < b2)
 have h2':¬ (a1=b1∧a2=b2):=h2
 by_cases e1:b1=a1
 ·rw[if_pos e1] at h1
  by_cases e2:b2=a2
  ·exact absurd ⟨e1.symm,e2.symm⟩ h2'
  ·rw[if_neg e2] at h1
   have:=of_decide_eq_false h1
   exact .inr ⟨e1.symm,by omega⟩
 ·rw[if_neg e1] at h1
  have:=of_decide_eq_false h1
  exact .inl (by omega)
end L3
namespace L3
open PySem PySem.Spec PyProof.Rows L2
section
variable {X:Cx} {pos:Pos}
theorem op_mulB:OpR X (binaryOp .Mult) (rI (fun i j=>IntMulOk i j) fun i j=>.int (i * j)):=opI fun _ _ _ _ _ _ _ hc q=>mul_int q hc
theorem mulB:IntMulOk ((10:Int) ^ (60:Int).toNat) ((10:Int) ^ (60:Int).toNat):=IntMulOk.of_bits (by decide +kernel) (by decide +kernel)
theorem mulB2:IntMulOk ((10:Int) ^ (60:Int).toNat * (10:Int) ^ (60:Int).toNat) ((10:Int) ^ (60:Int).toNat):=IntMulOk.of_bits (by decide +kernel) (by decide +kernel)
theorem posB:(0:Int) < (10:Int) ^ (60:Int).toNat * (10:Int) ^ (60:Int).toNat * (10:Int) ^ (60:Int).toNat:=by decide +kernel
/-- range(n) as a value -/
theorem call_range:CallR X (.type "range") (fun xs H Q=>∃ j:Int,xs=[.int j]∧∀ p,H p=none->Q (.ref p) (upd H p (.rng 0 j))):=by
 intro pins s σ H xs us Q I r h
 obtain⟨j,rfl,q⟩:=h
 obtain⟨u,rfl,t,rfl⟩:=vals1 r
 refine call_range_1 ⟨.ref s.heap.objs.size,_,I.laid (a:=s.heap.objs.size) (o:=.rng 0 j) (fun b o e=>Heap.get?_push_of_some _ e) (Nat.le_refl _) ⟨_,_,_,Heap.get?_push_size _ rfl⟩,rfl,q _ I.fresh⟩
/-- list(range(n)) -/
theorem call_list_rng (hh:X.calm=true):CallR X (.type "list") (fun xs H Q=>∃ (p:Addr) (j:Int),xs=[.ref p]∧H p=some (.rng 0 j)∧0≤j∧j≤1000∧∀ l,H l=none->Q (.ref l) (upd H l (.lst ((List.range j.toNat).map fun i:Nat=>V.int (i:Int))))):=by
 intro pins s σ H xs us Q I r h
 obtain⟨p,j,rfl,hp,hj0,hj,q⟩:=h
 obtain⟨u,rfl,rx⟩:=vals1 r
 cases rx
 obtain⟨t,u,v,e⟩:=(show ObjOk X.prog X.w H s.heap p (.rng 0 j) from I.hok p _ hp)
 refine call_list_range (n:=j.toNat) (I.ok.hd hh) (show IsRange s.heap p 0 j 1 t u v from e) (small_one (by omega) (by omega) (by omega) (by omega)) (by rw[rangeSize_one];split <;> omega) (by omega) fun h' tk acc c hk hS hacc=>?_
 refine⟨.ref s.heap.objs.size,_,I.laid (a:=s.heap.objs.size) (o:=.lst ((List.range j.toNat).map fun i:Nat=>V.int (i:Int))) (t':=tk) hk (Nat.le_refl _) ⟨?_,acc.toList,c,?_,by simpa using hS⟩,rfl,q _ I.fresh⟩
 ·rw[List.length_map,List.length_range,sizeLine_eq];omega
 ·have go:∀ (n:Nat) (l:List Value),l.length=n->(∀ (k:Nat) (v:Value),l[k]?=some v->∃ t,v=Value.int (0 + (k:Int) * 1) t)->Vals ((List.range n).map fun i:Nat=>V.int (i:Int)) l:=by
   intro n l hl hv
   have gen:∀ (l:List Value) (o:Nat),(∀ (k:Nat) (v:Value),l[k]?=some v->∃ t,v=Value.int ((o + k:Nat):Int) t)->Vals ((List.range' o l.length).map fun i:Nat=>V.int (i:Int)) l:=by
    intro l
    induction l with
    | nil=>intro o _;exact .nil
    | cons x r ih =>
     intro o h
     rw[List.length_cons,List.range'_succ,List.map_cons]
     obtain⟨t,ht⟩:=h 0 x rfl
     refine .cons ⟨t,by simpa using ht⟩ (ih (o + 1) fun k v hk=>?_)
     obtain⟨t,ht⟩:=h (k + 1) v (by simpa using hk)
     exact⟨t,by rw[ht];congr 1;omega⟩
   have:=gen l 0 fun k v hk=>by
    obtain⟨t,ht⟩:=hv k v hk
    exact⟨t,by rw[ht];congr 1;omega⟩
   rw[hl] at this
   rw[List.range_eq_range']
   exact this
  refine go _ _ (by simpa using hacc.1) fun k v hk=>hacc.2 k v (by simpa using hk)
end
theorem erase_perm {α:Type}:∀ (l:List α) (k:Nat) (h:k < l.length),(l[k]::l.eraseIdx k).Perm l
 | [],k,h=>absurd h (Nat.not_lt_zero _)
 | a::l,0,_=>List.Perm.refl _
 | a::l,k + 1,h=>by
  have h':k < l.length:=by simpa using h
  show (l[k]::a::l.eraseIdx k).Perm (a::l)
  exact (List.Perm.swap a l[k] _).trans ((erase_perm l k h').cons a)
theorem map_erase {α β:Type} (f:α->β):∀ (l:List α) (k:Nat),(l.eraseIdx k).map f=(l.map f).eraseIdx k
 | [],_=>rfl
 | _::_,0=>rfl
 | a::l,k + 1=>by
  show f a::(l.eraseIdx k).map f=f a::(l.map f).eraseIdx k
  rw[map_erase f l k]
end L3
namespace L3
open PySem PySem.Spec PyProof.Rows L2
/-- a list's values are tuples of the ties -/
def TieL (H:Hp) (ys:List V) (ts:List Tie):Prop:=Paired (fun (y:V) (t:Tie)=>∃ a,y=.ref a∧H a=some (.tup ((tieI t).map V.int))) ys ts
theorem TieL.keep {H H':Hp} {ys:List V} {ts:List Tie} (h:TieL H ys ts) (k:∀ a xs,H a=some (.tup xs)->H' a=some (.tup xs)):TieL H' ys ts :=
 Paired.mapP h fun y t ⟨a,e1,e2⟩=>⟨a,e1,k _ _ e2⟩
theorem TieL.snoc {H:Hp} {ys:List V} {ts:List Tie} {a:Addr} {t:Tie} (h:TieL H ys ts) (e:H a=some (.tup ((tieI t).map V.int))):TieL H (ys++[.ref a]) (ts++[t]):=Paired.snoc h ⟨a,rfl,e⟩
theorem paired_map {α β γ:Type} {F:β->γ->Prop} (f:α->β) (g:α->γ):∀ {l:List α},(∀ x ∈ l,F (f x) (g x))->Paired F (l.map f) (l.map g)
 | [],_=>.nil
 | x::l,h=>.cons (h x List.mem_cons_self) (paired_map f g fun y hy=>h y (List.mem_cons_of_mem _ hy))
theorem paired_zip {α β γ:Type} {F:α->β->Prop} {f:β->γ}:∀ {l:List α} {r:List β},Paired F l r->∀ q ∈ l.zip (r.map f),∃ b,q.2=f b∧F q.1 b
 | _,_,.nil,q,h=>by cases h
 | _,_,.cons (a:=a) (b:=b) x t,q,h=>by
  rw[List.map_cons,List.zip_cons_cons] at h
  rcases List.mem_cons.mp h with e | h
  ·subst e;exact⟨b,rfl,x⟩
  ·exact paired_zip t q h
theorem paired_keys {F:V->Tie->Prop} {G:V->List Int->Prop} (h:∀ y t,F y t->G y (tieI t)):∀ {ys:List V} {ts:List Tie},Paired F ys ts->Paired G ys (ts.map tieI)
 | _,_,.nil=>.nil
 | _,_,.cons x t=>.cons (h _ _ x) (paired_keys h t)
def tieOf:List Int->Tie
 | [a,b,c]=>(a,b,c)
 | _=>(0,0,0)
theorem tieOf_I (t:Tie):tieOf (tieI t)=t:=rfl
theorem tie_out {H:Hp} {ys:List V} {ts:List Tie} (h:TieL H ys ts) {qs:List (V × List Int)} (p:qs.Perm (ys.zip (ts.map tieI))) (w:qs.Pairwise fun a b=>Srt.lexI b.2 a.2=false) :
  ∃ ts':List Tie,ts'.Perm ts∧TieL H (qs.map (·.1)) ts'∧ts'.Pairwise fun a b=>Srt.lexI (tieI b) (tieI a)=false:=by
 have mem:∀ q ∈ qs,∃ t,q.2=tieI t∧∃ a,q.1=.ref a∧H a=some (.tup ((tieI t).map V.int)):=fun q hq=>paired_zip h q (p.mem_iff.mp hq)
 have back:∀ q ∈ qs,tieI (tieOf q.2)=q.2:=fun q hq=>by
  obtain⟨t,e,_⟩:=mem q hq
  rw[e];rfl
 refine⟨qs.map fun q=>tieOf q.2,?_,paired_map _ _ fun q hq=>?_,?_⟩
 ·have e1:(qs.map fun q=>tieOf q.2).Perm ((ys.zip (ts.map tieI)).map fun q=>tieOf q.2):=p.map _
  have e2:(ys.zip (ts.map tieI)).map (fun q=>tieOf q.2)=ts:=by
   have l:ys.length=(ts.map tieI).length:=by rw[List.length_map];exact Paired.length h
   have:(ys.zip (ts.map tieI)).map (fun q=>tieOf q.2)=((ys.zip (ts.map tieI)).map (·.2)).map tieOf:=by rw[List.map_map];rfl
   rw[this,List.map_snd_zip (Nat.le_of_eq l.symm),List.map_map]
   exact (List.map_congr_left fun t _=>tieOf_I t).trans (List.map_id _)
  rw[e2] at e1
  exact e1
 ·obtain⟨t,e,a,ea,eh⟩:=mem q hq
  refine⟨a,ea,?_⟩
  rw[back q hq,e];exact eh
 ·rw[List.pairwise_map]
  refine w.imp_of_mem fun {a b} ha hb z=>?_
  rw[back a ha,back b hb];exact z
theorem TieL.is {K:PySem.W.Frag} {H:Hp}:∀ {ys:List V} {ts:List Tie},TieL H ys ts->IsAll K H (ts.map tieD) ys
 | _,_,.nil=>rfl
 | _,_,.cons (a:=y) (b:=t) ⟨a,e1,e2⟩ r=>⟨_,_,rfl,⟨a,_,e1,e2,IsAll.ints _⟩,TieL.is r⟩
theorem two_sorted {x y:Int} {ms:List Int} (p:ms.Perm [x,y]) (w:ms.Pairwise (·≤·)):∃ a b,ms=[a,b]∧a≤b∧((a=x∧b=y)∨(a=y∧b=x)):=by
 have hl:=p.length_eq
 match ms,hl,p,w with
 | [a,b],_,p,w =>
  refine⟨a,b,rfl,by simpa using w,?_⟩
  have ha:a ∈ [x,y]:=p.mem_iff.mp (by simp)
  rcases List.mem_cons.mp ha with e | e
  ·subst e
   have:=(List.perm_cons a).mp p
   have e2:b=y:=by simpa using List.perm_singleton.mp this
   exact .inl ⟨rfl,e2⟩
  ·have e':a=y:=by simpa using e
   subst e'
   have p2:[a,b].Perm [a,x]:=p.trans (List.Perm.swap a x [])
   have:=(List.perm_cons a).mp p2
   have e2:b=x:=by simpa using List.perm_singleton.mp this
   exact .inr ⟨rfl,e2⟩
end L3
namespace L3
open PySem PySem.Spec PyProof.Rows L2
def TupKeep (H H':Hp):Prop:=∀ a xs,H a=some (.tup xs)->H' a=some (.tup xs)
section
variable {J:It} {g:TG} {te:TE} {own:List Str} {js:List Nat} {σ:L2.St} {H1:Hp} {Q:VK}
/-- no test, nothing that stands is changed: item i is worth R i -/
theorem comp_map (n:Nat) (Sg:L2.St->Prop) (R:Nat->V->Hp->Prop) (hn:n≤1000) (h0:Sg (start3 own js σ)) (mono:∀ i v H H',TupKeep H H'->R i v H->R i v H')
  (go:∀ i H',i < n->Same H1 H'->J.go i H') (stop:∀ H',Same H1 H'->J.stop n H')
  (step:∀ i x σ' H' H2,i < n->Same H1 H'->J.yld i H' x H2->Sg σ'->∀ C:L2.St->V->Hp->Prop,(∀ σ3 v H5,Sg σ3->Same H' H5->R i v H5->C σ3 v H5)->g x σ' H2 fun σ3 H3=>te σ3 H3 fun v H5=>C σ3 v H5)
  (fin:∀ D ys H',H1 D=none->Same H1 H'->H' D=some (.lst ys)->ys.length=n->(∀ i v,ys[i]?=some v->R i v H')->Q (.ref D) H'):CompGo own js g tTrue te σ Q J H1:=by
 intro D hD
 refine⟨fun i m ys σ' H'=>m=n - i∧i≤n∧Sg σ'∧Same H1 H'∧ys.length=i∧∀ j v,ys[j]?=some v->R j v H',⟨n,rfl,Nat.zero_le _,h0,same_new hD,rfl,fun j v e=>by simp at e⟩,?_⟩
 rintro i m ys σ' H' ⟨rfl,hi,sg,sm,hl,hr⟩ hd
 by_cases hlt:i < n
 ·refine .inr ⟨go i H' hlt sm,fun x H2 hy=>?_⟩
  refine step i x σ' H' H2 hlt sm hy sg (fun σ3 v H5=>H5 D=some (.lst ys)∧ys.length < sizeLine∧∃ m',m' < n - i∧(m'=n - (i + 1)∧i + 1≤n∧Sg σ3∧Same H1 (upd H5 D (.lst (ys++[v])))∧(ys++[v]).length=i + 1∧∀ j u,(ys++[v])[j]?=some u->R j u (upd H5 D (.lst (ys++[v]))))) fun σ3 v H5 sg3 s5 r5=>?_
  have hd5:=s5 _ _ hd
  refine⟨hd5,Nat.lt_of_le_of_lt (by omega:ys.length≤1000) (by decide),n - (i + 1),by omega,rfl,hlt,sg3,fun b o e=>?_,by rw[List.length_append,List.length_singleton,hl],fun j u e=>?_⟩
  ·rw[upd_ne (ne_of_none e hD)];exact s5 _ _ (sm _ _ e)
  ·have tk5:TupKeep H5 (upd H5 D (.lst (ys++[v]))):=fun a xs e=>by rw[upd_ne (fun z=>by rw[z,hd5] at e;cases e)];exact e
   by_cases hj:j < ys.length
   ·rw[List.getElem?_append_left hj] at e
    exact mono _ _ _ _ tk5 (mono _ _ _ _ (fun a xs z=>s5 _ _ z) (hr j u e))
   ·rw[List.getElem?_append_right (by omega)] at e
    have ej:j=ys.length:=by
     have:=(List.getElem?_eq_some_iff.mp e).1
     simp at this;omega
    subst ej
    have eu:v=u:=by simpa using e
    subst eu
    rw[hl]
    exact mono _ _ _ _ tk5 r5
 ·have e:i=n:=by omega
  subst e
  exact .inl ⟨stop H' sm,fin D ys H' hD sm hd hl hr⟩
theorem comp_tup {K:PySem.W.Frag} {a:Addr} {xs:List V} (hx:H1 a=some (.tup xs)) (Sg:L2.St->Prop) (R:Nat->V->Hp->Prop) (hn:xs.length≤1000) (h0:Sg (start3 own js σ)) (mono:∀ i v H H',TupKeep H H'->R i v H->R i v H')
  (step:∀ i x σ' H',xs[i]?=some x->Same H1 H'->Sg σ'->∀ C:L2.St->V->Hp->Prop,(∀ σ3 v H5,Sg σ3->Same H' H5->R i v H5->C σ3 v H5)->g x σ' H' fun σ3 H3=>te σ3 H3 fun v H5=>C σ3 v H5)
  (fin:∀ D ys H',H1 D=none->Same H1 H'->H' D=some (.lst ys)->ys.length=xs.length->(∀ i v,ys[i]?=some v->R i v H')->Q (.ref D) H'):CompGo own js g tTrue te σ Q (Itt K a) H1:=by
 refine comp_map xs.length Sg R hn h0 mono (fun i H' hi s=>⟨xs,xs[i],SqT.of (s _ _ hx),by simp [hi]⟩) (fun H' s=>⟨xs,SqT.of (s _ _ hx),Nat.le_refl _⟩) (fun i x σ' H' H2 hi s hy sg C hC=>?_) fin
 obtain⟨rfl,hy⟩:=hy
 exact step i x σ' _ (hy xs (SqT.of (s _ _ hx))) s sg C hC
theorem comp_lst {K:PySem.W.Frag} {a:Addr} {xs:List V} (hx:H1 a=some (.lst xs)) (Sg:L2.St->Prop) (R:Nat->V->Hp->Prop) (hn:xs.length≤1000) (h0:Sg (start3 own js σ)) (mono:∀ i v H H',TupKeep H H'->R i v H->R i v H')
  (step:∀ i x σ' H',xs[i]?=some x->Same H1 H'->Sg σ'->∀ C:L2.St->V->Hp->Prop,(∀ σ3 v H5,Sg σ3->Same H' H5->R i v H5->C σ3 v H5)->g x σ' H' fun σ3 H3=>te σ3 H3 fun v H5=>C σ3 v H5)
  (fin:∀ D ys H',H1 D=none->Same H1 H'->H' D=some (.lst ys)->ys.length=xs.length->(∀ i v,ys[i]?=some v->R i v H')->Q (.ref D) H'):CompGo own js g tTrue te σ Q (Itl K a) H1:=by
 refine comp_map xs.length Sg R hn h0 mono (fun i H' hi s=>⟨xs,xs[i],SqL.of (s _ _ hx),by simp [hi]⟩) (fun H' s=>⟨xs,SqL.of (s _ _ hx),Nat.le_refl _⟩) (fun i x σ' H' H2 hi s hy sg C hC=>?_) fin
 obtain⟨rfl,hy⟩:=hy
 exact step i x σ' _ (hy xs (SqL.of (s _ _ hx))) s sg C hC
theorem SqX.of {t:Bool} {K:PySem.W.Frag} {H:Hp} {a:Addr} {xs:List V} (h:H a=some (if t=true then .tup xs else .lst xs)):SqX t K H a xs:=by
 cases t with
 | true=>exact SqT.of h
 | false=>exact SqL.of h
end
theorem bools_of {f:Nat->Bool} {n:Nat} {ys:List V} (hl:ys.length=n) (h:∀ (i:Nat) (v:V),ys[i]?=some v->v=V.bl (f i)):ys=((List.range n).map f).map V.bl:=by
 refine List.ext_getElem? fun i=>?_
 by_cases hi:i < n
 ·obtain⟨v,hv⟩:∃ v,ys[i]?=some v:=⟨ys[i],List.getElem?_eq_getElem (by omega)⟩
  rw[hv,h i v hv]
  simp [hi]
 ·rw[List.getElem?_eq_none (by omega),List.getElem?_eq_none (by simp;omega)]
def tyD:PyData->String
 | .none=>"NoneType"
 | .bool _=>"bool"
 | .int _=>"int"
 | .str _=>"str"
 | .tuple _=>"tuple"
 | .list _=>"list"
 | .dict _=>"dict"
theorem ty_of {K:PySem.W.Frag} {H:Hp}:∀ {d:PyData} {v:V},Is K H d v->TyOf K H v (.type (tyD d))
 | .none,_,h=>by rw[show _=V.non from h];exact .non
 | .bool b,_,h=>by rw[show _=V.bl b from h];exact .bl b
 | .int i,_,h=>by rw[show _=V.int i from h];exact .int i
 | .str x,_,h=>by rw[show _=V.str x from h];exact .str x
 | .tuple _,_,⟨p,vs,e,h,_⟩=>by rw[e];exact .tup h
 | .list _,_,⟨p,vs,e,h,_⟩=>by rw[e];exact .lst h
 | .dict _,_,⟨_,p,e,h⟩=>by rw[e];exact .dK h
def wholeB:PyData->Bool
 | .int _=>true
 | _=>false
def wholesB:PyData->Bool
 | .tuple ds=>ds.all wholeB
 | _=>false
def tieB (n:Int):PyData->Bool
 | .tuple [.int a,.int b,.int l]=>decide (0≤a) && decide (a < b) && decide (b < n) && decide (1≤l) && decide (l≤10 ^ 18)
 | _=>false
/-- how many things a tuple or a list has, at most -/
def few:PyData->Prop
 | .tuple ds=>ds.length≤1000
 | .list ds=>ds.length≤1000
 | _=>True
def spD1 (K:PySem.W.Frag) (pre:PyData->Prop) (f:PyData->Bool):Sp:=fun vs H Q _=>∃ d v,vs=[v]∧Is K H d v∧pre d∧∀ H',Same H H'->Q (.bl (f d)) H'
end L3
namespace L3
open PySem PySem.Spec PyProof.Rows L2
section
variable {g:TG} {te:TE} {own:List Str} {js:List Nat} {σ:L2.St} {H1:Hp} {Q:VK}
end
def e2 (e:Int × Int):List Int:=[e.1,e.2]
def risingB (es:List (Int × Int)):Bool:=((List.range (min es.length (es.drop 1).length)).map fun i=>HT.lexLt (e2 (es.getD i (0,0))) (e2 ((es.drop 1).getD i (0,0)))).all id
def TwoL (H:Hp) (ys:List V) (es:List (Int × Int)):Prop:=Paired (fun (y:V) (e:Int × Int)=>∃ a,y=.ref a∧H a=some (.tup [.int e.1,.int e.2])) ys es
def turnT (t:Tie):Tie:=(if t.2.1 < t.1 then t.2.1 else t.1,if t.2.1 > t.1 then t.2.1 else t.1,t.2.2)
/-- a web of good ties, turned and in any order -/
def spMade (K:PySem.W.Frag):Sp:=fun vs H Q _=>∃ (n:Int) (ts us:List Tie) (q:Addr) (tp:Bool) (ys:List V),vs=[.int n,.ref q]∧H q=some (if tp=true then .tup ys else .lst ys)∧TieL H ys us∧(us.map turnT).Perm ts∧WebOk n ts ∧
 ∀ v H',Same H H'->Is K H' (webD n ts) v->Q v H'
section
variable {g:TG} {te:TE} {own:List Str} {js:List Nat} {σ:L2.St} {H1:Hp} {Q:VK}
end
section
variable {X:Cx} {own fr:List Str} {scope:Scope} {fp:List Addr} {pins:List (Addr × Obj)} {s3:Shared} {H3:Hp} {pos:Pos}
theorem pg_tupC {es:List Expr} {k:Nat} {t:TGs} {n:Nat} (hc:X.calm=true) (h:PGs (cxComp X own fr scope fp pins s3 H3) es t)
  (hn:(assignEach es (cxComp X own fr scope fp pins s3 H3).env).length=n:=by rfl) (hst:(assignEach es (cxComp X own fr scope fp pins s3 H3).env).findIdx? (·.1)=none:=by rfl):PG (cxComp X own fr scope fp pins s3 H3) (.Tuple es k pos) (gTup X.K n t) :=
 pg_tup (X:=cxComp X own fr scope fp pins s3 H3) hc h hn hst
theorem ix_listC:IxR (cxComp X own fr scope fp pins s3 H3) (rIxL X.K):=ix_list (X:=cxComp X own fr scope fp pins s3 H3)
theorem ix_tupC:IxR (cxComp X own fr scope fp pins s3 H3) (rIxT X.K):=ix_tup (X:=cxComp X own fr scope fp pins s3 H3)
end
end L3
namespace L3
open PySem PySem.Spec PyProof.Rows L2
def KeepOk (m:Nat) (ks:List Nat):Prop:=ks.Pairwise (· < ·)∧∀ k ∈ ks,k < m
def keepI (ks:List Nat):List Int:=ks.map fun k:Nat=>(k:Int)
def keepD (ks:List Nat):PyData:=.tuple ((keepI ks).map .int)
theorem KeepOk.len {m:Nat} {ks:List Nat} (h:KeepOk m ks):ks.length≤m:=by
 have go:∀ (ks:List Nat) (lo m:Nat),ks.Pairwise (· < ·)->(∀ k ∈ ks,lo≤k∧k < m)->ks.length + lo≤max m lo:=by
  intro ks
  induction ks with
  | nil=>intro lo m _ _;simp;omega
  | cons k r ih =>
   intro lo m hp hb
   have h1:=hb k List.mem_cons_self
   have:=ih (k + 1) m (List.pairwise_cons.mp hp).2 fun j hj=>⟨(List.pairwise_cons.mp hp).1 j hj,(hb j (List.mem_cons_of_mem _ hj)).2⟩
   rw[List.length_cons]
   omega
 have:=go ks 0 m h.1 fun k hk=>⟨Nat.zero_le _,h.2 k hk⟩
 omega
def spKeep (K:PySem.W.Frag):Sp:=fun vs H Q _=>∃ (p:Addr) (n:Int) (ts:List Tie) (v:V),vs=[.ref p,v]∧Pot H p∧Is K H (webD n ts) v∧ts.length≤60∧∀ v' H' ks,But p H H'->Pot H' p->KeepOk ts.length ks->Is K H' (keepD ks) v'->Q v' H'
theorem web_parts {K:PySem.W.Frag} {H:Hp} {n:Int} {ts:List Tie} {v:V} (h:Is K H (webD n ts) v):∃ (p g:Addr) (ws:List V),v=.ref p∧H p=some (.tup [.int n,.ref g])∧H g=some (.tup ws)∧IsAll K H (ts.map tieD) ws∧ws.length=ts.length:=by
 obtain⟨p,vs,rfl,hp,v1,r1,rfl,e1,v2,r2,rfl,⟨g,ws,rfl,hg,hall⟩,e3⟩:=h
 have e1':v1=.int n:=e1
 have e3':r2=[]:=e3
 subst e1' e3'
 exact⟨p,g,ws,rfl,hp,hg,hall,by have:=hall.length;rw[List.length_map] at this;exact this⟩
end L3
namespace Z3
open PySem
section
variable {prog:Program} {w:World} {A:Around} {E:Value->Shared->Prop} {s:Shared}
theorem enum_new (t:Bool) (l:Addr) (xs:Array Value) :
  Meets (Builtin.«enumerate.__new__» ⟨[.type "enumerate",.ref l],[]⟩) (fun _ R s=>SqAt t s.heap l xs ∧
   R (.ok (.ret (.ref (s.heap.push (itObj t l)).objs.size))) { s with heap:=(s.heap.push (itObj t l)).push { cls:=.type "enumerate",data:=.fields #[.none,.bool false,.ref s.heap.objs.size,rawInt 0,.none,.none] } }) :=
 .of_wp fun prog w A R s h=>by
  obtain⟨hp,g,d,tk,os⟩:=s;obtain⟨hl,h⟩:=h
  have hsub:=sub_enumerate
  have b1:SqAt t (Shared.heap ⟨hp,g,d,tk,os⟩) l xs:=hl
  obtain⟨o,ho⟩:∃ o,hp.get? l=some o:=by
   cases t with
   | true=>obtain⟨o,q,_⟩:=(show hp.IsTuple l xs from hl);exact⟨o,q⟩
   | false=>obtain⟨o,q,_⟩:=(show hp.IsList l xs from hl);exact⟨o,q⟩
  wp_walk using AutoSeq1.wpAny_loadPart' ho
  refine wpAny_stack_any fun st=>?_
  refine wpAny_pure ?_
  split
  ·rename_i c _ _ _ _ _
   rcases (c == Value.type "enumerate") with _ | _
   ·wp_walk using AutoSeq1.wpAny_loadPart' ho,iter_at b1
    exact⟨_,rfl,h⟩
   ·wp_walk using AutoSeq1.wpAny_loadPart' ho,iter_at b1
    exact⟨_,rfl,h⟩
  ·wp_walk using AutoSeq1.wpAny_loadPart' ho,iter_at b1
   exact⟨_,rfl,h⟩
theorem call_enum {t:Bool} {l:Addr} {xs:Array Value} {Q:Value->Shared->Prop} (hl:SqAt t s.heap l xs)
  (h:∀ h',IsEnum h' (s.heap.objs.size + 1) s.heap.objs.size ((0:Nat):Int) .none->ItAt t h' s.heap.objs.size l 0->h'.objs.size=s.heap.objs.size + 2->(∀ b o,s.heap.get? b=some o->h'.get? b=some o)->Q (.ref (s.heap.objs.size + 1)) { s with heap:=h' }) :
  wpAny (model prog w) A (call (.type "enumerate") [.ref l]) Q E s:=by
 refine callType_new F.called_enumerate (by decide) (F.typeCall_enumerate_1 _) (F.newCall_enumerate_1 _) (fun obj=>F.args_object_init_2 obj _) F.entry_enumerate_new (enum_new t l xs) ⟨hl,?_⟩
 have z1:(s.heap.push (itObj t l)).objs.size=s.heap.objs.size + 1:=Heap.size_push ..
 have g1:ItAt t ((s.heap.push (itObj t l)).push { cls:=.type "enumerate",data:=.fields #[.none,.bool false,.ref s.heap.objs.size,rawInt 0,.none,.none] }) s.heap.objs.size l 0:=(ItAt.new (t:=t) (h:=s.heap) (l:=l)).to fun o e=>Heap.get?_push_of_some _ e
 have g2:((s.heap.push (itObj t l)).push { cls:=.type "enumerate",data:=.fields #[.none,.bool false,.ref s.heap.objs.size,rawInt 0,.none,.none] }).get? (s.heap.push (itObj t l)).objs.size=some _:=Heap.get?_push_size _ rfl
 show _∧_
 rw[z1] at g2 ⊢
 exact⟨⟨_,g2,rfl⟩,h _ g2 g1 (by rw[Heap.size_push,z1]) fun b o q=>Heap.get?_push_of_some _ (Heap.get?_push_of_some _ q)⟩
theorem enum_more {t:Bool} {e it l:Addr} {i:Nat} {xs:Array Value} {x old:Value} {Q:Value->Shared->Prop} (he:IsEnum s.heap e it i old) (hi:ItAt t s.heap it l i) (hl:SqAt t s.heap l xs) (hx:xs[i]?=some x) (ne:e≠it)
  (hQ:∀ h',IsEnumOut h' e it ((i:Int) + 1) x s.heap.objs.size->ItAt t h' it l (i + 1)->h'.get? s.heap.objs.size=some { cls:=.type "tuple",data:=.seq #[.int i s.toks,x] }->h'.objs.size=s.heap.objs.size + 1 ->
   (∀ b o,b≠e->b≠it->s.heap.get? b=some o->h'.get? b=some o)->Q (.ref s.heap.objs.size) { s with heap:=h',toks:=s.toks + 1 }) :
  wpAny (model prog w) A (Builtin.«enumerate.__next__» ⟨[.ref e],[]⟩) (fun fin s'=>∃ v,fin=.done (.ret v)∧Q v s') E s:=by
 obtain⟨hp,g,d,tk,os⟩:=s
 show wpAny _ _ (field (.ref e) 2 >>= _) _ _ _
 refine wpAny_bind (wpAny_field he rfl (x:=.ref it) rfl (wpAny_bind (draw_at hi hl hx fun k1 i1 s1=>?_)))
 replace s1:Heap.SameBut it hp k1:=s1
 have q1:IsEnum k1 e it i old:=(s1.2 e ne).trans he
 show wpAny _ _ (field (.ref e) 3 >>= _) _ _ ⟨k1,g,d,tk,os⟩
 refine wpAny_bind (wpAny_field q1 rfl (x:=rawInt i) rfl ?_)
 show wpAny _ _ (field (.ref e) 4 >>= _) _ _ ⟨k1,g,d,tk,os⟩
 refine wpAny_bind (wpAny_field q1 rfl (x:=.none) rfl ?_)
 show wpAny _ _ (mkInt i >>= _) _ _ ⟨k1,g,d,tk,os⟩
 refine wpAny_bind (wpAny_mkInt ?_)
 show wpAny _ _ (setField (.ref e) 3 (rawInt ((i:Int) + 1)) >>= _) _ _ ⟨k1,g,d,tk + 1,os⟩
 refine wpAny_bind (wpAny_setField_rec q1 (by simp) fun k2 q2 s2=>?_)
 replace s2:Heap.SameBut e k1 k2:=s2
 replace q2:IsEnum k2 e it ((i:Int) + 1) old:=q2
 show wpAny _ _ (setField (.ref e) 4 .none >>= _) _ _ ⟨k2,g,d,tk + 1,os⟩
 refine wpAny_bind (wpAny_setField_rec q2 (by simp) fun k3 q3 s3=>?_)
 replace s3:Heap.SameBut e k2 k3:=s3
 replace q3:IsEnum k3 e it ((i:Int) + 1) old:=q3
 show wpAny _ _ (newTuple [.int i tk,x] >>= _) _ _ ⟨k3,g,d,tk + 1,os⟩
 refine wpAny_bind (wpAny_newTuple ?_)
 have q4:IsEnum (k3.push { cls:=.type "tuple",data:=.seq #[.int i tk,x] }) e it ((i:Int) + 1) old:=Heap.get?_push_of_some _ q3
 generalize hk4:k3.push { cls:=.type "tuple",data:=.seq #[.int i tk,x] }=k4 at q4
 have sz:k3.objs.size=hp.objs.size:=by rw[s3.1,s2.1,s1.1]
 have lt:e < hp.objs.size:=Heap.lt_size he
 have t4:k4.get? hp.objs.size=some { cls:=.type "tuple",data:=.seq #[.int i tk,x] }:=by rw[← hk4,← sz];exact Heap.get?_push_size _ rfl
 have z4:k4.objs.size=hp.objs.size + 1:=by rw[← hk4,Heap.size_push,sz]
 have up4:∀ b o,b≠e->b≠it->hp.get? b=some o->k4.get? b=some o:=fun b o n1 n2 q=>by
  rw[← hk4];exact Heap.get?_push_of_some _ (s3.extBut b o n1 (s2.extBut b o n1 (s1.extBut b o n2 q)))
 have i4:ItAt t k4 it l (i + 1):=i1.to fun o q=>by
  rw[← hk4];exact Heap.get?_push_of_some _ (s3.extBut _ _ ne.symm (s2.extBut _ _ ne.symm q))
 show wpAny _ _ (Builtin.SmallTypes.ownedTupleIsFree (.ref e) >>= _) _ _ ⟨k4,g,d,tk + 1,os⟩
 rw[sz]
 clear hk4 q3 s3 q2 s2 q1 s1 i1 sz k3 k2 k1
 refine wpAny_bind ?_
 unfold Builtin.SmallTypes.ownedTupleIsFree
 refine wpAny_bind (wpAny_field q4 rfl (x:=.none) rfl (wpAny_pure ?_))
 simp only [if_true]
 refine wpAny_bind (wpAny_rule (wpAny_bind (wpAny_field q4 rfl (x:=old) rfl (wpAny_bind (wpAny_setField_rec q4 (by simp) fun k5 q5 s5=>?_)))))
 replace s5:Heap.SameBut e k4 k5:=s5
 replace q5:IsEnum k5 e it ((i:Int) + 1) x:=q5
 show wpAny _ _ (Builtin.SmallTypes.ownedTupleHandOut (.ref e) (.ref hp.objs.size) >>= _) _ _ ⟨k5,g,d,tk + 1,os⟩
 refine wpAny_bind ?_
 unfold Builtin.SmallTypes.ownedTupleHandOut
 refine wpAny_bind (wpAny_setField_rec q5 (by simp) fun k6 q6 s6=>?_)
 replace s6:Heap.SameBut e k5 k6:=s6
 replace q6:IsEnumOut k6 e it ((i:Int) + 1) x hp.objs.size:=q6
 refine wpAny_setField_rec q6 (by simp) fun k7 q7 s7=>?_
 replace s7:Heap.SameBut e k6 k7:=s7
 replace q7:IsEnumOut k7 e it ((i:Int) + 1) x hp.objs.size:=q7
 have up:∀ b o,b≠e->k4.get? b=some o->k7.get? b=some o:=fun b o n q=>s7.extBut b o n (s6.extBut b o n (s5.extBut b o n q))
 exact wpAny_bind (wpAny_letGo (wpAny_pure ⟨_,rfl,hQ k7 q7 (i4.to fun o q=>up _ o ne.symm q) (up _ _ (Nat.ne_of_gt lt) t4) (by rw[s7.1,s6.1,s5.1,z4]) fun b o n1 n2 q=>up b o n1 (up4 b o n1 n2 q)⟩))
theorem enum_next_more {t:Bool} {e it l:Addr} {i:Nat} {xs:Array Value} {x old:Value} {Q:Option Value->Shared->Prop} (he:IsEnum s.heap e it i old) (hi:ItAt t s.heap it l i) (hl:SqAt t s.heap l xs) (hx:xs[i]?=some x) (ne:e≠it)
  (hQ:∀ h',IsEnumOut h' e it ((i:Int) + 1) x s.heap.objs.size->ItAt t h' it l (i + 1)->h'.get? s.heap.objs.size=some { cls:=.type "tuple",data:=.seq #[.int i s.toks,x] }->h'.objs.size=s.heap.objs.size + 1 ->
   (∀ b o,b≠e->b≠it->s.heap.get? b=some o->h'.get? b=some o)->Q (some (.ref s.heap.objs.size)) { s with heap:=h',toks:=s.toks + 1 }) :
  wpAny (model prog w) A (pyNext (.ref e)) Q E s:=by
 have ty:s.TypeIs (.ref e) "enumerate":=⟨_,he,rfl⟩
 unfold pyNext
 exact wpAny_bind (wpAny_attempt (wpAny_callSpecial?_slot (name := Str.ofString "__next__") ty F.slot_enumerate_next (wpAny_call_entry F.slot_enumerate_next ty F.entry_enumerate_next
     (enum_more he hi hl hx ne fun h' a b c d k=>wpAny_pure (hQ h' a b c d k)) (F.args_enumerate_next_1 _))))
theorem enum_next_stop {t:Bool} {e it l:Addr} {i:Nat} {xs:Array Value} {old:Value} {Q:Option Value->Shared->Prop} (hh:A.handled=none) (he:IsEnum s.heap e it i old) (hi:ItAt t s.heap it l i) (hl:SqAt t s.heap l xs) (hx:xs[i]?=none)
  (hQ:∀ h',Heap.ExtBut it s.heap h'->Q none { s with heap:=h' }):wpAny (model prog w) A (pyNext (.ref e)) Q E s:=by
 have ty:s.TypeIs (.ref e) "enumerate":=⟨_,he,rfl⟩
 unfold pyNext
 refine wpAny_bind (wpAny_attempt (wpAny_callSpecial?_slot (name:=Str.ofString "__next__") ty F.slot_enumerate_next (wpAny_call_entry F.slot_enumerate_next ty F.entry_enumerate_next ?_ (F.args_enumerate_next_1 _))))
 show wpAny _ _ (field (.ref e) 2 >>= _) _ _ _
 refine wpAny_bind (wpAny_field he rfl (x:=.ref it) rfl (wpAny_bind (stop_at hh hi hl hx fun h' x k ⟨o,p1,p2⟩=>?_)))
 exact wpAny_bind (wpAny_isInstance (T:="StopIteration") (b:=true) ⟨o,p1,p2⟩ isSubtype_stop (wpAny_pure (hQ _ k)))
end
end Z3
namespace L3
open PySem PySem.Spec PyProof.Rows L2
def Itn (t:Bool) (K:PySem.W.Frag) (l:Addr):It :=
 ⟨fun i H=>∃ xs x,SqX t K H l xs∧xs[i]?=some x,
  fun i H v H'=>∃ T x,H T=none∧v=.ref T∧H'=upd H T (.tup [.int (i:Nat),x])∧(∀ xs,SqX t K H l xs->xs[i]?=some x),
  fun i H=>∃ xs,SqX t K H l xs∧xs.length≤i⟩
theorem turn_enum {P:Program} {w:World} {K:PySem.W.Frag} {elts:List Expr} {kk:Nat} {pos:Pos} {t:Bool} {e it l:Addr} (n1:e≠it) (n2:l≠e) (n3:l≠it) :
  Turn P w K (.Tuple elts kk pos) (Itn t K l) [e,it] e (fun i h=>(∃ old,IsEnum h e it (i:Int) old)∧Z3.ItAt t h it l i) where
 mem:=by simp
 obj:=fun i h st b hb=>by
  obtain⟨⟨old,q1⟩,q2⟩:=st
  obtain⟨o2,m2,e2,_,d2⟩:=q2.obj
  simp only [List.mem_cons,List.not_mem_nil,or_false] at hb
  rcases hb with rfl | rfl
  ·exact⟨_,q1,fun v q=>by cases q⟩
  ·exact⟨_,e2,fun v q=>by rw[d2] at q;cases q⟩
 keep:=fun i h h' st k=>by
  obtain⟨⟨old,q1⟩,q2⟩:=st
  exact⟨⟨old,k e (by simp) _ q1⟩,q2.to fun o z=>k it (by simp) o z⟩
 item:=by
  intro X hP hw hK hc i pins s σ H E I hf st hg
  subst hP hw hK
  obtain⟨xs,x,q1,hx⟩:=hg
  obtain⟨⟨old,en⟩,ia⟩:=st
  obtain⟨its1,r1,p1,z1⟩:=seqX I q1
  obtain⟨u1,hu1,ru1⟩:=r1.get hx
  refine Z3.enum_next_more en ia p1 (x:=u1) (by simpa using hu1) n1 fun h' eo ia' tp sz kp=>?_
  have I1 : Inv X pins σ (upd H s.heap.objs.size (.tup [.int (i : Nat), x])) { s with heap := h', toks := s.toks + 1 } := turnsTup (ch := [e, it]) (its := [.int i s.toks, u1]) I hf (fun b o hb z => by
      simp only [List.mem_cons,List.not_mem_nil,or_false,not_or] at hb
      exact kp b o hb.1 hb.2 z) (Nat.le_refl _) (by show 2≤sizeLine;rw[sizeLine_eq];decide) (.cons ⟨_,rfl⟩ (.cons ru1 .nil)) ⟨_,tp,rfl,⟨_,rfl⟩,rfl⟩
  have fr:H s.heap.objs.size=none:=I.fresh
  have elt:e < s.heap.objs.size:=Heap.lt_size en
  have ilt:it < s.heap.objs.size:=by obtain⟨o2,m2,e2,_⟩:=ia.obj;exact Heap.lt_size e2
  have zne:∀ b ∈ [e,it],b≠s.heap.objs.size:=fun b hb=>by
   simp only [List.mem_cons,List.not_mem_nil,or_false] at hb
   rcases hb with rfl | rfl
   ·exact Nat.ne_of_lt elt
   ·exact Nat.ne_of_lt ilt
  refine⟨_,rfl,wpAny_letOwnedTupleGo_enum eo fun h2 en2 sb=>?_⟩
  obtain⟨f0,f1,f2,f3,f4,f5⟩:=hf e (by simp)
  have I2:Inv X pins σ (upd H s.heap.objs.size (.tup [.int (i:Nat),x])) { s with heap:=h2,toks:=s.toks + 1 }:=Inv.turned (s:={ s with heap:=h',toks:=s.toks + 1 }) (it:=e) (t':=s.toks + 1) I1 (fun b o hb z=>sb.extBut b o hb z) (by rw[upd_ne (zne e (by simp))];exact f0) f1 f3 f4 f5
  refine⟨.ref s.heap.objs.size,_,I2,rfl,⟨_,x,fr,rfl,rfl,fun zs hz=>by rw[seqX_inj I hz q1];exact hx⟩,?_,fun b hb=>by rw[upd_ne (zne b hb)];exact (hf b hb).1⟩
  exact⟨⟨_,by simpa using en2⟩,ia'.to fun o z=>sb.extBut _ _ n1.symm z⟩
 done:=by
  intro X hP hw hK hc i pins s σ H E I hf st hg
  subst hP hw hK
  obtain⟨xs,q1,hx⟩:=hg
  obtain⟨⟨old,en⟩,ia⟩:=st
  obtain⟨its1,r1,p1,z1⟩:=seqX I q1
  have l1:=r1.length
  refine Z3.enum_next_stop (I.ok.hd hc) en ia p1 (by simp;omega) fun h' kp=>⟨rfl,?_⟩
  exact turns (ch:=[e,it]) (t':=s.toks) I hf fun b o hb z=>by
   simp only [List.mem_cons,List.not_mem_nil,or_false,not_or] at hb
   exact kp b o hb.2 z
 self:=fun _ _ _ _ _ st h=>by
  obtain⟨⟨old,en⟩,_⟩:=st
  exact wpAny_pyIter_enum en h
def iEnum (t:Bool) (K:PySem.W.Frag) (ta:TA):TI:=fun σ H R=>ta σ H fun vs H1=>∃ l,vs=[.ref l]∧(∃ xs,SqX t K H1 l xs)∧R (Itn t K l) H1
theorem pi_enum {X:Cx} {elts:List Expr} {kk:Nat} {pos':Pos} (t:Bool) {a:Expr} {ta:TA} {p pos:Pos} (hg:Gl X "enumerate") (hm:X.mg "enumerate"=none) (ha:PA X [a] ta)
  (hs:starEach [a] X.env=[(false,eval a X.env)]:=by rfl) (hs2:starEach [] X.env=[]:=by rfl) :
  PI X (.Tuple elts kk pos') (.Call (.Name "enumerate" p) [a] [] pos) (iEnum t X.K ta):=by
 intro pins s σ H R I h
 refine Call_ (ld_blt I hg hm boot_enumerate (PyProof.Rows.callWith_type1 (thn (ha pos pins s σ H _ I h) fun us s1 ⟨vs,H1,I1,r1,q1⟩=>?_) (by rw[hs,hs2]) (by rw[hs2];rfl)))
 obtain⟨l,e,⟨xs,qx⟩,q⟩:=q1
 subst e
 obtain⟨u,rfl,rx⟩:=vals1 r1
 cases rx
 obtain⟨its1,r1,p1,z1⟩:=seqX I1 qx
 have lt:l < s1.heap.objs.size:=by
  cases t with
  | true=>obtain⟨o,e,_⟩:=(show s1.heap.IsTuple l _ from p1);exact Heap.lt_size e
  | false=>obtain⟨o,e,_⟩:=(show s1.heap.IsList l _ from p1);exact Heap.lt_size e
 refine Z3.call_enum p1 fun h' en ia sz kp=>wpAny_pyIter_enum en ?_
 have I2:Inv X pins σ H1 { s1 with heap:=h',toks:=s1.toks }:=I1.kept (t':=s1.toks) kp
 refine⟨s1.heap.objs.size + 1,[s1.heap.objs.size + 1,s1.heap.objs.size],_,_,H1,rfl,I2,turn_enum (Nat.succ_ne_self _) (Nat.ne_of_lt (Nat.lt_succ_of_lt lt)) (Nat.ne_of_lt lt),⟨⟨_,en⟩,ia⟩,fun b hb=>?_,q⟩
 have hb':s1.heap.objs.size≤b:=by
  simp only [List.mem_cons,List.not_mem_nil,or_false] at hb
  rcases hb with rfl | rfl
  ·exact Nat.le_succ _
  ·exact Nat.le_refl _
 exact I1.fpOk hb' (I1.hok.fresh hb')
end L3
namespace HT
open PySem PyProof.Rows
section
variable {prog:Program} {w:World} {A:Around} {E:Value->Shared->Prop} {s:Shared}
theorem whole_exact {t:Addr} {items:Array Value} {Q:Bool->Shared->Prop} (ht:IsTup s.heap t items) (h:Q true s):wpAny (model prog w) A (Builtin.Tuple.tupleIsExact (.ref t)) Q E s:=by
 unfold Builtin.Tuple.tupleIsExact
 exact wpAny_bind (wpAny_typeOf ht.typeIs (wpAny_pure h))
/-- t[lo:hi] that is all of t: t itself -/
theorem getItem_tuple_whole {t sl:Addr} {items:Array Value} {vl vu:Value} {lo hi:Option Int} {Q:Value->Shared->Prop} (ht:IsTup s.heap t items) (hs:s.heap.IsSliceOf sl vl vu .none) (pl:IsPart vl lo) (pu:IsPart vu hi)
  (hw:sIx items.size 0 lo=0∧sIx items.size items.size hi=items.size) (h:Q (.ref t) s):wpAny (model prog w) A (getItem (.ref t) (.ref sl)) Q E s:=by
 obtain⟨os,hos,hcs,hds⟩:=id hs
 have ty:s.TypeIs (.ref sl) "slice":=⟨os,hos,hcs⟩
 unfold getItem
 try with_reducible refine wpAny_holding ?_
 first | refine wpAny_bind (wpAny_pure ?_) | skip
 refine wpAny_bind (wpAny_sequenceKey ht.typeIs (by decide) (wpAny_bind (wpAny_callSpecial?_slot (name:=Str.ofString "__getitem__") ht.typeIs PyProof.Rows.slot_tuple_getitem
  (wpAny_call_entry PyProof.Rows.slot_tuple_getitem ht.typeIs entry_tuple_getitem ?_ (args_tuple_getitem _ _)))))
 show wpAny _ _ (Builtin.Tuple.tupleItemsOf (.ref t) >>= _) _ _ s
 refine wpAny_bind (tupleItemsOf_ ht (wpAny_bind (wpAny_typeOf ty ?_)))
 rw[if_pos (by decide)]
 refine wpAny_bind (sliceApplied_gen hs pl pu ?_)
 have yes:(((sIx items.size 0 lo:Nat):Int) == 0 && (1:Int) == 1 && (sIx items.size items.size hi - sIx items.size 0 lo) == items.size)=true:=by
  rw[hw.1,hw.2];simp
 show wpAny _ _ (if (((sIx items.size 0 lo:Nat):Int) == 0 && (1:Int) == 1 && (sIx items.size items.size hi - sIx items.size 0 lo) == items.size)=true then _ else _) _ _ s
 rw[if_pos yes]
 refine wpAny_bind (whole_exact ht ?_)
 rw[if_pos rfl]
 exact wpAny_bind (wpAny_rule (wpAny_bind (wpAny_pure (wpAny_pure ⟨_,rfl,wpAny_pure h⟩))))
/-- () + u -/
theorem cat_nil {t b:Addr} {ws:List Value} {Q:Value->Shared->Prop} (ht:IsTup s.heap t ([]:List Value).toArray) (hb:IsTup s.heap b ws.toArray) (h:Q (.ref b) s):wpAny (model prog w) A (binaryOp .Add (.ref t) (.ref b)) Q E s:=by
 obtain⟨⟨cls,dd,data,sl⟩,ho,hc,n,hd⟩:=id ht
 obtain⟨⟨cls2,dd2,data2,sl2⟩,ho2,hc2,n2,hd2⟩:=id hb
 simp only at hc hd hc2 hd2
 subst hc hd hc2 hd2
 exact concat_meets ⟨_,ho,rfl⟩ ⟨_,ho2,rfl⟩ noFill_tuple_add seq_tuple_add PySem.F.slot_tuple_add PySem.F.entry_tuple_add (PySem.F.args_tuple_add_2 _ _) (tuple_addW0 t b _ ws.toArray n n2 dd dd2 sl sl2 rfl) ⟨ho,ho2,h⟩
end
end HT
namespace L3
open PySem PySem.Spec PyProof.Rows L2
section
variable {X:Cx} {pins:List (Addr × Obj)} {σ:L2.St} {H:Hp} {s:Shared} {e:Expr} {te:TE} {pos p2:Pos}
theorem cutV_all {xs:List V} {lo hi:Option Int} (h:HT.sIx xs.length 0 lo=0∧HT.sIx xs.length xs.length hi=xs.length):cutV xs lo hi=xs:=by
 unfold cutV
 rw[h.1,h.2]
 simp
/-- t[lo:hi], part or whole -/
def rSlA:V->Option Int->Option Int->Hp->VK->Prop:=fun x lo hi H Q=>∃ a xs,x=.ref a∧H a=some (.tup xs)∧∀ p H',Same H H'->H' p=some (.tup (cutV xs lo hi))->Q (.ref p) H'
theorem sl_tupA:SlR X rSlA:=by
 intro pins s σ H x v vl vu lo hi sl Q I rx hs pl pu h
 obtain⟨a,xs,rfl,hx,q⟩:=h
 by_cases c:HT.sIx xs.length 0 lo=0∧HT.sIx xs.length xs.length hi=xs.length
 ·cases rx
  obtain⟨its,r,ht,hz⟩:=I.tuple (SqT.of hx)
  have hlen:its.toArray.size=xs.length:=by rw[List.size_toArray];exact r.length.symm
  refine⟨"tuple",_,PyProof.Rows.slot_tuple_getitem.lookup,ht.typeIs,HT.getItem_tuple_whole ht hs pl pu (by rw[hlen];exact c) ⟨.ref a,H,I,rfl,q _ _ (Same.refl H) (by rw[cutV_all c];exact hx)⟩⟩
 ·exact sl_tup (X:=X) pins s σ H (.ref a) v vl vu lo hi sl Q I rx hs pl pu ⟨a,xs,rfl,SqT.of hx,c,fun p hp=>q p _ (same_new hp) upd_same⟩
/-- t + u -/
def rCatA:R2:=fun x y H Q=>∃ a b xs ys,x=.ref a∧y=.ref b∧H a=some (.tup xs)∧H b=some (.tup ys)∧xs.length + ys.length≤sizeLine∧∀ p H',Same H H'->H' p=some (.tup (xs++ys))->Q (.ref p) H'
theorem op_catA:OpR X (binaryOp .Add) rCatA:=by
 intro pins s σ H x y v u Q I rx ry h
 obtain⟨a,b,xs,ys,rfl,rfl,ha,hb,hz,q⟩:=h
 by_cases c:xs=[]
 ·subst c
  cases rx
  cases ry
  obtain⟨its,r1,p1,_⟩:=I.tuple (SqT.of ha)
  obtain⟨its2,r2,p2,_⟩:=I.tuple (SqT.of hb)
  cases r1
  exact HT.cat_nil p1 p2 ⟨.ref b,H,I,rfl,q _ _ (Same.refl H) hb⟩
 ·refine op_catT (X:=X) pins s σ H _ _ v u Q I rx ry ⟨a,b,xs,ys,rfl,rfl,SqT.of ha,SqT.of hb,c,hz,fun e=>q _ _ (Same.refl H) (by rw[e,List.append_nil];exact ha),fun _ p hp=>q p _ (same_new hp) upd_same⟩
end
end L3
namespace L3
open PySem PySem.Spec PyProof.Rows L2
theorem iteB2 {b:Bool} {A B:Prop} (h1:b=true->B) (h2:b=false->A):if (!b)=true then A else B:=by
 cases b with
 | true=>exact h1 rfl
 | false=>exact h2 rfl
def numB (m:Nat):PyData->Bool
 | .int i=>decide (0≤i) && decide (i < (m:Int))
 | _=>false
def intOf:PyData->Int
 | .int i=>i
 | _=>0
def risI (ns:List Int):Bool:=((List.range (min ns.length (ns.drop 1).length)).map fun i=>decide (ns.getD i 0 < (ns.drop 1).getD i 0)).all id
def keepB (m:Nat):PyData->Bool
 | .tuple ds=>ds.all (numB m) && risI (ds.map intOf)
 | _=>false
theorem ints_of {ds:List PyData} (h:∀ d ∈ ds,∃ i,d=.int i):ds=(ds.map intOf).map .int:=by
 rw[List.map_map]
 conv=>lhs;rw[← List.map_id ds]
 refine List.map_congr_left fun d hd=>?_
 obtain⟨i,rfl⟩:=h d hd
 rfl
structure Pre (m:Nat) (ds:List PyData) (i:Nat) (a:Int):Prop where
 num:∀ d ∈ ds.take i,numB m d=true
 up:((ds.take i).map intOf).Pairwise (· < ·)
 top:∀ x ∈ (ds.take i).map intOf,x≤a
 at_:a=-1∨a ∈ (ds.take i).map intOf
theorem take_next {α:Type} {ds:List α} {i:Nat} {d:α} (e:ds[i]?=some d):ds.take (i + 1)=ds.take i++[d]:=by
 rw[List.take_add_one,e];rfl
def flatD:V->Bool
 | .non | .bl _ | .int _ | .str _=>true
 | _=>false
theorem atI_in {α:Type} {xs:List α} {r:Int} (h0:0≤r) (h1:r < (xs.length:Int)):∃ x,x ∈ xs∧atI xs r=some x:=by
 have hk:r.toNat < xs.length:=by omega
 refine⟨xs[r.toNat],List.getElem_mem hk,?_⟩
 have z:=atI_nat (List.getElem?_eq_getElem hk)
 have e:((r.toNat:Nat):Int)=r:=by omega
 rw[e] at z;exact z
theorem cut_mem {xs:List V} {lo hi:Option Int} {x:V} (h:x ∈ cutV xs lo hi):x ∈ xs:=List.mem_of_mem_drop (List.mem_of_mem_take h)
theorem Pot.same {H H':Hp} {p:Addr} (h:Pot H p) (s:Same H H'):Pot H' p:=let ⟨a,b,e,z⟩:=h;⟨a,b,s _ _ e,z⟩
theorem tup_ties:∀ ts:List Tie,tupAll (ts.map tieD)=true
 | []=>rfl
 | t::r=>by show (tupD (tieD t) && tupAll (r.map tieD))=true;rw[tup_ties r];rfl
theorem tup_web (n:Int) (ts:List Tie):tupD (webD n ts)=true:=by
 show (true && (tupAll (ts.map tieD) && true))=true
 rw[tup_ties ts];rfl
end L3
namespace L3
end L3
namespace L3
open PySem PySem.Spec PyProof.Rows L2
/-- what follows, where it ends and the state get names: the goals behind stay small -/
theorem lS {a b:TS} {D:Ends} {σ:L2.St} {H:Hp} (h:let B:=b;let E:=D;let S:=σ;tSeq a B E S H):tSeq a b D σ H:=h
theorem lI {c:TT} {a b:TS} {D:Ends} {σ:L2.St} {H:Hp} (h:let A:=a;let B:=b;let E:=D;let S:=σ;tIfS c A B E S H):tIfS c a b D σ H:=h
theorem lF {i:TI} {g:TG} {b:TS} {D:Ends} {σ:L2.St} {H:Hp} (h:let B:=b;let E:=D;let S:=σ;tFor i g B E S H):tFor i g b D σ H:=h
end L3
namespace HT
open PySem PyProof.Rows
section
open PySem.SeqAt
open PySem.AutoSeq1 (wpAny_loadPart')
open PySem.MeetsSeq PySem.MeetsSeq2 PySem.MeetsSeq3
end
section
variable {prog:Program} {w:World} {A:Around} {E:Value->Shared->Prop} {s:Shared}
end
end HT
namespace L3
open PySem PySem.Spec PyProof.Rows L2
section
variable {X:Cx}
end
end L3
namespace L3
open PySem PySem.Spec PyProof.Rows L2
/-- tuples and lists of at most a thousand things, so deep -/
def wide:Nat->PyData->Prop
 | 0,_=>True
 | k + 1,.tuple ds=>ds.length≤1000∧∀ d ∈ ds,wide k d
 | k + 1,.list ds=>ds.length≤1000∧∀ d ∈ ds,wide k d
 | _ + 1,_=>True
def endsD:PyData->Int × Int
 | .tuple [.int a,.int b,.int _]=>(a,b)
 | _=>(0,0)
def tiesB (n:Int):PyData->Bool
 | .tuple ds=>decide (ds.length≤60) && ds.all (tieB n) && risingB (ds.map endsD)
 | _=>false
/-- good values: flat, or tuples and lists of such, or {} -/
def Gd (H:Hp):Nat->V->Prop
 | 0,v=>flatD v=true
 | k + 1,v=>flatD v=true∨(∃ p vs,v=.ref p∧(H p=some (.tup vs)∨H p=some (.lst vs))∧vs.length≤1000∧∀ u ∈ vs,Gd H k u)∨(∃ p,v=.ref p∧H p=some (.dK []))
def lt2 (e f:Int × Int):Prop:=e.1 < f.1∨(e.1=f.1∧e.2 < f.2)
structure PreT (n:Int) (ds:List PyData) (i:Nat) (a:Int × Int):Prop where
 tie:∀ d ∈ ds.take i,tieB n d=true
 up:((ds.take i).map endsD).Pairwise lt2
 top:∀ x ∈ (ds.take i).map endsD,x=a∨lt2 x a
 at_:a=(-1,-1)∨a ∈ (ds.take i).map endsD
end L3
namespace L3
open PySem PySem.Spec PyProof.Rows L2
section
variable {X:Cx} {es:List Expr} {t:TA} {pos:Pos}
def tTupG (t:TA):TE:=fun σ H Q=>t σ H fun xs H1=>xs.length≤1000∧∀ p H',Same H1 H'->H1 p=none->H' p=some (.tup xs)->Q (.ref p) H'
def tLstG (t:TA):TE:=fun σ H Q=>t σ H fun xs H1=>xs.length≤1000∧∀ p H',Same H1 H'->H1 p=none->H' p=some (.lst xs)->Q (.ref p) H'
theorem pe_tupG {x1} (h:PA X es t):PE X (.Tuple es x1 pos) (tTupG t):=by
 intro pins s σ H Q I hq
 refine wpAny_Tuple_spliced (thn (h pos pins s σ H _ I hq) fun us s1 ⟨xs,J,I1,r,z,q⟩=>?_)
 have z':xs.length≤sizeLine:=Nat.le_trans z (by decide)
 have fr:J s1.heap.objs.size=none:=I1.hok.fresh (Nat.le_refl _)
 refine⟨by rw[← r.length];exact z',.ref s1.heap.objs.size,upd J s1.heap.objs.size (.tup xs),I1.laid (t':=s1.toks) (fun b u e=>Heap.get?_push_of_some _ e) (Nat.le_refl _) ⟨z',us,r,⟨_,Heap.get?_push_size _ rfl,rfl,⟨_,rfl⟩,rfl⟩⟩,rfl,q _ _ (same_new fr) fr upd_same⟩
theorem pe_lstG (h:PA X es t):PE X (.List es pos) (tLstG t):=by
 intro pins s σ H Q I hq
 refine wpAny_List_spliced (thn (h pos pins s σ H _ I hq) fun us s1 ⟨xs,J,I1,r,z,q⟩=>?_)
 have z':xs.length≤sizeLine:=Nat.le_trans z (by decide)
 have fr:J s1.heap.objs.size=none:=I1.hok.fresh (Nat.le_refl _)
 refine⟨by rw[← r.length];exact z',.ref s1.heap.objs.size,upd J s1.heap.objs.size (.lst xs),I1.laid (t':=s1.toks) (fun b u e=>Heap.get?_push_of_some _ e) (Nat.le_refl _) ⟨z',us,0,r,Heap.get?_push_size _ rfl⟩,rfl,q _ _ (same_new fr) fr upd_same⟩
/-- l.extend(m), l.append(x) -/
def rExtendG:V->List V->Hp->VK->Prop:=fun x vs H Q=>∃ l b xs zs,x=.ref l∧vs=[.ref b]∧H l=some (.lst xs)∧H b=some (.lst zs)∧xs.length + zs.length≤1000∧∀ H',But l H H'->H' l=some (.lst (xs++zs))->Q .non H'
theorem mt_extendG:MtM X "list.extend" rExtendG:=by
 intro pins s σ H x vs v us Q I rx rv h
 obtain⟨l,b,xs,zs,rfl,rfl,hH,hB,hz,q⟩:=h
 exact mt_extend (X:=X) pins s σ H _ _ v us Q I rx rv ⟨l,b,xs,zs,rfl,rfl,hH,hB,Nat.le_trans hz (by decide),q _ But.upd upd_same⟩
def rAppendG:V->List V->Hp->VK->Prop:=fun x vs H Q=>∃ l xs y,x=.ref l∧vs=[y]∧H l=some (.lst xs)∧xs.length < 1000∧∀ H',But l H H'->H' l=some (.lst (xs++[y]))->Q .non H'
theorem mt_appendG:MtM X "list.append" rAppendG:=by
 intro pins s σ H x vs v us Q I rx rv h
 obtain⟨l,xs,y,rfl,rfl,hH,hz,q⟩:=h
 exact mt_append (X:=X) pins s σ H _ _ v us Q I rx rv ⟨l,xs,y,rfl,rfl,hH,Nat.lt_of_lt_of_le hz (by decide),q _ But.upd upd_same⟩
/-- list(..), tuple(..) of what stands -/
theorem call_listG:CallR X (.type "list") (fun xs H Q=>∃ p ys,xs=[.ref p]∧(H p=some (.lst ys)∨H p=some (.tup ys))∧∀ l H',Same H H'->H l=none->H' l=some (.lst ys)->Q (.ref l) H'):=by
 intro pins s σ H xs us Q I r h
 obtain⟨p,ys,rfl,hp,q⟩:=h
 exact call_list_of (X:=X) pins s σ H _ us Q I r ⟨p,ys,rfl,hp.elim (fun e=>.inl (SqL.of e)) (fun e=>.inr (SqT.of e)),fun l hl=>q l _ (same_new hl) hl upd_same⟩
end
def Sm (H:Hp) (t:Addr):Prop:=∃ vs:List V,(H t=some (.tup vs)∨H t=some (.lst vs))∧vs.length≤1000∧vs.all flatD=true
def GdF (H:Hp) (xs:List V):Prop:=∀ u ∈ xs,∃ t,u=.ref t∧Sm H t
def GdL (l:Addr) (H:Hp) (xs:List V):Prop:=∀ u ∈ xs,∃ t,u=.ref t∧t≠l∧Sm H t
theorem cat_lst {prog:Program} {w:World} {A:Around} {E:Value->Shared->Prop} {s:Shared} {l b:Addr} {vs ws:List Value} {Q:Value->Shared->Prop} (hl:s.heap.IsList l vs.toArray) (hb:s.heap.IsList b ws.toArray)
  (h:Q (.ref s.heap.objs.size) { s with heap:=s.heap.push { cls:=.type "list",data:=.seq (vs++ws).toArray } }) (hz:vs.length + ws.length≤sizeLine):wpAny (model prog w) A (binaryOp .Add (.ref l) (.ref b)) Q E s:=by
 obtain⟨⟨c1,d1,t1,s1⟩,g1,h1,n1,e1⟩:=id hl
 obtain⟨⟨c2,d2,t2,s2⟩,g2,h2,n2,e2⟩:=id hb
 simp only at h1 e1 h2 e2
 subst h1 e1 h2 e2
 have e:vs.toArray++ws.toArray=(vs++ws).toArray:=by simp
 refine concat_meets ⟨_,g1,rfl⟩ ⟨_,g2,rfl⟩ noFill_list_add seq_list_add PySem.F.slot_list_add PySem.F.entry_list_add (PySem.F.args_list_add_2 _ _) (list_addW l b vs.toArray ws.toArray n1 n2 d1 d2 s1 s2 (by rw[List.size_toArray,List.size_toArray];exact hz)) ⟨g1,g2,?_⟩
 rw[e]
 exact h
/-- l + m -/
def rCatL:R2:=fun x y H Q=>∃ a b xs ys,x=.ref a∧y=.ref b∧H a=some (.lst xs)∧H b=some (.lst ys)∧xs.length + ys.length≤1000∧∀ p H',Same H H'->H p=none->H' p=some (.lst (xs++ys))->Q (.ref p) H'
theorem op_catL {X:Cx}:OpR X (binaryOp .Add) rCatL:=by
 intro pins s σ H x y v u Q I rx ry h
 obtain⟨a,b,xs,ys,rfl,rfl,ha,hb,hz,q⟩:=h
 cases rx
 cases ry
 obtain⟨its,r1,p1,_⟩:=I.list (SqL.of ha)
 obtain⟨jts,r2,p2,_⟩:=I.list (SqL.of hb)
 have hz':xs.length + ys.length≤sizeLine:=Nat.le_trans hz (by decide)
 have fr:H s.heap.objs.size=none:=I.hok.fresh (Nat.le_refl _)
 refine cat_lst p1.isList p2.isList ⟨.ref s.heap.objs.size,_,I.laid (t':=s.toks) (o:=.lst (xs++ys)) (fun b ob q=>Heap.get?_push_of_some _ q) (Nat.le_refl _) ⟨by rw[List.length_append];exact hz',_,0,r1.append r2,Heap.get?_push_size _ rfl⟩,rfl,q _ _ (same_new fr) fr upd_same⟩ (by rw[← r1.length,← r2.length];exact hz')
section
variable {g:TG} {te:TE} {own:List Str} {js:List Nat} {σ:L2.St} {H1:Hp} {Q:VK}
end
theorem call_tupleG {X:Cx}:CallR X (.type "tuple") (fun xs H Q=>∃ p ys,xs=[.ref p]∧H p=some (.lst ys)∧∀ l H',Same H H'->H l=none->H' l=some (.tup ys)->Q (.ref l) H'):=by
 intro pins s σ H xs us Q I r h
 obtain⟨p,ys,rfl,hp,q⟩:=h
 exact call_tuple_of (X:=X) pins s σ H _ us Q I r ⟨p,ys,rfl,.inl ⟨SqL.of hp,fun l hl=>q l _ (same_new hl) hl upd_same⟩⟩
/-- rows of three whole numbers, sorted: the same rows -/
def Row3 (H:Hp) (v:V):Prop:=∃ (t:Addr) (x y z:Int),v=.ref t∧H t=some (.tup [.int x,.int y,.int z])
structure BE (X:Cx) (e:Expr) (t:TE):Prop where
 h:PE X e t
structure BA (X:Cx) (es:List Expr) (t:TA):Prop where
 h:PA X es t
structure BS (X:Cx) (st:Stmt) (t:TS):Prop where
 h:PS X st t
structure BSs (X:Cx) (ss:List Stmt) (t:TS):Prop where
 h:PSs X ss t
section
variable {X:Cx}
theorem bss_cons {st:Stmt} {rest:List Stmt} {t u:TS} (a:BS X st t) (b:BSs X rest u):BSs X (st::rest) (tSeq t u):=⟨pss_cons a.h b.h⟩
theorem bss_one {st:Stmt} {t:TS} (a:BS X st t):BSs X [st] t:=⟨pss_one a.h⟩
theorem bs_set {pos:Pos} {i:Nat} {x:Str} {e:Expr} {te:TE} {pos':Pos} (hN:X.N.Nodup) (hi:X.N[i]?=some x) (hx:L2.Loc X.env.scope x) (he:BE X e te) (hs:swapsWith e (some (.Name x pos')) pos.line X.env=pure false:=by rfl)
  (hf:X.fn x=true∨X.env.scope.names.lookup x=some .local:=by first | exact .inl rfl | exact .inr rfl | assumption):BS X (.Assign [.Name x pos'] e pos) (tAsg te (gName i)):=⟨ps_set hN hi hx he.h hs hf⟩
theorem be_lstG {es:List Expr} {t:TA} {pos:Pos} (a:BA X es t):BE X (.List es pos) (tLstG t):=⟨pe_lstG a.h⟩
theorem be_tupG {es:List Expr} {t:TA} {pos:Pos} {x1:Nat} (a:BA X es t):BE X (.Tuple es x1 pos) (tTupG t):=⟨pe_tupG a.h⟩
theorem ba_nil:BA X [] tNil:=⟨pa_nil⟩
theorem be_op {a b:Expr} {ta tb:TE} {pos:Pos} {op:Operator} {r:R2} (ho:OpR X (binaryOp op) r) (ha:BE X a ta) (hb:BE X b tb):BE X (.BinOp a op b pos) (tOp r ta tb):=⟨pe_op ho ha.h hb.h⟩
end
end L3
namespace L3
open PySem PySem.Spec PyProof.Rows L2
section
variable {X:Cx}
theorem star_Tuple {elts es:List Expr} {c:Nat} {p:Pos} {env:Env}:starEach (.Tuple elts c p::es) env=(false,eval (.Tuple elts c p) env)::starEach es env:=by rfl
theorem pa_consT {elts es:List Expr} {c:Nat} {p:Pos} {te:TE} {t:TA} (ha:PE X (.Tuple elts c p) te) (hr:PA X es t):PA X (.Tuple elts c p::es) (tCons te t):=pa_cons ha hr star_Tuple
theorem ba_consT {elts es:List Expr} {c:Nat} {p:Pos} {te:TE} {t:TA} (a:BE X (.Tuple elts c p) te) (b:BA X es t):BA X (.Tuple elts c p::es) (tCons te t):=⟨pa_consT a.h b.h⟩
theorem ba_consC {cv:Const} {c:Nat} {p:Pos} {es:List Expr} {te:TE} {t:TA} (a:BE X (.Constant cv c p) te) (b:BA X es t):BA X (.Constant cv c p::es) (tCons te t):=⟨pa_cons a.h b.h (by rfl)⟩
theorem ba_consB {l r:Expr} {op:Operator} {p:Pos} {es:List Expr} {te:TE} {t:TA} (a:BE X (.BinOp l op r p) te) (b:BA X es t):BA X (.BinOp l op r p::es) (tCons te t):=⟨pa_cons a.h b.h (by rfl)⟩
theorem ba_consN {x:Str} {p:Pos} {es:List Expr} {te:TE} {t:TA} (a:BE X (.Name x p) te) (b:BA X es t):BA X (.Name x p::es) (tCons te t):=⟨pa_cons a.h b.h (by rfl)⟩
theorem ba_consS {l r:Expr} {p:Pos} {es:List Expr} {te:TE} {t:TA} (a:BE X (.Subscript l r p) te) (b:BA X es t):BA X (.Subscript l r p::es) (tCons te t):=⟨pa_cons a.h b.h (by rfl)⟩
theorem ba_consU {op:UnaryOp} {r:Expr} {p:Pos} {es:List Expr} {te:TE} {t:TA} (a:BE X (.UnaryOp op r p) te) (b:BA X es t):BA X (.UnaryOp op r p::es) (tCons te t):=⟨pa_cons a.h b.h (by rfl)⟩
theorem bs_if {c:Expr} {a b:List Stmt} {tc:TT} {t u:TS} {pos:Pos} (hc:PT X c tc) (ha:BSs X a t) (hb:BSs X b u):BS X (.If c a b pos) (tIfS tc t u):=⟨ps_if hc ha.h hb.h⟩
theorem bss_nil:BSs X [] tNext:=⟨pss_nil⟩
theorem bs_ret {e:Expr} {te:TE} {pos:Pos} (he:BE X e te):BS X (.Return (some e) pos) (tRet te):=⟨ps_ret he.h⟩
theorem be_ix {a b:Expr} {ta tb:TE} {pos:Pos} {r:R2} (hr:IxR X r) (ha:BE X a ta) (hb:BE X b tb) (hs:PlainIx b):BE X (.Subscript a b pos) (tOp r ta tb):=⟨pe_ix hr ha.h hb.h hs⟩
end
end L3
namespace Dp
open PySem PySem.Spec PyProof.Rows
theorem loop_entry:entryFor table "dict.update.loop"=some Builtin.«dict.update.loop»:=entryFor_of_tree (by kernel_rfl)
theorem loop_plain:plainId "dict.update.loop"=true:=by decide +kernel
section
variable {prog:Program} {w:World} {K:Type} [DecidableEq K] {knd:KeyKind prog w K} {A:Around} {R:Result->Shared->Prop} {I ax D:Addr} {items:Array Value}
end
end Dp
namespace L3
open PySem PySem.Spec PyProof.Rows L2
section
variable {X:Cx}
end
end L3
namespace Dp
open PySem PySem.Spec PyProof.Rows
theorem keys_of_list:typeLookup (.type "list") "keys"=pure none:=by rw[typeLookup_type,builtinLookup_eq_fast];kernel_rfl
theorem keysL_miss {prog:Program} {w:World} {A:Around} {E:Value->Shared->Prop} {s:Shared} {a:Addr} {o:Obj} {xs:Array Value} {k:Nat} {Q:Option Value->Shared->Prop}
  (hx:s.heap.get? a=some o) (hc:o.cls=.type "list") (hdat:o.data=.seq xs k) (hd:o.dict=none) (hA:A.handled=none)
  (h:∀ h' tk,(∀ b ob,s.heap.get? b=some ob->h'.get? b=some ob)->Q none { s with heap:=h',toks:=tk }):wpAny (model prog w) A (getAttr? (.ref a) "keys") Q E s:=by
 obtain⟨c,dct,dat,sl⟩:=o
 simp only at hc hdat hd
 subst hc hdat hd
 obtain⟨hp,g,d,tk,os⟩:=s
 have hT:∀ tk',(⟨hp,g,d,tk',os⟩:Shared).TypeIs (.ref a) "list":=fun _=>⟨_,hx,rfl⟩
 have f1:=sub_AttributeError
 have f3:=F.slot_list_getattribute.lookup
 have f4:=F.slot_list_getattribute.bind (.ref a)
 have f5:=am_list_getattr_none
 unfold getAttr? getAttrBy? getAttrBy
 repeat (any_goals (first | assumption | exact hT _ | ((with_reducible show wpAny _ _ (call (Value.builtin "list.__getattribute__") _ _) _ _ _);refine call_meets F.slot_list_getattribute (hT _) am_entry_list_getattribute (F.args_list_getattribute_2 _ _) (meets_getattribute_miss_list a xs k sl "keys" _ keys_of_list (by decide) (by decide)) ⟨hx,hA,fun h' tk' e hx'=>?_⟩) | wp_step))
 obtain⟨t',u',he⟩:=hx'.there
 show wpAny _ _ (getattributeRaised _ _ _ _ _ _ _) _ _ _
 unfold getattributeRaised
 repeat (any_goals (first | assumption | wp_step))
 exact h _ _ hx'.keeps
section
variable {prog:Program} {w:World} {K:Type} [DecidableEq K] {knd:KeyKind prog w K} {A:Around} {R:Result->Shared->Prop} {I ax D:Addr} {items:Array Value}
theorem key_keeps {h h':Heap} {ks:List K} {a:Addr} (x:(tupleKind knd).is h ks a) (e:∀ o,h.get? a=some o->h'.get? a=some o):(tupleKind knd).is h' ks a:=by
 obtain⟨o,its,n,h1,r⟩:=x
 exact⟨o,its,n,e _ h1,r⟩
theorem updL_loop (hh:A.in1.handled=none) (hu:(tupleKind knd).room A.in1) (hIa:ax≠I) (hDI:D≠I) (hDa:D≠ax) (kvs:List (List K × Addr × Value)) (hn:kvs.length=items.size) (hsz:kvs.length≤sizeLine) (hnd:(kvs.map (·.1)).Nodup) (s0:Shared) (hp:∀ (i:Nat) (v:Value),items[i]?=some v->∃ (c ka:Addr) (val:Value) (k:List K),v=Value.ref c∧c≠D∧c≠I∧ka≠D∧ka≠I∧s0.heap.IsTuple c #[.ref ka,val]∧kvs[i]?=some (k,ka,val)∧(tupleKind knd).is s0.heap k ka) :
  ∀ (m i:Nat) (s:Shared) (tk:Tok),items.size - i=m->i≤items.size->s.heap.IsListIter I ax i->s.heap.IsList ax items->s.heap.DictOfH (tupleKind knd) D (kvs.take i)->(∀ b o,b≠D->b≠I->s0.heap.get? b=some o->s.heap.get? b=some o)->s.gens=s0.gens->s.drawn=s0.drawn->s.os=s0.os ->
   (∀ h' tk,h'.DictOfH (tupleKind knd) D kvs->(∀ b o,b≠D->b≠I->s0.heap.get? b=some o->h'.get? b=some o)->R (.ok (.ret .none)) { s0 with heap:=h',toks:=tk }) ->
   codeAny (model prog w) A (.builtin "dict.update.loop" ⟨[.ref D,.ref I,.int (i:Int) tk,.none],[]⟩) R s:=by
 have W:=Walks.list (prog:=prog) (w:=w) (A:=A.in1) hh I ax hIa items
 have keysIn:∀ (i:Nat) x,x ∈ kvs.take i->∃ j v,items[j]?=some v∧kvs[j]?=some x:=fun i x hx=>by
  obtain⟨j,hj⟩:=List.getElem?_of_mem (List.mem_of_mem_take hx)
  have:=(List.getElem?_eq_some_iff.mp hj).1
  exact⟨j,_,Array.getElem?_eq_getElem (show j < items.size by omega),hj⟩
 have dk:∀ {i:Nat} {h h':Heap},h.DictOfH (tupleKind knd) D (kvs.take i)->(∀ o,h.get? D=some o->h'.get? D=some o)->(∀ b o,b≠D->b≠I->s0.heap.get? b=some o->h'.get? b=some o)->h'.DictOfH (tupleKind knd) D (kvs.take i):=fun {i h h'} d e kk=>by
  obtain⟨o,es,ep,ho,h2,h3,h4,h5,h6⟩:=d
  refine⟨o,es,ep,e _ ho,h2,h3,h4,fun x hx=>?_,h6⟩
  obtain⟨j,v,hv,hj⟩:=keysIn i x hx
  obtain⟨c,ka,val,k,_,_,_,n1,n2,_,q1,q2⟩:=hp j v hv
  rw[hj] at q1
  cases q1
  exact key_keeps q2 fun o e=>kk _ _ n1 n2 e
 intro m
 induction m with
 | zero =>
  intro i s tk hm hi h1 h2 hd hk g1 g2 g3 hR
  have hin:i=items.size:=by omega
  subst hin
  refine codeAny_builtin loop_entry ?_
  rw[Around.under_plainId loop_plain _]
  show wpAny _ A.in1 (pyNext (.ref I) >>= _) _ _ s
  refine wpAny_bind (W.done s _ _ ⟨h1,h2⟩ fun h' tk' kk=>?_)
  show wpAny _ A.in1 (Builtin.Dict.addKeywords D [] >>= fun _=>ret Value.none) _ _ _
  refine wpAny_bind (wpAny_pure (wpAny_pure ?_))
  have kb:∀ b o,b≠D->b≠I->s0.heap.get? b=some o->h'.get? b=some o:=fun b o n1 n2 e=>kk b o (by simpa using n2) (hk b o n1 n2 e)
  have hd2:=dk hd (fun o e=>kk D o (by simpa using hDI) e) kb
  rw[← hn,List.take_length] at hd2
  have:=hR h' tk' hd2 kb
  rw[← g1,← g2,← g3] at this
  exact this
 | succ m ih =>
  intro i s tk hm hi h1 h2 hd hk g1 g2 g3 hR
  have hlt:i < items.size:=by omega
  refine codeAny_builtin loop_entry ?_
  rw[Around.under_plainId loop_plain _]
  show wpAny _ A.in1 (pyNext (.ref I) >>= _) _ _ s
  refine wpAny_bind (W.item i s _ _ hlt ⟨h1,h2⟩ fun v h' tk' hv st kk=>?_)
  obtain⟨c,ka,val,k,rfl,cD,cI,n1,n2,hc0,hkv,hkey⟩:=hp i v hv
  obtain⟨oc,e0,ec,nc,dc⟩:=hc0
  have e1:h'.get? c=some oc:=kk c oc (by simpa using cI) (hk c oc cD cI e0)
  have kb:∀ b o,b≠D->b≠I->s0.heap.get? b=some o->h'.get? b=some o:=fun b o n1 n2 e=>kk b o (by simpa using n2) (hk b o n1 n2 e)
  have hd':=dk hd (fun o e=>kk D o (by simpa using hDI) e) kb
  show wpAny _ A.in1 ((holding [Value.ref c] _) >>= _) _ _ _
  refine wpAny_bind (wpAny_holding ?_)
  refine wpAny_bind (wpAny_tryCatch ?_)
  unfold Builtin.Dict.pairItems
  refine wpAny_bind (wpAny_typeOf (s:={ s with heap:=h',toks:=tk' }) (T:="tuple") ⟨oc,e1,ec⟩ ?_)
  rw[if_pos (by decide)]
  refine wpAny_bind (wpAny_seqItems (s:={ s with heap:=h',toks:=tk' }) e1 dc (wpAny_pure ?_))
  show wpAny _ A.in1 (holding [Value.ref ka,val] (dictSet D (.ref ka) val)) _ _ _
  refine wpAny_holding ?_
  have ml:(kvs.take i).length≤sizeLine:=by rw[List.length_take];omega
  have hkey':(tupleKind knd).is h' k ka:=key_keeps hkey fun o e=>kb _ _ n1 n2 e
  refine wpAny_dictSet_heap (s:={ s with heap:=h',toks:=tk' }) (hsz:=ml) hu hkey' hd' (fun h2' hd2 sb=>?_)
  have hnone:atKey (kvs.take i) k=none:=atKey_none_of_get fun j p hj=>by
   have hji:j < i:=by have:=(List.getElem?_eq_some_iff.mp hj).1;rw[List.length_take] at this;omega
   rw[List.getElem?_take_of_lt hji] at hj
   have:=idxH_unique hnd hj hkv
   omega
  have ht:kvs.take i++[(k,ka,val)]=kvs.take (i + 1):=by rw[List.take_add_one,hkv];rfl
  rw[storedH_new hnone,ht] at hd2
  refine wpAny_pure ⟨plainId_quiet loop_plain _,?_⟩
  have keep2:∀ b o,b≠D->h'.get? b=some o->h2'.get? b=some o:=fun b o nb e=>(sb.2 b nb).trans e
  have:=ih (i + 1) { s with heap:=h2',toks:=tk' + (tupleKind knd).draws k } 0 (by omega) hlt (st.1.at fun o e=>keep2 I o (Ne.symm hDI) e) (st.2.at fun o e=>keep2 ax o (Ne.symm hDa) e) hd2 (fun b o n1 n2 e=>keep2 b o n1 (kb b o n1 n2 e)) g1 g2 g3 hR
  exact this
theorem call_dict_list {E:Value->Shared->Prop} {s:Shared} {a:Addr} {n:Nat} {Q:Value->Shared->Prop} (hh:A.handled=none) (hu:(tupleKind knd).room A.in1.in1) (ho:s.heap.get? a=some { cls:=.type "list",data:=.seq items n }) (kvs:List (List K × Addr × Value)) (hn:kvs.length=items.size) (hsz:kvs.length≤sizeLine) (hnd:(kvs.map (·.1)).Nodup)
  (hp:∀ (i:Nat) (v:Value),items[i]?=some v->∃ (c ka:Addr) (val:Value) (k:List K),v=Value.ref c∧s.heap.IsTuple c #[.ref ka,val]∧kvs[i]?=some (k,ka,val)∧(tupleKind knd).is s.heap k ka)
  (h:∀ h' tk,h'.DictOfH (tupleKind knd) s.heap.objs.size kvs->(∀ b o,s.heap.get? b=some o->h'.get? b=some o)->Q (.ref s.heap.objs.size) { s with heap:=h',toks:=tk }) :
  wpAny (model prog w) A (call (.type "dict") [.ref a]) Q E s:=by
 refine callType_codes (Q₁:=fun obj s₁=>obj=.ref s.heap.objs.size∧s₁={ s with heap:=s.heap.push { cls:=.type "dict",data:=.dict #[] } }) F.kt_called_dict (F.kt_typeCall_dict_1 _) F.entry_dict_init (kt_code_dict_new _ ⟨rfl,rfl⟩) ?_
 rintro obj s₁ ⟨rfl,rfl⟩
 have hnew:(s.heap.push { cls:=.type "dict",data:=.dict #[] }).DictOfH (tupleKind knd) s.heap.objs.size []:=⟨_,_,_,Heap.get?_push_size _ rfl,⟨rfl,rfl,rfl⟩,rfl,rfl,(fun x hx=>nomatch hx),List.nodup_nil⟩
 have ho':(s.heap.push { cls:=.type "dict",data:=.dict #[] }).get? a=some { cls:=.type "list",data:=.seq items n }:=Heap.get?_push_of_some _ ho
 refine⟨hnew.typeIs,F.args_dict_init_2 _ _,?_⟩
 unfold Builtin.«dict.__init__»
 refine wpAny_bind ?_
 unfold Builtin.Dict.selfAndRest
 refine wpAny_bind (wpAny_notOrdered_dict hnew.typeIs ?_)
 show wpAny _ _ (pure (s.heap.objs.size,[Value.ref a])) _ _ _
 refine wpAny_pure ?_
 show wpAny _ _ (Builtin.Dict.updateFrom "dict.__init__" s.heap.objs.size (.ref a) [] .none) _ _ _
 unfold Builtin.Dict.updateFrom
 refine wpAny_bind (wpAny_typeOf (s:={ s with heap:=s.heap.push { cls:=.type "dict",data:=.dict #[] } }) (T:="list") ⟨_,ho',rfl⟩ ?_)
 rw[if_pos (by decide)]
 refine wpAny_bind (keysL_miss (s:={ s with heap:=s.heap.push { cls:=.type "dict",data:=.dict #[] } }) ho' rfl rfl rfl (by simpa using hh) fun h1 tk1 k1=>?_)
 rw[if_pos (by rfl)]
 have hd1:h1.DictOfH (tupleKind knd) s.heap.objs.size []:=by
  obtain⟨o2,es,ep,ho2,h2,h3,h4,h5,h6⟩:=hnew
  exact⟨o2,es,ep,k1 _ _ ho2,h2,h3,h4,(fun x hx=>nomatch hx),h6⟩
 have Dlt:s.heap.objs.size < h1.objs.size:=by
  obtain⟨o2,es,ep,ho2,r⟩:=hd1
  exact Heap.lt_size ho2
 have ha1:h1.get? a=some { cls:=.type "list",data:=.seq items n }:=k1 _ _ ho'
 refine wpAny_bind (wpAny_rule ?_)
 refine wpAny_bind (wpAny_pyIter_list (s:={ s with heap:=h1,toks:=tk1 }) (show h1.IsList a items from ⟨_,ha1,rfl,n,rfl⟩) ?_)
 refine wpAny_pure ⟨plainId_quiet loop_plain _,?_⟩
 have kb:∀ b o,s.heap.get? b=some o->h1.get? b=some o:=fun b o e=>k1 _ _ (Heap.get?_push_of_some _ e)
 have aI:a≠h1.objs.size:=Nat.ne_of_lt (Heap.lt_size ha1)
 have nD:∀ {b:Addr} {o:Obj},s.heap.get? b=some o->b≠s.heap.objs.size:=fun e z=>by have:=Heap.lt_size e;rw[z] at this;exact Nat.lt_irrefl _ this
 refine updL_loop (knd:=knd) (A:=A.in1) (I:=h1.objs.size) (ax:=a) (D:=s.heap.objs.size) (items:=items) (by simpa using hh) hu aI (Nat.ne_of_lt Dlt) (Ne.symm (nD ho)) kvs hn hsz hnd { s with heap:=h1,toks:=tk1 } (fun i v hv=>?_) items.size 0 _ 0 (by omega) (Nat.zero_le _) ⟨_,Heap.get?_push_size _ rfl,rfl,rfl⟩ ⟨_,Heap.get?_push_of_some _ ha1,rfl,n,rfl⟩ ?_ (fun b ob _ _ e=>Heap.get?_push_of_some _ e) rfl rfl rfl ?_
 ·obtain⟨c,ka,val,k,e,⟨o3,e3,r3⟩,q1,q2⟩:=hp i v hv
  have ek:∃ o,s.heap.get? ka=some o:=let ⟨o,_,_,h1,_⟩:=q2;⟨o,h1⟩
  obtain⟨ok,ek⟩:=ek
  exact⟨c,ka,val,k,e,nD e3,Nat.ne_of_lt (Heap.lt_size (kb _ _ e3)),nD ek,Nat.ne_of_lt (Heap.lt_size (kb _ _ ek)),⟨o3,kb _ _ e3,r3⟩,q1,key_keeps q2 fun o e=>kb _ _ e⟩
 ·obtain⟨o2,es,ep,ho2,h2,h3,h4,h5,h6⟩:=hd1
  exact⟨o2,es,ep,Heap.get?_push_of_some _ ho2,h2,h3,h4,(fun x hx=>nomatch hx),h6⟩
 ·intro h' tk hd' kk
  exact⟨rfl,h h' tk hd' fun b ob e=>kk b ob (nD e) (Nat.ne_of_lt (Heap.lt_size (kb _ _ e))) (kb _ _ e)⟩
end
end Dp
namespace L3
open PySem PySem.Spec PyProof.Rows L2
section
variable {X:Cx}
theorem pair_keys {H:Hp} {s:Shared}:∀ {its:List Value} {kvs:List (List Key × V)},its.length=kvs.length->(∀ (i:Nat) (v:Value),its[i]?=some v->∃ (c ka:Addr) (val:Value) (k:List Key) (x:V),v=Value.ref c∧s.heap.IsTuple c #[.ref ka,val]∧kvs[i]?=some (k,x)∧H ka=some (.tup (k.map kV))∧RelV x val) ->
  ∃ vs:List (List Key × Addr × Value),KT H kvs vs∧vs.length=its.length∧vs.map (·.1)=kvs.map (·.1)∧∀ (i:Nat) (v:Value),its[i]?=some v->∃ (c ka:Addr) (val:Value) (k:List Key),v=Value.ref c∧s.heap.IsTuple c #[.ref ka,val]∧vs[i]?=some (k,ka,val)∧H ka=some (.tup (k.map kV))
 | [],[],_,_=>⟨[],.nil,rfl,rfl,fun i v h=>by simp at h⟩
 | it::its,kv::kvs,hl,h=>by
  obtain⟨vs,k1,l1,m1,h1⟩:=pair_keys (its:=its) (kvs:=kvs) (by simpa using hl) fun i v hv=>by simpa using h (i + 1) v (by simpa using hv)
  obtain⟨c,ka,val,k,x,e1,e2,e3,e4,e5⟩:=h 0 it rfl
  have e3':kv=(k,x):=by simpa using e3
  subst e3'
  refine⟨(k,ka,val)::vs,.cons ⟨rfl,e4,e5⟩ k1,by simp [l1],by simp [m1],fun i v hv=>?_⟩
  cases i with
  | zero =>
   have:it=v:=by simpa using hv
   subst this
   exact⟨c,ka,val,k,e1,e2,rfl,e4⟩
  | succ i=>simpa using h1 i v (by simpa using hv)
/-- dict(l): l a list of pairs of a tuple of numbers and texts and a thing, the tuples unlike -/
theorem call_dictLT (hc:X.calm=true) (hu:X.A.units + 2 < cLine):CallR X (.type "dict") (fun xs H Q=>∃ (p:Addr) (ys:List V) (kvs:List (List Key × V)),xs=[.ref p]∧H p=some (.lst ys)∧ys.length=kvs.length∧(∀ (i:Nat) (y:V),ys[i]?=some y->∃ (c ka:Addr) (k:List Key) (v:V),kvs[i]?=some (k,v)∧y=.ref c∧H c=some (.tup [.ref ka,v])∧H ka=some (.tup (k.map kV)))∧(kvs.map (·.1)).Nodup ∧
  ∀ l H',Same H H'->H l=none->H' l=some (.dT kvs)->Q (.ref l) H'):=by
 intro pins s σ H xs us Q I r h
 obtain⟨p,ys,kvs,rfl,hp,hl,hy,nd,q⟩:=h
 obtain⟨u,rfl,ru⟩:=vals1 r
 cases ru
 obtain⟨hz,its,n,rv,ht⟩:=(show ObjOk X.prog X.w H s.heap p (.lst ys) from I.hok p _ hp)
 have fr:H s.heap.objs.size=none:=I.hok.fresh (Nat.le_refl _)
 have li:its.length=kvs.length:=by rw[← rv.length,hl]
 have pr:∀ (i:Nat) (v:Value),its[i]?=some v->∃ (c ka:Addr) (val:Value) (k:List Key) (x:V),v=Value.ref c∧s.heap.IsTuple c #[.ref ka,val]∧kvs[i]?=some (k,x)∧H ka=some (.tup (k.map kV))∧RelV x val:=fun i v hv=>by
  have hi:i < ys.length:=by have:=(List.getElem?_eq_some_iff.mp hv).1;omega
  obtain⟨c,ka,k,x,e1,e2,e3,e4⟩:=hy i _ (List.getElem?_eq_getElem hi)
  obtain⟨u,hu,ru⟩:=rv.get (List.getElem?_eq_getElem hi)
  rw[hv] at hu
  cases hu
  rw[e2] at ru
  obtain rfl:v=Value.ref c:=ru
  obtain⟨_,us,rus,tn⟩:=(show ObjOk X.prog X.w H s.heap c (.tup [.ref ka,x]) from I.hok c _ e3)
  cases rus with
  | cons r1 r2 =>
   cases r2 with
   | cons r2 r3 =>
    cases r3
    obtain rfl:_=Value.ref ka:=r1
    exact⟨c,ka,_,k,x,rfl,tn.tup,e1,e4,r2⟩
 obtain⟨vs,kt,lv,mv,hv⟩:=pair_keys (H:=H) li pr
 have nd2:(vs.map (·.1)).Nodup:=by rw[mv];exact nd
 refine Dp.call_dict_list (knd:=mixKind X.prog X.w) (items:=its.toArray) (I.ok.hd hc) hu ht vs (by rw[List.size_toArray,lv]) (by rw[lv,li,← hl];exact hz) nd2 (fun i v h=>?_) fun h' tk hd kk=>?_
 ·obtain⟨c,ka,val,k,q1,q2,q3,q4⟩:=hv i v (by simpa using h)
  exact⟨c,ka,val,k,q1,q2,q3,key_of I.hok q4⟩
 have lk:kvs.length≤sizeLine:=by rw[← hl];exact hz
 have big:(s.heap.objs.size == sysModules)=false:=by
  have:=Inv.big I
  simp only [beq_eq_false_iff_ne]
  exact fun z=>by rw[z] at this;exact Nat.lt_irrefl _ this
 obtain⟨o,es,ep,d1,d2,d3,d4,_,d6⟩:=hd
 refine⟨.ref s.heap.objs.size,upd H s.heap.objs.size (.dT kvs),I.laid (t':=tk) kk (Nat.le_refl _) ⟨lk,big,vs,KT.keeps kt fun c ys ec=>?_,o,es,ep,d1,d2,d3,d4,d6⟩,rfl,q _ _ (same_new fr) fr upd_same⟩
 exact same_new fr _ _ ec
end
end L3
namespace Far
/-- walks along arcs, with their lengths -/
inductive Walk (A:List (Nat × Nat × Int)) (s:Nat):Nat->Int->Prop
 | nil:Walk A s s 0
 | snoc {u v:Nat} {l x:Int}:Walk A s u x->(u,v,l) ∈ A->Walk A s v (x + l)
variable {A:List (Nat × Nat × Int)} {s:Nat}
def Pos (A:List (Nat × Nat × Int)):Prop:=∀ u v l,(u,v,l) ∈ A->1≤l
theorem Walk.nonneg (P:Pos A) {v:Nat} {x:Int} (h:Walk A s v x):0≤x:=by
 induction h with
 | nil=>exact Int.le_refl 0
 | snoc _ m ih=>have:=P _ _ _ m;omega
def Dst (A:List (Nat × Nat × Int)) (s v:Nat) (o:Option Int):Prop:=(∀ y,o=some y->Walk A s v y)∧∀ L,Walk A s v L->∃ y,o=some y∧y≤L
theorem Dst.unique {v:Nat} {o p:Option Int} (h:Dst A s v o) (k:Dst A s v p):o=p:=by
 cases o with
 | none =>
  cases p with
  | none=>rfl
  | some y=>obtain⟨_,e,_⟩:=h.2 y (k.1 y rfl);cases e
 | some x =>
  obtain⟨y,rfl,hy⟩:=k.2 x (h.1 x rfl)
  obtain⟨z,e,hz⟩:=h.2 y (k.1 y rfl)
  cases e
  rw[show x=y by omega]
theorem least {P:Nat->Prop}:∀ n,P n->∃ m,P m∧∀ k,P k->m≤k:=by
 intro n
 induction n using Nat.strongRecOn with
 | ind n ih =>
  intro h
  by_cases c:∃ k,k < n∧P k
  ·obtain⟨k,hk,pk⟩:=c;exact ih k hk pk
  ·exact⟨n,h,fun k pk=>by
    by_cases z:k < n
    ·exact absurd ⟨k,z,pk⟩ c
    ·omega⟩
theorem dst_exists (P:Pos A) (s v:Nat):∃ o,Dst A s v o:=by
 by_cases c:∃ x,Walk A s v x
 ·obtain⟨x,hx⟩:=c
  have nn:=hx.nonneg P
  obtain⟨m,hm,mn⟩:=least (P:=fun k=>Walk A s v (k:Int)) x.toNat (by rw[Int.toNat_of_nonneg nn];exact hx)
  refine⟨some m,fun y e=>by cases e;exact hm,fun L hL=>⟨m,rfl,?_⟩⟩
  have n2:=hL.nonneg P
  have:=mn L.toNat (by rw[Int.toNat_of_nonneg n2];exact hL)
  omega
 ·exact⟨none,⟨fun y e=>(by cases e),fun L hL=>absurd ⟨L,hL⟩ c⟩⟩
def Sym (A:List (Nat × Nat × Int)):Prop:=∀ u v l,(u,v,l) ∈ A->(v,u,l) ∈ A
def lt2 (e f:Int × Int):Prop:=e.1 < f.1∨(e.1=f.1∧e.2 < f.2)
def get {α:Type} (cs:List (Option α)) (v:Nat):Option α:=cs.getD v none
theorem get_set {α:Type} {cs:List (Option α)} {v i:Nat} {x:Option α} (h:v < cs.length):get (cs.set v x) i=if i=v then x else get cs i:=by
 unfold get
 rw[List.getD_eq_getElem?_getD,List.getElem?_set,List.getD_eq_getElem?_getD]
 by_cases c:v=i
 ·subst c;simp [h]
 ·simp [c,Ne.symm c]
def ct {α:Type}:List (Option α)->Nat
 | []=>0
 | none::r=>ct r
 | some _::r=>ct r + 1
/-- the weight of costs, which falls -/
def WM:Int:=2 ^ 130
def mW:Option (Int × Int)->Nat
 | none=>(2 ^ 250)
 | some c=>(c.1 * WM + c.2).toNat
def mu:List (Option (Int × Int))->Nat
 | []=>0
 | c::r=>mW c + mu r
structure Good (A:List (Nat × Nat × Int)) (n s:Nat) (cs:List (Option (Int × Int))):Prop where
 len:cs.length=n
 walk:∀ v c,get cs v=some c->Walk A s v c.1
 w0:∀ v c,get cs v=some c->0≤c.2∧c.2≤c.1 * 2 ^ 60
 top:∀ v c,get cs v=some c->c.1≤((ct cs:Nat) - 1:Int) * 10 ^ 18
 start:∃ c,get cs s=some c∧c.1≤0
/-- stable along arcs -/
def Stab (A:List (Nat × Nat × Int)) (cs:List (Option (Int × Int))):Prop:=∀ u v l c,(u,v,l) ∈ A->get cs u=some c->∃ c',get cs v=some c'∧c'.1≤c.1 + l
structure Snd (A:List (Nat × Nat × Int)) (n s:Nat) (D:List (Option Int)):Prop where
 len:D.length=n
 walk:∀ v x,get D v=some x->Walk A s v x
 start:∃ x,get D s=some x∧x≤0
structure Rnd (A:List (Nat × Nat × Int)) (n s:Nat) (δ:Nat->Option Int) (D0:List (Option Int)) (B:(Nat × Nat × Int)->Prop) (D:List (Option Int)):Prop where
 snd:Snd A n s D
 keep:∀ v,get D0 v=δ v->get D v=δ v
 arc:∀ u v l x,B (u,v,l)->get D0 u=δ u->δ u=some x->∃ y,get D v=some y∧y≤x + l
section
variable {n:Nat} {δ:Nat->Option Int} {D0 D:List (Option Int)} {B:(Nat × Nat × Int)->Prop} {u v:Nat} {l:Int}
def plus (B:(Nat × Nat × Int)->Prop) (a:Nat × Nat × Int):(Nat × Nat × Int)->Prop:=fun b=>B b∨b=a
theorem Rnd.no (r:Rnd A n s δ D0 B D) (hu:get D u=none):Rnd A n s δ D0 (plus B (u,v,l)) D:=by
 refine⟨r.snd,r.keep,fun u' v' l' x b e1 e2=>?_⟩
 rcases b with b | b
 ·exact r.arc _ _ _ _ b e1 e2
 ·cases b
  have:=r.keep _ e1
  rw[hu,e2] at this;cases this
theorem Rnd.old (r:Rnd A n s δ D0 B D) {x' y:Int} (hu:get D u=some x') (hv:get D v=some y) (hy:y≤x' + l):Rnd A n s δ D0 (plus B (u,v,l)) D:=by
 refine⟨r.snd,r.keep,fun u' v' l' x b e1 e2=>?_⟩
 rcases b with b | b
 ·exact r.arc _ _ _ _ b e1 e2
 ·cases b
  have:=r.keep _ e1
  rw[hu,e2] at this;cases this
  exact⟨y,hv,hy⟩
theorem Rnd.put (dd:∀ v,Dst A s v (δ v)) (m:(u,v,l) ∈ A) (hn:v < n) (r:Rnd A n s δ D0 B D) {x':Int} (hu:get D u=some x') (hv:get D v=none∨∃ y,get D v=some y∧x' + l < y) (P:Pos A):Rnd A n s δ D0 (plus B (u,v,l)) (D.set v (some (x' + l))):=by
 have hl:v < D.length:=by rw[r.snd.len];exact hn
 have wk:=Walk.snoc (r.snd.walk _ _ hu) m
 obtain⟨d,hd,hdl⟩:=(dd v).2 _ wk
 have bad:get D0 v=δ v->False:=fun e=>by
  have e':=r.keep _ e
  rcases hv with hv | ⟨y,hv,hy⟩
  ·rw[hv,hd] at e';cases e'
  ·rw[hv,hd] at e';cases e';omega
 refine⟨⟨by rw[List.length_set];exact r.snd.len,fun i x e=>?_,?_⟩,fun i e=>?_,fun u' v' l' x b e1 e2=>?_⟩
 ·rw[get_set hl] at e
  split at e
  ·rename_i z;subst z;cases e;exact wk
  ·exact r.snd.walk _ _ e
 ·rw[get_set hl]
  split
  ·rename_i z;subst z
   obtain⟨x,hx,hx0⟩:=r.snd.start
   rcases hv with hv | ⟨y,hv,hy⟩
   ·rw[hv] at hx;cases hx
   ·rw[hv] at hx;cases hx
    exact⟨_,rfl,by omega⟩
  ·exact r.snd.start
 ·rw[get_set hl]
  split
  ·rename_i z;subst z;exact absurd e bad
  ·exact r.keep _ e
 ·rw[get_set hl]
  rcases b with b | b
  ·obtain⟨y',hy',hle⟩:=r.arc _ _ _ _ b e1 e2
   split
   ·rename_i z;subst z
    refine⟨_,rfl,?_⟩
    rcases hv with hv | ⟨y,hv,hy⟩
    ·rw[hv] at hy';cases hy'
    ·rw[hv] at hy';cases hy';omega
   ·exact⟨y',hy',hle⟩
  ·cases b
   have:=r.keep _ e1
   rw[hu,e2] at this;cases this
   rw[if_pos rfl]
   exact⟨_,rfl,Int.le_refl _⟩
theorem Rnd.next (dd:∀ v,Dst A s v (δ v)) (P:Pos A) (inn:∀ u v l,(u,v,l) ∈ A->u < n∧v < n) (s0:Snd A n s D0) (r:Rnd A n s δ D0 B D) (all:∀ a ∈ A,B a):∀ (k:Nat) (v:Nat),v < n->get D0 v≠δ v->(∀ d,δ v=some d->d.toNat≤k)->∃ v,v < n∧get D0 v≠δ v∧get D v=δ v:=by
 intro k
 induction k using Nat.strongRecOn with
 | ind k ih =>
  intro v hv hne hk
  cases e:δ v with
  | none =>
   cases e2:get D0 v with
   | none=>exact absurd (e2.trans e.symm) hne
   | some x =>
    obtain⟨y,hy,_⟩:=(dd v).2 _ (s0.walk _ _ e2)
    rw[e] at hy;cases hy
  | some d =>
   have wk:=(dd v).1 _ e
   have hkd:=hk _ e
   cases hw:wk with
   | nil =>
    obtain⟨x,hx,hx0⟩:=s0.start
    have:=(s0.walk _ _ hx).nonneg P
    have:x=0:=by omega
    subst this
    exact absurd (hx.trans e.symm) hne
   | @snoc u _ l x w m =>
    obtain⟨y,hy,hyx⟩:=(dd u).2 _ w
    obtain⟨d',hd',hle⟩:=(dd v).2 _ (Walk.snoc ((dd u).1 _ hy) m)
    rw[e] at hd';cases hd'
    have yx:y=x:=by omega
    subst yx
    by_cases c:get D0 u=δ u
    ·obtain⟨y',hy',hle'⟩:=r.arc _ _ _ _ (all _ m) c hy
     obtain⟨d',hd',hle2⟩:=(dd v).2 _ (r.snd.walk _ _ hy')
     rw[e] at hd';cases hd'
     have:y'=y + l:=by omega
     subst this
     exact⟨v,hv,hne,hy'.trans e.symm⟩
    ·have l1:=P _ _ _ m
     have y0:=((dd u).1 _ hy).nonneg P
     refine ih (k - 1) (by omega) u (inn _ _ _ m).1 c fun d hd=>?_
     rw[hy] at hd;cases hd;omega
end
theorem countP_lt {α:Type} {p q:α->Bool}:∀ {xs:List α},(∀ x ∈ xs,p x=true->q x=true)->(∃ x ∈ xs,q x=true∧p x=false)->xs.countP p < xs.countP q
 | [],_,⟨x,h,_⟩=>by cases h
 | a::r,h,⟨x,hx,e1,e2⟩=>by
  rw[List.countP_cons,List.countP_cons]
  have le:r.countP p≤r.countP q:=List.countP_mono_left fun x hx=>h x (List.mem_cons_of_mem _ hx)
  rcases List.mem_cons.mp hx with rfl | hx
  ·rw[e1,e2];simp;omega
  ·have:=countP_lt (xs:=r) (fun x hx=>h x (List.mem_cons_of_mem _ hx)) ⟨x,hx,e1,e2⟩
   have:=h a List.mem_cons_self
   cases e:p a <;> cases e':q a <;> simp_all <;> omega
def cnt (n:Nat) (δ:Nat->Option Int) (D:List (Option Int)):Nat:=(List.range n).countP fun v=>decide (get D v=δ v)
def Done (n:Nat) (δ:Nat->Option Int) (D:List (Option Int)) (k:Nat):Prop:=(∀ v,v < n->get D v=δ v)∨k + 1≤cnt n δ D
theorem Done.round {n:Nat} {δ:Nat->Option Int} {D0 D:List (Option Int)} {B:(Nat × Nat × Int)->Prop} {k:Nat} (dd:∀ v,Dst A s v (δ v)) (P:Pos A) (inn:∀ u v l,(u,v,l) ∈ A->u < n∧v < n) (s0:Snd A n s D0) (r:Rnd A n s δ D0 B D) (all:∀ a ∈ A,B a) (h:Done n δ D0 k):Done n δ D (k + 1):=by
 by_cases c:∀ v,v < n->get D0 v=δ v
 ·exact .inl fun v hv=>r.keep v (c v hv)
 ·rcases h with h | h
  ·exact absurd h c
  ·have ⟨v,z⟩:=Classical.not_forall.mp c
   have ⟨hv,hne⟩:=Classical.not_imp.mp z
   obtain⟨v',hv',n0,n1⟩:=r.next dd P inn s0 all ((δ v).getD 0).toNat v hv hne fun d e=>by rw[e];exact Nat.le_refl _
   refine .inr (Nat.lt_of_le_of_lt h (countP_lt (fun x _ e=>?_) ⟨v',List.mem_range.mpr hv',decide_eq_true n1,decide_eq_false n0⟩))
   exact decide_eq_true (r.keep x (of_decide_eq_true e))
theorem Done.first {n:Nat} {δ:Nat->Option Int} {D:List (Option Int)} {v:Nat} (hv:v < n) (h:get D v=δ v):Done n δ D 0:=by
 refine .inr ?_
 exact List.countP_pos_iff.mpr ⟨v,List.mem_range.mpr hv,decide_eq_true h⟩
theorem Done.all {n:Nat} {δ:Nat->Option Int} {D:List (Option Int)} (h:Done n δ D n):∀ v,v < n->get D v=δ v:=by
 rcases h with h | h
 ·exact h
 ·have:cnt n δ D≤n:=by
   have:=List.countP_le_length (p:=fun v=>decide (get D v=δ v)) (l:=List.range n)
   rw[List.length_range] at this;exact this
  omega
def PSt (c0:List (Option (Int × Int))) (B:(Nat × Nat × Int)->Prop) (cs:List (Option (Int × Int))) (ag:Bool):Prop :=
 (ag=false∧cs=c0∧∀ u v l c,B (u,v,l)->get c0 u=some c->∃ c',get c0 v=some c'∧c'.1≤c.1 + l)∨(ag=true∧mu cs < mu c0)
section
variable {c0 cs:List (Option (Int × Int))} {B B':(Nat × Nat × Int)->Prop} {ag:Bool} {u v:Nat} {l w:Int}
end
theorem get_rep {α:Type} (n v:Nat):get (List.replicate n (none:Option α)) v=none:=by
 unfold get
 rw[List.getD_eq_getElem?_getD,List.getElem?_replicate]
 split <;> rfl
theorem Snd.first {n:Nat} (hs:s < n):Snd A n s ((List.replicate n none).set s (some 0)):=by
 have hl:s < (List.replicate n (none:Option Int)).length:=by rw[List.length_replicate];exact hs
 refine⟨by rw[List.length_set,List.length_replicate],fun v c e=>?_,⟨0,?_,Int.le_refl _⟩⟩
 ·rw[get_set hl,get_rep] at e
  split at e
  ·rename_i z;subst z;cases e;exact .nil
  ·cases e
 ·rw[get_set hl,if_pos rfl]
theorem Rnd.start {n:Nat} {δ:Nat->Option Int} {D:List (Option Int)} (h:Snd A n s D):Rnd A n s δ D (fun _=>False) D:=⟨h,fun _ e=>e,fun _ _ _ _ z=>z.elim⟩
theorem Rnd.less {n:Nat} {δ:Nat->Option Int} {D0 D:List (Option Int)} {B B':(Nat × Nat × Int)->Prop} (h:Rnd A n s δ D0 B D) (k:∀ a,B' a->B a):Rnd A n s δ D0 B' D:=⟨h.snd,h.keep,fun u v l x z=>h.arc u v l x (k _ z)⟩
theorem start_done {n:Nat} {δ:Nat->Option Int} {D:List (Option Int)} (P:Pos A) (hs:s < n) (dd:∀ v,Dst A s v (δ v)) (h:Snd A n s D):Done n δ D 0:=by
 obtain⟨x,hx,hx0⟩:=h.start
 obtain⟨y,hy,hyl⟩:=(dd s).2 0 .nil
 have:=((dd s).1 _ hy).nonneg P
 have:=(h.walk _ _ hx).nonneg P
 exact Done.first hs (by rw[hx,hy,show x=y by omega])
end Far
namespace L3
open PySem PySem.Spec PyProof.Rows L2
def tieAt (ts:List Tie) (k:Nat):Tie:=ts.getD k (0,0,0)
def arcs2 (t:Tie):List (Nat × Nat × Int):=[(t.1.toNat,t.2.1.toNat,t.2.2),(t.2.1.toNat,t.1.toNat,t.2.2)]
def arcs (ts:List Tie) (ks:List Nat):List (Nat × Nat × Int):=ks.flatMap fun k=>arcs2 (tieAt ts k)
theorem arcs_mem {ts:List Tie} {ks:List Nat} {a:Nat × Nat × Int}:a ∈ arcs ts ks↔∃ k,k ∈ ks∧a ∈ arcs2 (tieAt ts k):=by
 unfold arcs;rw[List.mem_flatMap]
theorem arcs2_mem {t:Tie} {a:Nat × Nat × Int}:a ∈ arcs2 t↔a=(t.1.toNat,t.2.1.toNat,t.2.2)∨a=(t.2.1.toNat,t.1.toNat,t.2.2):=by
 unfold arcs2;simp
theorem tieAt_in {ts:List Tie} {k:Nat} (h:k < ts.length):ts[k]?=some (tieAt ts k)∧tieAt ts k ∈ ts:=by
 have e:ts[k]?=some (tieAt ts k):=by unfold tieAt;rw[List.getD_eq_getElem?_getD,List.getElem?_eq_getElem h];rfl
 exact⟨e,List.mem_of_getElem? e⟩
theorem ends_eq {a b c d:Int} (h1:0≤a) (h2:a < b) (h3:0≤c) (h4:c < d) (h:a.toNat=c.toNat∧b.toNat=d.toNat∨a.toNat=d.toNat∧b.toNat=c.toNat):a=c∧b=d:=by omega
theorem endLt_ne {s t:Tie} (h:endLt s t) (e1:s.1=t.1) (e2:s.2.1=t.2.1):False:=by
 rcases h with h | h
 ·exact Int.lt_irrefl _ (e1 ▸ h)
 ·exact Int.lt_irrefl _ (e2 ▸ h.2)
/-- two ties with the same ends are one -/
theorem tie_ends {n:Int} {ts:List Tie} (ok:WebOk n ts) {k k':Nat} (hk:k < ts.length) (hk':k' < ts.length) (e1:(tieAt ts k).1=(tieAt ts k').1) (e2:(tieAt ts k).2.1=(tieAt ts k').2.1):k=k':=by
 have pw:∀ i j (hi:i < ts.length) (hj:j < ts.length),i < j->endLt (tieAt ts i) (tieAt ts j):=fun i j hi hj z=>by
  have q:=List.pairwise_iff_getElem.mp ok.rise i j hi hj z
  have g:∀ {i:Nat} (hi:i < ts.length),ts[i]=tieAt ts i:=fun {i} hi=>Option.some.inj ((List.getElem?_eq_getElem hi).symm.trans (tieAt_in hi).1)
  rwa [g hi,g hj] at q
 rcases Nat.lt_trichotomy k k' with z | z | z
 ·exact (endLt_ne (pw k k' hk hk' z) e1 e2).elim
 ·exact z
 ·exact (endLt_ne (pw k' k hk' hk z) e1.symm e2.symm).elim
section
variable {n:Int} {ts:List Tie} {ks:List Nat}
theorem arcs_in (ok:WebOk n ts) (ko:KeepOk ts.length ks):∀ u v l,(u,v,l) ∈ arcs ts ks->u < n.toNat∧v < n.toNat:=fun u v l h=>by
 obtain⟨k,hk,h⟩:=arcs_mem.mp h
 have:=ok.tie _ (tieAt_in (ko.2 k hk)).2
 rcases arcs2_mem.mp h with h | h <;> cases h <;> omega
end
def CV (H:Hp) (v:V):Option (Int × Int)->Prop
 | none=>v=.non
 | some e=>∃ t,v=.ref t∧H t=some (.tup [.int e.1,.int e.2])
def CostL (H:Hp) (vs:List V) (cs:List (Option (Int × Int))):Prop:=vs.length=cs.length∧∀ i v,vs[i]?=some v->CV H v (Far.get cs i)
section
variable {H H' J J':Hp} {vs cvs avs ws:List V} {cs:List (Option (Int × Int))} {lw lc la t:Addr} {n k:Nat} {x y:Int}
/-- the lists of a search: weights, costs, places ahead -/
structure RH (H J:Hp) (lw lc la:Addr) (ws:List V) (n:Nat) (cs:List (Option (Int × Int))):Prop where
 same:Same H J
 fc:H lc=none
 fa:H la=none
 nwc:lw≠lc
 nwa:lw≠la
 nca:lc≠la
 wl:J lw=some (.lst ws)
 co:∃ cvs,J lc=some (.lst cvs)∧CostL J cvs cs
 ah:∃ avs,J la=some (.lst avs)∧avs.length=n
end
theorem rep_one {α:Type} (x:α):∀ k:Nat,(List.replicate k [x]).flatten=List.replicate k x
 | 0=>rfl
 | k + 1=>by rw[List.replicate_succ,List.flatten_cons,rep_one x k];rfl
def ov:Option Int->V
 | none=>.non
 | some x=>.int x
theorem ov_at {D:List (Option Int)} {i:Nat} (h:i < D.length):(D.map ov)[i]?=some (ov (Far.get D i)):=by
 rw[List.getElem?_map,List.getElem?_eq_getElem h]
 unfold Far.get
 rw[List.getD_eq_getElem?_getD,List.getElem?_eq_getElem h];rfl
theorem atI_toNat {α:Type} {xs:List α} {i:Int} {x:α} (h0:0≤i) (h:xs[i.toNat]?=some x):atI xs i=some x:=by
 have hl:=(List.getElem?_eq_some_iff.mp h).1
 unfold atI ixN
 rw[if_pos h0,if_pos (by omega)]
 exact h
theorem ixN_nat {n:Nat} {i:Int} (h0:0≤i) (h:i < n):ixN n i=some i.toNat:=by
 unfold ixN;rw[if_pos h0,if_pos h]
/-- [x] * n -/
def rRep1:R2:=fun x y H Q=>∃ l k z,x=.ref l∧y=.int k∧H l=some (.lst [z])∧0≤k∧k≤1000∧∀ p H',Same H H'->H p=none->H' p=some (.lst (List.replicate k.toNat z))->Q (.ref p) H'
theorem op_rep1 {X:Cx}:OpR X (binaryOp .Mult) rRep1:=by
 intro pins s σ H x y v u Q I rx ry h
 obtain⟨l,k,z,rfl,rfl,hH,h1,h2,q⟩:=h
 refine op_rep (X:=X) pins s σ H _ _ v u Q I rx ry ⟨l,k,_,rfl,rfl,hH,by omega,by omega,?_,fun p hp=>q p _ (same_new hp) hp (by rw[upd_same,rep_one])⟩
 exact Nat.le_trans (by show 1 * k.toNat≤1000;omega) (by decide:1000≤sizeLine)
theorem tie_val {K:PySem.W.Frag} {H:Hp}:∀ {ts:List Tie} {ws:List V} {k:Nat},IsAll K H (ts.map tieD) ws->k < ts.length->∃ a,ws[k]?=some (.ref a)∧H a=some (.tup [.int (tieAt ts k).1,.int (tieAt ts k).2.1,.int (tieAt ts k).2.2])
 | t::r,ws,0,h,_=>by
  obtain⟨v,vs,rfl,h1,_⟩:=h
  obtain⟨a,xs,rfl,ha,hx⟩:=h1
  have e:xs=(tieI t).map V.int:=IsAll.of_ints (ns:=tieI t) hx
  subst e
  exact⟨a,rfl,ha⟩
 | t::r,ws,k + 1,h,hk=>by
  obtain⟨v,vs,rfl,_,h2⟩:=h
  obtain⟨a,e,ha⟩:=tie_val (ts:=r) (ws:=vs) (k:=k) h2 (by simpa using hk)
  exact⟨a,e,ha⟩
theorem keep_parts {K:PySem.W.Frag} {H:Hp} {ks:List Nat} {v:V} (h:Is K H (keepD ks) v):∃ p,v=.ref p∧H p=some (.tup ((keepI ks).map V.int)):=by
 obtain⟨p,vs,rfl,hp,hx⟩:=h
 have e:=IsAll.of_ints hx
 subst e
 exact⟨p,rfl,hp⟩
theorem keep_at {ks:List Nat} {i:Nat} {x:V} (h:((keepI ks).map V.int)[i]?=some x):∃ k,ks[i]?=some k∧x=.int (k:Int):=by
 unfold keepI at h
 rw[List.map_map,List.getElem?_map] at h
 cases e:ks[i]? with
 | none=>rw[e] at h;cases h
 | some k=>rw[e] at h;cases h;exact⟨k,rfl,rfl⟩
theorem pow_le {i:Nat} (h:i < 60):(0:Int)≤2 ^ i∧(2:Int) ^ i≤2 ^ 60:=by
 have e:((2 ^ i:Nat):Int)=(2:Int) ^ i:=by norm_cast
 have:2 ^ i≤2 ^ 60:=Nat.pow_le_pow_right (by decide) (by omega)
 constructor
 ·rw[← e];exact Int.natCast_nonneg _
 ·rw[← e];exact_mod_cast this
/-- a web, a keep of it, a place -/
def WK (K:PySem.W.Frag) (H:Hp) (n:Int) (ts:List Tie) (ks:List Nat) (wv kv:V):Prop:=Is K H (webD n ts) wv∧WebOk n ts∧Is K H (keepD ks) kv∧KeepOk ts.length ks
theorem WK.same {K:PySem.W.Frag} {H H':Hp} {n:Int} {ts:List Tie} {ks:List Nat} {wv kv:V} (h:WK K H n ts ks wv kv) (s:Same H H'):WK K H' n ts ks wv kv:=⟨Is.same s _ h.1,h.2.1,Is.same s _ h.2.2.1,h.2.2.2⟩
end L3
namespace HT
open PySem PyProof.Rows
open Sem (wp)
theorem noFill_tuple_mul:fillsNumberSlot (.type "tuple") "mul"=pure false :=
 PySem.fillsNumberSlot_seq (id:="tuple.__mul__") (r:=some (.builtin "tuple.__rmul__")) F.slot_tuple_mul.lookup (by decide +kernel) F.slot_tuple_rmul.lookup (by decide +kernel)
theorem repeat_tuple:seqRepeat? (.type "tuple")=pure (some (.builtin "tuple.__mul__")):=by
 unfold seqRepeat?
 rw[PySem.seqSlot_of (T:="tuple") (name:="__mul__") (id:="tuple.__mul__") F.slot_tuple_mul.lookup (by decide +kernel),PySem.seqSlot_of (T:="tuple") (name:="__rmul__") (id:="tuple.__rmul__") F.slot_tuple_rmul.lookup (by decide +kernel)]
 rfl
theorem int_rmul_tuple (a:Int) (t:Tok) (l:Addr) (items:Array Value) (n:Nat) (dd:Option Addr) (sl:Array (Option Value)) :
  Meets (Builtin.«int.__rmul__» ⟨[.int a t,.ref l],[]⟩) (fun _ R s=>s.heap.get? l=some { cls:=.type "tuple",dict:=dd,data:=.seq items n,slots:=sl }∧R (.ok (.ret Value.notImplemented)) s) :=
 .of_wp fun prog w A R s h=>by obtain⟨hp,g,d,tk,os⟩:=s;obtain⟨hl,h⟩:=h;wp_walk;exact⟨_,rfl,h⟩
theorem tuple_mulW (l:Addr) (items:Array Value) (n:Nat) (x:Int) (u:Tok) (dd:Option Addr) (sl:Array (Option Value)) (h0:¬ (decide (x < -(2 ^ 63)) || decide (x ≥ 2 ^ 63))=true) (h1:¬ (items.isEmpty || x == 1)=true) (h2:¬ (decide (x≤0) || items.isEmpty)=true)
  (h3:¬ (items.size:Int) * x > (2 ^ 63 - 1) / 8) (h4:¬ Builtin.Tuple.tupleTooMany ((items.size:Int) * x)=true) (hz:((List.replicate x.toNat items).foldl (fun x1 x2=>x1++x2) #[]).size≤sizeLine) :
  Meets (Builtin.«tuple.__mul__» ⟨[.ref l,.int x u],[]⟩) (fun _ R s=>s.heap.get? l=some { cls:=.type "tuple",dict:=dd,data:=.seq items n,slots:=sl }∧R (.ok (.ret (Value.ref s.heap.objs.size))) { s with heap:=s.heap.push { cls:=Value.type "tuple",data:=Data.seq ((List.replicate x.toNat items).foldl (fun x1 x2=>x1++x2) #[]) },toks:=s.toks }) :=
 .of_wp fun prog w A R s h=>by
  obtain⟨hp,g,d,tk,os⟩:=s;obtain⟨hl,h⟩:=h;have f1:=AutoSeq1.idx_int;have f2:=AutoSeq1.sub_tuple_tuple
  wp_walk using wpAny_loadPart' hl
  refine wpAny_ite_false (decide_eq_false h0) ?_
  wp_walk using wpAny_loadPart' hl
  refine wpAny_ite_false (decide_eq_false h3) ?_
  wp_walk
  first | exact⟨_,rfl,h⟩ | (refine wpAny_ite_false (decide_eq_false (Nat.not_lt.mpr hz)) ?_;wp_walk;exact⟨_,rfl,h⟩)
theorem rep_size (xs:Array Value):∀ (k:Nat) (acc:Array Value),(List.foldl (fun x1 x2=>x1++x2) acc (List.replicate k xs)).size=acc.size + k * xs.size:=AutoListH.size_joined xs
section
variable {prog:Program} {w:World} {A:Around} {E:Value->Shared->Prop} {s:Shared}
/-- t * k, k two or more, t not empty -/
theorem mul_tuple {l:Addr} {items:Array Value} {x:Int} {u:Tok} {Q:Value->Shared->Prop} (hl:IsTup s.heap l items) (hx:2≤x) (hx2:x≤1000) (hne:items.size≠0) (hz:items.size * x.toNat≤1000)
  (h:Q (.ref s.heap.objs.size) { s with heap:=s.heap.push { cls:=Value.type "tuple",data:=Data.seq ((List.replicate x.toNat items).foldl (fun x1 x2=>x1++x2) #[]) } }):wpAny (model prog w) A (binaryOp .Mult (.ref l) (.int x u)) Q E s:=by
 obtain⟨⟨cls,dd,data,sl⟩,ho,hc,n,hd⟩:=id hl
 simp only at hc hd
 subst hc hd
 have em:items.isEmpty=false:=by
  rw[Array.isEmpty];exact decide_eq_false hne
 have big:(items.size:Int) * x≤1000:=by
  have:((items.size * x.toNat:Nat):Int)≤1000:=by exact_mod_cast hz
  rw[Int.natCast_mul,Int.toNat_of_nonneg (by omega)] at this
  exact this
 have line:(1000:Int)≤(sizeLine:Int):=by decide
 refine wpAny_binaryOp_repeat_ref (T:="tuple") (U:="int") (by decide) ⟨_,ho,rfl⟩ (fun s'=>typeIs_int s' x u) noFill_tuple_mul F.fills_int_mul F.slot_int_rmul repeat_tuple F.slot_int_index.lookup
  (call_meets F.slot_int_rmul (typeIs_int s x u) F.entry_int_rmul (F.args_int_rmul_2 _ _) (int_rmul_tuple x u l items n dd sl)
   ⟨ho,rfl,⟨_,ho,rfl⟩,call_meets F.slot_tuple_mul ⟨_,ho,rfl⟩ F.entry_tuple_mul (F.args_tuple_mul_2 _ _) (tuple_mulW l items n x u dd sl ?_ ?_ ?_ ?_ ?_ ?_) ⟨ho,h⟩⟩)
 ·rw[decide_eq_false (by omega),decide_eq_false (by omega)];exact Bool.false_ne_true
 ·rw[em,Bool.false_or];simp;omega
 ·rw[em,decide_eq_false (by omega)];exact Bool.false_ne_true
 ·omega
 ·unfold Builtin.Tuple.tupleTooMany
  rw[decide_eq_false (by omega)];exact Bool.false_ne_true
 ·rw[rep_size]
  show 0 + x.toNat * items.size≤sizeLine
  rw[Nat.mul_comm]
  exact Nat.le_trans (by omega) (by decide:1000≤sizeLine)
end
end HT
namespace L3
open PySem PySem.Spec PyProof.Rows L2
def hAt (hs:List Int) (a:Int):Int:=hs.getD a.toNat 0
def absI (i:Int):Int:=if i < 0 then -i else i
def acrossI (ts:List Tie) (hs:List Int) (k:Nat):Int:=absI (hAt hs (tieAt ts k).1 - hAt hs (tieAt ts k).2.1)
def holdB (n:Int) (ts:List Tie) (ks:List Nat) (hs:List Int):Bool:=decide (hs.length=n.toNat) && ks.all fun k=>decide (acrossI ts hs k≤(tieAt ts k).2.2)
def capO (roof:Int):Option Int->Int
 | none=>roof
 | some x=>if roof < x then roof else x
theorem hAt_at {hs:List Int} {a:Int} (h0:0≤a) (h:a.toNat < hs.length):atI (hs.map V.int) a=some (.int (hAt hs a)):=by
 refine atI_toNat h0 ?_
 rw[List.getElem?_map,List.getElem?_eq_getElem h]
 unfold hAt
 rw[List.getD_eq_getElem?_getD,List.getElem?_eq_getElem h];rfl
theorem wholes_ints:∀ hs:List Int,wholesB (.tuple (hs.map .int))=true:=fun hs=>by
 show (hs.map PyData.int).all wholeB=true
 rw[List.all_map]
 exact List.all_eq_true.mpr fun _ _=>rfl
def IntT (H:Hp) (p:Addr) (hs:List Int):Prop:=H p=some (.tup (hs.map V.int))∧hs.length≤1000
theorem IntT.same {H H':Hp} {p:Addr} {hs:List Int} (h:IntT H p hs) (s:Same H H'):IntT H' p hs:=⟨s _ _ h.1,h.2⟩
theorem IntT.is {K:PySem.W.Frag} {H:Hp} {p:Addr} {hs:List Int} (h:IntT H p hs):Is K H (.tuple (hs.map .int)) (.ref p):=⟨p,_,rfl,h.1,IsAll.ints _⟩
def AllI (xs:List V):Prop:=∃ ns:List Int,xs=ns.map V.int
theorem AllI.of {xs:List V} (h:∀ x ∈ xs,∃ i,x=V.int i):AllI xs:=by
 induction xs with
 | nil=>exact⟨[],rfl⟩
 | cons x r ih =>
  obtain⟨i,rfl⟩:=h x List.mem_cons_self
  obtain⟨ns,rfl⟩:=ih fun y hy=>h y (List.mem_cons_of_mem _ hy)
  exact⟨i::ns,rfl⟩
theorem lay_ints:∀ hs:List Int,PyData.canLayAll0 (hs.map .int)=true
 | []=>rfl
 | t::r=>by
  show (PyData.canLay0 (.int t) && PyData.canLayAll0 (r.map .int))=true
  rw[lay_ints r]
  rfl
theorem deep_ints:∀ hs:List Int,PyData.depthAll (hs.map .int)≤1
 | []=>Nat.zero_le _
 | t::r=>by
  show max (PyData.depth (.int t)) (PyData.depthAll (r.map .int))≤1
  have h1:=deep_ints r
  have h2:PyData.depth (.int t)≤1:=Nat.le_trans (Nat.le_of_eq (by rfl:PyData.depth (.int t)=0)) (by decide)
  omega
def spAcross (K:PySem.W.Frag):Sp:=fun vs H Q _=>∃ (n:Int) (ts:List Tie) (wv:V) (k:Nat) (p:Addr) (hs:List Int),vs=[wv,.int (k:Int),.ref p]∧Is K H (webD n ts) wv∧WebOk n ts∧k < ts.length∧IntT H p hs∧hs.length=n.toNat∧Q (.int (acrossI ts hs k)) H
def spHold (K:PySem.W.Frag):Sp:=fun vs H Q _=>∃ n ts ks wv kv p hs,vs=[wv,kv,.ref p]∧WK K H n ts ks wv kv∧IntT H p hs∧∀ H',Same H H'->Q (.bl (holdB n ts ks hs)) H'
section
variable {g:TG} {te:TE} {own:List Str} {js:List Nat} {σ:L2.St} {H1:Hp} {Q:VK}
end
/-- t * k -/
def rRepT:R2:=fun x y H Q=>∃ a k xs,x=.ref a∧y=.int k∧H a=some (.tup xs)∧2≤k∧k≤1000∧xs.length * k.toNat≤1000∧xs≠[]∧∀ p H',Same H H'->H' p=some (.tup (List.replicate k.toNat xs).flatten)->Q (.ref p) H'
theorem op_repT {X:Cx}:OpR X (binaryOp .Mult) rRepT:=by
 intro pins s σ H x y v u Q I rx ry h
 obtain⟨a,k,xs,rfl,rfl,ha,k2,k3,hz,hne,q⟩:=h
 cases rx
 obtain⟨t,rfl⟩:=ry
 obtain⟨its,rv,pt,hzz⟩:=I.tuple (SqT.of ha)
 have hl:=rv.length
 have fr:H s.heap.objs.size=none:=I.hok.fresh (Nat.le_refl _)
 have enew:List.foldl (fun x1 x2=>x1++x2) #[] (List.replicate k.toNat its.toArray)=(List.replicate k.toNat its).flatten.toArray:=by
  have:=foldl_rep its k.toNat []
  rw[List.nil_append] at this
  exact this
 refine HT.mul_tuple pt k2 k3 ?_ ?_ ?_
 ·rw[List.size_toArray,← hl];exact fun z=>hne (List.eq_nil_of_length_eq_zero z)
 ·rw[List.size_toArray,← hl];exact hz
 ·rw[enew]
  refine⟨.ref s.heap.objs.size,_,I.laid (t':=s.toks) (o:=.tup (List.replicate k.toNat xs).flatten) (fun b ob q=>Heap.get?_push_of_some _ q) (Nat.le_refl _) ⟨?_,_,rv.rep k.toNat,⟨_,Heap.get?_push_size _ rfl,rfl,⟨_,rfl⟩,rfl⟩⟩,rfl,q _ _ (same_new fr) upd_same⟩
  rw[len_rep,Nat.mul_comm];exact Nat.le_trans hz (by decide)
end L3
namespace L3
open PySem PySem.Spec PyProof.Rows L2
section
variable {J:It} {g:TG} {tt:TT} {te:TE} {own:List Str} {js:List Nat} {σ:L2.St} {H1:Hp} {Q:VK}
/-- a test, nothing that stands is changed: item i gives sel i, or nothing -/
theorem comp_sel (n:Nat) (Sg:L2.St->Prop) (sel:Nat->Option V) (hn:n≤1000) (h0:Sg (start3 own js σ))
  (go:∀ i H',i < n->Same H1 H'->J.go i H') (stop:∀ H',Same H1 H'->J.stop n H')
  (step:∀ i x σ' H' H2,i < n->Same H1 H'->J.yld i H' x H2->Sg σ'->∀ (C:L2.St->V->Hp->Prop) (L:L2.St->Hp->Prop),(∀ σ3 v H5,Sg σ3->Same H' H5->sel i=some v->C σ3 v H5)->(∀ σ3 H5,Sg σ3->Same H' H5->sel i=none->L σ3 H5) ->
   g x σ' H2 fun σ3 H3=>tt σ3 H3 fun b H4=>if b=true then te σ3 H4 fun v H5=>C σ3 v H5 else L σ3 H4)
  (fin:∀ D H',H1 D=none->Same H1 H'->H' D=some (.lst ((List.range n).filterMap sel))->Q (.ref D) H'):CompGo own js g tt te σ Q J H1:=by
 intro D hD
 refine⟨fun i m ys σ' H'=>m=n - i∧i≤n∧Sg σ'∧Same H1 H'∧ys=(List.range i).filterMap sel,⟨n,rfl,Nat.zero_le _,h0,same_new hD,rfl⟩,?_⟩
 rintro i m ys σ' H' ⟨rfl,hi,sg,sm,rfl⟩ hd
 have len:((List.range i).filterMap sel).length≤i:=by have:=List.length_filterMap_le sel (List.range i);rw[List.length_range] at this;exact this
 by_cases hlt:i < n
 ·refine .inr ⟨go i H' hlt sm,fun x H2 hy=>?_⟩
  refine step i x σ' H' H2 hlt sm hy sg
   (fun σ3 v H5=>H5 D=some (.lst ((List.range i).filterMap sel))∧((List.range i).filterMap sel).length < sizeLine∧∃ m',m' < n - i∧(m'=n - (i + 1)∧i + 1≤n∧Sg σ3∧Same H1 (upd H5 D (.lst ((List.range i).filterMap sel++[v])))∧(List.range i).filterMap sel++[v]=(List.range (i + 1)).filterMap sel))
   (fun σ3 H5=>H5 D=some (.lst ((List.range i).filterMap sel))∧∃ m',m' < n - i∧(m'=n - (i + 1)∧i + 1≤n∧Sg σ3∧Same H1 H5∧(List.range i).filterMap sel=(List.range (i + 1)).filterMap sel)) (fun σ3 v H5 sg3 s5 e=>?_) (fun σ3 H5 sg3 s5 e=>?_)
  ·refine⟨s5 _ _ hd,Nat.lt_of_le_of_lt (by omega:((List.range i).filterMap sel).length≤1000) (by decide),n - (i + 1),by omega,rfl,hlt,sg3,fun b o z=>?_,?_⟩
   ·rw[upd_ne (ne_of_none z hD)];exact s5 _ _ (sm _ _ z)
   ·rw[List.range_succ,List.filterMap_append];simp [e]
  ·refine⟨s5 _ _ hd,n - (i + 1),by omega,rfl,hlt,sg3,sm.trans s5,?_⟩
   rw[List.range_succ,List.filterMap_append];simp [e]
 ·have e:i=n:=by omega
  subst e
  exact .inl ⟨stop H' sm,fin D H' hD sm hd⟩
theorem comp_selR {lo:Int} {n:Nat} (Sg:L2.St->Prop) (sel:Nat->Option V) (hn:n≤1000) (h0:Sg (start3 own js σ))
  (step:∀ i σ' H',i < n->Same H1 H'->Sg σ'->∀ (C:L2.St->V->Hp->Prop) (L:L2.St->Hp->Prop),(∀ σ3 v H5,Sg σ3->Same H' H5->sel i=some v->C σ3 v H5)->(∀ σ3 H5,Sg σ3->Same H' H5->sel i=none->L σ3 H5) ->
   g (.int (lo + i)) σ' H' fun σ3 H3=>tt σ3 H3 fun b H4=>if b=true then te σ3 H4 fun v H5=>C σ3 v H5 else L σ3 H4)
  (fin:∀ D H',H1 D=none->Same H1 H'->H' D=some (.lst ((List.range n).filterMap sel))->Q (.ref D) H'):CompGo own js g tt te σ Q (Itr lo n) H1:=by
 refine comp_sel n Sg sel hn h0 (fun i H' hi s=>hi) (fun H' s=>Nat.le_refl _) (fun i x σ' H' H2 hi s hy sg C L hC hL=>?_) fin
 obtain⟨rfl,rfl⟩:=hy
 exact step i σ' _ hi s sg C L hC hL
end
end L3
namespace Far
variable {A:List (Nat × Nat × Int)} {s:Nat}
def Con (A:List (Nat × Nat × Int)) (s v:Nat):Prop:=∃ x,Walk A s v x
noncomputable def rB (A:List (Nat × Nat × Int)) (s v:Nat):Bool:=@decide (Con A s v) (Classical.propDecidable _)
noncomputable def rN (A:List (Nat × Nat × Int)) (n s:Nat):List Nat:=(List.range n).filter (rB A s)
end Far
namespace L3
open PySem PySem.Spec PyProof.Rows L2
def natV (ns:List Nat):List V:=ns.map fun v:Nat=>V.int (v:Int)
theorem natV_keep (ns:List Nat):natV ns=(keepI ns).map V.int:=by unfold natV keepI;rw[List.map_map];rfl
theorem sel_nats (p:Nat->Bool):∀ is:List Nat,is.filterMap (fun i=>if p i=true then some (V.int (i:Int)) else none)=natV (is.filter p)
 | []=>rfl
 | i::r=>by
  rw[List.filterMap_cons,List.filter_cons]
  cases e:p i with
  | true=>rw[if_pos rfl,if_pos rfl,sel_nats p r];rfl
  | false=>rw[if_neg Bool.false_ne_true,if_neg Bool.false_ne_true,sel_nats p r]
theorem inV_nat {a:Int} (h:0≤a) (ns:List Nat):inV (.int a) (natV ns)=decide (a.toNat ∈ ns):=by
 unfold inV natV
 rw[List.any_map,Bool.eq_iff_iff,List.any_eq_true,decide_eq_true_iff]
 constructor
 ·rintro ⟨v,hv,e⟩
  have e':((v:Int) == a)=true:=e
  have:(v:Int)=a:=by simpa using e'
  have e2:a.toNat=v:=by omega
  rw[e2];exact hv
 ·intro m
  exact⟨_,m,show (((a.toNat:Nat):Int) == a)=true by rw[Int.toNat_of_nonneg h];simp⟩
theorem flat_nat (ns:List Nat):(natV ns).all flatV=true:=by
 unfold natV;rw[List.all_map];exact List.all_eq_true.mpr fun _ _=>rfl
end L3
namespace Srt
open PySem PySem.Spec PyProof.Rows PySem.W
section
variable {prog:Program} {w:World} {A:Around} {E:Value->Shared->Prop} {s:Shared}
end
end Srt
namespace HT
open PySem PyProof.Rows
section
variable {prog:Program} {w:World} {A:Around} {E:Value->Shared->Prop} {s:Shared}
/-- all of a range, as a list -/
theorem collect_rng {Q:List Value->Shared->Prop} {r:Addr} {a b c:Int} {t u v:Tok} {n:Nat} (hh:A.handled=none) (hr:IsRange s.heap r a b c t u v) (hsmall:Builtin.Range.small a b c=true)
  (hn:Builtin.Range.rangeSize a b c=n) (hlen:n≤2 ^ 24)
  (hQ:∀ h' tk acc',(∀ b o,s.heap.get? b=some o->h'.get? b=some o)->ItemsOf (fun i v=>∃ t,v=.int (a + i * c) t) acc' n->Q acc'.toList { s with heap:=h',toks:=tk }) :
  wpAny (model prog w) A (collect (.ref r)) Q E s:=by
 unfold collect
 refine wpAny_bind (wpAny_runValue (codeAny_builtin PySem.F.entry_proto_collect ?_))
 rw[Around.under_plainId PySem.F.plain_proto_collect _]
 show wpAny _ A.in1 (newList [] >>= fun l=>again (.builtin "list.__iadd__" ⟨[l,.ref r],[]⟩)) _ _ s
 refine wpAny_bind (wpAny_newObj_type ?_)
 refine wpAny_pure ⟨plainId_quiet PySem.F.plain_list_iadd _,codeAny_builtin PySem.F.entry_list_iadd ?_⟩
 rw[Around.under_plainId PySem.F.plain_list_iadd _]
 show wpAny _ A.in1 (Builtin.List.listExtendWith (.ref s.heap.objs.size) (.ref r) (.ref s.heap.objs.size)) _ _ _
 have hS:(s.heap.push { cls:=.type "list",data:=.seq ([]:List Value).toArray }).get? s.heap.objs.size=some { cls:=.type "list",data:=.seq #[] }:=Heap.get?_push_size _ rfl
 have fin' : ∀ (h' : Heap) (tk : Nat) (acc' : Array Value) (c' : Nat), (∀ b o, s.heap.get? b = some o → h'.get? b = some o) → h'.get? s.heap.objs.size = some { cls := .type "list", dict := none, data := .seq acc' c', slots := #[] } → ItemsOf (fun i v => ∃ t, v = .int (a + i * c) t) acc' n →
     wpAny (model prog w) A (load s.heap.objs.size >>= fun o=>match o.data with | .seq xs _=>pure xs.toList | _=>unsupported "internal:collect") Q E { s with heap:=h',toks:=tk }:=fun h' tk acc' c' hk hS' hacc=>wpAny_bind (wpAny_load hS' (wpAny_pure (hQ h' tk acc' hk hacc)))
 refine wpAny_mono (wpAny_extend_range (A:=A) (R:=fun r s'=>r=.ok (.ret (.ref s.heap.objs.size))∧∃ (h':Heap) (tk:Nat) (acc':Array Value) (c':Nat),s'={ s with heap:=h',toks:=tk }∧(∀ b o,s.heap.get? b=some o->h'.get? b=some o)∧h'.get? s.heap.objs.size=some { cls:=.type "list",dict:=none,data:=.seq acc' c',slots:=#[] }∧ItemsOf (fun i v=>∃ t,v=.int (a + i * c) t) acc' n)
  (s:={ s with heap:=s.heap.push { cls:=.type "list",data:=.seq ([]:List Value).toArray } }) hh (Heap.get?_push_of_some _ hr) hsmall hn hlen s.heap.objs.size (.ref s.heap.objs.size) 0 hS fun h' tk acc' c' hk hS' hacc=>⟨rfl,h',tk,acc',c',rfl,fun b o e=>hk b o (Nat.ne_of_lt (Heap.lt_size e)) (Heap.get?_push_of_some _ e),hS',hacc⟩) (fun fin s' h=>?_) (fun e s' h=>?_)
 ·cases fin with
  | done f =>
   obtain⟨e,h',tk,acc',c',rfl,h1,h2,h3⟩:=h
   cases e
   exact fin' h' tk acc' c' h1 h2 h3
  | again c'=>exact⟨h.1,codeAny_mono h.2 fun r s'' hr=>by obtain⟨rfl,h',tk,acc',c',rfl,h1,h2,h3⟩:=hr;exact fin' h' tk acc' c' h1 h2 h3⟩
 ·exact absurd h.1 (by simp)
end
theorem meets_tuple_new_rng (r:Addr) (a b c:Int) (t u v:Tok) (n:Nat) (hsmall:Builtin.Range.small a b c=true) (hn:Builtin.Range.rangeSize a b c=n) (hlen:n≤1000) :
  Meets (Builtin.«tuple.__new__» ⟨[.type "tuple",.ref r],[]⟩)
   (fun A R s=>A.handled=none∧IsRange s.heap r a b c t u v∧∀ (h':Heap) (tk:Nat) (acc':Array Value),(∀ b o',s.heap.get? b=some o'->h'.get? b=some o')->ItemsOf (fun i v=>∃ t,v=.int (a + i * c) t) acc' n->R (.ok (.ret (.ref h'.objs.size))) { s with heap:=h'.push { cls:=.type "tuple",data:=.seq acc' },toks:=tk }) :=
 .of_wp fun prog w A R s h=>by
  obtain⟨hp,g,d,tk,os⟩:=s;obtain⟨hh,hr,h⟩:=h
  have hsub:=sub_tuple_self
  have hinit:=init_tuple_lookup
  have hmh:=madeHere_tuple
  have hT:Shared.TypeIs ⟨hp,g,d,tk,os⟩ (.ref r) "range":=⟨_,hr,rfl⟩
  wp_walk using wpAny_typeOf hT,collect_rng (A:=A.in1) hh hr hsmall hn (Nat.le_trans hlen (by decide))
  intro h' tk' acc' hk hacc
  show wpAny _ _ (Builtin.Tuple.tupleExact acc'.toList.toArray >>= fun v=>ret v) _ _ _
  unfold Builtin.Tuple.tupleExact
  have sz:acc'.size=n:=hacc.1
  refine wpAny_bind (wpAny_newObj_type ?_ (by show acc'.toList.toArray.size≤sizeLine;rw[show acc'.toList.toArray=acc' by simp,sz,sizeLine_eq];omega))
  refine wpAny_pure ⟨_,rfl,?_⟩
  have e:acc'.toList.toArray=acc':=by simp
  rw[e]
  exact h h' tk' acc' hk hacc
section
variable {prog:Program} {w:World} {A:Around} {E:Value->Shared->Prop} {s:Shared}
/-- tuple(range(..)) -/
theorem call_tuple_range {Q:Value->Shared->Prop} {r:Addr} {a b c:Int} {t u v:Tok} {n:Nat} (hh:A.handled=none) (hr:IsRange s.heap r a b c t u v) (hsmall:Builtin.Range.small a b c=true)
  (hn:Builtin.Range.rangeSize a b c=n) (hlen:n≤1000)
  (hQ:∀ (h':Heap) (tk:Nat) (acc':Array Value),(∀ b o,s.heap.get? b=some o->h'.get? b=some o)->ItemsOf (fun i v=>∃ t,v=.int (a + i * c) t) acc' n->Q (.ref h'.objs.size) { s with heap:=h'.push { cls:=.type "tuple",data:=.seq acc' },toks:=tk }) :
  wpAny (model prog w) A (call (.type "tuple") [.ref r]) Q E s :=
 callType_new PySem.F.called_tuple (by decide) (PySem.F.typeCall_tuple_1 _) (PySem.F.newCall_tuple_1 _) (fun obj=>PySem.F.args_object_init_2 obj _) PySem.F.entry_tuple_new
  (meets_tuple_new_rng r a b c t u v n hsmall hn hlen) ⟨hh,hr,fun h' tk acc' hk hacc=>⟨⟨_,Heap.get?_push_size _ rfl,rfl⟩,hQ h' tk acc' hk hacc⟩⟩
end
end HT
namespace L3
open PySem PySem.Spec PyProof.Rows L2
section
variable {X:Cx}
/-- tuple(range(n)) -/
theorem call_tuple_rng (hh:X.calm=true):CallR X (.type "tuple") (fun xs H Q=>∃ (p:Addr) (j:Int),xs=[.ref p]∧H p=some (.rng 0 j)∧0≤j∧j≤1000∧∀ l H',Same H H'->H l=none->H' l=some (.tup (natV (List.range j.toNat)))->Q (.ref l) H'):=by
 intro pins s σ H xs us Q I r h
 obtain⟨p,j,rfl,hp,hj0,hj,q⟩:=h
 obtain⟨u,rfl,rx⟩:=vals1 r
 cases rx
 obtain⟨t,u,v,e⟩:=(show ObjOk X.prog X.w H s.heap p (.rng 0 j) from I.hok p _ hp)
 refine HT.call_tuple_range (n:=j.toNat) (I.ok.hd hh) (show IsRange s.heap p 0 j 1 t u v from e) (small_one (by omega) (by omega) (by omega) (by omega)) (by rw[rangeSize_one];split <;> omega) (by omega) fun h' tk acc hk hacc=>?_
 have I1:Inv X pins σ H { s with heap:=h',toks:=tk }:=I.kept (t':=tk) hk
 have fr:H h'.objs.size=none:=I1.hok.fresh (Nat.le_refl _)
 refine⟨.ref h'.objs.size,upd H h'.objs.size (.tup (natV (List.range j.toNat))),I1.laid (t':=tk) (o:=.tup (natV (List.range j.toNat))) (fun b o e=>Heap.get?_push_of_some _ e) (Nat.le_refl _) ⟨?_,acc.toList,?_,(by rw[show acc.toList.toArray=acc by simp];exact⟨_,Heap.get?_push_size _ rfl,rfl,⟨_,rfl⟩,rfl⟩)⟩,rfl,q _ _ (same_new fr) fr upd_same⟩
 ·unfold natV;rw[List.length_map,List.length_range,sizeLine_eq];omega
 ·have go:∀ (n:Nat) (l:List Value),l.length=n->(∀ (k:Nat) (v:Value),l[k]?=some v->∃ t,v=Value.int (0 + (k:Int) * 1) t)->Vals ((List.range n).map fun i:Nat=>V.int (i:Int)) l:=by
   intro n l hl hv
   have gen:∀ (l:List Value) (o:Nat),(∀ (k:Nat) (v:Value),l[k]?=some v->∃ t,v=Value.int ((o + k:Nat):Int) t)->Vals ((List.range' o l.length).map fun i:Nat=>V.int (i:Int)) l:=by
    intro l
    induction l with
    | nil=>intro o _;exact .nil
    | cons x r ih =>
     intro o h
     rw[List.length_cons,List.range'_succ,List.map_cons]
     obtain⟨t,ht⟩:=h 0 x rfl
     refine .cons ⟨t,by simpa using ht⟩ (ih (o + 1) fun k v hk=>?_)
     obtain⟨t,ht⟩:=h (k + 1) v (by simpa using hk)
     exact⟨t,by rw[ht];congr 1;omega⟩
   have:=gen l 0 fun k v hk=>by
    obtain⟨t,ht⟩:=hv k v hk
    exact⟨t,by rw[ht];congr 1;omega⟩
   rw[hl,← List.range_eq_range'] at this
   exact this
  exact go j.toNat acc.toList (by rw[Array.length_toList];exact hacc.1) fun k v hv=>hacc.2 k v (by simpa using hv)
end
section
variable {g:TG} {tt:TT} {te:TE} {own:List Str} {js:List Nat} {σ:L2.St} {H1:Hp} {Q:VK}
theorem comp_selT {K:PySem.W.Frag} {a:Addr} {xs:List V} (hx:H1 a=some (.tup xs)) (Sg:L2.St->Prop) (sel:Nat->Option V) (hn:xs.length≤1000) (h0:Sg (start3 own js σ))
  (step:∀ i x σ' H',xs[i]?=some x->Same H1 H'->Sg σ'->∀ (C:L2.St->V->Hp->Prop) (L:L2.St->Hp->Prop),(∀ σ3 v H5,Sg σ3->Same H' H5->sel i=some v->C σ3 v H5)->(∀ σ3 H5,Sg σ3->Same H' H5->sel i=none->L σ3 H5) ->
   g x σ' H' fun σ3 H3=>tt σ3 H3 fun b H4=>if b=true then te σ3 H4 fun v H5=>C σ3 v H5 else L σ3 H4)
  (fin:∀ D H',H1 D=none->Same H1 H'->H' D=some (.lst ((List.range xs.length).filterMap sel))->Q (.ref D) H'):CompGo own js g tt te σ Q (Itt K a) H1:=by
 refine comp_sel xs.length Sg sel hn h0 (fun i H' hi s=>⟨xs,xs[i],SqT.of (s _ _ hx),by simp [hi]⟩) (fun H' s=>⟨xs,SqT.of (s _ _ hx),Nat.le_refl _⟩) (fun i x σ' H' H2 hi s hy sg C L hC hL=>?_) fin
 obtain⟨rfl,hy⟩:=hy
 exact step i x σ' _ (hy xs (SqT.of (s _ _ hx))) s sg C L hC hL
end
def spWhole (K:PySem.W.Frag):Sp:=fun vs H Q _=>∃ n ts v,vs=[v]∧Is K H (webD n ts) v∧ts.length≤60∧∀ l H',Same H H'->H l=none->H' l=some (.tup (natV (List.range ts.length)))->Q (.ref l) H'
theorem nat_at {ns:List Nat} {i:Nat} {x:V} (h:(natV ns)[i]?=some x):∃ k,ns[i]?=some k∧x=.int (k:Int):=by
 rw[natV_keep] at h;exact keep_at h
end L3
namespace Far
variable {A:List (Nat × Nat × Int)} {s:Nat}
/-- the places ahead -/
structure Ahd (A:List (Nat × Nat × Int)) (s:Nat) (cs:List (Option (Int × Int))) (as:List (Option Nat)):Prop where
 len:as.length=cs.length
 root:get as s=none
 has:∀ v c,get cs v=some c->v≠s->get as v≠none
 arc:∀ v u,get as v=some u->∃ l cu cv,(u,v,l) ∈ A∧get cs u=some cu∧get cs v=some cv∧cu.1 + l≤cv.1
/-- a way, as a list from its start -/
inductive Tr (A:List (Nat × Nat × Int)) (a:Nat):List Nat->Nat->Int->Prop
 | one:Tr A a [a] a 0
 | snoc {ws:List Nat} {u v:Nat} {x l:Int}:Tr A a ws u x->(u,v,l) ∈ A->Tr A a (ws++[v]) v (x + l)
end Far
namespace L3
open PySem PySem.Spec PyProof.Rows L2
def oa:Option Nat->V
 | none=>.non
 | some u=>.int (u:Int)
structure RA (H J:Hp) (lw lc la:Addr) (ws:List V) (cs:List (Option (Int × Int))) (as:List (Option Nat)):Prop where
 same:Same H J
 fc:H lc=none
 fa:H la=none
 nwc:lw≠lc
 nwa:lw≠la
 nca:lc≠la
 wl:J lw=some (.lst ws)
 co:∃ cvs,J lc=some (.lst cvs)∧CostL J cvs cs
 ah:J la=some (.lst (as.map oa))
section
variable {H H' J J':Hp} {vs cvs ws:List V} {cs:List (Option (Int × Int))} {as:List (Option Nat)} {lw lc la t:Addr} {k:Nat} {x y:Int}
end
theorem oa_at {D:List (Option Nat)} {i:Nat} (h:i < D.length):(D.map oa)[i]?=some (oa (Far.get D i)):=by
 rw[List.getElem?_map,List.getElem?_eq_getElem h]
 unfold Far.get
 rw[List.getD_eq_getElem?_getD,List.getElem?_eq_getElem h];rfl
def isTB (ts:List Tie) (u v:Nat) (k:Nat):Bool:=decide ((tieAt ts k).1=min (u:Int) v) && decide ((tieAt ts k).2.1=max (u:Int) v)
def tbN (ts:List Tie) (u v:Nat):Option Nat:=(List.range ts.length).find? (isTB ts u v)
def tlen (ts:List Tie) (u v:Nat):Int:=(tieAt ts ((tbN ts u v).getD 0)).2.2
def wl (ts:List Tie):List Nat->Int
 | u::v::r=>tlen ts u v + wl ts (v::r)
 | _=>0
def spTB (K:PySem.W.Frag):Sp:=fun vs H Q _=>∃ (n:Int) (ts:List Tie) (wv:V) (u v:Nat),vs=[wv,.int (u:Int),.int (v:Int)]∧Is K H (webD n ts) wv∧ts.length≤60∧∀ H',Same H H'->Q (oa (tbN ts u v)) H'
theorem pair_eqv (a b x y:Int):PyData.eqv (.tuple (([a,b]:List Int).map .int)) (.tuple (([x,y]:List Int).map .int))=(decide (a=x) && decide (b=y)):=by
 show (_ && (_ && true))=_
 rw[Bool.and_true]
 rfl
def but (ks:List Nat) (k:Nat):List Nat:=ks.filter fun j=>decide (j≠k)
theorem sel_list (p:Nat->Bool) (ks:List Nat):(List.range ks.length).filterMap (fun i=>if p (ks.getD i 0)=true then some (V.int ((ks.getD i 0:Nat):Int)) else none)=natV (ks.filter p):=by
 have e:=congrArg (List.filterMap fun j:Nat=>if p j=true then some (V.int (j:Int)) else none) (range_getD ks 0)
 rw[List.filterMap_map] at e
 exact e.trans (sel_nats p ks)
end L3
namespace Far
def sumP:List Nat->Nat
 | []=>0
 | k::r=>2 ^ k + sumP r
theorem sumP_perm {S S':List Nat} (h:S.Perm S'):sumP S=sumP S':=by
 induction h with
 | nil=>rfl
 | cons x _ ih=>show _ + _=_ + _;rw[ih]
 | swap x y l=>show 2 ^ y + (2 ^ x + sumP l)=2 ^ x + (2 ^ y + sumP l);omega
 | trans _ _ h1 h2=>exact h1.trans h2
theorem sumP_append (S:List Nat):∀ T:List Nat,sumP (S++T)=sumP S + sumP T:=by
 intro T
 induction S with
 | nil=>show sumP T=0 + sumP T;omega
 | cons k r ih=>show 2 ^ k + sumP (r++T)=2 ^ k + sumP r + sumP T;rw[ih];omega
theorem sumP_lt:∀ (m:Nat) {S:List Nat},S.Nodup->(∀ k ∈ S,k < m)->sumP S < 2 ^ m
 | 0,S,_,h=>by
  cases S with
  | nil=>exact Nat.zero_lt_one
  | cons k r=>exact absurd (h k List.mem_cons_self) (Nat.not_lt_zero _)
 | m + 1,S,nd,h=>by
  have e:2 ^ (m + 1)=2 ^ m + 2 ^ m:=by rw[Nat.pow_succ];omega
  by_cases c:m ∈ S
  ·have p:=List.perm_cons_erase c
   have nd':(m::S.erase m).Nodup:=p.nodup_iff.mp nd
   have:=sumP_lt m (S:=S.erase m) (List.nodup_cons.mp nd').2 fun k hk=>by
    have h1:=h k (List.mem_of_mem_erase hk)
    have h2:k≠m:=fun z=>(List.nodup_cons.mp nd').1 (z ▸ hk)
    omega
   rw[sumP_perm p,e]
   show 2 ^ m + sumP (S.erase m) < _
   omega
  ·have:=sumP_lt m nd fun k hk=>by
    have h1:=h k hk
    have h2:k≠m:=fun z=>c (z ▸ hk)
    omega
   omega
theorem sumP_inj:∀ (m:Nat) {S S':List Nat},S.Nodup->S'.Nodup->(∀ k ∈ S,k < m)->(∀ k ∈ S',k < m)->sumP S=sumP S'->∀ k,k ∈ S->k ∈ S'
 | 0,S,S',_,_,h,_,_,k,hk=>absurd (h k hk) (Nat.not_lt_zero _)
 | m + 1,S,S',nd,nd',h,h',e,k,hk=>by
  have lower:∀ {T:List Nat},T.Nodup->(∀ k ∈ T,k < m + 1)->m ∉ T->sumP T < 2 ^ m:=fun {T} n1 n2 n3=>sumP_lt m n1 fun j hj=>by
   have h1:=n2 j hj
   have h2:j≠m:=fun z=>n3 (z ▸ hj)
   omega
  by_cases c:m ∈ S
  ·have p:=List.perm_cons_erase c
   have ndp:(m::S.erase m).Nodup:=p.nodup_iff.mp nd
   have e1:sumP S=2 ^ m + sumP (S.erase m):=sumP_perm p
   by_cases c':m ∈ S'
   ·have p':=List.perm_cons_erase c'
    have ndp':(m::S'.erase m).Nodup:=p'.nodup_iff.mp nd'
    have e2:sumP S'=2 ^ m + sumP (S'.erase m):=sumP_perm p'
    by_cases z:k=m
    ·rw[z];exact c'
    ·have lt:∀ {T:List Nat},(m::T.erase m).Nodup->(∀ k ∈ T,k < m + 1)->∀ j ∈ T.erase m,j < m:=fun {T} n1 n2 j hj=>by
      have h1:=n2 j (List.mem_of_mem_erase hj)
      have h2:j≠m:=fun y=>(List.nodup_cons.mp n1).1 (y ▸ hj)
      omega
     have:=sumP_inj m (List.nodup_cons.mp ndp).2 (List.nodup_cons.mp ndp').2 (lt ndp h) (lt ndp' h') (by omega) k ((List.mem_erase_of_ne z).mpr hk)
     exact List.mem_of_mem_erase this
   ·have:=lower nd' h' c'
    omega
  ·by_cases c':m ∈ S'
   ·have e2:sumP S'=2 ^ m + sumP (S'.erase m):=sumP_perm (List.perm_cons_erase c')
    have:=lower nd h c
    omega
   ·have lt:∀ {T:List Nat},(∀ k ∈ T,k < m + 1)->m ∉ T->∀ j ∈ T,j < m:=fun {T} n1 n2 j hj=>by
     have h1:=n1 j hj
     have h2:j≠m:=fun y=>n2 (y ▸ hj)
     omega
    exact sumP_inj m nd nd' (lt h c) (lt h' c') e k hk
abbrev Arc:=Nat × Nat × Int × Nat
inductive Rt (B:List Arc) (a:Nat):List Nat->List Nat->Nat->Int->Int->Prop
 | one:Rt B a [a] [] a 0 0
 | snoc {ws S:List Nat} {u v:Nat} {x y l:Int} {k:Nat}:Rt B a ws S u x y->(u,v,l,k) ∈ B->v ∉ ws->Rt B a (ws++[v]) (S++[k]) v (x + l) (y + 2 ^ k)
structure Keys (B:List Arc):Prop where
 sym:∀ u v l k,(u,v,l,k) ∈ B->(v,u,l,k) ∈ B
 key:∀ u v l u' v' l' k,(u,v,l,k) ∈ B->(u',v',l',k) ∈ B->l'=l∧((u'=u∧v'=v)∨(u'=v∧v'=u))
 ne:∀ u v l k,(u,v,l,k) ∈ B->u≠v
 pos:∀ u v l k,(u,v,l,k) ∈ B->1≤l
 few:∀ u v l k,(u,v,l,k) ∈ B->k < 60
variable {B:List Arc} {a b:Nat} {ws S:List Nat} {x y:Int}
theorem Rt.last (h:Rt B a ws S b x y):b ∈ ws:=by
 cases h with
 | one=>exact List.mem_singleton.mpr rfl
 | snoc _ _ _=>exact List.mem_append_right _ (List.mem_singleton.mpr rfl)
theorem Rt.ends (K:Keys B) (h:Rt B a ws S b x y):∀ k ∈ S,∃ u v l,(u,v,l,k) ∈ B∧u ∈ ws∧v ∈ ws:=by
 induction h with
 | one=>intro k hk;cases hk
 | @snoc ws S u v x y l k r m nv ih =>
  intro j hj
  rcases List.mem_append.mp hj with hj | hj
  ·obtain⟨p,q,l',h1,h2,h3⟩:=ih j hj
   exact⟨p,q,l',h1,List.mem_append_left _ h2,List.mem_append_left _ h3⟩
  ·rw[List.mem_singleton.mp hj]
   exact⟨u,v,l,m,List.mem_append_left _ r.last,List.mem_append_right _ (List.mem_singleton.mpr rfl)⟩
theorem Rt.fresh (K:Keys B) (h:Rt B a ws S b x y) {u v:Nat} {l:Int} {k:Nat} (m:(u,v,l,k) ∈ B) (nv:v ∉ ws):k ∉ S:=fun hk=>by
 obtain⟨p,q,l',m',hp,hq⟩:=h.ends K k hk
 rcases (K.key _ _ _ _ _ _ _ m m').2 with ⟨e1,e2⟩ | ⟨e1,e2⟩
 ·exact nv (e2 ▸ hq)
 ·exact nv (e1 ▸ hp)
theorem Rt.nodup (K:Keys B) (h:Rt B a ws S b x y):S.Nodup:=by
 induction h with
 | one=>exact List.nodup_nil
 | @snoc ws S u v x y l k r m nv ih =>
  refine List.nodup_append.mpr ⟨ih,by simp,fun p hp q hq z=>?_⟩
  rw[List.mem_singleton.mp hq] at z
  exact r.fresh K m nv (z ▸ hp)
theorem Rt.small (K:Keys B) (h:Rt B a ws S b x y):∀ k ∈ S,k < 60:=fun k hk=>let ⟨u,v,l,m,_⟩:=h.ends K k hk;K.few u v l k m
theorem Rt.sum (h:Rt B a ws S b x y):y=(sumP S:Nat):=by
 induction h with
 | one=>rfl
 | @snoc ws S u v x y l k r m nv ih =>
  rw[sumP_append,ih]
  show ((sumP S:Nat):Int) + 2 ^ k=((sumP S + (2 ^ k + 0):Nat):Int)
  have:((2 ^ k:Nat):Int)=(2:Int) ^ k:=by norm_cast
  omega
theorem Rt.lt (K:Keys B) (h:Rt B a ws S b x y):0≤y∧y < 2 ^ 60:=by
 have e:=h.sum
 have:=sumP_lt 60 (h.nodup K) (h.small K)
 have e2:((2 ^ 60:Nat):Int)=(2:Int) ^ 60:=by norm_cast
 omega
/-- the same sum of powers: the same route -/
theorem Rt.unique (K:Keys B) (h:Rt B a ws S b x y):∀ {ws' S':List Nat} {x':Int},Rt B a ws' S' b x' y->ws'=ws∧x'=x:=by
 induction h with
 | one =>
  intro ws' S' x' r
  generalize ey:(0:Int)=yy at r
  cases r with
  | one=>exact⟨rfl,rfl⟩
  | @snoc ws0 S0 u _ x0 y0 l k r m nv =>
   have p:=r.lt K
   have:(0:Int) < 2 ^ k:=Int.pow_pos (by decide)
   omega
 | @snoc ws0 S0 u v x0 y0 l k r m nv ih =>
  intro ws' S' x' r'
  have full:Rt B a (ws0++[v]) (S0++[k]) v (x0 + l) (y0 + 2 ^ k):=.snoc r m nv
  have se:sumP S'=sumP (S0++[k]):=by
   have e1:=r'.sum
   have e2:=full.sum
   omega
  have sub:=sumP_inj 60 (r'.nodup K) (full.nodup K) (r'.small K) (full.small K) se
  generalize ey:y0 + 2 ^ k=yy at r'
  cases r' with
  | one =>
   have p:=r.lt K
   have:(0:Int) < 2 ^ k:=Int.pow_pos (by decide)
   omega
  | @snoc ws1 S1 u1 _ x1 y1 l1 k1 r1 m1 nv1 =>
   have in1:=sub k1 (List.mem_append_right _ (List.mem_singleton.mpr rfl))
   have k1k:k1=k:=by
    rcases List.mem_append.mp in1 with z | z
    ·exact absurd z (r.fresh K m1 nv)
    ·exact List.mem_singleton.mp z
   subst k1k
   obtain⟨el,eu⟩:=K.key _ _ _ _ _ _ _ m m1
   have uu:u1=u:=by
    rcases eu with ⟨e,_⟩ | ⟨e,e'⟩
    ·exact e
    ·exact absurd e' (K.ne _ _ _ _ m).symm
   subst uu
   have yy1:y1=y0:=by omega
   subst yy1
   obtain⟨e1,e2⟩:=ih r1
   exact⟨by rw[e1],by rw[e2,el]⟩
end Far
namespace Far
structure Best (B:List Arc) (n s:Nat) (cs:List (Option (Int × Int))) (as:List (Option Nat)):Prop where
 len:cs.length=n
 alen:as.length=n
 start:get cs s=some (0,0)
 root:get as s=none
 has:∀ v c,get cs v=some c->v≠s->get as v≠none
 nn:∀ v c,get cs v=some c->0≤c.1
 stab:∀ u v l k c,(u,v,l,k) ∈ B->get cs u=some c->∃ c',get cs v=some c'∧¬ lt2 (c.1 + l,c.2 + 2 ^ k) c'
 arc:∀ v u,get as v=some u->∃ l k cu,(u,v,l,k) ∈ B∧get cs u=some cu∧get cs v=some (cu.1 + l,cu.2 + 2 ^ k)
/-- the way by the tree, from its root -/
inductive TPw (as:List (Option Nat)) (s:Nat):List Nat->Nat->Prop
 | root:TPw as s [s] s
 | step {ws:List Nat} {u v:Nat}:get as v=some u->TPw as s ws u->TPw as s (ws++[v]) v
section
variable {B:List Arc} {n s:Nat} {cs:List (Option (Int × Int))} {as:List (Option Nat)}
theorem Best.route (K:Keys B) (h:Best B n s cs as):∀ (m:Nat) (v:Nat) (c:Int × Int),get cs v=some c->c.1.toNat≤m->∃ ws S,Rt B s ws S v c.1 c.2∧TPw as s ws v∧∀ w ∈ ws,∃ cw,get cs w=some cw∧cw.1≤c.1:=by
 intro m
 induction m using Nat.strongRecOn with
 | ind m ih =>
  intro v c e hm
  by_cases vs:v=s
  ·subst vs
   rw[h.start] at e;cases e
   exact⟨[v],[],.one,.root,fun w hw=>by rw[List.mem_singleton.mp hw];exact⟨_,h.start,Int.le_refl _⟩⟩
  ·cases ea:get as v with
   | none=>exact absurd ea (h.has v c e vs)
   | some u =>
    obtain⟨l,k,cu,ma,eu,ev⟩:=h.arc v u ea
    rw[e] at ev;cases ev
    have l1:=K.pos _ _ _ _ ma
    have c0:=h.nn _ _ eu
    simp only at hm
    obtain⟨ws,S,r,tp,all⟩:=ih cu.1.toNat (by omega) u cu eu (Nat.le_refl _)
    have nv:v ∉ ws:=fun z=>by
     obtain⟨cw,e1,h1⟩:=all v z
     rw[e] at e1;cases e1
     simp only at h1;omega
    refine⟨ws++[v],S++[k],.snoc r ma nv,.step ea tp,fun w hw=>?_⟩
    rcases List.mem_append.mp hw with hw | hw
    ·obtain⟨cw,e1,h1⟩:=all w hw
     exact⟨cw,e1,by show cw.1≤cu.1 + l;omega⟩
    ·rw[List.mem_singleton.mp hw]
     exact⟨_,e,Int.le_refl _⟩
theorem Best.small (K:Keys B) (h:Best B n s cs as) {v:Nat} {c:Int × Int} (e:get cs v=some c):0≤c.2∧c.2 < 2 ^ 60:=by
 obtain⟨ws,S,r,_⟩:=h.route K _ v c e (Nat.le_refl _)
 exact r.lt K
/-- the tree is told by its weights -/
theorem Best.tree (K:Keys B) (h:Best B n s cs as) {u v:Nat} {l:Int} {k:Nat} {cu:Int × Int} (m:(u,v,l,k) ∈ B) (eu:get cs u=some cu) (ev:get cs v=some (cu.1 + l,cu.2 + 2 ^ k)):get as v=some u:=by
 have l1:=K.pos _ _ _ _ m
 have c0:=h.nn _ _ eu
 have vs:v≠s:=fun z=>by
  rw[z,h.start] at ev
  have:(0:Int)=cu.1 + l:=congrArg (fun o:Option (Int × Int)=>(o.getD (0,0)).1) ev
  omega
 cases ea:get as v with
 | none=>exact absurd ea (h.has v _ ev vs)
 | some u0 =>
  obtain⟨l0,k0,c0',m0,e0,ev0⟩:=h.arc v u0 ea
  have mk:∀ {u:Nat} {l:Int} {k:Nat} {cu:Int × Int},(u,v,l,k) ∈ B->get cs u=some cu->get cs v=some (cu.1 + l,cu.2 + 2 ^ k)->∃ r S,Rt B s (r++[u]++[v]) S v (cu.1 + l) (cu.2 + 2 ^ k):=fun {u l k cu} m eu ev=>by
   obtain⟨ws,S,r,tp,all⟩:=h.route K _ u cu eu (Nat.le_refl _)
   have nv:v ∉ ws:=fun z=>by
    obtain⟨cw,e1,h1⟩:=all v z
    rw[ev] at e1;cases e1
    have:=K.pos _ _ _ _ m
    simp only at h1;omega
   obtain⟨q,rfl⟩:∃ q,ws=q++[u]:=by
    cases tp with
    | root=>exact⟨[],rfl⟩
    | step _ _=>exact⟨_,rfl⟩
   exact⟨q,_,.snoc r m nv⟩
  obtain⟨r1,S1,t1⟩:=mk m eu ev
  obtain⟨r2,S2,t2⟩:=mk m0 e0 ev0
  have e2:c0'.2 + 2 ^ k0=cu.2 + 2 ^ k:=congrArg (fun o:Option (Int × Int)=>(o.getD (0,0)).2) (ev0.symm.trans ev)
  rw[e2] at t2
  have:=(t1.unique K t2).1
  have z1:(r2++[u0])=(r1++[u]):=List.append_cancel_right this
  have z2:=congrArg List.getLast? z1
  simp at z2
  rw[z2]
end
/-- lengths and powers in one number -/
def comb (c:Int × Int):Int:=c.1 * 2 ^ 61 + c.2
def arcsC (B:List Arc):List (Nat × Nat × Int):=B.map fun b=>(b.1,b.2.1,b.2.2.1 * 2 ^ 61 + 2 ^ b.2.2.2)
theorem arcsC_mem {B:List Arc} {u v:Nat} {L:Int}:(u,v,L) ∈ arcsC B↔∃ l k,(u,v,l,k) ∈ B∧L=l * 2 ^ 61 + 2 ^ k:=by
 unfold arcsC
 rw[List.mem_map]
 constructor
 ·rintro ⟨⟨a,b,l,k⟩,h,e⟩
  cases e
  exact⟨l,k,h,rfl⟩
 ·rintro ⟨l,k,h,rfl⟩
  exact⟨(u,v,l,k),h,rfl⟩
section
variable {B:List Arc} {n s:Nat} {cs:List (Option (Int × Int))} {as:List (Option Nat)}
theorem two_pos (k:Nat):(1:Int)≤2 ^ k:=Int.pow_pos (by decide)
theorem arcsC_pos (K:Keys B):Pos (arcsC B):=fun u v L h=>by
 obtain⟨l,k,m,rfl⟩:=arcsC_mem.mp h
 have:=K.pos _ _ _ _ m
 have:=two_pos k
 omega
theorem Best.dst (K:Keys B) (h:Best B n s cs as) (v:Nat):Dst (arcsC B) s v ((get cs v).map comb):=by
 refine⟨fun y e=>?_,fun L w=>?_⟩
 ·cases ec:get cs v with
  | none=>rw[ec] at e;cases e
  | some c =>
   rw[ec] at e;cases e
   obtain⟨ws,S,r,_⟩:=h.route K _ v c ec (Nat.le_refl _)
   have go:∀ {ws S:List Nat} {v:Nat} {x y:Int},Rt B s ws S v x y->Walk (arcsC B) s v (comb (x,y)):=by
    intro ws S v x y r
    induction r with
    | one=>exact .nil
    | @snoc ws S u v x y l k r m nv ih =>
     have:=Walk.snoc ih (arcsC_mem.mpr ⟨l,k,m,rfl⟩)
     have e:comb (x + l,y + 2 ^ k)=comb (x,y) + (l * 2 ^ 61 + 2 ^ k):=by unfold comb;simp only;omega
     rw[e];exact this
   exact go r
 ·have:∃ c,get cs v=some c∧comb c≤L:=by
   induction w with
   | nil=>exact⟨_,h.start,by decide⟩
   | @snoc u v l x w m ih =>
    obtain⟨c,e,hc⟩:=ih
    obtain⟨l',k,m',rfl⟩:=arcsC_mem.mp m
    obtain⟨c',e',hc'⟩:=h.stab _ _ _ _ _ m' e
    refine⟨c',e',?_⟩
    have s1:=h.small K e
    have s2:=h.small K e'
    have:=two_pos k
    unfold comb at *
    unfold lt2 at hc'
    simp only at hc'
    omega
  obtain⟨c,e,hc⟩:=this
  exact⟨comb c,by rw[e];rfl,hc⟩
theorem comb_inj {c d:Int × Int} (hc:0≤c.2∧c.2 < 2 ^ 61) (hd:0≤d.2∧d.2 < 2 ^ 61) (e:comb c=comb d):c=d:=by
 unfold comb at e
 exact Prod.ext (by omega) (by omega)
end
end Far
namespace Far
variable {B:List Arc} {A:List (Nat × Nat × Int)} {n s:Nat}
structure Run (B:List Arc) (s:Nat) (cs:List (Option (Int × Int))) (as:List (Option Nat)):Prop where
 len:as.length=cs.length
 start:get cs s=some (0,0)
 root:get as s=none
 has:∀ v c,get cs v=some c->v≠s->get as v≠none
 arc:∀ v u,get as v=some u->∃ l k cu cv,(u,v,l,k) ∈ B∧get cs u=some cu∧get cs v=some cv∧¬ lt2 cv (cu.1 + l,cu.2 + 2 ^ k)
def PS2 (c0:List (Option (Int × Int))) (R:Arc->Prop) (cs:List (Option (Int × Int))) (ag:Bool):Prop :=
 (ag=false∧cs=c0∧∀ u v l k c,R (u,v,l,k)->get c0 u=some c->∃ c',get c0 v=some c'∧¬ lt2 (c.1 + l,c.2 + 2 ^ k) c')∨(ag=true∧mu cs < mu c0)
def plusA (R:Arc->Prop) (a:Arc):Arc->Prop:=fun b=>R b∨b=a
section
variable {c0 cs:List (Option (Int × Int))} {R R':Arc->Prop} {ag:Bool} {u v k:Nat} {l:Int}
end
end Far
namespace Far
def arcsF (B:List Arc):List (Nat × Nat × Int):=B.map fun b=>(b.1,b.2.1,b.2.2.1)
section
variable {B:List Arc} {n s:Nat} {cs:List (Option (Int × Int))} {as:List (Option Nat)} {a b:Nat} {ws S:List Nat} {x y:Int}
/-- the least of the routes from a to b -/
structure Uni (B:List Arc) (a b:Nat) (ws S:List Nat) (x y:Int):Prop where
 rt:Rt B a ws S b x y
 least:∀ ws' S' x' y',Rt B a ws' S' b x' y'->¬ lt2 (x',y') (x,y)
end
end Far
namespace L3
open PySem PySem.Spec PyProof.Rows L2
def arcs2B (t:Tie) (k:Nat):List Far.Arc:=[(t.1.toNat,t.2.1.toNat,t.2.2,k),(t.2.1.toNat,t.1.toNat,t.2.2,k)]
def arcsB (ts:List Tie) (ks:List Nat):List Far.Arc:=ks.flatMap fun k=>arcs2B (tieAt ts k) k
theorem arcsB_mem {ts:List Tie} {ks:List Nat} {a:Far.Arc}:a ∈ arcsB ts ks↔∃ k,k ∈ ks∧a ∈ arcs2B (tieAt ts k) k:=by
 unfold arcsB;rw[List.mem_flatMap]
theorem arcs2B_mem {t:Tie} {k:Nat} {a:Far.Arc}:a ∈ arcs2B t k↔a=(t.1.toNat,t.2.1.toNat,t.2.2,k)∨a=(t.2.1.toNat,t.1.toNat,t.2.2,k):=by
 unfold arcs2B;simp
theorem arcsB_take {ts:List Tie} {ks:List Nat} {i k:Nat} (h:ks[i]?=some k) {a:Far.Arc} (m:a ∈ arcsB ts (ks.take (i + 1))):a ∈ arcsB ts (ks.take i)∨a ∈ arcs2B (tieAt ts k) k:=by
 obtain⟨j,hj,m⟩:=arcsB_mem.mp m
 rw[take_next h] at hj
 rcases List.mem_append.mp hj with hj | hj
 ·exact .inl (arcsB_mem.mpr ⟨j,hj,m⟩)
 ·rw[List.mem_singleton.mp hj] at m;exact .inr m
theorem arcsB_keys {n:Int} {ts:List Tie} {ks:List Nat} (ok:WebOk n ts) (ko:KeepOk ts.length ks):Far.Keys (arcsB ts ks):=by
 have at_:∀ {u v l k},(u,v,l,k) ∈ arcsB ts ks->k < ts.length∧((u=(tieAt ts k).1.toNat∧v=(tieAt ts k).2.1.toNat)∨(u=(tieAt ts k).2.1.toNat∧v=(tieAt ts k).1.toNat))∧l=(tieAt ts k).2.2∧k ∈ ks:=fun {u v l k} h=>by
  obtain⟨j,hj,m⟩:=arcsB_mem.mp h
  rcases arcs2B_mem.mp m with e | e <;> cases e
  ·exact⟨ko.2 _ hj,.inl ⟨rfl,rfl⟩,rfl,hj⟩
  ·exact⟨ko.2 _ hj,.inr ⟨rfl,rfl⟩,rfl,hj⟩
 refine⟨fun u v l k h=>?_,fun u v l u' v' l' k h h'=>?_,fun u v l k h=>?_,fun u v l k h=>?_,fun u v l k h=>?_⟩
 ·obtain⟨_,e,rfl,hk⟩:=at_ h
  refine arcsB_mem.mpr ⟨k,hk,arcs2B_mem.mpr ?_⟩
  rcases e with ⟨rfl,rfl⟩ | ⟨rfl,rfl⟩
  ·exact .inr rfl
  ·exact .inl rfl
 ·obtain⟨_,e,rfl,_⟩:=at_ h
  obtain⟨_,e',rfl,_⟩:=at_ h'
  refine⟨rfl,?_⟩
  rcases e with ⟨rfl,rfl⟩ | ⟨rfl,rfl⟩ <;> rcases e' with ⟨rfl,rfl⟩ | ⟨rfl,rfl⟩
  ·exact .inl ⟨rfl,rfl⟩
  ·exact .inr ⟨rfl,rfl⟩
  ·exact .inr ⟨rfl,rfl⟩
  ·exact .inl ⟨rfl,rfl⟩
 ·obtain⟨hk,e,_,_⟩:=at_ h
  have:=ok.tie _ (tieAt_in hk).2
  rcases e with ⟨rfl,rfl⟩ | ⟨rfl,rfl⟩ <;> omega
 ·obtain⟨hk,_,e,_⟩:=at_ h
  have:=ok.tie _ (tieAt_in hk).2
  omega
 ·obtain⟨hk,_⟩:=at_ h
  have:=ok.few
  omega
theorem arcsB_in {n:Int} {ts:List Tie} {ks:List Nat} (ok:WebOk n ts) (ko:KeepOk ts.length ks) {u v k:Nat} {l:Int} (h:(u,v,l,k) ∈ arcsB ts ks):u < n.toNat∧v < n.toNat:=by
 obtain⟨j,hj,m⟩:=arcsB_mem.mp h
 have:=ok.tie _ (tieAt_in (ko.2 j hj)).2
 rcases arcs2B_mem.mp m with e | e <;> cases e <;> omega
/-- weights that tell all sets of ties apart -/
def wOf (ts:List Tie) (k:Nat):Int:=(tieAt ts k).2.2 * 2 ^ 61 + 2 ^ k
def arcs2W (ts:List Tie) (k:Nat):List (Nat × Nat × Int):=[((tieAt ts k).1.toNat,(tieAt ts k).2.1.toNat,wOf ts k),((tieAt ts k).2.1.toNat,(tieAt ts k).1.toNat,wOf ts k)]
def arcsW (ts:List Tie) (ks:List Nat):List (Nat × Nat × Int):=ks.flatMap fun k=>arcs2W ts k
theorem arcsW_eq (ts:List Tie) (ks:List Nat):arcsW ts ks=Far.arcsC (arcsB ts ks):=by
 unfold arcsW Far.arcsC arcsB
 rw[List.map_flatMap]
 rfl
theorem arcsW_mem {ts:List Tie} {ks:List Nat} {a:Nat × Nat × Int}:a ∈ arcsW ts ks↔∃ k,k ∈ ks∧a ∈ arcs2W ts k:=by
 unfold arcsW;rw[List.mem_flatMap]
theorem arcsW_take {ts:List Tie} {ks:List Nat} {i k:Nat} (h:ks[i]?=some k) {a:Nat × Nat × Int} (m:a ∈ arcsW ts (ks.take (i + 1))):a ∈ arcsW ts (ks.take i)∨a ∈ arcs2W ts k:=by
 obtain⟨j,hj,m⟩:=arcsW_mem.mp m
 rw[take_next h] at hj
 rcases List.mem_append.mp hj with hj | hj
 ·exact .inl (arcsW_mem.mpr ⟨j,hj,m⟩)
 ·rw[List.mem_singleton.mp hj] at m;exact .inr m
def wts (ts:List Tie) (m:Nat):List V:=(List.range m).map fun k=>V.int (wOf ts k)
theorem wts_at {ts:List Tie} {m i:Nat} (h:i < m):(wts ts m)[i]?=some (.int (wOf ts i)):=by unfold wts;rw[List.getElem?_map,List.getElem?_range h];rfl
theorem wts_atI {ts:List Tie} {m k:Nat} (h:k < m):atI (wts ts m) (k:Int)=some (.int (wOf ts k)):=atI_toNat (Int.natCast_nonneg _) (by rw[Int.toNat_natCast];exact wts_at h)
theorem wts_succ (ts:List Tie) (m:Nat):wts ts (m + 1)=wts ts m++[.int (wOf ts m)]:=by unfold wts;rw[List.range_succ,List.map_append];rfl
def spLWeights (K:PySem.W.Frag):Sp:=fun vs H Q _=>∃ n ts v,vs=[v]∧Is K H (webD n ts) v∧WebOk n ts∧∀ l H',Same H H'->H l=none->H' l=some (.lst (wts ts ts.length))->Q (.ref l) H'
def spWeighed (K:PySem.W.Frag):Sp:=fun vs H Q _=>∃ n ts ks wv kv r,vs=[wv,kv,.int r]∧WK K H n ts ks wv kv∧0≤r∧r < n ∧
 ∀ l D H',Same H H'->H l=none->H' l=some (.lst (D.map ov))->D.length=n.toNat->(∀ v,v < n.toNat->Far.Dst (arcsW ts ks) r.toNat v (Far.get D v))->Q (.ref l) H'
def spLTree (K:PySem.W.Frag):Sp:=fun vs H Q _=>∃ n ts ks wv kv r,vs=[wv,kv,.int r]∧WK K H n ts ks wv kv∧0≤r∧r < n ∧
 ∀ (p:Addr) (F:List (Option Nat)) (H':Hp),Same H H'->H' p=some (.tup (F.map oa))->(∀ cs as,Far.Best (arcsB ts ks) n.toNat r.toNat cs as->F=as)->Q (.ref p) H'
end L3
namespace HT
open PySem PyProof.Rows
section
variable {prog:Program} {w:World} {A:Around} {E:Value->Shared->Prop} {s:Shared}
/-- what set(..) of ns holds, how many -/
abbrev setS (ns:List Int) (m:Nat):Int->Bool:=fun x=>(firstMet (fun i=>ns.getD i 0) m).any fun y=>y == x
abbrev setN (ns:List Int) (m:Nat):Nat:=(firstMet (fun i=>ns.getD i 0) m).length
end
end HT
namespace L3
open PySem PySem.Spec PyProof.Rows L2
section
variable {X:Cx}
end
end L3
namespace L3
open PySem PySem.Spec PyProof.Rows L2
end L3
namespace L3
open PySem PySem.Spec PyProof.Rows L2
def iAny (K:PySem.W.Frag) (tl:TE):TI:=fun σ H R=>tl σ H fun x H1=>∃ a,x=.ref a∧∃ t:Bool,(∃ xs,SqX t K H1 a xs)∧R (if t=true then Itt K a else Itl K a) H1
theorem pi_any {X:Cx} {tg l:Expr} {tl:TE} (hl:PE X l tl):PI X tg l (iAny X.K tl):=by
 intro pins s σ H R I h
 refine thn (hl pins s σ H _ I h) fun v s1 ⟨x,H1,I1,r1,q1⟩=>?_
 obtain⟨a,rfl,t,⟨xs,hq⟩,q⟩:=q1
 cases r1
 have fp:∀ b ∈ [s1.heap.objs.size],FpOk X pins H1 b:=fun b hb=>by
  rw[List.mem_singleton.mp hb];exact I1.fpOk (Nat.le_refl _) (I1.hok.fresh (Nat.le_refl _))
 cases t with
 | true =>
  obtain⟨its,_,p,_⟩:=I1.tuple (xs:=xs) hq
  exact wpAny_pyIter_tuple (show s1.heap.IsTuple a its.toArray from p) ⟨_,_,_,_,H1,rfl,I1.kept (t':=s1.toks) fun b o e=>Heap.get?_push_of_some _ e,turn_tuple a _,⟨_,Heap.get?_push_size _ rfl,rfl,rfl⟩,fp,q⟩
 | false =>
  obtain⟨its,_,p,_⟩:=I1.list (xs:=xs) hq
  exact wpAny_pyIter_list p.isList ⟨_,_,_,_,H1,rfl,I1.kept (t':=s1.toks) fun b o e=>Heap.get?_push_of_some _ e,turn_list a _,⟨_,Heap.get?_push_size _ rfl,rfl,rfl⟩,fp,q⟩
theorem for_any {K:PySem.W.Frag} {a:Addr} {xs:List V} {t:Bool} {g:TG} {tb:TS} {D:Ends} {σ:L2.St} {H:Hp} (Pv:Nat->L2.St->Hp->Prop) (h0:Pv 0 σ H) (hl:∀ i σ H,i≤xs.length->Pv i σ H->SqX t K H a xs)
  (hs:∀ i x σ H,xs[i]?=some x->Pv i σ H->g x σ H fun σ2 H2=>tb { D with nx:=Pv (i + 1),ct:=Pv (i + 1),bk:=D.nx } σ2 H2) (hd:∀ σ H,Pv xs.length σ H->D.nx σ H) :
  ∃ W:Nat->Nat->L2.St->Hp->Prop,(∃ m,W 0 m σ H)∧∀ i m σ H,W i m σ H ->
   ((if t=true then Itt K a else Itl K a).stop i H∧D.nx σ H)∨((if t=true then Itt K a else Itl K a).go i H∧∃ N:L2.St->Hp->Prop,(∀ σ' H',N σ' H'->∃ m',m' < m∧W (i + 1) m' σ' H')∧∀ x H',(if t=true then Itt K a else Itl K a).yld i H x H'->g x σ H' fun σ2 H2=>tb { D with nx:=N,ct:=N,bk:=D.nx } σ2 H2):=by
 cases t with
 | true=>exact for_tup Pv h0 hl hs hd
 | false=>exact for_list Pv h0 hl hs hd
end L3
namespace L3
open PySem PySem.Spec PyProof.Rows L2
/-- what the fall of a tie costs -/
def CostV (H:Hp) (n:Int) (ts:List Tie) (ks:List Nat) (a b:Nat) (v:V):Prop :=
 (∃ p t,v=.ref p∧H p=some (.tup [.str "apart",.ref t])∧H t=some (.tup (natV (Far.rN (arcs ts ks) n.toNat a)))∧Far.Dst (arcs ts ks) a b none) ∨
 ∃ p t ws S x y th D,v=.ref p∧H p=some (.tup [.str "round",.ref t,.ref th])∧H t=some (.tup (natV ws))∧ws.length≤24∧Far.Uni (arcsB ts ks) a b ws S x y∧Far.Dst (arcs ts ks) a b (some x) ∧
  H th=some (.tup ((D.map (capO x)).map V.int))∧D.length=n.toNat∧∀ v,v < n.toNat->Far.Dst (arcs ts ks) a v (Far.get D v)
def spDue (K:PySem.W.Frag):Sp:=fun vs H Q _=>∃ (n:Int) (ts:List Tie) (ks:List Nat) (wv kv v:V) (k:Nat),vs=[wv,kv,.int (k:Int),v]∧WK K H n ts ks wv kv∧k < ts.length∧CostV H n ts (but ks k) (tieAt ts k).1.toNat (tieAt ts k).2.1.toNat v∧∀ H',Same H H'->Q (.bl true) H'
section
variable {own:List Str} {js:List Nat} {g:TG} {te:TE} {σ:L2.St} {Q:VK} {H1:Hp}
end
end L3
namespace L3
open PySem PySem.Spec PyProof.Rows L2
end L3
namespace L3
open PySem PySem.Spec PyProof.Rows L2
end L3
namespace HT
open PySem PyProof.Rows
section
variable {prog:Program} {w:World} {A:Around} {R:Result->Shared->Prop} {I:Addr} {fp wr:List Addr} {G:Array GenState->Array GenState->Prop} {St:Nat->Shared->Prop} {its:List Value} {ns:List Int}
end
section
variable {prog:Program} {w:World} {A:Around} {E:Value->Shared->Prop} {s:Shared}
end
end HT
namespace L3
open PySem PySem.Spec PyProof.Rows L2
end L3
namespace L3
open PySem PySem.Spec PyProof.Rows L2
theorem best_most (val:Nat->Int):∀ k,argBest (fun i j=>decide (val i > val j)) k≤k∧∀ i,i≤k->val i≤val (argBest (fun i j=>decide (val i > val j)) k)
 | 0=>⟨Nat.le_refl _,fun i hi=>by rw[show i=0 by omega];exact Int.le_refl _⟩
 | k + 1=>by
  obtain⟨h1,h2⟩:=best_most val k
  show (if decide (val (k + 1) > val (argBest _ k))=true then k + 1 else argBest _ k)≤k + 1∧∀ i,i≤k + 1->val i≤val (if decide (val (k + 1) > val (argBest _ k))=true then k + 1 else argBest _ k)
  by_cases c:val (k + 1) > val (argBest (fun i j=>decide (val i > val j)) k)
  ·rw[if_pos (decide_eq_true c)]
   refine⟨Nat.le_refl _,fun i hi=>?_⟩
   rcases Nat.lt_or_ge i (k + 1) with z | z
   ·have:=h2 i (by omega);omega
   ·rw[show i=k + 1 by omega];exact Int.le_refl _
  ·rw[if_neg (fun z=>c (of_decide_eq_true z))]
   refine⟨by omega,fun i hi=>?_⟩
   rcases Nat.lt_or_ge i (k + 1) with z | z
   ·exact h2 i (by omega)
   ·rw[show i=k + 1 by omega];omega
/-- max of a list of whole numbers -/
theorem call_maxL {X:Cx} (hh:X.calm=true):CallR X (.builtin "max") (fun xs H Q=>∃ (p:Addr) (ns:List Int),xs=[.ref p]∧H p=some (.lst (ns.map V.int))∧ns≠[]∧∀ b,b ∈ ns->(∀ x ∈ ns,x≤b)->Q (.int b) H):=by
 intro pins s σ H xs us Q I r h
 obtain⟨p,ns,rfl,hq,hne,q⟩:=h
 obtain⟨u,rfl,rx⟩:=vals1 r
 cases rx
 obtain⟨its,rv,pl,hz⟩:=I.list (SqL.of hq)
 have hl:=rv.length
 rw[List.length_map] at hl
 have hI:IntsAre its ns:=intsAre_of rv
 have lt:p≠s.heap.objs.size:=by obtain⟨o,e,_⟩:=pl.isList;exact Nat.ne_of_lt (Heap.lt_size e)
 refine call_max_walkS (wpAny_pyIter_list pl.isList ?_)
 have W:=(Walks.list (prog:=X.prog) (w:=X.w) (A:=X.A.in1) (show X.A.in1.handled=none from I.ok.hd hh) s.heap.objs.size p lt its.toArray).toS
 have npos:0 < ns.length:=List.length_pos_iff.mpr hne
 have esz:its.toArray.size=ns.length:=by rw[List.size_toArray,← hl]
 have hv:∀ (i:Nat) (v:Value),its.toArray[i]?=some v->∃ t,v=Value.int (ns.getD i 0) t:=fun i v hv=>IntsAre.int_at hI i v (by simpa using hv)
 refine⟨s.heap.objs.size,_,_,_,_,_,_,(fun i j=>decide (ns.getD i 0 > ns.getD j 0)),rfl,W,⟨⟨_,Heap.get?_push_size _ rfl,rfl,rfl⟩,pl.isList.push _⟩,fun b hb=>?_,by rw[esz];exact npos,CmpOf.ints_gt (fun i=>ns.getD i 0) hv,fun v s' hP hm=>?_⟩
 ·obtain⟨o,e,_⟩:=pl.isList
  have hlt:p < s.heap.objs.size:=Heap.lt_size e
  show b < (s.heap.push _).objs.size
  rw[Heap.size_push]
  simp only [List.mem_cons,List.not_mem_nil,or_false] at hb
  rcases hb with z | z
  ·rw[z];exact Nat.lt_succ_self _
  ·rw[z];exact Nat.lt_succ_of_lt hlt
 ·obtain⟨t,rfl⟩:=hv _ _ hP
  obtain⟨b1,b2⟩:=best_most (fun i=>ns.getD i 0) (its.toArray.size - 1)
  rw[Moved.eq_with hm]
  refine⟨.int _,H,I.kept (t':=s'.toks) fun b o e=>hm.heap b o (fun z=>?_) (Heap.get?_push_of_some _ e),⟨t,rfl⟩,q _ ?_ fun x hx=>?_⟩
  ·have:b=s.heap.objs.size:=by simpa using z
   exact absurd (Heap.lt_size e) (by rw[this];exact Nat.lt_irrefl _)
  ·have:argBest (fun i j=>decide (ns.getD i 0 > ns.getD j 0)) (its.toArray.size - 1) < ns.length:=by omega
   rw[List.getD_eq_getElem?_getD,List.getElem?_eq_getElem this];exact List.getElem_mem this
  ·obtain⟨i,hi,e⟩:=List.getElem_of_mem hx
   have:=b2 i (by omega)
   have g:ns.getD i 0=ns[i]:=by rw[List.getD_eq_getElem?_getD,List.getElem?_eq_getElem hi];rfl
   rw[← e,← g];exact this
theorem IsAll.at_ {K:PySem.W.Frag} {H:Hp}:∀ {ds:List PyData} {vs:List V} {i:Nat} {d:PyData},IsAll K H ds vs->ds[i]?=some d->∃ v,vs[i]?=some v∧Is K H d v
 | [],vs,i,d,_,h=>by cases h
 | d0::ds,vs,0,d,⟨v,r,e,h1,_⟩,h=>by
  cases h
  exact⟨v,by rw[e];rfl,h1⟩
 | d0::ds,vs,i + 1,d,⟨v,r,e,_,h2⟩,h=>by
  obtain⟨u,e1,e2⟩:=IsAll.at_ (i:=i) h2 h
  exact⟨u,by rw[e];exact e1,e2⟩
theorem IsAll.from_ {K:PySem.W.Frag} {H:Hp}:∀ {ds:List PyData} {vs:List V} {i:Nat} {v:V},IsAll K H ds vs->vs[i]?=some v->∃ d,ds[i]?=some d∧Is K H d v
 | [],vs,i,v,h,e=>by
  have:vs=[]:=h
  rw[this] at e;cases e
 | d0::ds,vs,0,v,⟨u,r,e0,h1,_⟩,e=>by
  rw[e0] at e;cases e
  exact⟨d0,rfl,h1⟩
 | d0::ds,vs,i + 1,v,⟨u,r,e0,_,h2⟩,e=>by
  rw[e0] at e
  exact IsAll.from_ (i:=i) h2 e
section
variable {own:List Str} {js:List Nat} {g:TG} {tt:TT} {te:TE} {σ:L2.St} {Q:VK} {H1:Hp}
end
end L3
namespace L3
open PySem PySem.Spec PyProof.Rows L2
def lvl (ls:List (List Nat)) (i:Nat):List Nat:=ls.getD i []
structure LevOk (n:Nat) (ls:List (List Nat)):Prop where
 one:1≤ls.length
 six:ls.length≤6
 first:lvl ls 0=List.range n
 rise:∀ i,(lvl ls i).Pairwise (· < ·)
 inn:∀ i,∀ p ∈ lvl ls i,p < n
 down:∀ i,∀ p ∈ lvl ls (i + 1),p ∈ lvl ls i
def IsTop (ls:List (List Nat)) (w b:Nat):Prop:=b < ls.length∧w ∈ lvl ls b∧∀ i,i < ls.length->w ∈ lvl ls i->i≤b
def Bun (ls:List (List Nat)) (D:List (Option Int)) (w:Nat):Prop:=∃ x,Far.get D w=some x∧∀ b p y,IsTop ls w b->p ∈ lvl ls (b + 1)->Far.get D p=some y->x < y
noncomputable def bunB (ls:List (List Nat)) (D:List (Option Int)) (w:Nat):Bool:=@decide (Bun ls D w) (Classical.propDecidable _)
/-- how far all places are, in the web -/
def FarsOf (ts:List Tie) (n s:Nat) (D:List (Option Int)):Prop:=D.length=n∧∀ u,u < n->Far.Dst (arcs ts (List.range ts.length)) s u (Far.get D u)
def FarsT (H:Hp) (p lf:Addr) (n:Nat) (ts:List Tie):Prop:=∃ ys,H lf=some (.lst ys)∧lf≠p∧ys.length=n∧∀ i v,ys[i]?=some v->∃ l D,v=.ref l∧l≠p∧H l=some (.lst (D.map ov))∧FarsOf ts n i D
def spMost:Sp:=fun vs H Q _=>∃ (p:Addr) (k:Int),vs=[.ref p,.int k]∧Pot H p∧∀ m H',But p H H'->Pot H' p->1≤m->m≤24->Q (.int m) H'
end L3
namespace HT
open PySem PyProof.Rows
section
variable {prog:Program} {w:World} {A:Around} {R:Result->Shared->Prop} {I:Addr} {fp wr:List Addr} {G:Array GenState->Array GenState->Prop} {St:Nat->Shared->Prop} {its:List Value} {ks:List (List Int)}
end
section
variable {prog:Program} {w:World} {A:Around} {E:Value->Shared->Prop} {s:Shared}
end
end HT
namespace L3
open PySem PySem.Spec PyProof.Rows L2
theorem vals_rel {xs:List V} {us:List Value} (r:Vals xs us):∀ {i:Nat} {u:Value},us[i]?=some u->∃ x,xs[i]?=some x∧RelV x u:=by
 induction r with
 | nil=>intro i u e;cases e
 | cons r _ ih =>
  intro i u e
  cases i with
  | zero=>cases e;exact⟨_,rfl,r⟩
  | succ i=>exact ih (i:=i) e
end L3
namespace L3
open PySem PySem.Spec PyProof.Rows L2
noncomputable def topN (ls:List (List Nat)) (w:Nat):Nat:=@dite _ (∃ b,IsTop ls w b) (Classical.propDecidable _) (fun h=>Classical.choose h) (fun _=>0)
/-- the nearest place of a level, of several one of the greatest top, of these the least -/
structure IsPiv (ls:List (List Nat)) (m:Nat) (D:List (Option Int)) (o:Option Nat):Prop where
 no:o=none->∀ q ∈ lvl ls m,Far.get D q=none
 yes:∀ p,o=some p->p ∈ lvl ls m∧∃ x,Far.get D p=some x∧∀ q ∈ lvl ls m,∀ y,Far.get D q=some y->x≤y∧(y=x->topN ls q≤topN ls p∧(topN ls q=topN ls p->p≤q))
def tupI (k:List Int):PyData:=.tuple (k.map .int)
section
variable {own:List Str} {js:List Nat} {g:TG} {tt:TT} {te:TE} {σ:L2.St} {Q:VK} {H1:Hp}
end
end L3
namespace L3
open PySem PySem.Spec PyProof.Rows L2
noncomputable def pivN (ls:List (List Nat)) (m:Nat) (D:List (Option Int)):Nat:=@dite _ (∃ p,IsPiv ls m D (some p)) (Classical.propDecidable _) (fun h=>Classical.choose h) (fun _=>0)
noncomputable def clN (ls:List (List Nat)):Nat->Nat->Nat->Nat->List (Option Int)->List (Option Int)->Int->List (List Int)
 | 0,w,a,b,_,_,x=>[[(w:Int),(a:Int),(b:Int),x]]
 | f + 1,w,a,b,Da,Db,x=>[(w:Int),(a:Int),(b:Int),x]::(if bunB ls Db w=true then [] else clN ls f (pivN ls (topN ls w + 1) Db) b a Db Da ((Far.get Db (pivN ls (topN ls w + 1) Db)).getD 0))
structure Cs (ts:List Tie) (n:Nat) (ls:List (List Nat)) (d:Int) (j w a b:Nat) (Da Db:List (Option Int)) (x:Int):Prop where
 fa:FarsOf ts n a Da
 fb:FarsOf ts n b Db
 wn:w < n
 an:a < n
 bn:b < n
 xa:Far.get Da w=some x
 lim:x≤j * d
 ab:Far.get Da b=some d
 ba:Far.get Db a=some d
 yb:∃ y,Far.get Db w=some y
 tp:j≤topN ls w
 bu:bunB ls Da w=true
section
variable {n:Int} {ts:List Tie} {ls:List (List Nat)} {d x:Int} {j w a b:Nat} {Da Db:List (Option Int)}
end
/-- the rows of a climb -/
structure RowsOk (ls:List (List Nat)) (n:Nat) (d:Int) (Du Dv:List (Option Int)) (rows:List (List Int)):Prop where
 few:rows.length≤ls.length
 lim:∀ (i:Nat) (r:List Int),rows[i]?=some r->∃ p a b x:Int,r=[p,a,b,x]∧x≤i * d
 last:∃ (pre:List (List Int)) (w:Nat) (a b x:Int),rows=pre++[[(w:Int),a,b,x]]∧w < n∧bunB ls Du w=true∧bunB ls Dv w=true
def ClimbV (K:PySem.W.Frag) (H:Hp) (ls:List (List Nat)) (n u v:Nat) (Du Dv:List (Option Int)) (r:V):Prop:=(r=.non∧Far.get Du v=none)∨∃ t ys d,r=.ref t∧Far.get Du v=some d∧H t=some (.tup ys)∧IsAll K H ((clN ls ls.length u u v Du Dv 0).map tupI) ys∧RowsOk ls n d Du Dv (clN ls ls.length u u v Du Dv 0)
/-- how far all places are from all, as a list of lists -/
def FarsM (H:Hp) (lf:Addr) (n:Nat) (ts:List Tie):Prop:=∃ ys,H lf=some (.lst ys)∧ys.length=n∧∀ i v,ys[i]?=some v->∃ l D,v=.ref l∧H l=some (.lst (D.map ov))∧FarsOf ts n i D
/-- where a climb stands: the rows so far, and what is still to come -/
structure Clb (ts:List Tie) (n:Int) (ls:List (List Nat)) (d:Int) (u v:Nat) (Du Dv:List (Option Int)) (pre:List (List Int)) (w a b:Nat) (Da Db:List (Option Int)) (x:Int):Prop where
 cs:Cs ts n.toNat ls d pre.length w a b Da Db x
 sides:(Da=Du∧Db=Dv)∨(Da=Dv∧Db=Du)
 lim:∀ (i:Nat) (r:List Int),(pre++[[(w:Int),(a:Int),(b:Int),x]])[i]?=some r->∃ p a b x:Int,r=[p,a,b,x]∧x≤i * d
 rest:pre++clN ls (ls.length - pre.length) w a b Da Db x=clN ls ls.length u u v Du Dv 0
section
variable {n:Int} {ts:List Tie} {ls:List (List Nat)} {d x:Int} {u v w a b:Nat} {Du Dv Da Db:List (Option Int)} {pre:List (List Int)}
end
end L3
namespace L3
open PySem PySem.Spec PyProof.Rows L2
section
variable {K:PySem.W.Frag} {J J':Hp} {ls:List (List Nat)} {n u v:Nat} {Du Dv:List (Option Int)} {r r1 r2:V}
end
end L3
namespace PySem.SeqAt
open PySem.Spec PySem.MeetsSeq PySem.MeetsSeq2 PySem.MeetsSeq3 PySem.SeqRoads2
open AutoSeq1 (wpAny_loadPart')
end PySem.SeqAt
namespace L3
open PySem PySem.Spec PyProof.Rows L2
section
variable {X:Cx} {o e:Expr} {es:List Expr} {to:TE} {t:TA} {name:Str} {apos cpos:Pos} {id:String} {r:V->List V->Hp->VK->Prop}
end
/-- which parts of a slice that goes back are meant: t[::-1] leaves none out, t[:0:-1] the first -/
def bk (hi:Option Int) (n j:Nat):Prop:=(hi=none∧j=0)∨(hi=some 0∧j=1∧1≤n)
section
variable {prog:Program} {w:World} {A:Around} {E:Value->Shared->Prop} {s:Shared}
end
section
variable {X:Cx} {e st:Expr} {te ts:TE} {lo hi:Option Expr} {th:TO} {pos p2:Pos}
end
end L3
namespace Far
section
variable {B:List Arc} {n s a b:Nat} {ws S:List Nat} {x y:Int} {cs:List (Option (Int × Int))} {as:List (Option Nat)}
/-- the least of all walks, and a route -/
def MinW (B:List Arc) (a b:Nat) (ws:List Nat):Prop:=∃ S x y,Rt B a ws S b x y∧∀ L,Walk (arcsC B) a b L->comb (x,y)≤L
end
end Far
namespace L3
open PySem PySem.Spec PyProof.Rows L2
/-- x in a list of data -/
theorem op_inL {X:Cx}:OpR X (compareOp .In) (fun x y H Q=>∃ (p:Addr) (ds:List PyData) (vs:List V) (dx:PyData),y=.ref p∧H p=some (.lst vs)∧IsAll X.K H ds vs∧Is X.K H dx x∧(∀ d ∈ ds,d.canLay0=true)∧dx.canLay0=true∧X.A.units + 1 + dx.depth < cLine∧Q (.bl (ds.any fun d=>PyData.eqv d dx)) H):=by
 intro pins s σ H x y v u Q I rx ry h
 obtain⟨p,ds,vs,dx,rfl,hp,hA,hx,lay,layx,hu,q⟩:=h
 cases ry
 obtain⟨its,r,pl,hz⟩:=I.list (SqL.of hp)
 obtain⟨xs,rdx⟩:=reads_of I dx hx rx
 have room:∀ d:PyData,X.A.in1.units + min d.depth dx.depth < cLine:=fun d=>by
  have:X.A.in1.units=X.A.units + 1:=rfl
  have:=Nat.min_le_right d.depth dx.depth
  omega
 have rd:∀ {i:Nat} {w:Value},its[i]?=some w->∃ d as,ds[i]?=some d∧Reads s.heap w d as∧d.canLay0=true:=fun {i w} e=>by
  obtain⟨x',hi,rel⟩:=vals_rel r e
  obtain⟨d,hd,hI⟩:=IsAll.from_ hA hi
  obtain⟨as,ra⟩:=reads_of I d hI rel
  exact⟨d,as,hd,ra,lay d (List.mem_of_getElem? hd)⟩
 let e:Value->Bool:=fun w=>@decide (∃ (i:Nat) (d:PyData),its[i]?=some w∧ds[i]?=some d∧PyData.eqv d dx=true) (Classical.propDecidable _)
 refine SeqAt.in_listAt e pl.isList (fun w hw=>?_) ⟨.bl _,H,I,rfl,?_⟩
 ·have hw':w ∈ its:=by simpa using hw
  by_cases c:∃ (i:Nat) (d:PyData),its[i]?=some w∧ds[i]?=some d∧PyData.eqv d dx=true
  ·have ec:e w=true:=@decide_eq_true _ (Classical.propDecidable _) c
   obtain⟨i,d,ei,ed,eq⟩:=c
   obtain⟨d',as,ed',ra,ld⟩:=rd ei
   rw[ed] at ed';cases ed'
   rw[ec,← eq]
   exact SeqAt.eqAt_reads d dx _ s _ _ _ _ ra rdx ld layx (room d)
  ·have ec:e w=false:=@decide_eq_false _ (Classical.propDecidable _) c
   obtain⟨i,ei⟩:=List.getElem?_of_mem hw'
   obtain⟨d,as,ed,ra,ld⟩:=rd ei
   have eq:PyData.eqv d dx=false:=Bool.eq_false_iff.mpr fun z=>c ⟨i,d,ei,ed,z⟩
   rw[ec,← eq]
   exact SeqAt.eqAt_reads d dx _ s _ _ _ _ ra rdx ld layx (room d)
 ·have any:its.toArray.any e=ds.any fun d=>PyData.eqv d dx:=by
   rw[Bool.eq_iff_iff]
   simp only [List.any_toArray]
   rw[List.any_eq_true,List.any_eq_true]
   constructor
   ·rintro ⟨w,hw,ew⟩
    obtain⟨i,d,_,ed,eq⟩:=(@decide_eq_true_iff _ (Classical.propDecidable _)).mp ew
    exact⟨d,List.mem_of_getElem? ed,eq⟩
   ·rintro ⟨d,hd,eq⟩
    obtain⟨i,hi⟩:=List.getElem?_of_mem hd
    obtain⟨v',hv',hI⟩:=IsAll.at_ hA hi
    have hil:i < its.length:=by
     have:=(List.getElem?_eq_some_iff.mp hv').1
     have:=r.length
     omega
    exact⟨its[i],List.getElem_mem hil,@decide_eq_true _ (Classical.propDecidable _) ⟨i,d,List.getElem?_eq_getElem hil,hi,eq⟩⟩
  rw[any];exact q
theorem op_inLD {X:Cx} {own fr:List Str} {scope:Scope} {fp:List Addr} {pins:List (Addr × Obj)} {s3:Shared} {H3:Hp}:OpR (cxComp X own fr scope fp pins s3 H3) (compareOp .In) (fun x y H Q=>∃ (p:Addr) (ds:List PyData) (vs:List V) (dx:PyData),y=.ref p∧H p=some (.lst vs)∧IsAll X.K H ds vs∧Is X.K H dx x∧(∀ d ∈ ds,d.canLay0=true)∧dx.canLay0=true∧X.A.units + 1 + dx.depth < cLine∧Q (.bl (ds.any fun d=>PyData.eqv d dx)) H):=op_inL (X:=cxComp X own fr scope fp pins s3 H3)
end L3
namespace L3
open PySem PySem.Spec PyProof.Rows L2
/-- the ways that were told so far -/
def WaysL (J:Hp) (ts:List Tie) (ks:List Nat) (ys:List V):Prop:=∀ v ∈ ys,∃ t W a b,v=.ref t∧J t=some (.tup (natV W))∧W.length≤24∧Far.MinW (arcsB ts ks) a b W
end L3
namespace Far
inductive W2 (B:List Arc) (s:Nat):Nat->Int->Int->Prop
 | nil:W2 B s s 0 0
 | snoc {u v:Nat} {x y l:Int} {k:Nat}:W2 B s u x y->(u,v,l,k) ∈ B->W2 B s v (x + l) (y + 2 ^ k)
theorem W2.nonneg {B:List Arc} (K:Keys B) {s v:Nat} {x y:Int} (h:W2 B s v x y):0≤x∧0≤y:=by
 induction h with
 | nil=>exact⟨Int.le_refl _,Int.le_refl _⟩
 | @snoc u v x y l k h m ih =>
  have h1:=K.pos _ _ _ _ m
  have h2:=two_pos k
  omega
theorem least_nat {P:Nat->Prop}:∀ n,P n->∃ m,P m∧∀ i,P i->m≤i:=by
 intro n
 induction n using Nat.strongRecOn with
 | ind n ih =>
  intro h
  by_cases c:∃ i,P i∧i < n
  ·obtain⟨i,hi,lt⟩:=c
   exact ih i lt hi
  ·exact⟨n,h,fun i hi=>Nat.le_of_not_lt fun z=>c ⟨i,hi,z⟩⟩
theorem least_two {P:Int->Int->Prop} (nn:∀ x y,P x y->0≤x∧0≤y) {x y:Int} (h:P x y):∃ x y,P x y∧∀ x' y',P x' y'->¬ lt2 (x',y') (x,y):=by
 obtain⟨m,⟨y0,hm⟩,lm⟩:=least_nat (P:=fun m=>∃ y,P (m:Int) y) x.toNat ⟨y,by rw[Int.toNat_of_nonneg (nn x y h).1];exact h⟩
 obtain⟨k,hk,lk⟩:=least_nat (P:=fun k=>P (m:Int) (k:Int)) y0.toNat (by rw[Int.toNat_of_nonneg (nn _ _ hm).2];exact hm)
 refine⟨m,k,hk,fun x' y' h' z=>?_⟩
 have n':=nn x' y' h'
 have h1:=lm x'.toNat ⟨y',by rw[Int.toNat_of_nonneg n'.1];exact h'⟩
 unfold lt2 at z
 simp only at z
 rcases z with z | ⟨z1,z2⟩
 ·omega
 ·have h2:=lk y'.toNat (by rw[← z1,Int.toNat_of_nonneg n'.2];exact h')
  omega
theorem best_exists {B:List Arc} (K:Keys B) {n s:Nat} (inn:∀ u v l k,(u,v,l,k) ∈ B->u < n∧v < n) (hs:s < n):∃ cs as,Best B n s cs as:=by
 have ex:∀ v,∃ o:Option (Int × Int),(o=none->∀ x y,¬ W2 B s v x y)∧∀ c,o=some c->W2 B s v c.1 c.2∧∀ x' y',W2 B s v x' y'->¬ lt2 (x',y') c:=fun v=>by
  by_cases c:∃ x y,W2 B s v x y
  ·obtain⟨x,y,h⟩:=c
   obtain⟨x,y,h,l⟩:=least_two (P:=W2 B s v) (fun x y h=>h.nonneg K) h
   exact⟨some (x,y),(fun e=>by cases e),fun c e=>by cases e;exact⟨h,l⟩⟩
  ·exact⟨none,fun _ x y h=>c ⟨x,y,h⟩,fun c e=>by cases e⟩
 let f:Nat->Option (Int × Int):=fun v=>Classical.choose (ex v)
 have hf:∀ v,(f v=none->∀ x y,¬ W2 B s v x y)∧∀ c,f v=some c->W2 B s v c.1 c.2∧∀ x' y',W2 B s v x' y'->¬ lt2 (x',y') c:=fun v=>Classical.choose_spec (ex v)
 have eA:∀ v,∃ o:Option Nat,(v=s->o=none)∧(v≠s->f v≠none->o≠none)∧∀ u,o=some u->∃ l k cu,(u,v,l,k) ∈ B∧f u=some cu∧f v=some (cu.1 + l,cu.2 + 2 ^ k):=fun v=>by
  by_cases c1:v=s
  ·exact⟨none,fun _=>rfl,fun z=>absurd c1 z,fun u e=>by cases e⟩
  ·cases ev:f v with
   | none=>exact⟨none,fun z=>absurd z c1,fun _ z=>absurd rfl z,fun u e=>by cases e⟩
   | some c =>
    obtain⟨w,lw⟩:=(hf v).2 c ev
    obtain⟨cx,cy⟩:=c
    have w':W2 B s v cx cy:=w
    cases w' with
    | nil=>exact absurd rfl c1
    | @snoc u _ x y l k w1 m =>
     cases eu:f u with
     | none=>exact absurd w1 ((hf u).1 eu x y)
     | some cu =>
      obtain⟨wu,lu⟩:=(hf u).2 cu eu
      have n1:=lu x y w1
      have n2:=lw _ _ (wu.snoc m)
      refine⟨some u,fun z=>absurd z c1,(fun _ _ z=>by cases z),fun u' e=>?_⟩
      cases e
      refine⟨l,k,cu,m,eu,?_⟩
      unfold lt2 at n1 n2
      simp only at n1 n2
      have:cu=(x,y):=Prod.ext (by simp only;omega) (by simp only;omega)
      rw[this]
 let g:Nat->Option Nat:=fun v=>Classical.choose (eA v)
 have hg:∀ v,(v=s->g v=none)∧(v≠s->f v≠none->g v≠none)∧∀ u,g v=some u->∃ l k cu,(u,v,l,k) ∈ B∧f u=some cu∧f v=some (cu.1 + l,cu.2 + 2 ^ k):=fun v=>Classical.choose_spec (eA v)
 have wn:∀ {v x y},W2 B s v x y->v < n:=fun {v x y} h=>by
  cases h with
  | nil=>exact hs
  | snoc _ m=>exact (inn _ _ _ _ m).2
 have fo:∀ v,n≤v->f v=none:=fun v hv=>by
  cases e:f v with
  | none=>rfl
  | some c=>exact absurd (wn ((hf v).2 c e).1) (by omega)
 have getf:∀ v,get ((List.range n).map f) v=f v:=fun v=>by
  unfold get
  by_cases hv:v < n
  ·simp [hv]
  ·rw[fo v (by omega)]
   simp [hv]
 have go:∀ v,n≤v->g v=none:=fun v hv=>by
  cases e:g v with
  | none=>rfl
  | some u =>
   obtain⟨l,k,cu,m,_⟩:=(hg v).2.2 u e
   exact absurd (inn _ _ _ _ m).2 (by omega)
 have getg:∀ v,get ((List.range n).map g) v=g v:=fun v=>by
  unfold get
  by_cases hv:v < n
  ·simp [hv]
  ·rw[go v (by omega)]
   simp [hv]
 refine⟨(List.range n).map f,(List.range n).map g,by simp,by simp,?_,?_,?_,?_,?_,?_⟩
 ·rw[getf]
  cases e:f s with
  | none=>exact absurd W2.nil ((hf s).1 e 0 0)
  | some c =>
   obtain⟨w,l⟩:=(hf s).2 c e
   have nn:=w.nonneg K
   have:=l 0 0 .nil
   unfold lt2 at this
   simp only at this
   have:c=(0,0):=Prod.ext (by simp only;omega) (by simp only;omega)
   rw[this]
 ·rw[getg];exact (hg s).1 rfl
 ·intro v c e ne
  rw[getf] at e
  rw[getg]
  exact (hg v).2.1 ne (by rw[e];exact fun z=>by cases z)
 ·intro v c e
  rw[getf] at e
  exact (((hf v).2 c e).1.nonneg K).1
 ·intro u v l k c m e
  rw[getf] at e
  have w:=((hf u).2 c e).1.snoc m
  cases ev:f v with
  | none=>exact absurd w ((hf v).1 ev _ _)
  | some c' =>
   refine⟨c',by rw[getf,ev],((hf v).2 c' ev).2 _ _ w⟩
 ·intro v u e
  rw[getg] at e
  obtain⟨l,k,cu,m,e1,e2⟩:=(hg v).2.2 u e
  exact⟨l,k,cu,m,by rw[getf];exact e1,by rw[getf];exact e2⟩
end Far
namespace L3
open PySem PySem.Spec PyProof.Rows L2
/-- a web and a keep of it that is a list -/
def WKL (K:PySem.W.Frag) (H:Hp) (n:Int) (ts:List Tie) (ks:List Nat) (wv:V) (kp:Addr):Prop:=Is K H (webD n ts) wv∧WebOk n ts∧H kp=some (.lst ((keepI ks).map V.int))∧KeepOk ts.length ks
/-- lists of how far, as data -/
def ovD:Option Int->PyData
 | none=>.none
 | some x=>.int x
theorem is_ovs {K:PySem.W.Frag} {H:Hp}:∀ D:List (Option Int),IsAll K H (D.map ovD) (D.map ov)
 | []=>rfl
 | none::r=>⟨_,_,rfl,rfl,is_ovs r⟩
 | some x::r=>⟨_,_,rfl,rfl,is_ovs r⟩
theorem is_ovL {K:PySem.W.Frag} {H:Hp} {l:Addr} {D:List (Option Int)} (h:H l=some (.lst (D.map ov))):Is K H (.list (D.map ovD)) (.ref l):=⟨l,_,rfl,h,is_ovs D⟩
theorem lay_ovs:∀ D:List (Option Int),PyData.canLayAll0 (D.map ovD)=true
 | []=>rfl
 | none::r=>by show (true && PyData.canLayAll0 (r.map ovD))=true;rw[lay_ovs r];rfl
 | some x::r=>by show (true && PyData.canLayAll0 (r.map ovD))=true;rw[lay_ovs r];rfl
theorem deep_ovs:∀ D:List (Option Int),PyData.depthAll (D.map ovD)≤1
 | []=>Nat.zero_le _
 | none::r=>by
  show max (PyData.depth .none) (PyData.depthAll (r.map ovD))≤1
  have:=deep_ovs r
  have e:PyData.depth .none=0:=rfl
  omega
 | some x::r=>by
  show max (PyData.depth (.int x)) (PyData.depthAll (r.map ovD))≤1
  have:=deep_ovs r
  have e:PyData.depth (.int x)=0:=rfl
  omega
theorem eqv_ovs:∀ {D E:List (Option Int)},PyData.eqvAll (D.map ovD) (E.map ovD)=true->D=E
 | [],[],_=>rfl
 | [],_::_,h=>by cases h
 | _::_,[],h=>by cases h
 | a::r,b::s,h=>by
  have h':(PyData.eqv (ovD a) (ovD b) && PyData.eqvAll (r.map ovD) (s.map ovD))=true:=h
  rw[Bool.and_eq_true] at h'
  rw[eqv_ovs h'.2]
  congr 1
  cases a with
  | none=>cases b with
   | none=>rfl
   | some y=>cases h'.1
  | some x=>cases b with
   | none=>cases h'.1
   | some y =>
    have:(x == y)=true:=h'.1
    rw[eq_of_beq this]
end L3
namespace Far
def chn (R:Nat->Nat->Prop):List Nat->Prop
 | []=>True
 | [_]=>True
 | a::b::r=>R a b∧chn R (b::r)
section
variable {R:Nat->Nat->Prop}
theorem chn_join:∀ {l m:List Nat} {x y:Nat},chn R (l++[x])->R x y->chn R (y::m)->chn R (l++[x]++y::m)
 | [],m,x,y,_,r,h=>⟨r,h⟩
 | [a],m,x,y,h1,r,h=>⟨h1.1,chn_join (l:=[]) (x:=x) (y:=y) h1.2 r h⟩
 | a::b::l,m,x,y,h1,r,h=>⟨h1.1,chn_join (l:=b::l) (x:=x) (y:=y) h1.2 r h⟩
theorem chn_split:∀ {l m:List Nat} {x:Nat},chn R (l++x::m)->chn R (l++[x])∧chn R (x::m)
 | [],m,x,h=>⟨trivial,h⟩
 | [a],m,x,h=>⟨⟨h.1,trivial⟩,h.2⟩
 | a::b::l,m,x,h=>⟨⟨h.1,(chn_split (l:=b::l) (x:=x) h.2).1⟩,(chn_split (l:=b::l) (x:=x) h.2).2⟩
theorem chn_rev (sy:∀ u v,R u v->R v u):∀ {l:List Nat},chn R l->chn R l.reverse
 | [],_=>trivial
 | [_],_=>trivial
 | a::b::r,h=>by
  have ih:=chn_rev sy h.2
  rw[List.reverse_cons] at ih
  rw[List.reverse_cons,List.reverse_cons]
  exact chn_join (l:=r.reverse) (m:=[]) ih (sy _ _ h.1) trivial
theorem chn_at:∀ {l:List Nat} {i u v:Nat},chn R l->l[i]?=some u->l[i + 1]?=some v->R u v
 | [],i,u,v,_,e,_=>by cases e
 | [a],i,u,v,_,_,e=>by cases e
 | a::b::r,0,u,v,h,e1,e2=>by cases e1;cases e2;exact h.1
 | a::b::r,i + 1,u,v,h,e1,e2=>chn_at (l:=b::r) h.2 e1 e2
/-- a way made a ring: turned so that h stands first, one way about or the other -/
def RingOf (ws:List Nat) (h:Nat) (tl:List Nat):Prop:=∃ p q,ws=p++h::q∧(tl=q++p∨tl=(q++p).reverse)
end
end Far
namespace L3
open PySem PySem.Spec PyProof.Rows L2
/-- two places with a tie of the keep between them -/
def adjK (ts:List Tie) (ks:List Nat) (u v:Nat):Prop:=∃ k,k ∈ ks∧tbN ts u v=some k
/-- a ring in its least turn -/
def Turn (h:Nat) (tl:List Nat):Prop:=(∀ x ∈ tl,h≤x)∧∀ u v p q,tl=u::p->tl=q++[v]->u≤v
end L3
namespace L3
open PySem PySem.Spec PyProof.Rows L2
end L3
namespace Stb
open PySem
def Asc (xs:Array Nat):Prop:=∀ i j,i < j->j < xs.size->xs.getD i 0 < xs.getD j 0
theorem go_spec (xs:Array Nat) (j:Nat) (asc:Asc xs):∀ (fuel lo hi:Nat),lo≤hi->hi≤xs.size->hi - lo≤fuel->(∀ i,i < lo->xs.getD i 0 < j)->(∀ i,hi≤i->i < xs.size->j≤xs.getD i 0) ->
  (∀ i,i < SetTable.below.go xs j fuel lo hi->xs.getD i 0 < j)∧(∀ i,SetTable.below.go xs j fuel lo hi≤i->i < xs.size->j≤xs.getD i 0)∧SetTable.below.go xs j fuel lo hi≤xs.size
 | 0,lo,hi,h1,h2,h3,a,b=>by
  have e:lo=hi:=by omega
  subst e
  exact⟨a,b,h2⟩
 | fuel + 1,lo,hi,h1,h2,h3,a,b=>by
  unfold SetTable.below.go
  by_cases c:lo < hi
  ·rw[if_pos c]
   have hm:(lo + hi) / 2 < xs.size:=by omega
   have eg:xs.getD ((lo + hi) / 2) j=xs.getD ((lo + hi) / 2) 0:=by rw[Array.getD_eq_getD_getElem?,Array.getD_eq_getD_getElem?,Array.getElem?_eq_getElem hm];rfl
   by_cases d:xs.getD ((lo + hi) / 2) j < j
   ·simp only [if_pos d]
    refine go_spec xs j asc fuel _ hi (by omega) h2 (by omega) (fun i hi'=>?_) b
    rcases Nat.lt_or_eq_of_le (Nat.le_of_lt_succ hi') with z | z
    ·have:=asc i _ z hm;omega
    ·rw[z];omega
   ·simp only [if_neg d]
    refine go_spec xs j asc fuel lo _ (by omega) (by omega) (by omega) a (fun i hi' hs=>?_)
    rcases Nat.lt_or_eq_of_le hi' with z | z
    ·have:=asc _ i z hs;omega
    ·rw[← z];omega
  ·rw[if_neg c]
   have e:lo=hi:=by omega
   subst e
   exact⟨a,b,h2⟩
theorem below_spec (xs:Array Nat) (j:Nat) (asc:Asc xs):(∀ i,i < SetTable.below xs j->xs.getD i 0 < j)∧(∀ i,SetTable.below xs j≤i->i < xs.size->j≤xs.getD i 0)∧SetTable.below xs j≤xs.size:=by
 unfold SetTable.below
 exact go_spec xs j asc _ 0 xs.size (Nat.zero_le _) (Nat.le_refl _) (by omega) (fun i h=>by omega) (fun i h1 h2=>by omega)
/-- the place behind the i-th -/
theorem below_next (xs:Array Nat) (asc:Asc xs) {i p:Nat} (h:xs[i]?=some p):SetTable.below xs (p + 1)=i + 1:=by
 obtain⟨hi,e⟩:=Array.getElem?_eq_some_iff.mp h
 have eg:xs.getD i 0=p:=by rw[Array.getD_eq_getD_getElem?,h];rfl
 obtain⟨h1,h2,h3⟩:=below_spec xs (p + 1) asc
 rcases Nat.lt_trichotomy (SetTable.below xs (p + 1)) (i + 1) with z | z | z
 ·have:=h2 i (by omega) hi;omega
 ·exact z
 ·have a:=h1 (i + 1) z
  have b:=asc i (i + 1) (by omega) (by omega)
  omega
theorem below_zero (xs:Array Nat) (asc:Asc xs):SetTable.below xs 0=0:=by
 obtain⟨h1,_,_⟩:=below_spec xs 0 asc
 rcases Nat.eq_zero_or_pos (SetTable.below xs 0) with z | z
 ·exact z
 ·have:=h1 0 z;omega
theorem Asc.list {xs:Array Nat}:Asc xs↔xs.toList.Pairwise (· < ·):=by
 rw[List.pairwise_iff_getElem]
 have g:∀ i (h:i < xs.toList.length),xs.getD i 0=xs.toList[i]:=fun i h=>by
  have h':i < xs.size:=by simpa using h
  rw[Array.getD_eq_getD_getElem?,Array.getElem?_eq_getElem h'];simp
 constructor
 ·intro a i j hi hj ij
  have:=a i j ij (by simpa using hj)
  rw[g i hi,g j hj] at this
  exact this
 ·intro a i j ij hj
  have hj':j < xs.toList.length:=by simpa using hj
  have:=a i j (by omega) hj' ij
  rw[g i (by omega),g j hj']
  exact this
theorem asc_insert {xs:Array Nat} {j:Nat} (asc:Asc xs) (new:xs[SetTable.below xs j]?≠some j):Asc (SetTable.insertAt xs (SetTable.below xs j) j):=by
 obtain⟨h1,h2,h3⟩:=below_spec xs j asc
 rw[Asc.list,SetTable.toList_insertAt]
 have al:=Asc.list.mp asc
 have g:∀ i (h:i < xs.size),xs.getD i 0=xs[i]:=fun i h=>by rw[Array.getD_eq_getD_getElem?,Array.getElem?_eq_getElem h];rfl
 have lo:∀ x ∈ xs.toList.take (SetTable.below xs j),x < j:=fun x hx=>by
  obtain⟨i,hi,e⟩:=List.getElem_of_mem hx
  rw[List.length_take] at hi
  have hs:i < xs.size:=by simp at hi;omega
  have:=h1 i (by omega)
  rw[g i hs] at this
  rw[List.getElem_take] at e
  have e':xs[i]=x:=by simpa using e
  omega
 have hi:∀ x ∈ xs.toList.drop (SetTable.below xs j),j < x:=fun x hx=>by
  obtain⟨i,hi,e⟩:=List.getElem_of_mem hx
  rw[List.length_drop] at hi
  have hs:SetTable.below xs j + i < xs.size:=by simp at hi;omega
  have:=h2 (SetTable.below xs j + i) (by omega) hs
  rw[g _ hs] at this
  rw[List.getElem_drop] at e
  have e':xs[SetTable.below xs j + i]=x:=by simpa using e
  rcases Nat.lt_or_eq_of_le this with z | z
  ·omega
  ·exfalso
   rcases Nat.eq_zero_or_pos i with i0 | i0
   ·subst i0
    apply new
    rw[Array.getElem?_eq_getElem (by omega)]
    simp at z
    rw[← z]
   ·have b0:SetTable.below xs j < xs.size:=by omega
    have q1:=h2 (SetTable.below xs j) (Nat.le_refl _) b0
    have q2:=asc (SetTable.below xs j) (SetTable.below xs j + i) (by omega) hs
    rw[g _ hs] at q2
    omega
 refine List.pairwise_append.mpr ⟨al.sublist (List.take_sublist _ _),List.pairwise_cons.mpr ⟨fun x hx=>hi x hx,al.sublist (List.drop_sublist _ _)⟩,fun a ha b hb=>?_⟩
 rcases List.mem_cons.mp hb with z | z
 ·rw[z];exact lo a ha
 ·have:=lo a ha;have:=hi b z;omega
theorem asc_range (n:Nat):Asc (Array.range n):=by
 rw[Asc.list]
 simpa using List.pairwise_lt_range
/-- what holds of each table that was made by adding -/
def TI (b:Bool) (t:SetTable):Prop:=Asc t.place∧t.led=b
theorem ti_fresh (b:Bool):TI b (.fresh 0 0 b):=⟨fun i j _ h=>by simp [SetTable.fresh] at h,rfl⟩
theorem ti_standIn {b:Bool} {t:SetTable} (h:TI b t) (n:Nat):TI b (t.standIn n):=⟨asc_range n,h.2⟩
theorem ti_or {b:Bool} {t:SetTable} (h:TI b t) (n:Nat):TI b (t.orStandIn n):=by
 unfold SetTable.orStandIn
 split
 ·exact h
 ·exact ti_standIn h n
theorem ti_plain {b:Bool} {t:SetTable} (h:TI b t):TI b { t with plain:=false }:=h
theorem slot_new {t:SetTable} {j:Nat} (h:t.slot j=.empty∨t.slot j=.dummy):t.place[SetTable.below t.place j]?≠some j:=fun e=>by
 unfold SetTable.slot at h
 have c:(t.place[SetTable.below t.place j]? == some j)=true:=by rw[e];simp
 simp only [c,if_true] at h
 rcases h with h | h <;> cases h
theorem probe_free (t:SetTable) (hashAt:Nat->Int) (h:Int):∀ (f:Nat) (p:SetTable.Probe),(∀ d,p.dummy=some d->t.slot d=.dummy)->∀ j dm,SetTable.probe.go t hashAt h f p=some (.empty j dm)->t.slot j=.empty∧∀ d,dm=some d->t.slot d=.dummy
 | 0,p,_,j,dm,e=>by cases e
 | f + 1,p,hp,j,dm,e=>by
  have adv:∀ q:SetTable.Probe,(t.advance q).dummy=q.dummy:=fun q=>by
   unfold SetTable.advance
   split <;> rfl
  unfold SetTable.probe.go at e
  split at e
  ·rename_i hs
   injection e with e
   injection e with e1 e2
   subst e1;subst e2
   exact⟨hs,hp⟩
  ·rename_i hs
   refine probe_free t hashAt h f _ (fun d hd=>?_) j dm e
   rw[adv] at hd
   have:p.j=d:=by simpa using hd
   rw[← this];exact hs
  ·split at e
   ·cases e
   ·refine probe_free t hashAt h f _ (fun d hd=>?_) j dm e
    rw[adv] at hd
    exact hp d hd
theorem free_new {t:SetTable} {h:Int} {s:Nat} {w:Bool} (e:t.freeSlot h=some (s,w)):t.place[SetTable.below t.place s]?≠some s:=by
 unfold SetTable.freeSlot at e
 split at e
 ·rename_i j dm hm
  unfold SetTable.probe at hm
  obtain⟨h1,h2⟩:=probe_free t _ h _ _ (fun d hd=>by cases hd) j dm hm
  injection e with e
  injection e with e1 _
  cases dm with
  | none=>exact slot_new (.inl (by rw[← e1];exact h1))
  | some d=>exact slot_new (.inr (by rw[← e1];exact h2 d rfl))
 ·cases e
theorem ti_layNew {b:Bool} {t:SetTable} (h:TI b t) (es:Array (Int × Value)) (k:Int) (x:Value):TI b (layNew t es k x).2.1:=by
 unfold layNew
 split
 ·rename_i s w e
  exact ti_or (t:=(t.put s).1) ⟨asc_insert h.1 (free_new e),h.2⟩ _
 ·exact ti_standIn h _
theorem fm_sub {f:Nat->Option Nat} (hf:∀ j y,f j=some y->y=j):∀ l:List Nat,(l.filterMap f).Sublist l
 | []=>.slnil
 | j::l=>by
  rw[List.filterMap_cons]
  cases e:f j with
  | none=>exact (fm_sub hf l).cons j
  | some y=>rw[hf j y e];exact (fm_sub hf l).cons₂ j
theorem ti_relay {b:Bool} {t:SetTable} (h:TI b t) (es:Array (Int × Value)) (wanted:Nat):TI b (relayAll t es wanted).2.1:=by
 unfold relayAll
 split
 ·rename_i t' order e
  dsimp only
  split
  ·unfold SetTable.relaid SetTable.laid at e
   simp only [Option.bind_eq_bind,Option.bind_eq_some_iff] at e
   obtain⟨owner,_,e⟩:=e
   injection e with e
   injection e with e1 _
   rw[← e1]
   refine⟨?_,h.2⟩
   rw[Asc.list]
   simp only [List.map_filterMap]
   refine List.pairwise_lt_range.sublist (fm_sub (fun j y hy=>?_) _)
   cases c:owner.getD j none with
   | none=>rw[c] at hy;cases hy
   | some z=>rw[c] at hy;exact (Option.some.inj hy).symm
  ·exact ti_standIn h _
 ·exact ti_standIn h _
end Stb
namespace Stb
open PySem PyProof.Rows
/-- whether sets of this world are led -/
def ledOf (w:World):Bool:=!w.params.followText "set-order"
/-- the table of the set at a -/
def TIat (w:World) (h:Heap) (a:Addr):Prop:=∃ o es ep t,h.get? a=some o∧o.data=.set es ep t∧TI (ledOf w) t
abbrev SetT (P:Program) (w:World) (h:Heap) (a:Addr) (S:Int->Bool) (n:Nat):Prop:=h.SetOf (intKind P w) a S n∧TIat w h a
section
variable {prog:Program} {w:World} {A:Around} {E:Value->Shared->Prop} {s:Shared}
theorem SetT.keep {h h':Heap} {a:Addr} {S:Int->Bool} {n:Nat} (x:SetT prog w h a S n) (k:∀ o,h.get? a=some o->h'.get? a=some o):SetT prog w h' a S n:=by
 obtain⟨⟨o,es,ep,t,ho,r⟩,o',es',ep',t',ho',r'⟩:=x
 exact⟨⟨o,es,ep,t,k _ ho,r⟩,o',es',ep',t',k _ ho',r'⟩
/-- what is behind the finding of a place -/
theorem lay_tail {g:Bool->Sem Unit} (gp:∀ (b:Bool) (z:Shared) (U:Unit->Shared->Prop),U () z->wpAny (model prog w) A (g b) U E z) {S':Int->Bool}
  {a:Addr} {o:Obj} {es es1:Array (Int × Value)} {ep:Nat} {t t2:SetTable} (ho:s.heap.get? a=some o) (ox:o.ExactSet) (od:o.data=.set es ep t)
  (el:ElemsOf (intKind prog w) es1.toList) (me:∀ k,S' k=true↔∃ e ∈ es1.toList,(intKind prog w).is k e.2=true) (small:es1.size < scanBound) (fit:t2.fits es1.size=true) (ti:TI (ledOf w) t2) {dum:Bool} {R:Option Bool->Shared->Prop}
  (fin:∀ h',Heap.SameBut a s.heap h'->SetT prog w h' a S' es1.size->R (some true) { s with heap:=h' }) :
  wpAny (model prog w) A (do
      storeSet a es1 t2
      if (!dum && t2.tooFull) = true then do
          g (relayAll t2 es1 (SetTable.grown es1.size)).2.2
          storeSet a (relayAll t2 es1 (SetTable.grown es1.size)).1 (relayAll t2 es1 (SetTable.grown es1.size)).2.1
          pure (some true)
        else pure (some true)) R E s:=by
 refine wpAny_bind (wpAny_storeSet_of ho od ?_ (fits_of_scanBound small))
 obtain⟨g1,s1⟩:=SetOf_store (knd:=intKind prog w) ho ox od el me small fit
 have sb:=Heap.SameBut.update s.heap a (Obj.putSet es1 t2)
 split
 ·have pm:=relayAll_perm t2 es1 (SetTable.grown es1.size)
  have fr:=relayAll_fits t2 es1 (SetTable.grown es1.size)
  have tr:=ti_relay ti es1 (SetTable.grown es1.size)
  generalize relayAll t2 es1 (SetTable.grown es1.size)=Rl at pm fr tr ⊢
  obtain⟨es2,t3,gv⟩:=Rl
  dsimp only at pm fr tr ⊢
  have sz:es2.size=es1.size:=by rw[← Array.length_toList,pm.length_eq,Array.length_toList]
  have sm2:es2.size < scanBound:=sz ▸ small
  refine wpAny_bind (gp _ _ _ (wpAny_bind (wpAny_storeSet_of g1 rfl ?_ (fits_of_scanBound sm2))))
  obtain⟨g2,s2⟩:=SetOf_store (knd:=intKind prog w) g1 ox rfl (el.perm pm) (fun k=>(me k).trans ⟨fun ⟨e,he,q⟩=>⟨e,pm.mem_iff.mpr he,q⟩,fun ⟨e,he,q⟩=>⟨e,pm.mem_iff.mp he,q⟩⟩) sm2 fr
  rw[sz] at s2
  exact wpAny_pure (fin _ (sb.trans (Heap.SameBut.update _ a _)) ⟨s2,_,_,_,_,g2,rfl,tr⟩)
 ·exact wpAny_pure (fin _ sb ⟨s1,_,_,_,_,g1,rfl,ti⟩)
/-- one more -/
theorem add_T {a:Addr} {S:Int->Bool} {n:Nat} {k:Int} {x:Value} {Q:Bool->Shared->Prop} (kx:(intKind prog w).is k x=true) (sx:x.scannable=true) (st:SetT prog w s.heap a S n) (room:n + 1 < scanBound)
  (fin:∀ h',Heap.SameBut a s.heap h'->SetT prog w h' a (fun y=>S y || decide (y=k)) (if S k then n else n + 1)->Q (!S k) { s with heap:=h' }) :
  wpAny (model prog w) A (setAddHashed a x ((intKind prog w).hash k)) Q E s:=by
 obtain⟨⟨o,es,ep,t,ho,ox,od,el,me,small,fit,en⟩,o',es',ep',t',ho',od',ti⟩:=st
 rw[ho] at ho';cases ho'
 rw[od] at od';cases od'
 have small1:es.size + 1 < scanBound:=en ▸ room
 unfold setAddHashed setAddHashedIn
 refine wpAny_holding (wpAny_bind (wpAny_setState_of ho od fit ?_))
 dsimp only
 rw[byScan_of sx small el,if_pos rfl]
 unfold setAddByScan
 refine wpAny_bind (wpAny_bind (wpAny_rule (wpAny_bind (wpAny_setScan_of kx ho od fit el ?_))))
 cases fd:List.findIdx? (fun e=>(intKind prog w).is k e.2) es.toList with
 | some j =>
  dsimp only
  obtain⟨jl,jp,_⟩:=List.findIdx?_eq_some_iff_getElem.mp fd
  have sk:S k=true:=(me k).mpr ⟨es.toList[j],List.getElem_mem jl,jp⟩
  refine wpAny_pure (wpAny_pure ?_)
  have es0:s={ s with heap:=s.heap }:=by cases s;rfl
  have q:=fin s.heap (Heap.SameBut.refl a s.heap) ⟨⟨o,es,ep,t,ho,ox,od,el,fun y=>by
   rw[Bool.or_eq_true,decide_eq_true_eq,← me y]
   exact⟨fun z=>z.elim id (fun e=>e ▸ sk),.inl⟩,small,fit,by rw[sk];exact en⟩,o,es,ep,t,ho,od,ti⟩
  rw[sk] at q;rw[es0];exact q
 | none =>
  dsimp only
  have sk:S k=false:=by
   cases c:S k with
   | false=>rfl
   | true=>obtain⟨e,he,hp⟩:=(me k).mp c;have:=List.findIdx?_eq_none_iff.mp fd e he;rw[hp] at this;cases this
  have pm:=layNew_perm t es ((intKind prog w).hash k) x
  have ft:=layNew_fits t es ((intKind prog w).hash k) x
  have tl:=ti_layNew ti es ((intKind prog w).hash k) x
  generalize layNew t es ((intKind prog w).hash k) x=L at pm ft tl ⊢
  obtain⟨es1,t1,dum,gv⟩:=L
  dsimp only at pm ft tl ⊢
  rw[Array.toList_push] at pm
  have el1:ElemsOf (intKind prog w) es1.toList:=(el.push kx sx).perm pm
  have me1:∀ y,(S y || decide (y=k))=true↔∃ e ∈ es1.toList,(intKind prog w).is y e.2=true:=mem_push_iff kx me pm
  have ez:es1.size=es.size + 1:=by rw[← Array.length_toList,pm.length_eq,List.length_append,Array.length_toList];rfl
  have small2:es1.size < scanBound:=ez ▸ small1
  have gw:∀ (b:Bool) (z:Shared) (U:Unit->Shared->Prop),U () z->wpAny (model prog w) A (match b with | true=>rule "set.scan.the-table-gave-way" | false=>pure ()) U E z :=
   fun b z U hq=>by cases b <;> first | exact wpAny_pure hq | exact wpAny_rule hq
  refine wpAny_bind (gw _ _ _ ?_)
  have last:∀ h',Heap.SameBut a s.heap h'->SetT prog w h' a (fun y=>S y || decide (y=k)) es1.size->Q true { s with heap:=h' }:=fun h' sb z=>by
   have q:=fin h' sb;rw[sk] at q;rw[ez,en] at z;exact q z
  split
  ·refine wpAny_bind ?_
   rw[hashByValue_scannable 8 sx]
   refine wpAny_pure (lay_tail (fun b z U hq=>?_) ho ox od el1 me1 small2 ?_ ?_ fun h' sb z=>?_)
   ·cases b <;> first | exact wpAny_pure hq | exact wpAny_rule hq
   ·split
    ·exact ft
    ·exact SetTable.fits_plain_off ft
   ·split
    ·exact tl
    ·exact ti_plain tl
   ·dsimp only;exact wpAny_pure (last h' sb z)
  ·refine wpAny_bind (wpAny_pure ?_)
   simp only [↓reduceIte]
   refine lay_tail (fun b z U hq=>?_) ho ox od el1 me1 small2 ft tl fun h' sb z=>?_
   ·cases b <;> first | exact wpAny_pure hq | exact wpAny_rule hq
   ·dsimp only;exact wpAny_pure (last h' sb z)
/-- all that an iterator gives -/
theorem fill_T {R:Result->Shared->Prop} {I:Addr} {fp wr:List Addr} {G:Array GenState->Array GenState->Prop} {n:Nat} {P:Nat->Value->Prop} {St:Nat->Shared->Prop} (W:WalksS prog w A.in1 I fp wr G n P St) (a:Addr) (af:a ∉ fp)
  (val:Nat->Int) (hv:∀ i v,P i v->∃ t,v=.int (val i) t) (hb:n + 1 < scanBound) :
  ∀ (k i:Nat) (s:Shared),n - i=k->i≤n->St i s->SetT prog w s.heap a (fun y=>(firstMet val i).any (· == y)) (firstMet val i).length ->
   (∀ s',Moved (a::wr) G s s'->SetT prog w s'.heap a (fun y=>(firstMet val n).any (· == y)) (firstMet val n).length->R (.ok (.ret .none)) s') ->
   codeAny (model prog w) A (.builtin "set.update.loop" ⟨[.ref a,.ref I],[]⟩) R s:=by
 have aw:a ∉ wr:=fun h=>af (W.sub _ h)
 have up:∀ b ∈ wr,b ∈ a::wr:=fun b hb=>List.mem_cons_of_mem _ hb
 intro k
 induction k with
 | zero =>
  intro i s hk hi st x fin
  obtain rfl:i=n:=by omega
  refine codeAny_builtin PyProof.Rows.F.entry_set_update_loop ?_
  rw[Around.under_plainId PyProof.Rows.F.plain_set_update_loop _]
  show wpAny _ A.in1 (pyNext (.ref I) >>= _) _ _ s
  refine wpAny_bind (W.done s _ _ st fun s' hm=>?_)
  show wpAny _ A.in1 (ret Value.none) _ _ s'
  exact wpAny_pure (fin s' (hm.mono up) (x.keep fun o e=>hm.heap a o aw e))
 | succ k ih =>
  intro i s hk hi st x fin
  have lt:i < n:=by omega
  refine codeAny_builtin PyProof.Rows.F.entry_set_update_loop ?_
  rw[Around.under_plainId PyProof.Rows.F.plain_set_update_loop _]
  show wpAny _ A.in1 (pyNext (.ref I) >>= _) _ _ s
  refine wpAny_bind (W.item i s _ _ lt st fun v s' hP st' hm=>?_)
  obtain⟨t,rfl⟩:=hv i v hP
  have x':=x.keep (prog:=prog) fun o e=>hm.heap a o aw e
  show wpAny _ A.in1 (holding [Value.int (val i) t] (setAdd a (.int (val i) t)) >>= _) _ _ s'
  refine wpAny_bind (wpAny_holding ?_)
  unfold setAdd
  refine wpAny_holding (wpAny_bind ((intKind prog w).pyHash (k:=val i) (intKind_is _ _ _ _) ?_))
  refine add_T (s:={ s' with toks:=s'.toks + 1 }) (intKind_is _ _ _ _) rfl x' (by have:=firstMet_length_le val i;omega) fun h' sb x2=>?_
  have x3:SetT prog w h' a (fun y=>(firstMet val (i + 1)).any (· == y)) (firstMet val (i + 1)).length :=
   ⟨SetOf_congr x2.1 (fun y=>by rw[firstMet_succ,step_any]) (by rw[firstMet_succ,step_length]),x2.2⟩
  refine wpAny_pure ⟨plainId_quiet PyProof.Rows.F.plain_set_update_loop _,ih (i + 1) _ (by omega) lt (W.frame _ s' _ _ st' (Nat.le_succ _) fun b hb o e=>?_) x3 fun s'' hm2 x4=>?_⟩
  ·rw[sb.2 b (fun h:b=a=>af (by rw[← h];exact hb))];exact e
  ·refine fin s'' (Moved.trans W.gtrans ((hm.mono up).then_heap (Nat.le_succ _) fun b o hb e=>?_) hm2) x4
   rw[sb.2 b (fun h:b=a=>hb (by rw[h];exact List.mem_cons_self))];exact e
end
end Stb
namespace Stb
open PySem PyProof.Rows
section
variable {prog:Program} {w:World} {A:Around} {E:Value->Shared->Prop} {s:Shared}
/-- an empty set -/
abbrev emp (w:World):Obj:={ cls:=.type "set",dict:=none,data:=.set #[] 0 (.fresh 0 0 (ledOf w)) }
theorem new_T (x:Value) {U:Value->Shared->Prop} (fin:U (.ref s.heap.objs.size) { s with heap:=s.heap.push (emp w) }) :
  codeAny (model prog w) A (.call (.builtin "set.__new__") ⟨[.type "set",x],[]⟩) (wants U E) s:=by
 refine codeAny_of_tree ?_
 show wpAny _ A.in1 (checkBuiltinCall "set.__new__" ⟨[.type "set",x],[]⟩ >>= fun _=>again (.builtin "set.__new__" ⟨[.type "set",x],[]⟩)) _ _ s
 refine wpAny_bind (wpAny_of_eq (PySem.F.newCall_set_1 x) (wpAny_pure ⟨plainId_quiet PySem.F.plain_set_new _,codeAny_builtin PySem.F.entry_set_new ?_⟩))
 rw[Around.under_plainId PySem.F.plain_set_new _]
 unfold Builtin.«set.__new__» Builtin.Frozenset.newClass
 have sub1:=PySem.sub_set_self
 obtain⟨hp,g,d,tk,os⟩:=s
 dsimp only
 wp_walk
 refine wpAny_askSetting (wpAny_pure ?_)
 simp only [newObj]
 exact wpAny_bind (wpAny_alloc (wpAny_pure (wpAny_pure fin)))
theorem emp_T (h:Heap):SetT prog w (h.push (emp w)) h.objs.size (fun y=>(firstMet (fun i=>([]:List Int).getD i 0) 0).any (· == y)) 0 :=
 ⟨SetOf_congr ((setObjOf_fresh (knd:=intKind prog w) (ledOf w)).setOf (Heap.get?_push_size _ rfl) (by unfold scanBound;omega)) (fun _=>rfl) rfl,_,_,_,_,Heap.get?_push_size _ rfl,rfl,ti_fresh _⟩
end
end Stb
namespace Stb
open PySem PyProof.Rows
theorem sl_next:Slot "set_iterator" "__next__" "set_iterator.__next__":=.of (owner:="set_iterator") (n:="__next__") (by rw[typeLookup_type,builtinLookup_eq_fast];kernel_rfl) (by decide +kernel) (by decide +kernel) (by decide +kernel) (by first | exact .inl (by decide +kernel) | exact .inr (by decide +kernel)) (by rw[isSubtype_type];kernel_rfl)
theorem en_next:entryFor table "set_iterator.__next__"=some Builtin.«set_iterator.__next__»:=entryFor_of_tree (by kernel_rfl)
theorem ow_next:Manifest.owners.lookup (String.ofList ['r','o','t','a','r','e','t','i','_','t','e','s'].reverse)=some Manifest.sig_set_iterator:=by kernel_rfl
theorem ar_next (a:Value):argsOk "set_iterator.__next__" ⟨[a],[]⟩:=by
 unfold argsOk;rw[signature?_of (id:="set_iterator.__next__") (n:=['_','_','t','x','e','n','_','_']) (o:=['r','o','t','a','r','e','t','i','_','t','e','s']) (by kernel_rfl) ow_next];kernel_rfl
theorem en_iter:entryFor table "set.__iter__"=some Builtin.«frozenset.__iter__»:=entryFor_alias (id':="frozenset.__iter__") (by kernel_rfl) rfl (by decide +kernel) (by kernel_rfl)
theorem out_in {α:Type} {l:List α} {i:Nat} (h:i < l.length):(l[i]::l.eraseIdx i).Perm l:=by
 rw[List.eraseIdx_eq_take_drop_succ]
 refine List.perm_middle.symm.trans ?_
 rw[← List.drop_eq_getElem_cons h,List.take_append_drop]
theorem pick_go {α:Type} (next:Nat->Nat):∀ (f k:Nat) (left:List α) (out:Array α),left.length=f->(pickOrder.go next f k left out).toList.Perm (out.toList++left)
 | 0,k,left,out,h=>by
  have:left=[]:=List.length_eq_zero_iff.mp h
  subst this
  unfold pickOrder.go
  simp
 | f + 1,k,left,out,h=>by
  have lt:next k % left.length < left.length:=Nat.mod_lt _ (by omega)
  unfold pickOrder.go
  rw[List.getElem?_eq_getElem lt]
  dsimp only
  refine (pick_go next f (k + 1) _ _ (by rw[List.length_eraseIdx_of_lt lt];omega)).trans ?_
  rw[Array.toList_push,List.append_assoc]
  refine List.Perm.append_left _ ?_
  exact out_in lt
theorem pick_perm {α:Type} (next:Nat->Nat) (xs:Array α):(pickOrder next xs).toList.Perm xs.toList:=by
 unfold pickOrder
 simpa using pick_go next xs.size 0 xs.toList #[] (by simp)
section
variable {prog:Program} {w:World} {A:Around} {E:Value->Shared->Prop} {s:Shared}
theorem wp_chosen {M:Model} {src:Source} {n:Nat} {Q:Nat->Shared->Prop} (hn:n≠0) (h:∀ i,i < n->Q i { s with drawn:=s.drawn.bump src }):wpAny M A (choose src n) Q E s:=fun Γ p hΓ=>by
 unfold choose
 rw[Sem.wp_choose]
 exact⟨hn,by exact h _ (Nat.mod_lt _ (Nat.pos_of_ne_zero hn))⟩
theorem wp_drawOrder {α:Type} {M:Model} (n:Nat):∀ (xs:List α) (s:Shared) (Q:List α->Shared->Prop),xs.length=n->(∀ ys d',ys.Perm xs->Q ys { s with drawn:=d' })->wpAny M A (drawOrder n xs) Q E s:=by
 induction n with
 | zero =>
  intro xs s Q h hQ
  have:xs=[]:=List.length_eq_zero_iff.mp h
  subst this
  unfold drawOrder
  exact wpAny_pure (hQ [] s.drawn .nil)
 | succ n ih =>
  intro xs s Q h hQ
  cases xs with
  | nil=>cases h
  | cons x xs =>
   unfold drawOrder
   refine wpAny_bind (wp_chosen (by simp) fun i hi=>?_)
   rw[List.getElem?_eq_getElem hi]
   refine wpAny_bind (ih _ _ _ (by rw[List.length_eraseIdx_of_lt hi];simp at h ⊢;omega) fun ys d' pm=>wpAny_pure (hQ _ d' ?_))
   exact (List.Perm.cons _ pm).trans (out_in hi)
end
end Stb
namespace Stb
open PySem PyProof.Rows
/-- how an iterator of a set goes -/
inductive Knd where
 | text
 | drawn (p:Addr) (pl:List Nat)
 | places
def First (w:World) (a:Addr) (es:Array (Int × Value)) (ep:Nat) (t:SetTable) (ord:List (Int × Value)) (i:Nat) (h:Heap) (first:Value):Knd->Prop
 | .text=>ledOf w=false∧ord=(pickOrder (w.params.setOrder a ep) es).toList∧∃ z:Nat,first=.int z 0
 | .drawn p pl=>first=.ref p∧h.IsTuple p (pl.map fun i=>rawInt (i:Nat)).toArray∧ord.length=pl.length∧∀ j k:Nat,pl[j]?=some k->∃ e,es[k]?=some e∧ord[j]?=some e
 | .places=>ledOf w=true∧(t.plain=true∨es.size≤1)∧ord=es.toList∧∃ z:Nat,first=.int z 0∧SetTable.below t.place z=i
def IsSet (h:Heap) (a:Addr) (es:Array (Int × Value)) (ep:Nat) (t:SetTable):Prop:=∃ o,h.get? a=some o∧o.cls=.type "set"∧o.data=.set es ep t
def IsIt (h:Heap) (I a:Addr) (n ep i:Nat) (first:Value):Prop:=∃ o,h.get? I=some o∧o.cls=.type "set_iterator"∧o.data=.fields #[first,.int i 0,.ref a,.int n 0,.int ep 0]
section
variable {prog:Program} {w:World} {A:Around} {E:Value->Shared->Prop} {s:Shared} {a I:Addr} {es:Array (Int × Value)} {ep:Nat} {t:SetTable}
theorem next_text {Q:Option (Value × Nat)->Shared->Prop} {z i:Nat} (hs:IsSet s.heap a es ep t) (fit:t.fits es.size=true) (hl:ledOf w=false)
  (h:Q (((pickOrder (w.params.setOrder a ep) es)[i]?).map fun e=>(e.2,z)) s):wpAny (model prog w) A (setNext a z i ep) Q E s:=by
 obtain⟨o,ho,_,od⟩:=hs
 have ft:w.params.followText "set-order"=true:=by simpa [ledOf] using hl
 unfold setNext setsByText
 refine wpAny_bind (wpAny_setState_of ho od fit ?_)
 refine wpAny_bind (wpAny_bind (wpAny_askSetting (wpAny_pure ?_)))
 show wpAny _ _ (if w.params.followText "set-order"=true then _ else _) _ _ _
 rw[if_pos ft]
 dsimp only
 rw[if_neg (by simp)]
 refine wpAny_bind ?_
 unfold setWalk setsByText
 refine wpAny_bind (wpAny_setState_of ho od fit ?_)
 refine wpAny_bind (wpAny_bind (wpAny_askSetting (wpAny_pure ?_)))
 show wpAny _ _ (if w.params.followText "set-order"=true then _ else _) _ _ _
 rw[if_pos ft]
 exact wpAny_bind (wpAny_askSetting (wpAny_pure (wpAny_pure h)))
theorem next_places {Q:Option (Value × Nat)->Shared->Prop} {z i:Nat} (hs:IsSet s.heap a es ep t) (fit:t.fits es.size=true) (ti:TI (ledOf w) t) (hl:ledOf w=true) (hp:t.plain=true∨es.size≤1)
  (h:Q (match es[SetTable.below t.place z]?,t.place[SetTable.below t.place z]? with | some (_,x),some j=>some (x,j + 1) | _,_=>none) s):wpAny (model prog w) A (setNext a z i ep) Q E s:=by
 obtain⟨o,ho,_,od⟩:=hs
 have ft:w.params.followText "set-order"=false:=by simpa [ledOf] using hl
 unfold setNext setsByText
 refine wpAny_bind (wpAny_setState_of ho od fit ?_)
 refine wpAny_bind (wpAny_bind (wpAny_askSetting (wpAny_pure ?_)))
 show wpAny _ _ (if w.params.followText "set-order"=true then _ else _) _ _ _
 rw[if_neg (by rw[ft];exact Bool.false_ne_true)]
 dsimp only
 show wpAny _ _ (if (!t.plain && decide (es.size > 1))=true then _ else _) _ _ _
 rw[if_neg (by rcases hp with z | z <;> simp [z])]
 show wpAny _ _ ((if (!t.led && !es.isEmpty)=true then unsupported "set:maker-not-led" else pure ()) >>= _) _ _ _
 rw[if_neg (by rw[ti.2,hl];simp)]
 exact wpAny_bind (wpAny_pure (wpAny_pure h))
/-- two fields anew -/
theorem IsIt.set0 {h:Heap} {n ep i:Nat} {first:Value} (x:IsIt h I a n ep i first) (v:Value):IsIt (h.update I (Obj.mapFields (·.setIfInBounds 0 v))) I a n ep i v:=by
 obtain⟨o,ho,hc,hd⟩:=x
 exact⟨_,Heap.get?_update_self _ ho (Obj.isFreed_of_fields (Obj.data_mapFields hd _)),(Obj.cls_mapFields ..).trans hc,by rw[Obj.data_mapFields hd];simp⟩
theorem IsIt.set1 {h:Heap} {n ep i:Nat} {first:Value} (x:IsIt h I a n ep i first):IsIt (h.update I (Obj.mapFields (·.setIfInBounds 1 (rawInt ((i:Int) + 1))))) I a n ep (i + 1) first:=by
 obtain⟨o,ho,hc,hd⟩:=x
 exact⟨_,Heap.get?_update_self _ ho (Obj.isFreed_of_fields (Obj.data_mapFields hd _)),(Obj.cls_mapFields ..).trans hc,by rw[Obj.data_mapFields hd];simp [rawInt]⟩
theorem stop_now {Q:PySem.Fin->Shared->Prop} (hh:A.handled=none) (hE:∀ (e:Value) (h':Heap),(∀ b o,s.heap.get? b=some o->h'.get? b=some o)->Shared.TypeIs { s with heap:=h' } e "StopIteration"->E e { s with heap:=h' }) :
  wpAny (model prog w) A (newExc (.type "StopIteration") [] >>= fun e=>raiseNew e) Q E s:=by
 refine wpAny_bind ?_
 simp only [newExc,newTuple]
 refine wpAny_bind (wpAny_newObj_type ?_ (by size_fits))
 refine wpAny_bind (m:=firstArgMember _ _) (wpAny_of_eq (a:=Value.none) (by first | rfl | (simp only [firstArgMember];rfl)) (wpAny_newObj_type ?_ (by size_fits)))
 simp only [raiseNew]
 refine wpAny_bind (wpAny_handled ?_)
 rw[hh]
 refine wpAny_bind (wpAny_pure (wpAny_throw ?_))
 refine hE _ _ (fun b o e=>Heap.get?_push_of_some _ (Heap.get?_push_of_some _ e)) ?_
 exact⟨_,Heap.get?_push_size _ rfl,rfl⟩
section
variable {Q:Option Value->Shared->Prop} {i:Nat}
theorem int_item {x:Value} {z nx:Nat} (hs:IsSet s.heap a es ep t) (fit:t.fits es.size=true) (hit:IsIt s.heap I a es.size ep i (.int z 0))
  (hn:∀ (A':Around) (Q':Option (Value × Nat)->Shared->Prop) (E':Value->Shared->Prop),Q' (some (x,nx)) s->wpAny (model prog w) A' (setNext a z i ep) Q' E' s)
  (hQ:∀ h',IsIt h' I a es.size ep (i + 1) (.int nx 0)->Heap.SameBut I s.heap h'->Q (some x) { s with heap:=h' }):wpAny (model prog w) A (pyNext (.ref I)) Q E s:=by
 obtain⟨oi,hi,ci,di⟩:=id hit
 obtain⟨o,ho,_,od⟩:=hs
 unfold pyNext
 refine wpAny_bind (wpAny_attempt (wpAny_callSpecial?_slot (name:=Str.ofString "__next__") ⟨oi,hi,ci⟩ sl_next (wpAny_call_entry sl_next ⟨oi,hi,ci⟩ en_next ?_ (ar_next _))))
 show wpAny _ _ (fieldsOf (.ref I) >>= _) _ _ s
 refine wpAny_bind (wpAny_fieldsOf hi di ?_)
 show wpAny _ _ (setEntries a >>= _) _ _ s
 refine wpAny_bind (wpAny_setEntries_of ho od fit ?_)
 dsimp only
 rw[if_neg (by simp)]
 show wpAny _ _ (setNext a z i ep >>= _) _ _ s
 refine wpAny_bind (hn _ _ _ ?_)
 dsimp only
 refine wpAny_bind (wpAny_setField hi di (by simp) ?_)
 obtain⟨o1,hi1,ci1,di1⟩:=id (hit.set0 (rawInt nx))
 refine wpAny_bind (wpAny_setField hi1 di1 (by simp) (wpAny_pure ⟨x,rfl,wpAny_pure (hQ _ ?_ ((Heap.SameBut.update ..).trans (Heap.SameBut.update ..)))⟩))
 exact (hit.set0 (rawInt nx)).set1
theorem int_end {z:Nat} (hh:A.handled=none) (hs:IsSet s.heap a es ep t) (fit:t.fits es.size=true) (hit:IsIt s.heap I a es.size ep i (.int z 0))
  (hn:∀ (A':Around) (Q':Option (Value × Nat)->Shared->Prop) (E':Value->Shared->Prop),Q' none s->wpAny (model prog w) A' (setNext a z i ep) Q' E' s)
  (hQ:∀ h',(∀ b o,b≠I->s.heap.get? b=some o->h'.get? b=some o)->Q none { s with heap:=h' }):wpAny (model prog w) A (pyNext (.ref I)) Q E s:=by
 obtain⟨oi,hi,ci,di⟩:=id hit
 obtain⟨o,ho,_,od⟩:=hs
 unfold pyNext
 refine wpAny_bind (wpAny_attempt (wpAny_callSpecial?_slot (name:=Str.ofString "__next__") ⟨oi,hi,ci⟩ sl_next (wpAny_call_entry sl_next ⟨oi,hi,ci⟩ en_next ?_ (ar_next _))))
 show wpAny _ _ (fieldsOf (.ref I) >>= _) _ _ s
 refine wpAny_bind (wpAny_fieldsOf hi di ?_)
 show wpAny _ _ (setEntries a >>= _) _ _ s
 refine wpAny_bind (wpAny_setEntries_of ho od fit ?_)
 dsimp only
 rw[if_neg (by simp)]
 show wpAny _ _ (setNext a z i ep >>= _) _ _ s
 refine wpAny_bind (hn _ _ _ ?_)
 dsimp only
 refine wpAny_bind (wpAny_setField hi di (by simp) (stop_now hh fun e h' hk ty=>?_))
 refine wpAny_bind (wpAny_isInstance (T:="StopIteration") (b:=true) ty isSubtype_stop (wpAny_pure (hQ _ fun b o hb e=>hk b o ?_)))
 exact (Heap.get?_update_other _ _ (Ne.symm hb)).trans e
theorem ref_item {x:Value} {p:Addr} {pl:List Nat} {k:Nat} {hx:Int} (hs:IsSet s.heap a es ep t) (fit:t.fits es.size=true) (hit:IsIt s.heap I a es.size ep i (.ref p)) (hp:s.heap.IsTuple p (pl.map fun i=>rawInt (i:Nat)).toArray)
  (hk:pl[i]?=some k) (he:es[k]?=some (hx,x)) (hQ:∀ h',IsIt h' I a es.size ep (i + 1) (.ref p)->Heap.SameBut I s.heap h'->Q (some x) { s with heap:=h' }):wpAny (model prog w) A (pyNext (.ref I)) Q E s:=by
 obtain⟨oi,hi,ci,di⟩:=id hit
 obtain⟨o,ho,_,od⟩:=hs
 obtain⟨ol,hol,_,nl,hdl⟩:=hp
 unfold pyNext
 refine wpAny_bind (wpAny_attempt (wpAny_callSpecial?_slot (name:=Str.ofString "__next__") ⟨oi,hi,ci⟩ sl_next (wpAny_call_entry sl_next ⟨oi,hi,ci⟩ en_next ?_ (ar_next _))))
 show wpAny _ _ (fieldsOf (.ref I) >>= _) _ _ s
 refine wpAny_bind (wpAny_fieldsOf hi di ?_)
 show wpAny _ _ (setEntries a >>= _) _ _ s
 refine wpAny_bind (wpAny_setEntries_of ho od fit ?_)
 dsimp only
 rw[if_neg (by simp)]
 show wpAny _ _ (seqItems? (.ref p) >>= _) _ _ s
 refine wpAny_bind (wpAny_seqItems hol hdl ?_)
 have ek:(pl.map fun i=>rawInt (i:Nat)).toArray[i]?=some (.int k 0):=by rw[List.getElem?_toArray,List.getElem?_map,hk];rfl
 simp only [Int.toNat_natCast,ek]
 show wpAny _ _ (setNextDrawn a k ep >>= _) _ _ s
 refine wpAny_bind ?_
 unfold setNextDrawn
 refine wpAny_bind (wpAny_setState_of ho od fit ?_)
 dsimp only
 rw[if_neg (by simp),he]
 refine wpAny_pure (wpAny_bind (wpAny_setField hi di (by simp) (wpAny_pure ⟨x,rfl,wpAny_pure (hQ _ hit.set1 (Heap.SameBut.update ..))⟩)))
theorem ref_end {p:Addr} {pl:List Nat} (hh:A.handled=none) (hs:IsSet s.heap a es ep t) (fit:t.fits es.size=true) (hit:IsIt s.heap I a es.size ep i (.ref p)) (hp:s.heap.IsTuple p (pl.map fun i=>rawInt (i:Nat)).toArray)
  (hk:pl[i]?=none) (hQ:∀ h',(∀ b o,b≠I->s.heap.get? b=some o->h'.get? b=some o)->Q none { s with heap:=h' }):wpAny (model prog w) A (pyNext (.ref I)) Q E s:=by
 obtain⟨oi,hi,ci,di⟩:=id hit
 obtain⟨o,ho,_,od⟩:=hs
 obtain⟨ol,hol,_,nl,hdl⟩:=hp
 unfold pyNext
 refine wpAny_bind (wpAny_attempt (wpAny_callSpecial?_slot (name:=Str.ofString "__next__") ⟨oi,hi,ci⟩ sl_next (wpAny_call_entry sl_next ⟨oi,hi,ci⟩ en_next ?_ (ar_next _))))
 show wpAny _ _ (fieldsOf (.ref I) >>= _) _ _ s
 refine wpAny_bind (wpAny_fieldsOf hi di ?_)
 show wpAny _ _ (setEntries a >>= _) _ _ s
 refine wpAny_bind (wpAny_setEntries_of ho od fit ?_)
 dsimp only
 rw[if_neg (by simp)]
 show wpAny _ _ (seqItems? (.ref p) >>= _) _ _ s
 refine wpAny_bind (wpAny_seqItems hol hdl ?_)
 have ek:(pl.map fun i=>rawInt (i:Nat)).toArray[i]?=none:=by rw[List.getElem?_toArray,List.getElem?_map,hk];rfl
 simp only [Int.toNat_natCast,ek]
 refine wpAny_bind (wpAny_setField hi di (by simp) ?_)
 obtain⟨o1,hi1,ci1,di1⟩:=id (hit.set0 (rawInt 0))
 refine wpAny_bind (wpAny_setField hi1 di1 (by simp) (stop_now hh fun e h' hk ty=>?_))
 refine wpAny_bind (wpAny_isInstance (T:="StopIteration") (b:=true) ty isSubtype_stop (wpAny_pure (hQ _ fun b o hb e=>hk b o ?_)))
 exact (Heap.get?_update_other _ _ (Ne.symm hb)).trans ((Heap.get?_update_other _ _ (Ne.symm hb)).trans e)
end
end
end Stb
namespace Stb
open PySem PyProof.Rows
theorem sl_iter:Slot "set_iterator" "__iter__" "set_iterator.__iter__":=.of (owner:="set_iterator") (n:="__iter__") (by rw[typeLookup_type,builtinLookup_eq_fast];kernel_rfl) (by decide +kernel) (by decide +kernel) (by decide +kernel) (by first | exact .inl (by decide +kernel) | exact .inr (by decide +kernel)) (by rw[isSubtype_type];kernel_rfl)
theorem en_iter2:entryFor table "set_iterator.__iter__"=some Builtin.«dict_keyiterator.__iter__»:=entryFor_alias (id':="dict_keyiterator.__iter__") (by kernel_rfl) (by first | rfl | decide +kernel | (unfold String.splitOn;simp +decide [String.splitOnAux])) (by decide +kernel) (by kernel_rfl)
theorem ar_iter (a:Value):argsOk "set_iterator.__iter__" ⟨[a],[]⟩:=by
 unfold argsOk;rw[signature?_of (id:="set_iterator.__iter__") (n:=['_','_','r','e','t','i','_','_']) (o:=['r','o','t','a','r','e','t','i','_','t','e','s']) (by kernel_rfl) ow_next];kernel_rfl
section
variable {prog:Program} {w:World} {A:Around} {E:Value->Shared->Prop} {s:Shared} {a I:Addr} {es:Array (Int × Value)} {ep:Nat} {t:SetTable}
theorem iter_self {Q:Value->Shared->Prop} {n i:Nat} {f:Value} (hit:IsIt s.heap I a n ep i f) (h:Q (.ref I) s):wpAny (model prog w) A (pyIter (.ref I)) Q E s:=by
 obtain⟨oi,hi,ci,di⟩:=id hit
 refine wpAny_pyIter_slot ⟨oi,hi,ci⟩ sl_iter (wpAny_call_entry sl_iter ⟨oi,hi,ci⟩ en_iter2 ?_ (ar_iter _))
 show wpAny _ _ (ret (.ref I)) _ _ s
 exact wpAny_pure ⟨_,rfl,"set_iterator",_,⟨oi,hi,ci⟩,sl_next.lookup,h⟩
def fpK (I a:Addr):Knd->List Addr
 | .drawn p _=>[I,a,p]
 | _=>[I,a]
def StK (w:World) (a I:Addr) (es:Array (Int × Value)) (ep:Nat) (t:SetTable) (ord:List (Int × Value)) (kd:Knd) (i:Nat) (h:Heap):Prop :=
 IsSet h a es ep t∧∃ first,IsIt h I a es.size ep i first∧First w a es ep t ord i h first kd
theorem fp_I (I a:Addr):∀ kd,I ∈ fpK I a kd∧a ∈ fpK I a kd
 | .text=>by simp [fpK]
 | .drawn _ _=>by simp [fpK]
 | .places=>by simp [fpK]
theorem walk_set {ord:List (Int × Value)} {kd:Knd} (hh:A.handled=none) (aI:a≠I) (fit:t.fits es.size=true) (ti:TI (ledOf w) t) (hpI:∀ p pl,kd=.drawn p pl->p≠I) (pm:ord.Perm es.toList) :
  Walks prog w A I (fpK I a kd) [I] ord.length (fun i v=>∃ e,ord[i]?=some e∧v=e.2) (StK w a I es ep t ord kd) where
 sub:=fun b hb=>by simp at hb;rw[hb];exact (fp_I I a kd).1
 frame:=fun i h h' st hk=>by
  obtain⟨⟨o,ho,r⟩,f,⟨oi,hi,ri⟩,fk⟩:=st
  refine⟨⟨o,hk a (fp_I I a kd).2 o ho,r⟩,f,⟨oi,hk I (fp_I I a kd).1 oi hi,ri⟩,?_⟩
  cases kd with
  | text=>exact fk
  | places=>exact fk
  | drawn p pl =>
   obtain⟨e,⟨op,hp,rp⟩,rest⟩:=fk
   exact⟨e,⟨op,hk p (by simp [fpK]) op hp,rp⟩,rest⟩
 self:=fun i s Q E st hQ=>by
  obtain⟨_,f,hit,_⟩:=st
  exact iter_self hit hQ
 item:=fun i s Q E hi st hQ=>by
  obtain⟨hs,f,hit,fk⟩:=st
  have hsK:∀ h',Heap.SameBut I s.heap h'->IsSet h' a es ep t:=fun h' sb=>by
   obtain⟨o,ho,r⟩:=hs
   exact⟨o,sb.extBut a o aI ho,r⟩
  have kp:∀ h',Heap.SameBut I s.heap h'->∀ b o,b ∉ [I]->s.heap.get? b=some o->h'.get? b=some o:=fun h' sb b o hb e=>sb.extBut b o (fun z=>hb (by simp [z])) e
  have oi:ord[i]?=some ord[i]:=List.getElem?_eq_getElem hi
  cases kd with
  | text =>
   obtain⟨hl,eo,z,rfl⟩:=fk
   have ei:(pickOrder (w.params.setOrder a ep) es)[i]?=some ord[i]:=by rw[← Array.getElem?_toList,← eo];exact oi
   refine int_item (x:=ord[i].2) (nx:=z) hs fit hit (fun A' Q' E' q=>next_text hs fit hl ?_) fun h' hit' sb=>hQ _ h' s.toks ⟨_,oi,rfl⟩ ⟨hsK h' sb,_,hit',hl,eo,z,rfl⟩ (kp h' sb)
   rw[ei];exact q
  | places =>
   obtain⟨hl,hp,eo,z,rfl,eb⟩:=fk
   have ei:es[i]?=some ord[i]:=by rw[← Array.getElem?_toList,← eo];exact oi
   have szp:t.place.size=es.size:=by
    simp only [SetTable.fits,Bool.and_eq_true,beq_iff_eq] at fit
    exact fit.1
   have il:i < t.place.size:=by rw[szp];exact (Array.getElem?_eq_some_iff.mp ei).1
   have ep':t.place[i]?=some t.place[i]:=Array.getElem?_eq_getElem il
   refine int_item (x:=ord[i].2) (nx:=t.place[i] + 1) hs fit hit (fun A' Q' E' q=>next_places hs fit ti hl hp ?_) fun h' hit' sb=>hQ _ h' s.toks ⟨_,oi,rfl⟩ ⟨hsK h' sb,_,hit',hl,hp,eo,_,rfl,below_next _ ti.1 ep'⟩ (kp h' sb)
   rw[eb,ei,ep'];exact q
  | drawn p pl =>
   obtain⟨rfl,hp,el,hj⟩:=fk
   have il:i < pl.length:=el ▸ hi
   obtain⟨e,ek,eo⟩:=hj i _ (List.getElem?_eq_getElem il)
   obtain⟨hx,x⟩:=e
   refine ref_item (x:=x) hs fit hit hp (List.getElem?_eq_getElem il) ek fun h' hit' sb=>hQ _ h' s.toks ⟨_,eo,rfl⟩ ⟨hsK h' sb,_,hit',rfl,?_,el,hj⟩ (kp h' sb)
   obtain⟨op,hop,rp⟩:=hp
   exact⟨op,sb.extBut p op (hpI p pl rfl) hop,rp⟩
 done:=fun s Q E st hQ=>by
  obtain⟨hs,f,hit,fk⟩:=st
  have lo:ord.length=es.size:=by rw[pm.length_eq,Array.length_toList]
  have kp:∀ h':Heap,(∀ b o,b≠I->s.heap.get? b=some o->h'.get? b=some o)->∀ b o,b ∉ [I]->s.heap.get? b=some o->h'.get? b=some o:=fun h' k b o hb e=>k b o (fun z=>hb (by simp [z])) e
  cases kd with
  | text =>
   obtain⟨hl,eo,z,rfl⟩:=fk
   refine int_end hh hs fit hit (fun A' Q' E' q=>next_text hs fit hl ?_) fun h' k=>hQ h' s.toks (kp h' k)
   have:(pickOrder (w.params.setOrder a ep) es)[ord.length]?=none:=by rw[← Array.getElem?_toList,← eo,List.getElem?_eq_none (Nat.le_refl _)]
   rw[this];exact q
  | places =>
   obtain⟨hl,hp,eo,z,rfl,eb⟩:=fk
   refine int_end hh hs fit hit (fun A' Q' E' q=>next_places hs fit ti hl hp ?_) fun h' k=>hQ h' s.toks (kp h' k)
   have:es[ord.length]?=none:=by rw[lo];simp
   rw[eb,this];exact q
  | drawn p pl =>
   obtain⟨rfl,hp,el,hj⟩:=fk
   exact ref_end hh hs fit hit hp (by rw[el,List.getElem?_eq_none (Nat.le_refl _)]) fun h' k=>hQ h' s.toks (kp h' k)
end
end Stb
namespace Stb
open PySem PyProof.Rows
section
variable {prog:Program} {w:World} {A:Around} {E:Value->Shared->Prop} {s:Shared} {a:Addr} {es:Array (Int × Value)} {ep:Nat} {t:SetTable}
theorem is_drawn {Q:Bool->Shared->Prop} (hs:IsSet s.heap a es ep t) (fit:t.fits es.size=true) (h:Q (ledOf w && (!t.plain && decide (es.size > 1))) s):wpAny (model prog w) A (setDrawn a) Q E s:=by
 obtain⟨o,ho,_,od⟩:=hs
 unfold setDrawn setsByText
 refine wpAny_bind (wpAny_setState_of ho od fit ?_)
 exact wpAny_bind (wpAny_bind (wpAny_askSetting (wpAny_pure (wpAny_pure h))))
/-- iter of a set -/
theorem iter_set {Q:Value->Shared->Prop} (hs:IsSet s.heap a es ep t) (fit:t.fits es.size=true) (ti:TI (ledOf w) t) (small:es.size≤4096)
  (h:∀ (I:Addr) (h':Heap) (d':Drawn) (ord:List (Int × Value)) (kd:Knd),(∀ b o,s.heap.get? b=some o->h'.get? b=some o)->s.heap.objs.size≤I->(∀ p pl,kd=.drawn p pl->p≠I∧s.heap.objs.size≤p)->ord.Perm es.toList->StK w a I es ep t ord kd 0 h' ->
   Q (.ref I) { s with heap:=h',drawn:=d' }):wpAny (model prog w) A (pyIter (.ref a)) Q E s:=by
 obtain⟨o,ho,oc,od⟩:=id hs
 refine wpAny_pyIter_slot ⟨o,ho,oc⟩ PySem.F.slot_set_iter (wpAny_call_entry PySem.F.slot_set_iter ⟨o,ho,oc⟩ en_iter ?_ (PySem.F.args_set_iter_1 _))
 unfold Builtin.«frozenset.__iter__» Builtin.Frozenset.sizeOf
 show wpAny _ _ ((setEntries a >>= fun x=>pure x.size) >>= _) _ _ s
 refine wpAny_bind (wpAny_bind (wpAny_setEntries_of ho od fit (wpAny_pure (wpAny_bind (is_drawn hs fit ?_)))))
 have lastT : ∀ (h1 : Heap) (first : Value) (d' : Drawn) (ord : List (Int × Value)) (kd : Knd), (∀ b o, s.heap.get? b = some o → h1.get? b = some o) → s.heap.objs.size ≤ h1.objs.size → (∀ p pl, kd = .drawn p pl → p < h1.objs.size ∧ s.heap.objs.size ≤ p) → ord.Perm es.toList → (∀ h', (∀ b o, h1.get? b = some o → h'.get? b = some o) → First w a es ep t ord 0 h' first kd) →
     wpAny (model prog w) A.in1 (setEpoch a >>= fun e=>newFields "set_iterator" [first,rawInt 0,.ref a,rawInt es.size,rawInt e] >>= fun v=>ret v) (fun fin s'=>∃ v,fin=.done (.ret v)∧∃ T' r,s'.TypeIs v T'∧typeLookup (.type T') (Str.ofString "__next__")=pure (some r)∧Q v s') E { s with heap:=h1,drawn:=d' }:=fun h1 first d' ord kd hk sz hp pm hf=>by
  refine wpAny_bind (wpAny_setEpoch_of (hk a o ho) od fit (wpAny_bind (wpAny_newObj_type (wpAny_pure ⟨_,rfl,"set_iterator",_,⟨_,Heap.get?_push_size _ rfl,rfl⟩,sl_next.lookup,?_⟩))))
  exact h _ _ d' ord kd (fun b o e=>Heap.get?_push_of_some _ (hk b o e)) sz (fun p pl e=>⟨Nat.ne_of_lt (hp p pl e).1,(hp p pl e).2⟩) pm ⟨⟨o,Heap.get?_push_of_some _ (hk a o ho),oc,od⟩,first,⟨_,Heap.get?_push_size _ rfl,rfl,rfl⟩,hf _ fun b o e=>Heap.get?_push_of_some _ e⟩
 dsimp only
 have es0:s={ s with heap:=s.heap,drawn:=s.drawn }:=by cases s;rfl
 by_cases c:(ledOf w && (!t.plain && decide (es.size > 1)))=true
 ·rw[if_pos c]
  refine wpAny_bind (wp_drawOrder _ _ _ _ (by simp) fun ys d' pm=>?_)
  have yl:ys.length=es.size:=by rw[pm.length_eq,List.length_range]
  have line:es.size≤sizeLine:=by rw[sizeLine_eq];omega
  refine wpAny_bind (wpAny_newObj_type ?_ (by show (ys.map fun i=>rawInt (i:Nat)).toArray.size≤sizeLine;simpa [yl] using line))
  have ordE:∀ k ∈ ys,∃ e,es[k]?=some e:=fun k hk=>by
   have:k < es.size:=by simpa using pm.mem_iff.mp hk
   exact⟨_,Array.getElem?_eq_getElem this⟩
  have fm:∀ l:List Nat,(∀ k ∈ l,∃ e,es[k]?=some e)->(l.filterMap (es[·]?)).length=l.length∧∀ j k:Nat,l[j]?=some k->∃ e,es[k]?=some e∧(l.filterMap (es[·]?))[j]?=some e:=fun l=>by
   induction l with
   | nil=>exact fun _=>⟨rfl,fun j k e=>by simp at e⟩
   | cons x l ih =>
    intro hx
    obtain⟨e,he⟩:=hx x (by simp)
    obtain⟨h1,h2⟩:=ih fun k hk=>hx k (List.mem_cons_of_mem _ hk)
    rw[List.filterMap_cons_some (b:=e) he]
    refine⟨by simp [h1],fun j k ej=>?_⟩
    cases j with
    | zero=>simp at ej;subst ej;exact⟨e,he,rfl⟩
    | succ j=>simp only [List.getElem?_cons_succ] at ej ⊢;exact h2 j k ej
  obtain⟨f1,f2⟩:=fm ys ordE
  refine lastT _ (.ref s.heap.objs.size) d' (ys.filterMap (es[·]?)) (.drawn s.heap.objs.size ys) (fun b o e=>Heap.get?_push_of_some _ e) (by rw[Heap.size_push];exact Nat.le_succ _) (fun p pl e=>by cases e;rw[Heap.size_push];exact⟨Nat.lt_succ_self _,Nat.le_refl _⟩) ?_ fun h' k=>⟨rfl,⟨_,k _ _ (Heap.get?_push_size _ rfl),rfl,_,rfl⟩,f1,f2⟩
  exact (pm.filterMap _).trans (by rw[filterMap_getElem?_range])
 ·rw[if_neg c]
  refine wpAny_bind (wpAny_pure ?_)
  cases cl:ledOf w with
  | false =>
   rw[es0]
   exact lastT s.heap (rawInt 0) s.drawn _ .text (fun _ _ e=>e) (Nat.le_refl _) (fun p pl e=>nomatch e) (pick_perm _ es) fun h' k=>⟨cl,rfl,0,rfl⟩
  | true =>
   rw[es0]
   refine lastT s.heap (rawInt 0) s.drawn es.toList .places (fun _ _ e=>e) (Nat.le_refl _) (fun p pl e=>nomatch e) (.refl _) fun h' k=>⟨cl,?_,rfl,0,rfl,below_zero _ ti.1⟩
   rw[cl] at c
   cases pl:t.plain with
   | true=>exact .inl rfl
   | false=>rw[pl] at c;exact .inr (by simpa using c)
theorem hint_set {Q:Bool->Shared->Prop} (hT:s.TypeIs (.ref a) "set") (h:Q false s):wpAny (model prog w) A (Builtin.List.listLengthHint (.ref a)) Q E s:=by
 unfold Builtin.List.listLengthHint
 refine wpAny_bind (wpAny_specialOf hT PySem.F.slot_set_len.lookup ?_)
 generalize hid:("set.__len__":String)=id0
 wp_delta
 rw[show splitId id0=some ("set","__len__") from by subst hid;decide +kernel]
 subst hid
 refine wpAny_bind (wpAny_isInstance (T:="set") (b:=true) hT (by rw[isSubtype_type];kernel_rfl) (wpAny_ite_split (fun z=>absurd z (by decide)) fun _=>?_))
 refine wpAny_ite_split (fun _=>wpAny_bind (wpAny_typeOf hT (wpAny_pure h))) (fun z=>absurd (by decide +kernel) z)
theorem ints_of:∀ l:List (Int × Value),ElemsOf (intKind prog w) l->∃ ks,IntsAre (l.map (·.2)) ks∧ks.length=l.length∧∀ k,k ∈ ks↔∃ e ∈ l,(intKind prog w).is k e.2=true
 | [],_=>⟨[],.nil,rfl,fun k=>by simp⟩
 | e::l,h=>by
  obtain⟨ks,h1,h2,h3⟩:=ints_of l h.tail
  obtain⟨⟨k,hk,_⟩,_⟩:=h.head
  obtain⟨hx,x⟩:=e
  obtain⟨u,rfl⟩:=Value.isInt_shape hk
  refine⟨k::ks,.cons k u h1,by simp [h2],fun y=>?_⟩
  rw[List.mem_cons,h3 y]
  constructor
  ·rintro (rfl | ⟨e,he,q⟩)
   ·exact⟨_,List.mem_cons_self,hk⟩
   ·exact⟨e,List.mem_cons_of_mem _ he,q⟩
  ·rintro ⟨e,he,q⟩
   rcases List.mem_cons.mp he with rfl | he
   ·exact .inl ((intKind prog w).inj _ _ _ q hk)
   ·exact .inr ⟨e,he,q⟩
theorem got_all {ord:List (Int × Value)} {acc:Array Value} (h:ItemsOf (fun i v=>∃ e,ord[i]?=some e∧v=e.2) acc ord.length):acc.toList=ord.map (·.2):=by
 refine List.ext_getElem (by simp [h.1]) fun i h1 h2=>?_
 have hi:i < acc.size:=by simpa using h1
 obtain⟨e,e1,e2⟩:=h.2 i _ (Array.getElem?_eq_getElem hi)
 have hi2:i < ord.length:=by simpa using h2
 rw[List.getElem?_eq_getElem hi2] at e1
 cases e1
 simpa using e2
/-- all of a set, as a list -/
theorem collect_set {Q:List Value->Shared->Prop} {S:Int->Bool} {n:Nat} (hh:A.handled=none) (st:SetT prog w s.heap a S n)
  (hQ:∀ (h':Heap) (tk:Nat) (d':Drawn) (vs:List Value) (ks:List Int),(∀ b o,s.heap.get? b=some o->h'.get? b=some o)->IntsAre vs ks->ks.length=n->(∀ k,S k=true↔k ∈ ks)->Q vs { s with heap:=h',toks:=tk,drawn:=d' }) :
  wpAny (model prog w) A (collect (.ref a)) Q E s:=by
 obtain⟨⟨o,es,ep,t,ho,ox,od,el,me,small,fit,en⟩,o',es',ep',t',ho',od',ti⟩:=st
 rw[ho] at ho';cases ho'
 rw[od] at od';cases od'
 unfold collect
 refine wpAny_bind (wpAny_runValue (codeAny_builtin PySem.F.entry_proto_collect ?_))
 rw[Around.under_plainId PySem.F.plain_proto_collect _]
 show wpAny _ A.in1 (newList [] >>= fun l=>again (.builtin "list.__iadd__" ⟨[l,.ref a],[]⟩)) _ _ s
 refine wpAny_bind (wpAny_newObj_type ?_)
 refine wpAny_pure ⟨plainId_quiet PySem.F.plain_list_iadd _,codeAny_builtin PySem.F.entry_list_iadd ?_⟩
 rw[Around.under_plainId PySem.F.plain_list_iadd _]
 show wpAny _ A.in1 (Builtin.List.listExtendWith (.ref s.heap.objs.size) (.ref a) (.ref s.heap.objs.size)) _ _ _
 have alt:a < s.heap.objs.size:=Heap.lt_size ho
 have hS:(s.heap.push { cls:=.type "list",data:=.seq ([]:List Value).toArray }).get? s.heap.objs.size=some { cls:=.type "list",data:=.seq #[] }:=Heap.get?_push_size _ rfl
 have szL:(s.heap.push { cls:=.type "list",data:=.seq ([]:List Value).toArray }).objs.size=s.heap.objs.size + 1:=Heap.size_push ..
 unfold Builtin.List.listExtendWith
 have tS:Shared.TypeIs { s with heap:=s.heap.push { cls:=.type "list",data:=.seq ([]:List Value).toArray } } (.ref a) "set":=⟨o,Heap.get?_push_of_some _ ho,ox.1⟩
 refine wpAny_bind (wpAny_typeOf (T:="set") tS ?_)
 have h1:Builtin.List.listSameRef (.ref s.heap.objs.size) (.ref a)=false:=by simp only [Builtin.List.listSameRef,beq_eq_false_iff_ne];exact Nat.ne_of_gt alt
 have h2:(Value.type "set" == Value.type "list")=false:=by decide
 have h3:(Value.type "set" == Value.type "tuple")=false:=by decide
 simp only [h1,h2,h3,Bool.or_false,Bool.false_eq_true,if_false]
 refine wpAny_bind (iter_set (t:=t) ⟨o,Heap.get?_push_of_some _ ho,ox.1,od⟩ fit ti (Nat.le_of_lt small) fun I h1 d1 ord kd hk lI hp pm stk=>?_)
 refine wpAny_bind (wpAny_holding (hint_set ⟨o,hk a o (Heap.get?_push_of_some _ ho),ox.1⟩ ?_))
 refine wpAny_ite_split (fun _=>?_) (fun z=>absurd (by decide) z)
 refine wpAny_bind (wpAny_rule ?_)
 refine wpAny_bind ?_
 show wpAny _ _ (updateSeq s.heap.objs.size (·.push .none) >>= fun _=>updateSeq s.heap.objs.size (·.pop)) _ _ _
 have g1:=hk _ _ hS
 refine wpAny_bind (wpAny_updateSeq g1 rfl ?_)
 have g2:=Heap.get?_update_self (Obj.mapSeq (·.push Value.none)) g1 rfl
 refine wpAny_updateSeq (hz:=by seq_fits) g2 rfl ?_
 have g3:=Heap.get?_update_self (Obj.mapSeq (·.pop)) g2 rfl
 have neI:s.heap.objs.size≠I:=Nat.ne_of_lt (Nat.lt_of_lt_of_le (by rw[szL];exact Nat.lt_succ_self _) lI)
 have nfp:s.heap.objs.size ∉ fpK I a kd:=by
  cases kd with
  | text=>simp only [fpK,List.mem_cons,List.not_mem_nil,or_false,not_or];exact⟨neI,Nat.ne_of_gt alt⟩
  | places=>simp only [fpK,List.mem_cons,List.not_mem_nil,or_false,not_or];exact⟨neI,Nat.ne_of_gt alt⟩
  | drawn p pl =>
   simp only [fpK,List.mem_cons,List.not_mem_nil,or_false,not_or]
   exact⟨neI,Nat.ne_of_gt alt,Nat.ne_of_lt (Nat.lt_of_lt_of_le (by rw[szL];exact Nat.lt_succ_self _) (hp p pl rfl).2)⟩
 have aI:a≠I:=Nat.ne_of_lt (Nat.lt_of_lt_of_le (by rw[szL];exact Nat.lt_succ_of_lt alt) lI)
 have W:=walk_set (prog:=prog) (w:=w) (A:=A.in1) (ep:=ep) (ord:=ord) (kd:=kd) hh aI fit ti (fun p pl e=>(hp p pl e).1) pm
 have kU:∀ b o,b≠s.heap.objs.size->h1.get? b=some o->((h1.update s.heap.objs.size (Obj.mapSeq (·.push Value.none))).update s.heap.objs.size (Obj.mapSeq (·.pop))).get? b=some o:=fun b o hb e =>
  (Heap.get?_update_other _ _ (Ne.symm hb)).trans ((Heap.get?_update_other _ _ (Ne.symm hb)).trans e)
 have st1:=W.frame 0 _ _ stk fun b hb o e=>kU b o (fun z=>nfp (z ▸ hb)) e
 have lo:ord.length=n:=by rw[pm.length_eq,Array.length_toList,en]
 refine wpAny_pure ⟨plainId_quiet PySem.F.plain_extend_loop _,codeAny_extend_loopS W.toS (by rw[lo,← en];exact fits_of_scanBound small) s.heap.objs.size nfp _ ord.length 0 _ #[] _ rfl (Nat.zero_le _) st1 g3 (ItemsOf.nil _) fun s' acc' c' hm hS' hacc=>?_⟩
 rw[Moved.eq_with hm]
 refine wpAny_bind (wpAny_load hS' (wpAny_pure ?_))
 obtain⟨ks,i1,i2,i3⟩:=ints_of (prog:=prog) (w:=w) ord (el.perm pm)
 rw[got_all hacc]
 refine hQ _ _ _ _ ks (fun b o e=>hm.heap b o ?_ (kU b o (Nat.ne_of_lt (Heap.lt_size e)) (hk b o (Heap.get?_push_of_some _ e)))) i1 (i2.trans lo) fun k=>(me k).trans ?_
 ·simp only [List.mem_cons,List.not_mem_nil,or_false,not_or]
  have:=Heap.lt_size e
  exact⟨Nat.ne_of_lt this,Nat.ne_of_lt (Nat.lt_of_lt_of_le (by rw[szL];exact Nat.lt_succ_of_lt this) lI)⟩
 ·rw[i3 k]
  exact⟨fun ⟨e,he,q⟩=>⟨e,pm.mem_iff.mpr he,q⟩,fun ⟨e,he,q⟩=>⟨e,pm.mem_iff.mp he,q⟩⟩
end
end Stb
namespace Srt
open PySem PySem.Spec PyProof.Rows PySem.W
section
variable {prog:Program} {w:World} {A:Around} {E:Value->Shared->Prop} {s:Shared}
/-- sorted(x), x what collect makes some list of -/
theorem sorted_from {x:Value} {Q:Value->Shared->Prop} {Good:List Value->Shared->Prop}
  (hcol:∀ (A':Around) (E':Value->Shared->Prop) (Q':List Value->Shared->Prop),A'.handled=A.handled->(∀ vs s',Good vs s'->Q' vs s')->wpAny (model prog w) A' (collect x) Q' E' s)
  (hg:∀ vs s1,Good vs s1->∃ (r:Nat->Int) (κ:SortKind),vs.length < 64∧(2≤vs.length->∀ (A':Around) (s':Shared) (Q:SortKind->Shared->Prop),Q κ s'->wpAny (model prog w) A' (keyKind' vs.toArray) Q (fun _ _=>False) s') ∧
   (∀ (A':Around) (s':Shared) (i j:Nat) (C:Bool->Shared->Prop),i < vs.length->j < vs.length->C (decide (r i < r j)) s'->kas_ask prog w A' κ vs i j C s') ∧
   ∀ (p:Array Nat) (h':Heap) (c:Nat),Gd vs.length p->Up r p vs.length->(∀ b o,s1.heap.get? b=some o->h'.get? b=some o)->h'.get? s1.heap.objs.size=some (seqObj "list" (outOf vs p).toArray c)->Q (.ref s1.heap.objs.size) { s1 with heap:=h' }) :
  wpAny (model prog w) A (call (.builtin "sorted") [x]) Q E s:=by
 have line:(64:Nat)≤sizeLine:=by rw[sizeLine_eq];decide
 refine Calls.call_function_entry kind_sorted plain_sorted entry_sorted (args_sorted1 _) ?_
 unfold Builtin.«sorted»
 refine wpAny_bind (m:=checkCount "sorted" 1 1 _) (wpAny_pure (wpAny_bind (hcol _ _ _ rfl fun vs s1 g=>?_)))
 obtain⟨r,κ,h64,hk,hc,h⟩:=hg vs s1 g
 refine wpAny_bind (wpAny_newList ?_ (by omega))
 have hoL:(s1.heap.push { cls:=.type "list",data:=.seq vs.toArray }).get? s1.heap.objs.size=some (seqObj "list" vs.toArray 0):=Heap.get?_push_size _ rfl
 have ne2:∀ b o,s1.heap.get? b=some o->b≠s1.heap.objs.size:=fun b o q=>Nat.ne_of_lt (Heap.lt_size q)
 show wpAny _ _ _ _ _ { s1 with heap:=s1.heap.push { cls:=.type "list",data:=.seq vs.toArray } }
 refine wpAny_bind (wpAny_holding (wpAny_call_entry slot_list_sort ⟨_,hoL,rfl⟩ entry_list_sort ?_ (args_list_sort _)))
 refine lsort (s:={ s1 with heap:=s1.heap.push { cls:=.type "list",data:=.seq vs.toArray } }) (r:=r) (κ:=κ) hoL h64 (fun h2 s' Q' st q=>hk h2 _ s' Q' q) (fun s' i j C st hi hj q=>hc _ s' i j C hi hj q) fun p h' c g1 u1 st e=>⟨_,rfl,?_⟩
 exact wpAny_pure ⟨_,rfl,h p h' c g1 u1 (fun b o q=>st b o (ne2 b o q) (Heap.get?_push_of_some _ q)) e⟩
end
end Srt
namespace L3
open PySem PySem.Spec PyProof.Rows L2
/-- a set that can be walked -/
def SetO (P:Program) (w:World) (a:Addr) (S:Int->Bool) (n:Nat):HO:=.ext fun h=>Stb.SetT P w h a S n
section
variable {X:Cx}
theorem call_sortedS (hh:X.calm=true):CallR X (.builtin "sorted") (fun xs H Q=>∃ (p:Addr) (S:Int->Bool) (n:Nat),xs=[.ref p]∧H p=some (SetO X.prog X.w p S n)∧n < 64∧∀ ms:List Int,ms.length=n->(∀ k,S k=true↔k ∈ ms)->ms.Pairwise (·≤·)->∀ l H',Same H H'->H l=none->H' l=some (.lst (ms.map V.int))->Q (.ref l) H'):=by
 intro pins s σ H xs us Q I r h
 obtain⟨p,S,n,rfl,hp,h64,q⟩:=h
 obtain⟨u,rfl,rx⟩:=vals1 r
 cases rx
 have hS:Stb.SetT X.prog X.w s.heap p S n:=(show ObjOk X.prog X.w H s.heap p (SetO X.prog X.w p S n) from I.hok p _ hp).1
 refine Srt.sorted_from (Good:=fun vs s1=>∃ (h1:Heap) (tk:Nat) (d':Drawn) (ns:List Int),s1={ s with heap:=h1,toks:=tk,drawn:=d' }∧(∀ b o,s.heap.get? b=some o->h1.get? b=some o)∧IntsAre vs ns∧ns.length=n∧∀ k,S k=true↔k ∈ ns)
  (fun A' E' Q' eh hQ=>Stb.collect_set (eh.trans (I.ok.hd hh)) hS fun h1 tk d' vs ns hk hI hl hm=>hQ vs _ ⟨h1,tk,d',ns,rfl,hk,hI,hl,hm⟩) fun its s1 g=>?_
 obtain⟨gg,tk,d',ns,rfl,kg,hI,hn,hm⟩:=g
 have hl:its.length=ns.length:=by
  clear hn hm
  induction hI with
  | nil=>rfl
  | cons n t _ ih=>simp [ih]
 refine⟨fun i=>ns.getD i 0,oneType',by omega,fun h2 A' s' Q' q'=>Srt.int_kind hI h2 q',fun A' s' i j C hi hj q'=>Srt.int_ask hI hi hj q',fun pp h' c g u kp e=>?_⟩
 have g':Srt.Gd ns.length pp:=by rw[← hl];exact g
 have u':Srt.Up (fun i=>ns.getD i 0) pp ns.length:=by rw[← hl];exact u
 have pm:(pp.toList.map fun i=>ns.getD i 0).Perm ns:=by
  have:=gd_perm g' fun i=>ns.getD i 0
  rw[range_getD] at this
  exact this
 have pw:(pp.toList.map fun i=>ns.getD i 0).Pairwise (·≤·):=by
  rw[List.pairwise_map]
  exact up_pair g' u' fun i j _ _ z=>z
 have I1:Inv X pins σ H { s with heap:=gg,toks:=tk,drawn:=d' }:=by
  have:=I.kept (t':=tk) kg
  exact⟨this.ok,this.os,this.bare,this.base,this.loc,this.cell,this.free,this.freeC,this.pin,this.hok,this.len⟩
 have fr:H gg.objs.size=none:=I1.hok.fresh (Nat.le_refl _)
 have ev:((pp.toList.map fun i=>ns.getD i 0).map V.int)=pp.toList.map fun i=>(ns.map V.int).getD i .non:=by
  rw[List.map_map]
  refine List.map_congr_left fun i hi=>?_
  have:=gd_mem g' i hi
  simp [List.getD,this]
 have rv:Vals (ns.map V.int) its:=by
  clear hn hm g' u' pm pw ev hl g u e kp
  induction hI with
  | nil=>exact .nil
  | cons n t _ ih=>exact .cons ⟨t,rfl⟩ ih
 refine⟨.ref gg.objs.size,_,I1.laid (a:=gg.objs.size) (o:=.lst ((pp.toList.map fun i=>ns.getD i 0).map V.int)) (t':=tk) kp (Nat.le_refl _) ⟨?_,Srt.outOf its pp,c,?_,e⟩,rfl,q _ (pm.length_eq.trans hn) (fun k=>(hm k).trans pm.mem_iff.symm) pw _ _ (same_new fr) fr upd_same⟩
 ·have:=pm.length_eq
  have line:(64:Nat)≤sizeLine:=by rw[sizeLine_eq];decide
  rw[List.length_map,this];omega
 ·rw[ev]
  exact vals_out rv pp.toList fun i hi=>by rw[List.length_map];exact gd_mem g' i hi
end
end L3
namespace L3
open PySem PySem.Spec PyProof.Rows L2
theorem firstMet_nodup (val:Nat->Int):∀ i,(firstMet val i).Nodup∧∀ k,k ∈ firstMet val i↔k ∈ (List.range i).map val
 | 0=>⟨by rw[firstMet_zero];exact List.nodup_nil,fun k=>by rw[firstMet_zero];simp⟩
 | i + 1=>by
  obtain⟨h1,h2⟩:=firstMet_nodup val i
  rw[firstMet_succ,List.range_succ,List.map_append]
  unfold step_dedup
  by_cases c:(firstMet val i).any (fun y=>y == val i)=true
  ·rw[if_pos c]
   obtain⟨y,hy,e⟩:=List.any_eq_true.mp c
   have e':y=val i:=by simpa using e
   refine⟨h1,fun k=>?_⟩
   rw[h2 k,List.mem_append]
   refine⟨.inl,fun z=>z.elim id fun z=>?_⟩
   have:k=val i:=by simpa using z
   rw[this,← e',← h2 y];exact hy
  ·rw[if_neg c]
   refine⟨List.nodup_append.mpr ⟨h1,by simp,fun a ha b hb e=>c (List.any_eq_true.mpr ⟨a,ha,?_⟩)⟩,fun k=>by rw[List.mem_append,List.mem_append,h2 k];simp⟩
   have:b=val i:=by simpa using hb
   simp [e,this]
theorem perm_of_len:∀ {l m:List Int},l.Nodup->(∀ x ∈ l,x ∈ m)->m.length≤l.length->m.Perm l
 | [],m,_,_,h=>by
  have:m=[]:=List.length_eq_zero_iff.mp (by simpa using h)
  rw[this]
 | x::l,m,nd,sub,h=>by
  have hx:=sub x List.mem_cons_self
  obtain⟨nx,nl⟩:=List.nodup_cons.mp nd
  have pe:=List.perm_cons_erase hx
  refine pe.trans (List.Perm.cons x (perm_of_len nl (fun y hy=>?_) ?_))
  ·exact (List.mem_erase_of_ne fun e=>nx (by rw[← e];exact hy)).mpr (sub y (List.mem_cons_of_mem _ hy))
  ·rw[List.length_erase_of_mem hx];simp at h;omega
theorem setS_mem (ns:List Int) (k:Int):HT.setS ns ns.length k=true↔k ∈ ns:=by
 have:=(firstMet_nodup (fun i=>ns.getD i 0) ns.length).2 k
 rw[range_getD] at this
 rw[← this]
 unfold HT.setS
 rw[List.any_eq_true]
 exact⟨fun ⟨y,hy,e⟩=>by rw[← show y=k by simpa using e];exact hy,fun h=>⟨k,h,by simp⟩⟩
/-- what a set gives, sorted, has no number twice -/
theorem set_told {ns ms:List Int} (hl:ms.length=HT.setN ns ns.length) (hm:∀ k,HT.setS ns ns.length k=true↔k ∈ ms):ms.Nodup∧∀ k,k ∈ ms↔k ∈ ns:=by
 obtain⟨n1,n2⟩:=firstMet_nodup (fun i=>ns.getD i 0) ns.length
 rw[range_getD] at n2
 have pm:=perm_of_len (m:=ms) n1 (fun x hx=>(hm x).mp ((setS_mem ns x).mpr ((n2 x).mp hx))) (Nat.le_of_eq hl)
 exact⟨pm.nodup_iff.mpr n1,fun k=>(hm k).symm.trans (setS_mem ns k)⟩
end L3
namespace L3
open PySem PySem.Spec PyProof.Rows L2
end L3
namespace L3
open PySem PySem.Spec PyProof.Rows L2
theorem tb_one {n:Int} {ts:List Tie} (ok:WebOk n ts) {u v j k:Nat} (hj:j < ts.length) (hk:k < ts.length) (h1:isTB ts u v j=true) (h2:isTB ts u v k=true):j=k:=by
 unfold isTB at h1 h2
 obtain⟨a1,b1⟩:=(Bool.and_eq_true _ _).mp h1
 obtain⟨a2,b2⟩:=(Bool.and_eq_true _ _).mp h2
 have ea:(tieAt ts j).1=(tieAt ts k).1:=(of_decide_eq_true a1).trans (of_decide_eq_true a2).symm
 have eb:(tieAt ts j).2.1=(tieAt ts k).2.1:=(of_decide_eq_true b1).trans (of_decide_eq_true b2).symm
 clear a1 a2 b1 b2 h1 h2
 have pw:=List.pairwise_iff_getElem.mp ok.rise
 have g:∀ {i:Nat} (hi:i < ts.length),ts[i]=tieAt ts i:=fun {i} hi=>by
  have:=(tieAt_in hi).1
  rw[List.getElem?_eq_getElem hi] at this
  exact Option.some.inj this
 rcases Nat.lt_trichotomy j k with z | z | z
 ·have q:=pw j k hj hk z
  rw[g hj,g hk] at q
  unfold endLt at q
  omega
 ·exact z
 ·have q:=pw k j hk hj z
  rw[g hj,g hk] at q
  unfold endLt at q
  omega
end L3
namespace L3
open PySem PySem.Spec PyProof.Rows L2
section
variable {g:TG} {tt:TT} {te:TE} {own:List Str} {js:List Nat} {σ:L2.St} {H1:Hp} {Q:VK}
end
/-- a row of whole numbers, of so many at the most -/
def RowV (lo hi:Nat) (J:Hp) (v:V):Prop:=∃ (p:Addr) (ns:List Int),v=.ref p∧J p=some (.tup (ns.map V.int))∧lo≤ns.length∧ns.length≤hi
theorem RowV.tk {lo hi:Nat} {J J':Hp} {v:V} (k:TupKeep J J') (h:RowV lo hi J v):RowV lo hi J' v:=let ⟨p,ns,e,e1,r⟩:=h;⟨p,ns,e,k _ _ e1,r⟩
def spTruth:Sp:=fun vs H Q _=>∃ a b,vs=[.bl a,.bl b]∧Q (.bl (decide (a=b))) H
end L3
namespace L3
open PySem PySem.Spec PyProof.Rows L2
theorem cut_row (ns:List Int) (lo hi:Option Int):∃ ms:List Int,cutV (ns.map V.int) lo hi=ms.map V.int∧ms.length≤ns.length:=by
 refine⟨(ns.drop (HT.sIx (ns.map V.int).length 0 lo)).take (HT.sIx (ns.map V.int).length (ns.map V.int).length hi - HT.sIx (ns.map V.int).length 0 lo),?_,?_⟩
 ·unfold cutV;rw[List.map_take,List.map_drop]
 ·rw[List.length_take,List.length_drop];omega
end L3
namespace L3
open PySem PySem.Spec PyProof.Rows L2
mutual
theorem Is.tk {K:PySem.W.Frag} {H H':Hp} (e:TupKeep H H'):∀ (d:PyData) {v:V},tupD d=true->Is K H d v->Is K H' d v
 | .none,_,_,h=>h
 | .bool _,_,_,h=>h
 | .int _,_,_,h=>h
 | .str _,_,_,h=>h
 | .tuple ds,_,t,h=>let ⟨q,vs,q1,q2,q3⟩:=h;⟨q,vs,q1,e _ _ q2,IsAll.tk e ds t q3⟩
 | .list ds,_,t,h=>by cases t
 | .dict _,_,t,h=>by cases t
theorem IsAll.tk {K:PySem.W.Frag} {H H':Hp} (e:TupKeep H H'):∀ (ds:List PyData) {vs:List V},tupAll ds=true->IsAll K H ds vs->IsAll K H' ds vs
 | [],_,_,h=>h
 | d::ds,_,t,h=>by
  have t':(tupD d && tupAll ds)=true:=t
  rw[Bool.and_eq_true] at t'
  obtain⟨v,r,q1,q2,q3⟩:=h
  exact⟨v,r,q1,Is.tk e d t'.1 q2,IsAll.tk e ds t'.2 q3⟩
end
end L3
namespace Peel
/-- ties by their ends -/
abbrev T2:=Nat × Nat
/-- kept ties of p to places that aren't gone -/
def hit (gone:List Nat) (p:Nat) (t:T2):Bool:=(t.1 == p && !gone.contains t.2) || (t.2 == p && !gone.contains t.1)
def deg (ts:List T2) (gone:List Nat) (p:Nat):Nat:=ts.countP (hit gone p)
def may (ts:List T2) (d:Int) (gone:List Nat) (p:Nat):Bool:=!gone.contains p && decide ((deg ts gone p:Int)≤d)
def next (n:Nat) (ts:List T2) (d:Int) (gone:List Nat):Option Nat:=(List.range n).find? (may ts d gone)
def run (n:Nat) (ts:List T2) (d:Int):Nat->List Nat->List Nat
 | 0,g=>g
 | f + 1,g=>match next n ts d g with
  | none=>g
  | some p=>run n ts d f (g++[p])
section
variable {n:Nat} {ts:List T2} {d:Int} {g:List Nat} {p:Nat}
/-- good: places of the web, none twice -/
def Good (n:Nat) (g:List Nat):Prop:=g.Nodup∧∀ p ∈ g,p < n
theorem len_below:∀ (n:Nat) (g:List Nat),g.Nodup->(∀ p ∈ g,p < n)->g.length≤n
 | 0,[],_,_=>Nat.le_refl _
 | 0,p::_,_,h=>absurd (h p List.mem_cons_self) (Nat.not_lt_zero _)
 | n + 1,g,nd,h=>by
  have h1:=len_below n (g.filter fun p=>p != n) (nd.filter _) fun p hp=>by
   have:=List.mem_filter.mp hp
   have a:=h p this.1
   have b:p≠n:=by simpa using this.2
   omega
  have e:g.length=(g.filter fun p=>p != n).length + g.countP (fun p=>p == n):=by
   rw[← List.countP_eq_length_filter]
   have:=List.length_eq_countP_add_countP (fun p=>p == n) (l:=g)
   have e2:g.countP (fun p=>decide ¬(p == n)=true)=g.countP fun p=>p != n:=List.countP_congr fun x _=>by simp
   rw[e2] at this
   omega
  have c:g.countP (fun p=>p == n)≤1:=by
   have:=List.nodup_iff_count.mp nd n
   exact this
  omega
/-- all that go, from none on -/
def gone (n:Nat) (ts:List T2) (d:Int):List Nat:=run n ts d n []
end
end Peel
namespace L3
open PySem PySem.Spec PyProof.Rows L2
section
variable {g:TG} {tt:TT} {te:TE} {own:List Str} {js:List Nat} {σ:L2.St} {H1:Hp} {Q:VK}
theorem comp_selL {K:PySem.W.Frag} {a:Addr} {xs:List V} (hx:H1 a=some (.lst xs)) (Sg:L2.St->Prop) (sel:Nat->Option V) (hn:xs.length≤1000) (h0:Sg (start3 own js σ))
  (step:∀ i x σ' H',xs[i]?=some x->Same H1 H'->Sg σ'->∀ (C:L2.St->V->Hp->Prop) (L:L2.St->Hp->Prop),(∀ σ3 v H5,Sg σ3->Same H' H5->sel i=some v->C σ3 v H5)->(∀ σ3 H5,Sg σ3->Same H' H5->sel i=none->L σ3 H5) ->
   g x σ' H' fun σ3 H3=>tt σ3 H3 fun b H4=>if b=true then te σ3 H4 fun v H5=>C σ3 v H5 else L σ3 H4)
  (fin:∀ D H',H1 D=none->Same H1 H'->H' D=some (.lst ((List.range xs.length).filterMap sel))->Q (.ref D) H'):CompGo own js g tt te σ Q (Itl K a) H1:=by
 refine comp_sel xs.length Sg sel hn h0 (fun i H' hi s=>⟨xs,xs[i],SqL.of (s _ _ hx),by simp [hi]⟩) (fun H' s=>⟨xs,SqL.of (s _ _ hx),Nat.le_refl _⟩) (fun i x σ' H' H2 hi s hy sg C L hC hL=>?_) fin
 obtain⟨rfl,hy⟩:=hy
 exact step i x σ' _ (hy xs (SqL.of (s _ _ hx))) s sg C L hC hL
end
end L3
namespace Lr
open Far (chn chn_join chn_split chn_rev chn_at RingOf)
section
variable {R:Nat->Nat->Prop}
/-- a ring: h, then tl, and back to h -/
structure Rg (R:Nat->Nat->Prop) (h:Nat) (tl:List Nat):Prop where
 len:2≤tl.length
 nd:(h::tl).Nodup
 ch:chn R (h::tl++[h])
/-- a ring told as it should be: from its least place on, the smaller neighbour first -/
def Cano (h:Nat) (tl:List Nat):Prop:=(∀ v ∈ tl,h < v)∧∃ x m y,tl=x::(m++[y])∧x < y
def stepW (rows:Nat->List Nat) (w:List Nat):List (List Nat):=((rows (w.getLast?.getD 0)).filter fun o=>decide (w.headD 0 < o) && !decide (o ∈ w)).map fun o=>w++[o]
def ways (rows:Nat->List Nat) (n:Nat):Nat->List (List Nat)
 | 0=>(List.range n).map fun v=>[v]
 | s + 1=>(ways rows n s).flatMap (stepW rows)
structure PW (R:Nat->Nat->Prop) (n:Nat) (w:List Nat):Prop where
 ne:w≠[]
 nd:w.Nodup
 ch:chn R w
 lt:∀ v ∈ w,v < n
 up:∀ h t,w=h::t->∀ v ∈ t,h < v
section
variable {rows:Nat->List Nat} {n:Nat}
end
end
end Lr
namespace Lr
open Far (chn chn_join chn_split chn_rev chn_at RingOf)
/-- at most, as rows of numbers -/
def lle:List Nat->List Nat->Prop
 | [],_=>True
 | _::_,[]=>False
 | a::l,b::m=>a < b∨(a=b∧lle l m)
section
variable {R:Nat->Nat->Prop}
/-- a shortest chain from v to z -/
structure Sh (R:Nat->Nat->Prop) (z v:Nat) (l:List Nat):Prop where
 ch:chn R (v::l)
 last:(v::l).getLast?=some z
 min:∀ l',chn R (v::l')->(v::l').getLast?=some z->l.length≤l'.length
/-- how far, in steps -/
def Ds (R:Nat->Nat->Prop) (z:Nat) (D:Nat->Option Nat):Prop:=∀ v,(∀ m,D v=some m->∃ l,chn R (v::l)∧(v::l).getLast?=some z∧l.length=m)∧∀ l,chn R (v::l)->(v::l).getLast?=some z->∃ m,D v=some m∧m≤l.length
/-- without the tie between a and b -/
def Rm (R:Nat->Nat->Prop) (a b u v:Nat):Prop:=R u v∧¬ (u=a∧v=b)∧¬ (u=b∧v=a)
end
end Lr
namespace Lr
open Far (chn chn_join chn_split chn_rev chn_at RingOf)
structure Ties (R:Nat->Nat->Prop) (ks:List Nat) (ends:Nat->Nat × Nat):Prop where
 sy:∀ u v,R u v->R v u
 of:∀ k ∈ ks,(ends k).1 < (ends k).2∧R (ends k).1 (ends k).2
 to:∀ u v,R u v->u < v->∃ k ∈ ks,ends k=(u,v)
 up:∀ k ∈ ks,∀ j ∈ ks,k≤j->(ends k).1 < (ends j).1∨((ends k).1=(ends j).1∧(ends k).2≤(ends j).2)
section
variable {R:Nat->Nat->Prop} {ks:List Nat} {ends:Nat->Nat × Nat}
end
section
variable {R:Nat->Nat->Prop} {rows:Nat->List Nat} {n:Nat}
end
end Lr
namespace L3
open PySem PySem.Spec PyProof.Rows L2
section
variable {own:List Str} {js:List Nat} {g:TG} {te:TE} {σ:L2.St} {Q:VK} {H1:Hp}
theorem comp_rangeD {lo:Int} {n:Nat} (Sg:L2.St->Prop) (hn:n≤1000) (h0:Sg (start3 own js σ))
  (step:∀ i σ' H',i < n->Same H1 H'->Sg σ'->∀ C:L2.St->V->Hp->Prop,(∀ σ3 l H5,Sg σ3->Same H' H5->H' l=none->H5 l=some (.lst [])->C σ3 (.ref l) H5)->g (.int (lo + i)) σ' H' fun σ3 H3=>te σ3 H3 fun v H5=>C σ3 v H5)
  (fin:∀ D (as:List Addr) H',H1 D=none->Same H1 H'->H' D=some (.lst (as.map V.ref))->as.length=n->as.Nodup->D ∉ as->(∀ a ∈ as,H1 a=none∧H' a=some (.lst []))->Q (.ref D) H'):CompGo own js g tTrue te σ Q (Itr lo n) H1:=by
 intro D hD
 refine⟨fun i m ys σ' H'=>m=n - i∧i≤n∧Sg σ'∧Same H1 H'∧∃ as:List Addr,ys=as.map V.ref∧as.length=i∧as.Nodup∧D ∉ as∧∀ a ∈ as,H1 a=none∧H' a=some (.lst []),⟨n,rfl,Nat.zero_le _,h0,same_new hD,[],rfl,rfl,List.nodup_nil,(by simp),fun a h=>by cases h⟩,?_⟩
 rintro i m ys σ' H' ⟨rfl,hi,sg,sm,as,rfl,hl,nd,nD,hr⟩ hd
 have lys:(as.map V.ref).length=as.length:=List.length_map _
 by_cases hlt:i < n
 ·refine .inr ⟨hlt,fun x H2 hy=>?_⟩
  obtain⟨rfl,rfl⟩:=hy
  refine step i σ' _ hlt sm sg (fun σ3 v H5=>H5 D=some (.lst (as.map V.ref))∧(as.map V.ref).length < sizeLine∧∃ m',m' < n - i∧(m'=n - (i + 1)∧i + 1≤n∧Sg σ3∧Same H1 (upd H5 D (.lst (as.map V.ref++[v])))∧∃ bs:List Addr,as.map V.ref++[v]=bs.map V.ref∧bs.length=i + 1∧bs.Nodup∧D ∉ bs∧∀ a ∈ bs,H1 a=none∧upd H5 D (.lst (as.map V.ref++[v])) a=some (.lst []))) fun σ3 l H5 sg3 s5 fl hL=>?_
  have hd5:=s5 _ _ hd
  have nlD:l≠D:=fun z=>by rw[z,hd] at fl;cases fl
  have nla:l ∉ as:=fun z=>by rw[(hr l z).2] at fl;cases fl
  refine⟨hd5,Nat.lt_of_le_of_lt (by omega:(as.map V.ref).length≤1000) (by decide),n - (i + 1),by omega,rfl,hlt,sg3,fun b o e=>?_,as++[l],by rw[List.map_append];rfl,by rw[List.length_append,hl];rfl,?_,?_,fun a ha=>?_⟩
  ·rw[upd_ne (ne_of_none e hD)];exact s5 _ _ (sm _ _ e)
  ·exact List.nodup_append.mpr ⟨nd,(by simp),fun a ha b hb e=>by
    have:b=l:=by simpa using hb
    subst this;subst e;exact nla ha⟩
  ·intro z
   rcases List.mem_append.mp z with z | z
   ·exact nD z
   ·exact nlD (List.mem_singleton.mp z).symm
  ·rcases List.mem_append.mp ha with z | z
   ·have ne:a≠D:=fun x=>nD (x ▸ z)
    exact⟨(hr a z).1,by rw[upd_ne ne];exact s5 _ _ (hr a z).2⟩
   ·have:a=l:=List.mem_singleton.mp z
    subst this
    exact⟨sm.free fl,by rw[upd_ne nlD];exact hL⟩
 ·have e:i=n:=by omega
  subst e
  exact .inl ⟨Nat.le_refl _,fin D as H' hD sm hd hl nd nD hr⟩
end
/-- the list at l holds the lists at as, each its own, with these rows -/
structure Bes (H:Hp) (l:Addr) (as:List Addr) (rows:Nat->List V):Prop where
 top:H l=some (.lst (as.map V.ref))
 nd:as.Nodup
 own:l ∉ as
 row:∀ i a,as[i]?=some a->H a=some (.lst (rows i))
theorem Bes.new {H:Hp} {l:Addr} {as:List Addr} (h:H l=some (.lst (as.map V.ref))) (nd:as.Nodup) (no:l ∉ as) (r:∀ a ∈ as,H a=some (.lst [])):Bes H l as fun _=>[]:=⟨h,nd,no,fun _ a e=>r a (List.mem_of_getElem? e)⟩
theorem Bes.same {H H':Hp} {l:Addr} {as:List Addr} {rows:Nat->List V} (b:Bes H l as rows) (S:Same H H'):Bes H' l as rows:=⟨S _ _ b.top,b.nd,b.own,fun i a e=>S _ _ (b.row i a e)⟩
theorem Bes.ix {H:Hp} {l:Addr} {as:List Addr} {rows:Nat->List V} (b:Bes H l as rows) {i:Nat} (h:i < as.length):∃ a,as[i]?=some a∧(as.map V.ref)[i]?=some (.ref a)∧H a=some (.lst (rows i)):=by
 refine⟨as[i],List.getElem?_eq_getElem h,by rw[List.getElem?_map,List.getElem?_eq_getElem h];rfl,b.row i _ (List.getElem?_eq_getElem h)⟩
theorem Bes.put {H H':Hp} {l:Addr} {as:List Addr} {rows:Nat->List V} (b:Bes H l as rows) {i:Nat} {a:Addr} {xs:List V} (ha:as[i]?=some a) (B:But a H H') (e:H' a=some (.lst xs)):Bes H' l as fun j=>if j=i then xs else rows j:=by
 have nl:l≠a:=fun z=>b.own (z ▸ List.mem_of_getElem? ha)
 refine⟨B _ _ nl b.top,b.nd,b.own,fun j c hc=>?_⟩
 by_cases z:j=i
 ·subst z
  rw[hc] at ha;cases ha
  rw[if_pos rfl];exact e
 ·rw[if_neg z]
  refine B _ _ (fun x=>z ?_) (b.row j c hc)
  subst x
  obtain⟨h1,e1⟩:=List.getElem?_eq_some_iff.mp hc
  obtain⟨h2,e2⟩:=List.getElem?_eq_some_iff.mp ha
  have pw:=List.pairwise_iff_getElem.mp b.nd
  rcases Nat.lt_trichotomy j i with z | z | z
  ·exact absurd (e1.trans e2.symm) (pw j i h1 h2 z)
  ·exact z
  ·exact absurd (e2.trans e1.symm) (pw i j h2 h1 z)
/-- two ties with the same ends are one -/
theorem tie_oneB {n:Int} {ts:List Tie} (ok:WebOk n ts) {k k' a b:Nat} {l l':Int} (hk:k < ts.length) (hk':k' < ts.length) (h:(a,b,l) ∈ arcs2 (tieAt ts k)) (h':(a,b,l') ∈ arcs2 (tieAt ts k')):k=k':=by
 have t1:=ok.tie _ (tieAt_in hk).2
 have t2:=ok.tie _ (tieAt_in hk').2
 have E:=fun z=>ends_eq t1.1 t1.2.1 t2.1 t2.2.1 z
 have e:(tieAt ts k).1=(tieAt ts k').1∧(tieAt ts k).2.1=(tieAt ts k').2.1:=by
  rcases arcs2_mem.mp h with e | e <;> rcases arcs2_mem.mp h' with e' | e' <;> injection e with e1 e2 <;> injection e2 with e2 _ <;> injection e' with e3 e4 <;> injection e4 with e4 _
  ·exact E (.inl ⟨e1.symm.trans e3,e2.symm.trans e4⟩)
  ·exact E (.inr ⟨e1.symm.trans e3,e2.symm.trans e4⟩)
  ·exact E (.inr ⟨e2.symm.trans e4,e1.symm.trans e3⟩)
  ·exact E (.inl ⟨e2.symm.trans e4,e1.symm.trans e3⟩)
 exact tie_ends ok hk hk' e.1 e.2
/-- m unlike places beside j -/
def Uniq (ts:List Tie) (ks:List Nat) (j m:Nat):Prop:=∃ cs:List Nat,cs.Nodup∧cs.length=m∧∀ c ∈ cs,∃ k ∈ ks,∃ l,(j,c,l) ∈ arcs2 (tieAt ts k)
section
variable {X:Cx}
def rExtendB:V->List V->Hp->VK->Prop:=fun x vs H Q=>∃ l b xs zs,x=.ref l∧vs=[.ref b]∧H l=some (.lst xs)∧H b=some (.lst zs)∧xs.length + zs.length≤10 ^ 7∧∀ H',But l H H'->H' l=some (.lst (xs++zs))->Q .non H'
theorem mt_extendB:MtM X "list.extend" rExtendB:=by
 intro pins s σ H x vs v us Q I rx rv h
 obtain⟨l,b,xs,zs,rfl,rfl,hH,hB,hz,q⟩:=h
 exact mt_extend (X:=X) pins s σ H _ _ v us Q I rx rv ⟨l,b,xs,zs,rfl,rfl,hH,hB,Nat.le_trans hz (by decide),q _ But.upd upd_same⟩
end
end L3
namespace L3
open PySem PySem.Spec PyProof.Rows L2
def Adj (ts:List Tie) (ks:List Nat) (u v:Nat):Prop:=∃ k ∈ ks,(u,v,(tieAt ts k).2.2) ∈ arcs2 (tieAt ts k)
def en (ts:List Tie) (k:Nat):Nat × Nat:=((tieAt ts k).1.toNat,(tieAt ts k).2.1.toNat)
def ones (ts:List Tie):List Tie:=ts.map fun t=>(t.1,t.2.1,1)
section
variable {n:Int} {ts:List Tie} {ks:List Nat} {u v k:Nat}
theorem a2_iff {t:Tie}:(u,v,t.2.2) ∈ arcs2 t↔(u=t.1.toNat∧v=t.2.1.toNat)∨(u=t.2.1.toNat∧v=t.1.toNat):=by
 rw[arcs2_mem]
 refine or_congr ⟨fun e=>?_,fun e=>by rw[e.1,e.2]⟩ ⟨fun e=>?_,fun e=>by rw[e.1,e.2]⟩ <;> (injection e with e1 e2;injection e2 with e2 _;exact⟨e1,e2⟩)
theorem adj_lt (ok:WebOk n ts) (ko:KeepOk ts.length ks) (u v:Nat) (h:Adj ts ks u v):v < n.toNat:=by
 obtain⟨k,hk,m⟩:=h
 exact (arcs_in ok ko _ _ _ (arcs_mem.mpr ⟨k,hk,m⟩)).2
theorem en_lt (ok:WebOk n ts) (hk:k < ts.length):(en ts k).1 < (en ts k).2∧(en ts k).2 < n.toNat∧(((en ts k).1:Nat):Int)=(tieAt ts k).1∧(((en ts k).2:Nat):Int)=(tieAt ts k).2.1:=by
 have tk:=ok.tie _ (tieAt_in hk).2
 unfold en
 simp only
 omega
theorem ones_len:(ones ts).length=ts.length:=List.length_map _
theorem ones_at (h:k < ts.length):tieAt (ones ts) k=((tieAt ts k).1,(tieAt ts k).2.1,1):=by
 have h1:=(tieAt_in h).1
 have h2:=(tieAt_in (ts:=ones ts) (k:=k) (by rw[ones_len];exact h)).1
 unfold ones at h2 ⊢
 rw[List.getElem?_map,h1] at h2
 exact (Option.some.inj h2).symm
theorem ones_ok (ok:WebOk n ts):WebOk n (ones ts):=by
 refine⟨ok.n1,ok.n24,?_,by rw[ones_len];exact ok.few,fun t ht=>?_⟩
 ·unfold ones
  exact List.Pairwise.map _ (fun _ _ h=>h) ok.rise
 ·obtain⟨t0,h0,rfl⟩:=List.mem_map.mp ht
  have:=ok.tie _ h0
  exact⟨this.1,this.2.1,this.2.2.1,by show (1:Int)≤1;decide,by show (1:Int)≤10 ^ 18;decide⟩
theorem arcs_ones (ko:KeepOk ts.length ks) {l:Int}:(u,v,l) ∈ arcs (ones ts) ks↔l=1∧Adj ts ks u v:=by
 rw[arcs_mem]
 constructor
 ·rintro ⟨k,hk,m⟩
  rw[ones_at (ko.2 k hk)] at m
  have el:l=1:=by rcases arcs2_mem.mp m with e | e <;> (injection e with _ e;injection e)
  subst el
  have:=(a2_iff (t:=((tieAt ts k).1,(tieAt ts k).2.1,1))).mp m
  exact⟨rfl,k,hk,a2_iff.mpr this⟩
 ·rintro ⟨rfl,k,hk,m⟩
  refine⟨k,hk,?_⟩
  rw[ones_at (ko.2 k hk)]
  have:=(a2_iff (t:=tieAt ts k)).mp m
  exact (a2_iff (t:=((tieAt ts k).1,(tieAt ts k).2.1,1))).mpr this
end
theorem is_nkeepL {K:PySem.W.Frag} {H:Hp} {p:Addr} {ks:List Nat} (h:H p=some (.tup (natV ks))):Is K H (keepD ks) (.ref p):=⟨p,_,rfl,h,by rw[natV_keep];exact IsAll.ints _⟩
def IsLR (ts:List Tie) (ks:List Nat) (h:Nat) (tl:List Nat):Prop:=Lr.Rg (Adj ts ks) h tl∧Lr.Cano h tl∧(∀ h' tl',Lr.Rg (Adj ts ks) h' tl'->tl.length≤tl'.length)∧∀ h' tl',Lr.Rg (Adj ts ks) h' tl'->Lr.Cano h' tl'->tl'.length=tl.length->Lr.lle (h::tl) (h'::tl')
end L3
namespace L3
open PySem PySem.Spec PyProof.Rows L2
section
variable {J:It} {g:TG} {tt:TT} {te:TE} {own:List Str} {js:List Nat} {σ:L2.St} {H1:Hp} {Q:VK}
end
end L3
namespace Stb
open PySem PyProof.Rows
section
variable {prog:Program} {w:World} {A:Around} {E:Value->Shared->Prop} {s:Shared}
/-- set(t), t a list of whole numbers -/
theorem of_lst {t:Addr} {xs:Array Value} {ns:List Int} {Q:Value->Shared->Prop} (hh:A.handled=none) (ht:s.heap.IsList t xs) (hi:IntsAre xs.toList ns) (hb:xs.size + 1 < scanBound)
  (fin:∀ (h':Heap) (tk:Nat),SetT prog w h' s.heap.objs.size (HT.setS ns xs.size) (HT.setN ns xs.size)->(∀ b o,b < s.heap.objs.size->s.heap.get? b=some o->h'.get? b=some o)->Q (.ref s.heap.objs.size) { s with heap:=h',toks:=tk }) :
  wpAny (model prog w) A (call (.type "set") [.ref t]) Q E s:=by
 obtain⟨c,tl,hmro⟩:=PySem.F.called_set.mro
 have hmade:=PySem.F.called_set.made;have hsub:=PySem.F.called_set.sub
 refine wpAny_call (codeAny_of_tree ?_);show wpAny _ _ (callAny (.type "set") _) _ _ _
 refine wpAny_pure ⟨Code.quiet_builtin _ (by decide +kernel),codeAny_builtin PySem.F.entry_type_call ?_⟩
 rw[Around.under_plain (PySem.weight_type_call_type "set" [.ref t] []) rfl]
 have h1:=PySem.F.called_set.notType;have h2:=PySem.F.called_set.canCreate;have hct:=PySem.F.typeCall_set_1 (.ref t)
 repeat (any_goals (first | assumption | wp_step))
 refine codeAny_mono (new_T (.ref t) (E:=E) (U:=fun obj s₁=>obj=.ref s.heap.objs.size∧s₁={ s with heap:=s.heap.push (emp w) }) ⟨rfl,rfl⟩) fun r s₁ hr=>?_
 match r,hr with
 | .error e,hr=>exact hr
 | .ok .next,hr=>exact hr.elim
 | .ok .brk,hr=>exact hr.elim
 | .ok .cont,hr=>exact hr.elim
 | .ok (.ret obj),hr =>
  obtain⟨rfl,rfl⟩:=hr
  have gS:(s.heap.push (emp w)).get? s.heap.objs.size=some (emp w):=Heap.get?_push_size _ rfl
  have hT:Shared.TypeIs { s with heap:=s.heap.push (emp w) } (.ref s.heap.objs.size) "set":=⟨_,gS,rfl⟩
  have hli:=PySem.F.called_set.init.lookup;have hbi:=PySem.F.called_set.init.bind (.ref s.heap.objs.size)
  repeat (any_goals (first | assumption | wp_step))
  refine codeAny_mono (codeAny_call_builtin (R:=wants (fun r s₂=>r=.none∧∃ h' tk,s₂={ s with heap:=h',toks:=tk }∧SetT prog w h' s.heap.objs.size (HT.setS ns xs.size) (HT.setN ns xs.size)∧(∀ b o,b < s.heap.objs.size->s.heap.get? b=some o->h'.get? b=some o)) E) PySem.F.called_set.init.plain PySem.F.entry_set_init (PySem.check_set_init_1 hT ?_)) fun r₂ s₂ hr₂=>?_
  ·obtain⟨ot,ho,hc,m,hd⟩:=id ht
   obtain⟨ocls,odict,odata,oslots⟩:=ot
   simp only at hc hd;subst hc hd
   have ho':(s.heap.push (emp w)).get? t=some { cls:=.type "list",dict:=odict,data:=.seq xs m,slots:=oslots }:=Heap.get?_push_of_some _ ho
   have f1:=PySem.F.sub_list_set;have f2:=PySem.F.sub_list_frozenset
   have f3:(Value.type "list" == Value.type "dict")=false:=by decide
   have it1:(s.heap.push (emp w)).IsList t xs:=⟨_,ho',rfl,m,rfl⟩
   unfold Builtin.«set.__init__» noKeywords Builtin.Frozenset.updateFrom
   generalize hPI:pyIter=PI
   wp_walk;subst hPI
   refine wpAny_pyIter_list it1 (wpAny_bind (wpAny_runValue ?_))
   have lt:t < s.heap.objs.size:=Heap.lt_size ho
   have hh3:A.in1.in1.in1.handled=none:=by simp [hh]
   have sz1:(s.heap.push (emp w)).objs.size=s.heap.objs.size + 1:=Heap.size_push ..
   have tI:t≠(s.heap.push (emp w)).objs.size:=by rw[sz1];exact Nat.ne_of_lt (Nat.lt_succ_of_lt lt)
   have Sfp:s.heap.objs.size ∉ [(s.heap.push (emp w)).objs.size,t]:=by
    rw[sz1];simp only [List.mem_cons,List.not_mem_nil,or_false,not_or];exact⟨Nat.ne_of_lt (Nat.lt_succ_self _),(Nat.ne_of_lt lt).symm⟩
   have vals:∀ (i:Nat) (v:Value),xs[i]?=some v->∃ u,v=.int ((fun i=>ns.getD i 0) i) u:=fun i v hv=>IntsAre.int_at hi i v (by rw[Array.getElem?_toList];exact hv)
   refine fill_T ((Walks.list hh3 _ t tI xs).toS) s.heap.objs.size Sfp (fun i=>ns.getD i 0) vals hb (xs.size - 0) 0 _ (by omega) (Nat.zero_le _) ?st ?s0 ?fin
   case st=>exact⟨⟨_,Heap.get?_push_size _ rfl,rfl,rfl⟩,it1.push _⟩
   case s0=>exact (emp_T s.heap).keep fun o e=>Heap.get?_push_of_some _ e
   case fin =>
    rintro ⟨h',g',d',tk',os'⟩ hm hS'
    obtain rfl:g'=s.gens:=hm.gens
    obtain rfl:d'=s.drawn:=hm.drawn
    obtain rfl:os'=s.os:=hm.os
    refine wpAny_pure (wpAny_pure ⟨rfl,h',tk',rfl,hS',fun b o hlt e=>hm.heap b o ?_ (Heap.get?_push_of_some _ (Heap.get?_push_of_some _ e))⟩)
    rw[sz1];simp only [List.mem_cons,List.not_mem_nil,or_false,not_or]
    exact⟨Nat.ne_of_lt hlt,Nat.ne_of_lt (Nat.lt_succ_of_lt hlt)⟩
  ·match r₂,hr₂ with
   | .error e,hr₂=>exact hr₂
   | .ok .next,hr₂=>exact hr₂.elim
   | .ok .brk,hr₂=>exact hr₂.elim
   | .ok .cont,hr₂=>exact hr₂.elim
   | .ok (.ret v),hr₂ =>
    obtain⟨rfl,h',tk,rfl,hS',hk⟩:=hr₂
    repeat (any_goals (first | assumption | wp_step))
    exact fin h' tk hS' hk
end
end Stb
namespace L3
open PySem PySem.Spec PyProof.Rows L2
section
variable {X:Cx}
/-- set(l), l a list of whole numbers -/
theorem call_setXL (hh:X.calm=true):CallR X (.type "set") (fun xs H Q=>∃ (p:Addr) (ns:List Int),xs=[.ref p]∧H p=some (.lst (ns.map V.int))∧ns.length≤1000∧∀ q H',Same H H'->H q=none->H' q=some (SetO X.prog X.w q (HT.setS ns ns.length) (HT.setN ns ns.length))->Q (.ref q) H'):=by
 intro pins s σ H xs us Q I r h
 obtain⟨p,ns,rfl,hp,hl,q⟩:=h
 obtain⟨u,rfl,rx⟩:=vals1 r
 cases rx
 obtain⟨its,rv,pt,hz⟩:=I.list (SqL.of hp)
 have hlen:=rv.length
 rw[List.length_map] at hlen
 have fr:H s.heap.objs.size=none:=I.hok.fresh (Nat.le_refl _)
 have esz:its.toArray.size=ns.length:=by rw[List.size_toArray,← hlen]
 refine Stb.of_lst (ns:=ns) (I.ok.hd hh) (show s.heap.IsList p its.toArray from pt.isList) (by simpa using intsAre_of rv) (by rw[esz];unfold scanBound;omega) fun h' tk hS hk=>?_
 rw[esz] at hS
 refine⟨.ref s.heap.objs.size,_,I.laid (a:=s.heap.objs.size) (o:=SetO X.prog X.w s.heap.objs.size (HT.setS ns ns.length) (HT.setN ns ns.length)) (t':=tk) (fun b o e=>hk b o (Heap.lt_size e) e) (Nat.le_refl _) ⟨hS,?_,fun h1 h2 x k=>x.keep k⟩,rfl,q _ _ (same_new fr) fr upd_same⟩
 obtain⟨⟨o,_,_,_,ho,_⟩,_⟩:=hS
 exact⟨o,ho⟩
end
end L3
namespace Far
variable {A:List (Nat × Nat × Int)} {s:Nat}
def Unit1 (A:List (Nat × Nat × Int)):Prop:=∀ u v l,(u,v,l) ∈ A->l=1
/-- k steps away, and no fewer -/
def AtK (A:List (Nat × Nat × Int)) (s k v:Nat):Prop:=Walk A s v (k:Int)∧∀ x,Walk A s v x->(k:Int)≤x
theorem Unit1.pos (U:Unit1 A):Pos A:=fun u v l h=>by rw[U u v l h];exact Int.le_refl 1
theorem Walk.nat (U:Unit1 A) {v:Nat} {x:Int} (h:Walk A s v x):∃ k:Nat,x=k:=⟨x.toNat,(Int.toNat_of_nonneg (h.nonneg U.pos)).symm⟩
theorem AtK.one {j k v:Nat} (h:AtK A s j v) (h':AtK A s k v):j=k:=by
 have a:=h.2 _ h'.1
 have b:=h'.2 _ h.1
 omega
theorem AtK.ex (U:Unit1 A) {v:Nat}:∀ (k:Nat),Walk A s v (k:Int)->∃ j,j≤k∧AtK A s j v:=fun k=>by
 induction k using Nat.strongRecOn with
 | _ k ih =>
  intro h
  by_cases c:∃ x,Walk A s v x∧x < (k:Int)
  ·obtain⟨x,hx,lt⟩:=c
   obtain⟨j,rfl⟩:=hx.nat U
   obtain⟨i,hi,a⟩:=ih j (by omega) hx
   exact⟨i,by omega,a⟩
  ·exact⟨k,Nat.le_refl _,h,fun x hx=>by
    rcases Int.lt_or_le x k with z | z
    ·exact absurd ⟨x,hx,z⟩ c
    ·exact z⟩
theorem Walk.last (U:Unit1 A) {v:Nat} {x:Int} (h:Walk A s v x):(v=s∧x=0)∨∃ u,Walk A s u (x - 1)∧(u,v,1) ∈ A:=by
 cases h with
 | nil=>exact .inl ⟨rfl,rfl⟩
 | @snoc u v l x h m =>
  have e:=U _ _ _ m
  subst e
  exact .inr ⟨u,by rw[Int.add_sub_cancel];exact h,m⟩
theorem AtK.zero (U:Unit1 A) {v:Nat}:AtK A s 0 v↔v=s:=by
 constructor
 ·intro h
  rcases h.1.last U with ⟨e,_⟩ | ⟨u,h',_⟩
  ·exact e
  ·have:=h'.nonneg U.pos
   have:((0:Nat):Int)=0:=rfl
   omega
 ·rintro rfl
  exact⟨Walk.nil,fun x hx=>hx.nonneg U.pos⟩
theorem AtK.next (U:Unit1 A) {k v:Nat}:AtK A s (k + 1) v↔(∃ u,AtK A s k u∧(u,v,1) ∈ A)∧∀ j,j≤k->¬ AtK A s j v:=by
 constructor
 ·intro h
  refine⟨?_,fun j hj a=>by have:=a.one h;omega⟩
  rcases h.1.last U with ⟨_,e⟩ | ⟨u,h',m⟩
  ·exfalso
   have:((k + 1:Nat):Int)=0:=e
   omega
  ·have e:((k + 1:Nat):Int) - 1=(k:Int):=by omega
   rw[e] at h'
   refine⟨u,⟨h',fun x hx=>?_⟩,m⟩
   have:=h.2 _ (hx.snoc m)
   omega
 ·rintro ⟨⟨u,a,m⟩,no⟩
  have h:=a.1.snoc m
  have e:(k:Int) + 1=((k + 1:Nat):Int):=by omega
  rw[e] at h
  refine⟨h,fun x hx=>?_⟩
  obtain⟨y,rfl⟩:=hx.nat U
  obtain⟨j,hj,aj⟩:=AtK.ex U y hx
  rcases Nat.lt_or_ge j (k + 1) with z | z
  ·exact absurd aj (no j (by omega))
  ·omega
theorem AtK.dst {k v:Nat} (h:AtK A s k v):Dst A s v (some (k:Int)):=⟨fun y e=>(by cases e;exact h.1),fun L hL=>⟨_,rfl,h.2 L hL⟩⟩
theorem AtK.none (U:Unit1 A) {v:Nat} (h:∀ k,¬ AtK A s k v):Dst A s v Option.none:=by
 refine⟨fun y e=>(by cases e),fun L hL=>?_⟩
 obtain⟨k,rfl⟩:=hL.nat U
 obtain⟨j,_,a⟩:=AtK.ex U k hL
 exact absurd a (h j)
/-- a place of each number of steps below -/
theorem AtK.chain (U:Unit1 A):∀ {k v:Nat},AtK A s k v->∃ us:List Nat,us.length=k + 1∧us.Nodup∧∀ u ∈ us,∃ j,j≤k∧AtK A s j u
 | 0,v,h=>⟨[v],rfl,by simp,fun u hu=>by rw[List.mem_singleton.mp hu];exact⟨0,Nat.le_refl _,h⟩⟩
 | k + 1,v,h=>by
  obtain⟨⟨u,a,_⟩,_⟩:=(AtK.next U).mp h
  obtain⟨us,h1,h2,h3⟩:=AtK.chain U a
  refine⟨v::us,by simp [h1],List.nodup_cons.mpr ⟨fun m=>?_,h2⟩,fun w hw=>?_⟩
  ·obtain⟨j,hj,aj⟩:=h3 v m
   have:=aj.one h
   omega
  ·rcases List.mem_cons.mp hw with rfl | hw
   ·exact⟨k + 1,Nat.le_refl _,h⟩
   ·obtain⟨j,hj,aj⟩:=h3 w hw
    exact⟨j,by omega,aj⟩
/-- i rings gone through -/
structure Bfs (A:List (Nat × Nat × Int)) (s i:Nat) (D:Nat->Option Nat) (ring:List Nat):Prop where
 found:∀ v d,D v=some d↔AtK A s d v∧d < i
 ring:∀ v,v ∈ ring↔AtK A s i v
theorem Bfs.start (U:Unit1 A):Bfs A s 0 (fun _=>none) [s]:=⟨fun v d=>by simp,fun v=>by rw[AtK.zero U];simp⟩
theorem Bfs.step (U:Unit1 A) {i:Nat} {D D':Nat->Option Nat} {ring ring':List Nat} (b:Bfs A s i D ring) (hD:∀ v,D' v=if v ∈ ring then some i else D v) (hr:∀ c,c ∈ ring'↔(∃ u,u ∈ ring∧(u,c,1) ∈ A)∧D' c=none):Bfs A s (i + 1) D' ring':=by
 have fd:∀ v d,D' v=some d↔AtK A s d v∧d < i + 1:=fun v d=>by
  rw[hD v]
  by_cases m:v ∈ ring
  ·rw[if_pos m]
   have a:=(b.ring v).mp m
   constructor
   ·intro e;cases e;exact⟨a,Nat.lt_succ_self _⟩
   ·rintro ⟨a',_⟩;rw[a'.one a]
  ·rw[if_neg m,b.found v d]
   constructor
   ·rintro ⟨a,lt⟩;exact⟨a,by omega⟩
   ·rintro ⟨a,lt⟩
    refine⟨a,?_⟩
    rcases Nat.lt_or_ge d i with z | z
    ·exact z
    ·have e:d=i:=by omega
     subst e
     exact absurd ((b.ring v).mpr a) m
 refine⟨fd,fun c=>?_⟩
 rw[hr c,AtK.next U]
 have e1:(∃ u,u ∈ ring∧(u,c,1) ∈ A)↔∃ u,AtK A s i u∧(u,c,1) ∈ A:=⟨fun ⟨u,m,e⟩=>⟨u,(b.ring u).mp m,e⟩,fun ⟨u,m,e⟩=>⟨u,(b.ring u).mpr m,e⟩⟩
 have e2:D' c=none↔∀ j,j≤i->¬ AtK A s j c:=by
  constructor
  ·intro e j hj a
   have:=(fd c j).mpr ⟨a,by omega⟩
   rw[e] at this;cases this
  ·intro h
   cases e:D' c with
   | none=>rfl
   | some d =>
    have:=(fd c d).mp e
    exact absurd this.1 (h d (by omega))
 rw[e1,e2]
/-- behind n rings all is told -/
theorem Bfs.end_ (U:Unit1 A) {n:Nat} {D:Nat->Option Nat} {ring:List Nat} (b:Bfs A s n D ring) (few:∀ us:List Nat,us.Nodup->(∀ u ∈ us,u < n)->us.length≤n) (inn:∀ k v,AtK A s k v->v < n) (v:Nat):Dst A s v ((D v).map fun d:Nat=>(d:Int)):=by
 have lt:∀ k,AtK A s k v->k < n:=fun k a=>by
  obtain⟨us,h1,h2,h3⟩:=a.chain U
  have:=few us h2 fun u hu=>by
   obtain⟨j,_,aj⟩:=h3 u hu
   exact inn j u aj
  omega
 cases e:D v with
 | none =>
  refine AtK.none U fun k a=>?_
  have:=(b.found v k).mpr ⟨a,lt k a⟩
  rw[e] at this;cases this
 | some d=>exact ((b.found v d).mp e).1.dst
end Far
namespace L3
open PySem PySem.Spec PyProof.Rows L2
theorem setN_few {ns:List Int} {m:Nat} (h:∀ x ∈ ns,0≤x∧x < m):HT.setN ns ns.length≤m:=by
 obtain⟨h1,h2⟩:=firstMet_nodup (fun i=>ns.getD i 0) ns.length
 rw[L3.range_getD ns 0] at h2
 have e:(firstMet (fun i=>ns.getD i 0) ns.length).length=((firstMet (fun i=>ns.getD i 0) ns.length).map Int.toNat).length:=(List.length_map _).symm
 show (firstMet (fun i=>ns.getD i 0) ns.length).length≤m
 rw[e]
 refine Peel.len_below m _ ?_ fun p hp=>?_
 ·rw[List.Nodup,List.pairwise_map]
  refine List.Pairwise.imp_of_mem ?_ h1
  intro a b ha hb ne z
  have:=h a ((h2 a).mp ha)
  have:=h b ((h2 b).mp hb)
  exact ne (by omega)
 ·obtain⟨x,hx,rfl⟩:=List.mem_map.mp hp
  have:=h x ((h2 x).mp hx)
  omega
theorem Bes.but {H H':Hp} {l c:Addr} {as:List Addr} {rows:Nat->List V} (b:Bes H l as rows) (nl:l≠c) (na:c ∉ as) (B:But c H H'):Bes H' l as rows:=⟨B _ _ nl b.top,b.nd,b.own,fun i a e=>B _ _ (fun z=>na (z ▸ List.mem_of_getElem? e)) (b.row i a e)⟩
theorem ints_nat:∀ {ms:List Int},(∀ x ∈ ms,0≤x)->ms.map V.int=natV (ms.map Int.toNat)
 | [],_=>rfl
 | x::ms,h=>by
  have e:((x.toNat:Nat):Int)=x:=Int.toNat_of_nonneg (h x List.mem_cons_self)
  have ih:=ints_nat (ms:=ms) fun y hy=>h y (List.mem_cons_of_mem _ hy)
  show V.int x::ms.map V.int=V.int ((x.toNat:Nat):Int)::natV (ms.map Int.toNat)
  rw[e,ih]
theorem unit_ones {ts:List Tie} {ks:List Nat} (ko:KeepOk ts.length ks):Far.Unit1 (arcs (ones ts) ks):=fun u v l h=>((arcs_ones ko).mp h).1
theorem walk_in {n:Int} {ts:List Tie} {ks:List Nat} {s v:Nat} {x:Int} (ok:WebOk n ts) (ko:KeepOk ts.length ks) (hs:s < n.toNat) (h:Far.Walk (arcs (ones ts) ks) s v x):v < n.toNat:=by
 rcases h.last (unit_ones ko) with ⟨e,_⟩ | ⟨u,_,m⟩
 ·rw[e];exact hs
 ·exact adj_lt ok ko u v ((arcs_ones ko).mp m).2
theorem natV_append (a b:List Nat):natV (a++b)=natV a++natV b:=by unfold natV;rw[List.map_append]
theorem natV_length (a:List Nat):(natV a).length=a.length:=by unfold natV;rw[List.length_map]
theorem flat_le {f:Nat->List Nat} {m:Nat}:∀ (l:List Nat),(∀ x ∈ l,(f x).length≤m)->(l.flatMap f).length≤l.length * m
 | [],_=>by simp
 | x::l,h=>by
  have ih:=flat_le l fun y hy=>h y (List.mem_cons_of_mem _ hy)
  have:=h x List.mem_cons_self
  rw[List.flatMap_cons,List.length_append,List.length_cons,Nat.succ_mul]
  omega
theorem ov_oa (E:List (Option Nat)):(E.map fun o=>o.map fun d:Nat=>(d:Int)).map ov=E.map oa:=by
 rw[List.map_map]
 refine List.map_congr_left fun o _=>?_
 cases o <;> rfl
theorem get_mapN (E:List (Option Nat)) (v:Nat):Far.get (E.map fun o=>o.map fun d:Nat=>(d:Int)) v=(Far.get E v).map fun d:Nat=>(d:Int):=by
 unfold Far.get
 rw[List.getD_eq_getElem?_getD,List.getD_eq_getElem?_getD,List.getElem?_map]
 cases E[v]? <;> rfl
theorem get_set (E:List (Option Nat)) {i v:Nat} (x:Nat) (h:i < E.length):Far.get (E.set i (some x)) v=if v=i then some x else Far.get E v:=by
 unfold Far.get
 rw[List.getD_eq_getElem?_getD,List.getD_eq_getElem?_getD]
 by_cases z:v=i
 ·subst z
  rw[if_pos rfl,List.getElem?_set_self h];rfl
 ·rw[if_neg z,List.getElem?_set_ne (Ne.symm z)]
noncomputable def dsL (n:Int) (ts:List Tie) (ks:List Nat) (k:Nat):List (Option Int):=(List.range n.toNat).map fun v=>Classical.epsilon fun o=>Far.Dst (arcs (ones ts) (but ks k)) (en ts k).1 v o
noncomputable def rnd (n:Int) (ts:List Tie) (ks:List Nat) (g:Int) (k:Nat):Int:=capO (g - 1) (Far.get (dsL n ts ks k) (en ts k).2)
section
variable {n g:Int} {ts:List Tie} {ks:List Nat} {k:Nat}
end
def tupH (hs:List Int):PyData:=.tuple (hs.map .int)
end L3
namespace HT
open PySem PyProof.Rows
open Sem (wp)
theorem tuple_mulW1 (l:Addr) (items:Array Value) (n:Nat) (u:Tok) (dd:Option Addr) (sl:Array (Option Value)) :
  Meets (Builtin.«tuple.__mul__» ⟨[.ref l,.int 1 u],[]⟩) (fun _ R s=>s.heap.get? l=some { cls:=.type "tuple",dict:=dd,data:=.seq items n,slots:=sl }∧R (.ok (.ret (Value.ref l))) s) :=
 .of_wp fun prog w A R s h=>by
  obtain⟨hp,g,d,tk,os⟩:=s;obtain⟨hl,h⟩:=h;have f1:=AutoSeq1.idx_int;have f2:=AutoSeq1.sub_tuple_tuple
  have e:(items.isEmpty || (1:Int) == 1)=true:=by simp
  wp_walk using wpAny_loadPart' hl
  first | exact⟨_,rfl,h⟩ | trace_state
section
variable {prog:Program} {w:World} {A:Around} {E:Value->Shared->Prop} {s:Shared}
theorem mul_tuple1 {l:Addr} {items:Array Value} {u:Tok} {Q:Value->Shared->Prop} (hl:IsTup s.heap l items) (h:Q (.ref l) s):wpAny (model prog w) A (binaryOp .Mult (.ref l) (.int 1 u)) Q E s:=by
 obtain⟨⟨cls,dd,data,sl⟩,ho,hc,n,hd⟩:=id hl
 simp only at hc hd
 subst hc hd
 exact wpAny_binaryOp_repeat_ref (T:="tuple") (U:="int") (by decide) ⟨_,ho,rfl⟩ (fun s'=>typeIs_int s' 1 u) noFill_tuple_mul F.fills_int_mul F.slot_int_rmul repeat_tuple F.slot_int_index.lookup
  (call_meets F.slot_int_rmul (typeIs_int s 1 u) F.entry_int_rmul (F.args_int_rmul_2 _ _) (int_rmul_tuple 1 u l items n dd sl)
   ⟨ho,rfl,⟨_,ho,rfl⟩,call_meets F.slot_tuple_mul ⟨_,ho,rfl⟩ F.entry_tuple_mul (F.args_tuple_mul_2 _ _) (tuple_mulW1 l items n u dd sl) ⟨ho,h⟩⟩)
end
end HT
namespace L3
open PySem PySem.Spec PyProof.Rows L2
/-- t * k, k one or more -/
def rRepTn:R2:=fun x y H Q=>∃ a k xs,x=.ref a∧y=.int k∧H a=some (.tup xs)∧1≤k∧k≤1000∧xs.length * k.toNat≤1000∧xs≠[]∧∀ p H',Same H H'->H' p=some (.tup (List.replicate k.toNat xs).flatten)->Q (.ref p) H'
theorem op_repTn {X:Cx}:OpR X (binaryOp .Mult) rRepTn:=by
 intro pins s σ H x y v u Q I rx ry h
 obtain⟨a,k,xs,rfl,rfl,ha,k1,k3,hz,hne,q⟩:=h
 by_cases k2:2≤k
 ·exact op_repT pins s σ H _ _ v u Q I rx ry ⟨a,k,xs,rfl,rfl,ha,k2,k3,hz,hne,q⟩
 have e:k=1:=by omega
 subst e
 cases rx
 obtain⟨t,rfl⟩:=ry
 obtain⟨its,rv,pt,hzz⟩:=I.tuple (SqT.of ha)
 refine HT.mul_tuple1 pt ?_
 refine⟨.ref a,H,I,rfl,q a H (Same.refl H) ?_⟩
 rw[ha]
 show some (HO.tup xs)=some (HO.tup (List.replicate 1 xs).flatten)
 simp
end L3
namespace L3
open PySem PySem.Spec PyProof.Rows L2
def PapV (H:Hp) (lo hi m:Nat) (v:V):Prop:=∃ p xs,v=.ref p∧H p=some (.tup xs)∧xs.length≤m∧∀ u ∈ xs,RowV lo hi H u
theorem rows_pap {K:PySem.W.Frag} {H:Hp} {lo hi:Nat}:∀ {xs:List V},(∀ u ∈ xs,RowV lo hi H u)->∃ pp:List (List Int),IsAll K H (pp.map tupH) xs∧pp.length=xs.length∧∀ hs ∈ pp,lo≤hs.length∧hs.length≤hi
 | [],_=>⟨[],rfl,rfl,fun hs h=>by cases h⟩
 | u::xs,h=>by
  obtain⟨pp,h1,h2,h3⟩:=rows_pap (K:=K) (xs:=xs) fun v hv=>h v (List.mem_cons_of_mem _ hv)
  obtain⟨p,hs,rfl,e,l1,l2⟩:=h u List.mem_cons_self
  refine⟨hs::pp,⟨.ref p,xs,rfl,⟨p,_,rfl,e,IsAll.ints _⟩,h1⟩,by simp [h2],fun hs' hh=>?_⟩
  rcases List.mem_cons.mp hh with rfl | hh
  ·exact⟨l1,l2⟩
  ·exact h3 hs' hh
theorem brT2 {α β:Sort _} {A T:α->β->Prop} {B:Prop} (main:(∀ x y,A x y->T x y)->B) (tail:∀ x y,A x y->T x y):B:=main tail
end L3
namespace Far
end Far
namespace L3
open PySem PySem.Spec PyProof.Rows L2
section
variable {n:Int} {ts:List Tie}
theorem keep_all (ts:List Tie):KeepOk ts.length (List.range ts.length):=⟨List.pairwise_lt_range,fun k hk=>List.mem_range.mp hk⟩
end
/-- for i, x in enumerate(..) -/
theorem for_enum {K:PySem.W.Frag} {t:Bool} {l:Addr} {xs:List V} {g:TG} {tb:TS} {D:Ends} {σ:L2.St} {H:Hp} (Pv:Nat->L2.St->Hp->Prop) (h0:Pv 0 σ H) (hl:∀ i σ H,Pv i σ H->SqX t K H l xs)
  (hs:∀ i x T σ H,xs[i]?=some x->H T=none->Pv i σ H->g (.ref T) σ (upd H T (.tup [.int (i:Nat),x])) fun σ2 H2=>tb { D with nx:=Pv (i + 1),ct:=Pv (i + 1),bk:=D.nx } σ2 H2) (hd:∀ σ H,Pv xs.length σ H->D.nx σ H) :
  ∃ W:Nat->Nat->L2.St->Hp->Prop,(∃ m,W 0 m σ H)∧∀ i m σ H,W i m σ H ->
   ((Itn t K l).stop i H∧D.nx σ H)∨((Itn t K l).go i H∧∃ N:L2.St->Hp->Prop,(∀ σ' H',N σ' H'->∃ m',m' < m∧W (i + 1) m' σ' H')∧∀ x H',(Itn t K l).yld i H x H'->g x σ H' fun σ2 H2=>tb { D with nx:=N,ct:=N,bk:=D.nx } σ2 H2):=by
 refine⟨fun i m σ H=>m=xs.length - i∧i≤xs.length∧Pv i σ H,⟨xs.length,by simp,Nat.zero_le _,h0⟩,?_⟩
 rintro i m σ H ⟨rfl,hi,p⟩
 have q1:=hl i σ H p
 by_cases hlt:i < xs.length
 ·have e1:xs[i]?=some xs[i]:=List.getElem?_eq_getElem hlt
  refine .inr ⟨⟨xs,_,q1,e1⟩,Pv (i + 1),fun σ' H' p'=>⟨xs.length - (i + 1),by omega,rfl,hlt,p'⟩,fun x H' y=>?_⟩
  obtain⟨T,y',hT,rfl,rfl,a1⟩:=y
  exact hs i y' T σ H (a1 _ q1) hT p
 ·have e:i=xs.length:=by omega
  subst e
  exact .inl ⟨⟨xs,q1,Nat.le_refl _⟩,hd σ H p⟩
end L3
namespace L3
open PySem PySem.Spec PyProof.Rows L2
section
variable {near kept:Nat->Nat->Option Int} {u v:Nat} {r:List (Nat × Nat)} {m:Int × Int × Int} {x y:Int}
end
theorem ones_plain (ts:List Tie):((ones ts).all fun t=>decide (t.2.2=1))=true:=by
 unfold ones
 rw[List.all_map,List.all_eq_true]
 intro t _
 show decide ((1:Int)=1)=true
 rfl
/-- a web and a keep of it, a tuple or a list -/
def WKE (K:PySem.W.Frag) (H:Hp) (n:Int) (ts:List Tie) (ks:List Nat) (wv:V) (kp:Addr) (tp:Bool):Prop:=Is K H (webD n ts) wv∧WebOk n ts∧H kp=some (if tp=true then .tup (natV ks) else .lst (natV ks))∧KeepOk ts.length ks
section
variable {g:TG} {tt:TT} {te:TE} {own:List Str} {js:List Nat} {σ:L2.St} {H1:Hp} {Q:VK}
/-- a test, over what is enumerated; what is picked is worth R -/
theorem comp_selEP {t:Bool} {K:PySem.W.Frag} {a:Addr} {xs:List V} (hx:H1 a=some (if t=true then .tup xs else .lst xs)) (Sg:L2.St->Prop) (R:V->Hp->Prop) (hn:xs.length≤1000) (h0:Sg (start3 own js σ)) (mono:∀ v H H',TupKeep H H'->R v H->R v H')
  (step:∀ (i:Nat) (x:V) (T:Addr) (σ':L2.St) (H':Hp),xs[i]?=some x->Same H1 H'->H' T=none->Sg σ'->∀ (C:L2.St->V->Hp->Prop) (L:L2.St->Hp->Prop),(∀ σ3 v H5,Sg σ3->Same H' H5->R v H5->C σ3 v H5)->(∀ σ3 H5,Sg σ3->Same H' H5->L σ3 H5) ->
   g (.ref T) σ' (upd H' T (.tup [.int (i:Nat),x])) fun σ3 H3=>tt σ3 H3 fun b H4=>if b=true then te σ3 H4 fun v H5=>C σ3 v H5 else L σ3 H4)
  (fin:∀ D ys H',H1 D=none->Same H1 H'->H' D=some (.lst ys)->ys.length≤xs.length->(∀ v ∈ ys,R v H')->Q (.ref D) H'):CompGo own js g tt te σ Q (Itn t K a) H1:=by
 intro D hD
 have s1:∀ H',Same H1 H'->SqX t K H' a xs:=fun H' s=>SqX.of (s _ _ hx)
 refine⟨fun i m ys σ' H'=>m=xs.length - i∧i≤xs.length∧Sg σ'∧Same H1 H'∧ys.length≤i∧∀ v ∈ ys,R v H',⟨_,rfl,Nat.zero_le _,h0,same_new hD,Nat.le_refl _,fun v e=>by simp at e⟩,?_⟩
 rintro i m ys σ' H' ⟨rfl,hi,sg,sm,hl,hr⟩ hd
 by_cases hlt:i < xs.length
 ·refine .inr ⟨⟨xs,xs[i],s1 H' sm,by simp [hlt]⟩,fun x H2 hy=>?_⟩
  obtain⟨T,y,hT,rfl,rfl,e⟩:=hy
  refine step i y T σ' H' (e _ (s1 H' sm)) sm hT sg
   (fun σ3 v H5=>H5 D=some (.lst ys)∧ys.length < sizeLine∧∃ m',m' < xs.length - i∧(m'=xs.length - (i + 1)∧i + 1≤xs.length∧Sg σ3∧Same H1 (upd H5 D (.lst (ys++[v])))∧(ys++[v]).length≤i + 1∧∀ u ∈ ys++[v],R u (upd H5 D (.lst (ys++[v])))))
   (fun σ3 H5=>H5 D=some (.lst ys)∧∃ m',m' < xs.length - i∧(m'=xs.length - (i + 1)∧i + 1≤xs.length∧Sg σ3∧Same H1 H5∧ys.length≤i + 1∧∀ u ∈ ys,R u H5)) (fun σ3 v H5 sg3 s5 r5=>?_) (fun σ3 H5 sg3 s5=>?_)
  ·have hd5:=s5 _ _ hd
   have tk5:TupKeep H5 (upd H5 D (.lst (ys++[v]))):=fun a xs e=>by rw[upd_ne (fun z=>by rw[z,hd5] at e;cases e)];exact e
   refine⟨hd5,Nat.lt_of_le_of_lt (by omega:ys.length≤1000) (by decide),xs.length - (i + 1),by omega,rfl,hlt,sg3,fun b o e=>?_,by rw[List.length_append,List.length_singleton];omega,fun u hu=>?_⟩
   ·rw[upd_ne (ne_of_none e hD)];exact s5 _ _ (sm _ _ e)
   ·rcases List.mem_append.mp hu with z | z
    ·exact mono _ _ _ tk5 (mono _ _ _ (fun a xs z=>s5 _ _ z) (hr u z))
    ·rw[List.mem_singleton.mp z];exact mono _ _ _ tk5 r5
  ·exact⟨s5 _ _ hd,xs.length - (i + 1),by omega,rfl,hlt,sg3,sm.trans s5,Nat.le_succ_of_le hl,fun u hu=>mono _ _ _ (fun a xs z=>s5 _ _ z) (hr u hu)⟩
 ·have e:i=xs.length:=by omega
  subst e
  exact .inl ⟨⟨xs,s1 H' sm,Nat.le_refl _⟩,fin D ys H' hD sm hd hl hr⟩
end
theorem call_sortedIM {X:Cx} {own fr:List Str} {scope:Scope} {fp:List Addr} {pins:List (Addr × Obj)} {s3:Shared} {H3:Hp}:CallR (cxComp X own fr scope fp pins s3 H3) (.builtin "sorted") (fun xs H Q=>∃ (p:Addr) (ns:List Int),xs=[.ref p]∧SqL X.K H p (ns.map V.int)∧ns.length < 64∧∀ ms:List Int,ms.Perm ns->ms.Pairwise (fun a b=>a≤b)->∀ l,H l=none->Q (.ref l) (upd H l (.lst (ms.map V.int)))):=call_sortedI (X:=cxComp X own fr scope fp pins s3 H3)
theorem cut_toK (xs:List V) (k:Nat):cutV xs none (some (k:Int))=xs.take k:=by
 unfold cutV
 rw[HT.sIx_none,HT.sIx_nat,List.drop_zero,Nat.sub_zero]
 by_cases z:k≤xs.length
 ·rw[Nat.min_eq_left z]
 ·rw[Nat.min_eq_right (by omega),List.take_of_length_le (Nat.le_refl _),List.take_of_length_le (by omega)]
theorem cut_fromK (xs:List V) (k:Nat):cutV xs (some (k:Int)) none=xs.drop k:=by
 unfold cutV
 rw[HT.sIx_none,HT.sIx_nat]
 by_cases z:k≤xs.length
 ·rw[Nat.min_eq_left z,List.take_of_length_le (by rw[List.length_drop];exact Nat.le_refl _)]
 ·rw[Nat.min_eq_right (by omega),List.drop_eq_nil_of_le (Nat.le_refl _),List.drop_eq_nil_of_le (show xs.length≤k by omega),List.take_nil]
end L3
namespace L3
open PySem PySem.Spec PyProof.Rows L2
section
variable {n:Int} {ts:List Tie} {ks:List Nat}
/-- led to the root in so few steps -/
def ledB (o:Option Int) (h m:Int):Bool:=match o with | none=>false | some x=>decide (x≤h + m)
end
section
variable {own:List Str} {js:List Nat} {g:TG} {te:TE} {σ:L2.St} {Q:VK} {H1:Hp}
/-- a comprehension over an enumerated tuple -/
theorem comp_enumT {K:PySem.W.Frag} {a:Addr} {xs:List V} (hx:H1 a=some (.tup xs)) (Sg:L2.St->Prop) (R:Nat->V->Hp->Prop) (hn:xs.length≤1000) (h0:Sg (start3 own js σ)) (mono:∀ i v H H',TupKeep H H'->R i v H->R i v H')
  (step:∀ i x T σ' H',xs[i]?=some x->Same H1 H'->H' T=none->Sg σ'->∀ C:L2.St->V->Hp->Prop,(∀ σ3 v H5,Sg σ3->Same H' H5->R i v H5->C σ3 v H5)->g (.ref T) σ' (upd H' T (.tup [.int (i:Nat),x])) fun σ3 H3=>te σ3 H3 fun v H5=>C σ3 v H5)
  (fin:∀ D ys H',H1 D=none->Same H1 H'->H' D=some (.lst ys)->ys.length=xs.length->(∀ i v,ys[i]?=some v->R i v H')->Q (.ref D) H'):CompGo own js g tTrue te σ Q (Itn true K a) H1:=by
 have s1:∀ H',Same H1 H'->SqX true K H' a xs:=fun H' s=>SqX.of (t:=true) (s _ _ hx)
 refine comp_map xs.length Sg R hn h0 mono (fun i H' hi s=>⟨xs,xs[i],s1 H' s,by simp [hi]⟩) (fun H' s=>⟨xs,s1 H' s,Nat.le_refl _⟩) (fun i x σ' H' H2 hi s hy sg C hC=>?_) fin
 obtain⟨T,y,hT,rfl,rfl,e⟩:=hy
 exact step i y T σ' H' (e _ (s1 H' s)) s hT sg C hC
end
end L3
namespace Hx
open PySem PySem.W
/-- a statement of the top: its number, the first address and the first token it takes, the module's name (statement, token), for a class the chunk of its base -/
structure Ch where
 i:Nat
 a:Nat
 t:Nat
 j:Nat
 u:Nat
 b:Nat:=0
def stt (p:Program) (i:Nat):Stmt:=p.main.body.getD i (.Pass ⟨0,0,0,0⟩)
def fileS:Str:=Str.ofString "/claim/cut.py"
def mdV (p:Program) (c:Ch):Value:=match stt p c.j with
 | .Assign _ (.Constant (.str x) _ _) _=>.str x c.u
 | _=>.str (Str.ofString "__main__") c.u
def sT (xs:List Value):Obj:=⟨.type "tuple",none,.seq xs.toArray 0,#[]⟩
def fE (xs:List Value):Obj:=⟨.none,none,.fields xs.toArray,#[]⟩
def tks:List Str->Nat->List Value
 | [],_=>[]
 | v::r,t=>.str v t::tks r (t + 1)
def z:Value:=.int 0 0
def cdO (nm q:Str) (t:Nat) (l:Int) (na fl:Int) (k:Value) (fn:Bool) (tb vs cs tp:Value) (u:Nat):Obj :=
 ⟨.type "code",none,.fields #[.str nm t,.str q (t + 1),.str fileS (t + 2),.int l 0,.int na 0,z,z,.int fl 0,k,.bool fn,.int 181 0,tb,.none,vs,cs,tp,.int u 0,.int l 0,.str fileS (u + 1)],#[]⟩
def ent (P:Params) (s:Str) (t:Nat) (v:Value):DictEntry:=⟨PyData.keyHash P s,.str s t,v⟩
def dO (es:List DictEntry) (n:Nat):Obj:=⟨.type "dict",none,.dict es.toArray n,#[]⟩
structure Got where
 os:List Obj
 en:List DictEntry
 tb:List Value
def fO (P:Params) (md:Value) (a t:Nat) (name:Str) (args:Arguments) (body:List Stmt) (scope:Scope) (bind:Str) (pos:Pos):Got :=
 let fd:FuncData:=⟨name,bind,args,.stmts body,scope,0,[],.none,.none,.none,.none,none,.none,.none,0⟩
 let k (vs cs:Value) (b u:Nat) (h:List Obj):Got :=
  ⟨h++[⟨.none,none,.func fd,#[]⟩,cdO name bind t pos.line args.args.length 3 (.ref a) true (.ref (a + 1)) vs cs (.ref b) u,
   ⟨.type "function",none,.func ⟨name,bind,args,.stmts body,scope,3,[],.none,.none,.none,md,none,.ref (b + 1),.none,0⟩,#[]⟩],
   [ent P name (u + 2) (.ref (b + 2))],[.int pos.line 0,.int pos.col 0,.ref (b + 1)]⟩
 match localNames args scope (.stmts body) with
 | none=>k .none .none (a + 2) (t + 3) [sT [],fE []]
 | some (vs,cs)=>k (.ref (a + 2)) (.ref (a + 3)) (a + 4) (t + 3 + vs.length + cs.length) [sT [],fE [],sT (tks vs (t + 3)),sT (tks cs (t + 3 + vs.length))]
/-- the base class's address, and its bases; none: ValueError -/
def mro0:List Value:=[.type "ValueError",.type "Exception",.type "BaseException",.type "object"]
def clO (P:Params) (md:Value) (a t:Nat) (base:Option Nat) (sub:List Value) (name bind:Str) (pos:Pos):Got :=
 let l:Int:=pos.line
 let w:=base.isNone
 let C:=a + 9 - (if w then 0 else 0)
 let bs:Value:=match base with | none=>.type "ValueError" | some b=>.ref b
 let e1:=ent P (Str.ofString "__module__") (t + 7) md
 let e2:=ent P (Str.ofString "__firstlineno__") (t + 11) (.int l (t + 10))
 let e3:=ent P (Str.ofString "__static_attributes__") (t + 12) (.ref (a + 7))
 ⟨[sT [bs],⟨.type "builtin_function_or_method",none,.fields #[.builtin "type.__prepare__",.type "type"],#[]⟩,
  dO [e1,ent P (Str.ofString "__qualname__") (t + 9) (.str bind (t + 8)),e2,e3] 4,sT [],fE [],
  cdO name bind (t + 2) l 0 0 (.ref (a + 3)) false (.ref (a + 4)) .none .none .none (t + 5),
  ⟨.type "frame",none,.plain,#[some (.ref (a + 5)),some (.ref 3),some (.ref (a + 2)),none,some md,none,some (.ref 0)]⟩,sT [],
  dO (e1::e2::e3::(if w then [ent P (Str.ofString "__weakref__") (t + 14) (.ref (a + 10)),ent P (Str.ofString "__doc__") (t + 15) .none] else [ent P (Str.ofString "__doc__") (t + 13) .none])) (if w then 3 else 2),
  ⟨.type "type",none,.cls ⟨name,[bs],.ref C::(match base with | none=>mro0 | some b=>.ref b::mro0),a + 8,bind,true,[],sub,false,none,false⟩,
   #[some (.ref a),none,some (.str name t),some (.str bind (t + 8)),some (.builtin "ValueError.__new__"),some (.bool true)]⟩] ++
  (if w then [⟨.type "getset_descriptor",none,.fields #[.str (Str.ofString "__weakref__") (t + 13),.ref C,.builtin "ExceptionGroup.__weakref__",.none],#[]⟩] else []) ++
  [⟨.type "super",none,.fields #[.ref C,.ref C,.ref C],#[]⟩,⟨.type "builtin_function_or_method",none,.fields #[.builtin "object.__init_subclass__",.ref C],#[]⟩],
  [ent P name (t + (if w then 17 else 15)) (.ref C)],[.int l 0,.int pos.col 0,.ref (a + 5)]⟩
/-- what a statement leaves, where the chunks cs are behind it -/
def got (p:Program) (P:Params) (cs:List Ch) (c:Ch):Got:=match stt p c.i with
 | .FunctionDef name args body _ _ _ scope _ bind pos=>fO P (mdV p c) c.a c.t name args body scope bind pos
 | .ClassDef name _ _ _ _ _ _ _ bind _ pos=>clO P (mdV p c) c.a c.t (if c.b == 0 then none else some c.b) (cs.filterMap fun d=>if d.b == c.a + 9 then some (.ref (d.a + 9)) else none) name bind pos
 | _=>⟨[],[],[]⟩
/-- the module's name as the last statement set it -/
def nameNow (p:Program) (cs:List Ch):Option Value:=match cs.getLast? with
 | some c=>some (mdV p { c with j:=c.j,u:=c.u })
 | none=>none
def setName (P:Params) (v:Option Value):List DictEntry->List DictEntry
 | e::r=>(match v with | some v=>{ e with val:=v } | none=>e)::r
 | []=>[]
def globO (p:Program) (P:Params) (cs:List Ch) (en:List DictEntry):Obj->Obj
 | ⟨c,d,.dict es n,s⟩=>⟨c,d,.dict (setName P (nameNow p cs) es.toList++en).toArray (n + en.length),s⟩
 | o=>o
/-- the objects behind the chunks cs, where B are those of the boot -/
def objs (p:Program) (P:Params) (B:List Obj) (cs:List Ch):List Obj :=
 let gs:=cs.map (got p P cs)
 match B with
 | b0::b1::b2::b3::r=>b0::b1::b2::globO p P cs (gs.flatMap (·.en)) b3::(r++(sT []::fE (gs.flatMap (·.tb)) ::
  cdO (Str.ofString "<module>") (Str.ofString "<module>") 182 1 0 0 (.ref 11) false (.ref 12) .none .none .none 185 ::
  ⟨.type "frame",none,.plain,#[some (.ref 13),some (.ref 3),some (.ref 3),none,some (.str (Str.ofString "__main__") 164),none,some (.ref 0)]⟩::gs.flatMap (·.os)))
 | _=>[]
def spl:List Obj->List Obj × List Obj
 | []=>([],[])
 | x::r=>(x::(spl r).2,(spl r).1)
def braun:Nat->List Obj->BT
 | 0,_=>.nil
 | _ + 1,[]=>.nil
 | f + 1,o::r=>.node o (braun f (spl r).1) (braun f (spl r).2)
/-- where a piece ends: the statements behind, the next address, the next token -/
structure Cut where
 k:Nat
 n:Nat
 t:Nat
def hpT (p:Program) (B:Params->List Obj) (cs:List Ch) (c:Cut) (P:Params):Heap:=absHeap (braun 12 (objs p P (B P) (cs.take c.k))) c.n {}
def stT (p:Program) (B:Params->List Obj) (D:Drawn) (cs:List Ch) (c:Cut) (w:World) (os:OsState):SharedT :=
 ⟨braun 12 (objs p w.params (B w.params) (cs.take c.k)),c.n,{},Array.mk [],D,c.t,os⟩
def env (p:Program):Env:={ scope:=p.main.scope,locals:=mainNs,globals:=mainNs,cells:=[],code:=.ref 13,frame:=some 14 }
def cE (p:Program):Code:=.body p.main.body (env p)
def pos0:Pos:=⟨0,0,0,0⟩
def posOf (p:Program):Nat->Pos
 | 0=>pos0
 | k + 1=>match stt p k with
  | .Assign [.Name _ q] _ _=>q
  | .FunctionDef _ _ _ _ _ _ _ _ _ q=>q
  | .ClassDef _ _ _ _ _ _ _ _ _ _ q=>q
  | _=>pos0
def ann0:Option Value:=some (.ref 6)
def PieceT (p:Program) (B:Params->List Obj) (D:Drawn) (cs:List Ch) (a b:Cut) (N:Nat):Prop:=∀ w:World,
 (fun os=>segRunT treeTable p w 11 ann0 1 N (stT p B D cs a w os) (piecesOf ((p.main.body.drop a.k).take (b.k - a.k)) (env p) (cE p) (posOf p a.k) [topFrame pos0]))=fun os=>some (Flow.next,stT p B D cs b w os,cE p,posOf p b.k)
def PreT (p:Program) (B:Params->List Obj) (D:Drawn) (h:Params->Heap) (t:Nat) (cs:List Ch) (a:Cut):Prop:=∀ w:World,
 (fun os=>topGo treeTable p w 11 ann0 12 ⟨h w.params,Array.mk [],D,t,os⟩ (topStub p))=fun os=>some ((stT p B D cs a w os).abs,⟨denote treeTable (cE p),cE p,pos0,[topFrame pos0]⟩)
def BlockT (p:Program):Prop:=∀ (w:World) (s:Shared),segRun treeTable p w 11 ann0 1 1 s (blockOf p.main.body (env p) (cE p) pos0 [topFrame pos0])=some (.next,s,cE p,pos0)
noncomputable def boots (P:Params):List Obj:=[boot_o_0 P,boot_o_1 P,boot_o_2 P,boot_o_3 P,boot_o_4 P,boot_o_5 P,boot_o_6 P,boot_o_7 P,boot_o_8 P,boot_o_9 P,boot_o_10 P]
/-- the statements of the view -/
def qv (p:Program) (is:List Nat):Program:={ p with main:={ p.main with body:=is.map (stt p) } }
def nmO:Stmt->Option Str
 | .FunctionDef n ..=>some n
 | .ClassDef n ..=>some n
 | _=>none
def lz (p:Program) (is:List Nat) (n:Nat):List Str:=(List.range n).filterMap fun i=>if is.contains i then none else nmO (stt p i)
/-- what the law's run never changes: the globals, each def's code and object, each class with its names -/
def kk (a:Nat) (g:Got):List (Nat × Obj):=match g.os with
 | [_,_,_,c,f]=>[(a + 3,c),(a + 4,f)]
 | [_,_,_,_,_,c,f]=>[(a + 5,c),(a + 6,f)]
 | _::_::_::_::_::_::_::_::d::C::_=>[(a + 8,d),(a + 9,C)]
 | _=>[]
def Kf (p:Program) (B:Params->List Obj) (cs:List Ch) (P:Params):Frag :=
 let gs:=cs.map (got p P cs)
 (3,globO p P cs (gs.flatMap (·.en)) ((B P).getD 3 (sT [])))::(cs.zip gs).flatMap fun c=>kk c.1.a c.2
def LookA (p:Program) (B:Params->List Obj) (D:Drawn) (h:Params->Heap) (cs:List Ch) (c:Cut):Prop:=∀ w:World,(fun os =>
  (staticsOk (importedModules p.main.body) (h w.params) (hpT p B cs c w.params) && namesBound p (hpT p B cs c w.params) && gensDone ⟨hpT p B cs c w.params,Array.mk [],D,c.t,os⟩ && laidKept (h w.params) (hpT p B cs c w.params)))=fun _:OsState=>true
def LookB (p:Program) (B:Params->List Obj) (D:Drawn) (cs:List Ch) (c:Cut) (is:List Nat) (rc:WRecords):Prop:=∀ w:World,(fun os =>
  openSeen (qv p is) (lz p is c.k) (importedModules p.main.body) (fun s=>xlAt (qv p is) [] s && recOk rc s) true ⟨hpT p B cs c w.params,Array.mk [],D,c.t,os⟩)=fun _:OsState=>openGood (qv p is) (lz p is c.k)
def LookC (p:Program) (B:Params->List Obj) (cs:List Ch) (c:Cut) (as:List Nat):Prop:=∀ w:World,as.map (hpT p B cs c w.params).get?=(Kf p B cs w.params).map fun p=>some p.2
section
variable {p:Program} {D:Drawn} {cs:List Ch}
theorem fin_any {w:World} {s:Shared} {c:Code} {q:Pos}:topRun treeTable p w 11 ann0 2 s ⟨doneF .next,c,q,[topFrame pos0]⟩=some s:=rfl
theorem chain_end {w:World} {os:OsState} {c:Cut} (h:p.main.body.drop c.k=[]) :
  topRun treeTable p w 11 ann0 2 (stT p boots boot_drawn cs c w os).abs (restOf (p.main.body.drop c.k) (env p) (cE p) (posOf p c.k) [topFrame pos0])=some (stT p boots boot_drawn cs c w os).abs:=by
 rw[h];exact piece_nil fin_any
theorem chain {w:World} {os:OsState} {a b:Cut} {N M:Nat} {r:Shared} (h:PieceT p boots boot_drawn cs a b N) (le:a.k≤b.k)
  (k:topRun treeTable p w 11 ann0 M (stT p boots boot_drawn cs b w os).abs (restOf (p.main.body.drop b.k) (env p) (cE p) (posOf p b.k) [topFrame pos0])=some r) :
  topRun treeTable p w 11 ann0 (N + M) (stT p boots boot_drawn cs a w os).abs (restOf (p.main.body.drop a.k) (env p) (cE p) (posOf p a.k) [topFrame pos0])=some r:=by
 have e:p.main.body.drop a.k=(p.main.body.drop a.k).take (b.k - a.k)++p.main.body.drop b.k:=by
  have x:=(List.take_append_drop (b.k - a.k) (p.main.body.drop a.k)).symm
  rw[List.drop_drop,Nat.add_sub_cancel' le] at x;exact x
 rw[e];exact piece_app (segRun_of (congrFun (h w) os)) k
theorem run_all {w:World} {os:OsState} {M:Nat} {r:Shared} (pre:PreT p boots boot_drawn boot_heap boot_toks cs ⟨0,15,187⟩) (bl:BlockT p)
  (k:topRun treeTable p w 11 ann0 M (stT p boots boot_drawn cs ⟨0,15,187⟩ w os).abs (restOf (p.main.body.drop 0) (env p) (cE p) (posOf p 0) [topFrame pos0])=some r) :
  topRun treeTable p w 11 ann0 (12 + (1 + M)) ⟨boot_heap w.params,Array.mk [],boot_drawn,boot_toks,os⟩ (topStub p)=some r :=
 go_top (congrFun (pre w) os) (piece_block (bl w _) k)
theorem left_of {is as:List Nat} {rc:WRecords} {c:Cut} {M N:Nat} {e:∀ P,as=(Kf p boots cs P).map (·.1)}
  (op:opening p=plainProg p.main.scope.names) (hN:Nat.ble 600 N=true) (fe:∀ s,fenceModules? p s=some s)
  (size:∀ w:World,((boot_heap w.params).isNs mainGlobals && (Array.mk []:Array GenState).size == 0,(boot_heap w.params).objs.size,(boot_heap w.params).nsMap mainGlobals "__annotations__")=(true,11,ann0))
  (run:∀ (w:World) (os:OsState),topRun treeTable p w 11 ann0 M ⟨boot_heap w.params,Array.mk [],boot_drawn,boot_toks,os⟩ (topStub p)=some (stT p boots boot_drawn cs c w os).abs) (le:Nat.ble M N=true)
  (hA:LookA p boots boot_drawn boot_heap cs c) (hB:LookB p boots boot_drawn cs c is rc) (hC:LookC p boots cs c as) :
  LeftO p (qv p is) (lz p is c.k) (fun s=>xlAt (qv p is) [] s && recOk rc s) (Hook.obs (kHook (Kf p boots cs) as e)) (Hook.val (kHook (Kf p boots cs) as e)) N :=
 LeftO.of_pieces (H₀:=boot_heap) (H₁:=hpT p boots cs c) (boot_open op hN fe) size run le fun w=>funext fun os=>by
  have a:=congrFun (hA w) os
  have b:=congrFun (hB w) os
  have c:=hC w
  exact looks_pair a (looks_pair b c)
end
end Hx
namespace Me
open PySem PySem.Spec PyProof.Rows L2 L3
def top (i:Nat):Stmt:=PySem.Challenge.pw_thinways_k54_papers_of_more_judged.main.body.getD i (.Pass ⟨0,0,0,0⟩)
abbrev s_is_whole:Stmt:=top 4
theorem sc_is_whole:FnScope ["thing"] ["thing"] (defScope s_is_whole):=⟨rfl,rfl,rfl,by decide +kernel,rfl,by decide +kernel,by decide +kernel⟩
abbrev s_is_wholes:Stmt:=top 5
theorem sc_is_wholes:FnScope ["thing"] ["thing"] (defScope s_is_wholes):=⟨rfl,rfl,rfl,by decide +kernel,rfl,by decide +kernel,by decide +kernel⟩
abbrev s_is_tuple_of:Stmt:=top 6
theorem sc_is_tuple_of:FnScope ["thing","many"] ["thing","many"] (defScope s_is_tuple_of):=⟨rfl,rfl,rfl,by decide +kernel,rfl,by decide +kernel,by decide +kernel⟩
abbrev s_is_place:Stmt:=top 8
theorem sc_is_place:FnScope ["web","thing"] ["web","thing"] (defScope s_is_place):=⟨rfl,rfl,rfl,by decide +kernel,rfl,by decide +kernel,by decide +kernel⟩
abbrev s_is_plain:Stmt:=top 9
theorem sc_is_plain:FnScope ["web"] ["web"] (defScope s_is_plain):=⟨rfl,rfl,rfl,by decide +kernel,rfl,by decide +kernel,by decide +kernel⟩
abbrev s_whole:Stmt:=top 10
theorem sc_whole:FnScope ["web"] ["web"] (defScope s_whole):=⟨rfl,rfl,rfl,by decide +kernel,rfl,by decide +kernel,by decide +kernel⟩
abbrev s_tie_between:Stmt:=top 11
theorem sc_tie_between:FnScope ["web","a","b","ends","number","tie"] ["web","a","b"] (defScope s_tie_between):=⟨rfl,rfl,rfl,by decide +kernel,rfl,by decide +kernel,by decide +kernel⟩
abbrev s_led_to_root:Stmt:=top 13
theorem sc_led_to_root:FnScope ["web","keep","tree","root","place","way","ahead"] ["web","keep","tree","root","place"] (defScope s_led_to_root):=⟨rfl,rfl,rfl,by decide +kernel,rfl,by decide +kernel,by decide +kernel⟩
abbrev s_across:Stmt:=top 15
theorem sc_across:FnScope ["web","tie","heights","a","b","length"] ["web","tie","heights"] (defScope s_across):=⟨rfl,rfl,rfl,by decide +kernel,rfl,by decide +kernel,by decide +kernel⟩
abbrev s_heights_hold:Stmt:=top 16
theorem sc_heights_hold:FnScope ["web","keep","heights"] ["web","keep","heights"] (defScope s_heights_hold):=⟨rfl,rfl,rfl,by decide +kernel,rfl,by decide +kernel,by decide +kernel⟩
abbrev s_need_plain:Stmt:=top 18
theorem sc_need_plain:FnScope ["web"] ["web"] (defScope s_need_plain):=⟨rfl,rfl,rfl,by decide +kernel,rfl,by decide +kernel,by decide +kernel⟩
abbrev s_is_led:Stmt:=top 19
theorem sc_is_led:FnScope ["web","keep","m","u","heights","tree","place","way"] ["web","keep","m","u","heights","tree","place"] (defScope s_is_led):=⟨rfl,rfl,rfl,by decide +kernel,rfl,by decide +kernel,by decide +kernel⟩
abbrev s_place_right:Stmt:=top 20
theorem sc_place_right:FnScope ["web","keep","m","u","heights","tree","low"] ["web","keep","m","u","heights","tree"] (defScope s_place_right):=⟨rfl,rfl,rfl,by decide +kernel,rfl,by decide +kernel,by decide +kernel⟩
abbrev s_more_right:Stmt:=top 21
theorem sc_more_right:FnScope ["web","keep","m","paper"] ["web","keep","m","paper"] (defScope s_more_right):=⟨rfl,rfl,rfl,by decide +kernel,rfl,by decide +kernel,by decide +kernel⟩
abbrev s__law_pot:Stmt:=top 23
theorem sc__law_pot:FnScope ["script","k","cell","prime"] ["script","k"] (defScope s__law_pot):=⟨rfl,rfl,rfl,by decide +kernel,rfl,by decide +kernel,by decide +kernel⟩
abbrev s__law_take:Stmt:=top 24
theorem sc__law_take:FnScope ["pot","many","found"] ["pot","many"] (defScope s__law_take):=⟨rfl,rfl,rfl,by decide +kernel,rfl,by decide +kernel,by decide +kernel⟩
abbrev s__law_length:Stmt:=top 25
theorem sc__law_length:FnScope ["pot","way"] ["pot","way"] (defScope s__law_length):=⟨rfl,rfl,rfl,by decide +kernel,rfl,by decide +kernel,by decide +kernel⟩
abbrev s__law_tied:Stmt:=top 26
theorem sc__law_tied:FnScope ["pot","n","style","a","b","beside"] ["pot","n","style","a","b"] (defScope s__law_tied):=⟨rfl,rfl,rfl,by decide +kernel,rfl,by decide +kernel,by decide +kernel⟩
abbrev s__law_order:Stmt:=top 27
theorem sc__law_order:FnScope ["pot","many","left","found","turn"] ["pot","many"] (defScope s__law_order):=⟨rfl,rfl,rfl,by decide +kernel,rfl,by decide +kernel,by decide +kernel⟩
abbrev s__law_web:Stmt:=top 28
theorem sc__law_web:FnScope ["pot","most","n","style","way","names","ties","b","a","one","other"] ["pot","most"] (defScope s__law_web):=⟨rfl,rfl,rfl,by decide +kernel,rfl,by decide +kernel,by decide +kernel⟩
abbrev s__law_keep:Stmt:=top 29
theorem sc__law_keep:FnScope ["pot","web","way"] ["pot","web"] (defScope s__law_keep):=⟨rfl,rfl,rfl,by decide +kernel,rfl,by decide +kernel,by decide +kernel⟩
abbrev s__law_beside:Stmt:=top 30
theorem sc__law_beside:FnScope ["web","keep","found","number","a","b","length"] ["web","keep"] (defScope s__law_beside):=⟨rfl,rfl,rfl,by decide +kernel,rfl,by decide +kernel,by decide +kernel⟩
abbrev s__law_steps:Stmt:=top 31
theorem sc__law_steps:FnScope ["web","keep","start","beside","found","ring","steps","place","further"] ["web","keep","start"] (defScope s__law_steps):=⟨rfl,rfl,rfl,by decide +kernel,rfl,by decide +kernel,by decide +kernel⟩
abbrev s__law_weights:Stmt:=top 32
theorem sc__law_weights:FnScope ["web","found","power","a","b","length"] ["web"] (defScope s__law_weights):=⟨rfl,rfl,rfl,by decide +kernel,rfl,by decide +kernel,by decide +kernel⟩
abbrev s__law_weighed:Stmt:=top 33
theorem sc__law_weighed:FnScope ["web","keep","start","weights","found","turn","elder","number","a","b","length","one","other","more"] ["web","keep","start"] (defScope s__law_weighed):=⟨rfl,rfl,rfl,by decide +kernel,rfl,by decide +kernel,by decide +kernel⟩
abbrev s__law_tree:Stmt:=top 34
theorem sc__law_tree:FnScope ["web","keep","root","weights","weighed","found","number","a","b","length","one","other"] ["web","keep","root"] (defScope s__law_tree):=⟨rfl,rfl,rfl,by decide +kernel,rfl,by decide +kernel,by decide +kernel⟩
abbrev s__law_most:Stmt:=top 35
theorem sc__law_most:FnScope ["pot","k","most"] ["pot","k"] (defScope s__law_most):=⟨rfl,rfl,rfl,by decide +kernel,rfl,by decide +kernel,by decide +kernel⟩
abbrev s__law_plain:Stmt:=top 36
theorem sc__law_plain:FnScope ["pot","most","n","ties"] ["pot","most"] (defScope s__law_plain):=⟨rfl,rfl,rfl,by decide +kernel,rfl,by decide +kernel,by decide +kernel⟩
abbrev s__law_tree_keep:Stmt:=top 37
theorem sc__law_tree_keep:FnScope ["web","roots","every","along","root","tree"] ["web","roots"] (defScope s__law_tree_keep):=⟨rfl,rfl,rfl,by decide +kernel,rfl,by decide +kernel,by decide +kernel⟩
abbrev s__law_truth:Stmt:=top 38
theorem sc__law_truth:FnScope ["found","due"] ["found","due"] (defScope s__law_truth):=⟨rfl,rfl,rfl,by decide +kernel,rfl,by decide +kernel,by decide +kernel⟩
abbrev s__law_made:Stmt:=top 39
theorem sc__law_made:FnScope ["pot","web","keep","every","roof","along","found","u","heights"] ["pot","web","keep"] (defScope s__law_made):=⟨rfl,rfl,rfl,by decide +kernel,rfl,by decide +kernel,by decide +kernel⟩
abbrev s__law_spoilt:Stmt:=top 40
theorem sc__law_spoilt:FnScope ["pot","n","paper","at","other","place","heights","tree","up","ahead","some","way"] ["pot","n","paper"] (defScope s__law_spoilt):=⟨rfl,rfl,rfl,by decide +kernel,rfl,by decide +kernel,by decide +kernel⟩
abbrev s__law_leads:Stmt:=top 41
theorem sc__law_leads:FnScope ["n","tied","tree","place","u","steps","ahead"] ["n","tied","tree","place","u"] (defScope s__law_leads):=⟨rfl,rfl,rfl,by decide +kernel,rfl,by decide +kernel,by decide +kernel⟩
abbrev s__law_due:Stmt:=top 42
theorem sc__law_due:FnScope ["web","keep","m","paper","tied","u","heights","tree","place","steps"] ["web","keep","m","paper"] (defScope s__law_due):=⟨rfl,rfl,rfl,by decide +kernel,rfl,by decide +kernel,by decide +kernel⟩
abbrev s_law:Stmt:=top 43
theorem sc_law:FnScope ["script","k","pot","web","keep","made","turn","paper","m"] ["script"] (defScope s_law):=⟨rfl,rfl,rfl,by decide +kernel,rfl,by decide +kernel,by decide +kernel⟩
section
variable {P:Program} {w:World} {K:PySem.W.Frag} {mg:Str->Option Value} {base:Heap}
theorem ok__law_take (T:Bi mg) (D:DefOk K mg "_law_take" s__law_take ["pot","many"]):Ok P w K mg base 1 "_law_take" ["pot","many"] spTake:=by
 refine mk_ok (k:=0) D sc__law_take (fun vs H Q E h=>?_) (fun f cdv A outer s H vs Q E hr h=>?_)
 ·obtain⟨p,m,rfl,_⟩:=h
  rfl
 obtain⟨p,m,rfl,⟨a,b,hp,ha,hb,hb2⟩,hm,hm2,q⟩:=h
 have nd:=sc__law_take.nd
 refine⟨_,(pss_cons (ps_if (pt_cmpR op_gt (pe_ix ix_list (pv 0) pe_int (fun _ _=>rfl)) pe_int (nomark _)) (pss_cons (ps_set (i:=2) nd rfl (Or.inl rfl) (pe_op op_mod (pe_ix ix_list (pv 0) pe_int (fun _ _=>rfl)) (pv 1))) (pss_cons (ps_asg (pe_op op_fdiv (pe_ix ix_list (pv 0) pe_int (fun _ _=>rfl)) (pv 1)) (pg_sub (pv 0) pe_int set_list)) (pss_one (ps_ret (pv 2))))) pss_nil) (pss_cons (ps_asg (pe_op op_mod (pe_op op_add (pe_op op_mul (pe_ix ix_list (pv 0) pe_int (fun _ _=>rfl)) pe_int) pe_int) pe_int) (pg_sub (pv 0) pe_int set_list)) (pss_one (ps_ret (pe_op op_mod (pe_op op_fdiv (pe_op op_mod (pe_op op_pow (pe_ix ix_list (pv 0) pe_int (fun _ _=>rfl)) pe_int) pe_int) pe_int) (pv 1)))))),?_⟩
 refine⟨_,rfl,p,_,_,_,rfl,rfl,SqL.of hp,rfl,_,_,rfl,rfl,_,rfl,?_⟩
 refine ite2 (fun c=>?_) (fun c=>?_)
 ·refine⟨_,rfl,p,_,_,_,rfl,rfl,SqL.of hp,rfl,_,rfl,_,_,rfl,rfl,hm,?_⟩
  refine⟨_,rfl,p,_,_,_,rfl,rfl,SqL.of hp,rfl,_,rfl,_,_,rfl,rfl,⟨hm,hm2⟩,?_⟩
  refine⟨_,rfl,p,_,0,0,rfl,rfl,hp,rfl,_,rfl,?_⟩
  refine q _ _ (Int.emod_nonneg _ (by omega)) (Int.emod_lt_of_pos _ hm) But.upd ⟨a / m,b,upd_same,Int.ediv_nonneg ha (by omega),hb,hb2⟩
 ·refine⟨_,rfl,p,_,_,_,rfl,rfl,SqL.of hp,rfl,_,_,rfl,rfl,.inr ⟨by decide,by decide⟩,_,_,rfl,rfl,_,_,rfl,rfl,(by show (0:Int) < 2147483647;decide),?_⟩
  refine⟨_,rfl,p,_,1,1,rfl,rfl,hp,rfl,?_⟩
  have n1:0≤(b * 48271 + 12820163) % 2147483647:=Int.emod_nonneg _ (by decide)
  have n2:(b * 48271 + 12820163) % 2147483647 < 2147483647:=Int.emod_lt_of_pos _ (by decide)
  refine⟨_,rfl,p,_,_,_,rfl,rfl,SqL.of upd_same,rfl,_,_,rfl,rfl,⟨by decide,by decide,by omega⟩,_,_,rfl,rfl,(by show (0:Int) < 2147483629;decide),_,_,rfl,rfl,⟨by decide,by decide⟩,_,rfl,_,_,rfl,rfl,hm,?_⟩
  exact q _ _ (Int.emod_nonneg _ (by omega)) (Int.emod_lt_of_pos _ hm) But.upd ⟨a,_,upd_same,ha,n1,n2⟩
theorem ok__law_pot (T:Bi mg) (D:DefOk K mg "_law_pot" s__law_pot ["script","k"]):Ok P w K mg base 1 "_law_pot" ["script","k"] (spPot K):=by
 refine mk_ok (k:=0) D sc__law_pot (fun vs H Q E h=>?_) (fun f cdv A outer s H vs Q E hr h=>?_)
 ·obtain⟨a,k,ns,rfl,_⟩:=h
  rfl
 obtain⟨a,k,ns,rfl,hS,hk0,hk1,q⟩:=h
 have nd:=sc__law_pot.nd
 have hl:(ns.map V.int).length=ns.length:=List.length_map _
 refine⟨_,(pss_cons (ps_set (i:=2) nd rfl (Or.inl rfl) pe_int) (pss_cons (ps_if (pt_cmpR op_lt (pv 1) (pe_callB call_len_seq rfl T.z_len (by decide +kernel) (pa_cons (pv 0) pa_nil)) (nomark _)) (pss_one (ps_set (i:=2) nd rfl (Or.inl rfl) (pe_op op_mod (pe_ix ix_list (pv 0) (pv 1) (fun _ _=>rfl)) (pe_op op_mulB (pe_op op_mulB (pe_op op_pow pe_int pe_int) (pe_op op_pow pe_int pe_int)) (pe_op op_pow pe_int pe_int))))) pss_nil) (pss_cons (ps_set (i:=3) nd rfl (Or.inl rfl) (pe_ix ix_list (pe_lst (pa_cons pe_int (pa_cons pe_int (pa_cons pe_int (pa_cons pe_int (pa_cons pe_int pa_nil)))))) (pe_op op_mod (pv 1) pe_int) (fun _ _=>rfl))) (pss_one (ps_ret (pe_lst (pa_cons (pe_callB (call_max2 rfl) rfl T.z_max (by decide +kernel) (pa_cons pe_int (pa_cons (pe_op op_sub (pv 2) (pe_op op_pow pe_int pe_int)) pa_nil))) (pa_cons (pe_op op_mod (pe_op op_pow (pe_op op_add (pe_op op_add (pe_op op_mod (pv 2) (pv 3)) (pe_op op_mul pe_int (pv 1))) pe_int) pe_int) pe_int) pa_nil)))))))),?_⟩
  -- behind the test: cell is some number that is not below nought
 have rest : ∀ (cell : Int), 0 ≤ cell → ∀ (σ : L2.St), σ = [some (.ref a), some (.int k), some (.int cell), none] →
     (tSeq (tAsg (tOp (rIxL K) (tLst (tCons (tC (.int 2147483629)) (tCons (tC (.int 2147483587)) (tCons (tC (.int 2147483579)) (tCons (tC (.int 2147483563)) (tCons (tC (.int 2147483549)) tNil)))))) (tOp (rI (fun _ j=>0 < j) fun i j=>.int (i % j)) (tVar 1) (tC (.int 5)))) (gName 3))
       (tRet (tLst (tCons (tCB (fun xs H Q=>∃ i j,xs=[.int i,.int j]∧Q (.int (if j > i then j else i)) H) (tCons (tC (.int 0)) (tCons (tOp (rI0 fun i j=>.int (i - j)) (tVar 2) (tOp (rI CPow fun i j=>.int (i ^ j.toNat)) (tC (.int 10)) (tC (.int 18)))) tNil)))
         (tCons (tOp (rI (fun _ j=>0 < j) fun i j=>.int (i % j)) (tOp (rI CPow fun i j=>.int (i ^ j.toNat)) (tOp (rI0 fun i j=>.int (i + j)) (tOp (rI0 fun i j=>.int (i + j)) (tOp (rI (fun _ j=>0 < j) fun i j=>.int (i % j)) (tVar 2) (tVar 3)) (tOp (rI CMul fun i j=>.int (i * j)) (tC (.int 7919)) (tVar 1))) (tC (.int 11))) (tC (.int 3))) (tC (.int 2147483647))) tNil)))))
       { nx:=fun _ H'=>Q .non H',rt:=Q } σ H:=by
  intro cell hc σ hσ
  subst hσ
  refine⟨(by show 5≤sizeLine;decide),fun l hl=>?_⟩
  refine⟨_,rfl,_,_,rfl,rfl,(by show (0:Int) < 5;decide),?_⟩
  have m0:0≤k % 5:=Int.emod_nonneg _ (by decide)
  have m1:k % 5 < 5:=Int.emod_lt_of_pos _ (by decide)
  have pr:∃ v:Int,atI [V.int 2147483629,V.int 2147483587,V.int 2147483579,V.int 2147483563,V.int 2147483549] (k % 5)=some (.int v)∧2147483549≤v∧v≤2147483629:=by
   have:k % 5=0∨k % 5=1∨k % 5=2∨k % 5=3∨k % 5=4:=by omega
   rcases this with e | e | e | e | e <;> rw[e] <;> exact⟨_,rfl,by decide,by decide⟩
  obtain⟨v,hv,v1,v2⟩:=pr
  refine⟨l,_,_,_,rfl,rfl,SqL.of upd_same,hv,?_⟩
  have S1:Same H (upd H l (.lst [V.int 2147483629,V.int 2147483587,V.int 2147483579,V.int 2147483563,V.int 2147483549])):=same_new hl
  refine⟨_,rfl,_,_,rfl,rfl,⟨by decide,by decide,by decide⟩,_,_,rfl,rfl,_,_,rfl,?_⟩
  refine⟨_,rfl,_,rfl,_,_,rfl,rfl,(by show (0:Int) < v;omega),_,rfl,_,_,rfl,rfl,.inl ⟨by decide,by decide⟩,_,_,rfl,rfl,_,_,rfl,rfl,_,_,rfl,rfl,⟨by decide,by decide,?_⟩,_,_,rfl,rfl,(by show (0:Int) < 2147483647;decide),?_⟩
  ·have c0:0≤cell % v:=Int.emod_nonneg _ (by omega)
   have c1:cell % v < v:=Int.emod_lt_of_pos _ (by omega)
   omega
  refine⟨(by show 2≤sizeLine;decide),fun l2 hl2=>?_⟩
  refine q l2 _ (S1.trans (same_new hl2)) (S1.free hl2) ⟨_,_,upd_same,?_,Int.emod_nonneg _ (by decide),Int.emod_lt_of_pos _ (by decide)⟩
  split <;> omega
 refine⟨_,rfl,_,rfl,a,_,rfl,.inl hS,_,_,rfl,rfl,_,rfl,?_⟩
 refine ite2 (fun c=>?_) (fun c=>?_)
 ·have c':k < (((ns.map V.int).length:Nat):Int):=of_decide_eq_true c
  rw[hl] at c'
  obtain⟨v,hv⟩:∃ v:Int,atI (ns.map V.int) k=some (.int v):=by
   have hk:k.toNat < ns.length:=by omega
   have ek:k=((k.toNat:Nat):Int):=by omega
   have z:atI (ns.map V.int) ((k.toNat:Nat):Int)=some (.int ns[k.toNat]):=atI_nat (by rw[List.getElem?_map,List.getElem?_eq_getElem hk] <;> rfl)
   rw[← ek] at z
   exact⟨_,z⟩
  refine⟨_,rfl,_,rfl,a,_,_,_,rfl,rfl,hS,hv,?_⟩
  refine⟨_,_,rfl,rfl,⟨by decide,by decide,by decide⟩,_,_,rfl,rfl,⟨by decide,by decide,by decide⟩,_,_,rfl,rfl,mulB,_,_,rfl,rfl,⟨by decide,by decide,by decide⟩,_,_,rfl,rfl,mulB2,_,_,rfl,rfl,posB,?_⟩
  exact rest _ (Int.emod_nonneg _ (by have:=posB;omega)) _ rfl
 ·exact rest 5 (by decide) _ rfl
theorem ok__law_length (T:Bi mg) (D:DefOk K mg "_law_length" s__law_length ["pot","way"]) (O__law_take:Ok P w K mg base 1 "_law_take" ["pot","many"] spTake):Ok P w K mg base 2 "_law_length" ["pot","way"] spLength:=by
 refine mk_ok (k:=1) D sc__law_length (fun vs H Q E h=>?_) (fun f cdv A outer s H vs Q E hr h=>?_)
 ·obtain⟨p,y,rfl,_⟩:=h
  rfl
 obtain⟨p,y,rfl,hp,hy0,hy5,q⟩:=h
 have nd:=sc__law_length.nd
 refine⟨_,(pss_cons (ps_if (pt_cmpR op_lt (pv 1) pe_int (nomark _)) (pss_one (ps_ret (pe_ix ix_list (pe_lst (pa_cons pe_int (pa_cons (pe_op op_add pe_int (pe_callD O__law_take hr rfl (pa_cons (pv 0) (pa_cons pe_int pa_nil)))) pa_nil))) (pv 1) (fun _ _=>rfl)))) pss_nil) (pss_cons (ps_if (pt_cmpR op_eq (pv 1) pe_int (nomark _)) (pss_one (ps_ret (pe_op op_add pe_int (pe_callD O__law_take hr rfl (pa_cons (pv 0) (pa_cons pe_int pa_nil)))))) pss_nil) (pss_cons (ps_if (pt_cmpR op_eq (pv 1) pe_int (nomark _)) (pss_one (ps_ret (pe_ix ix_list (pe_lst (pa_cons pe_int (pa_cons pe_int (pa_cons pe_int (pa_cons (pe_op op_pow pe_int pe_int) (pa_cons (pe_op op_sub (pe_op op_pow pe_int pe_int) pe_int) (pa_cons (pe_op op_pow pe_int pe_int) pa_nil))))))) (pe_callD O__law_take hr rfl (pa_cons (pv 0) (pa_cons pe_int pa_nil))) (fun _ _=>rfl)))) pss_nil) (pss_one (ps_ret (pe_op op_add pe_int (pe_op op_mul (pe_callD O__law_take hr rfl (pa_cons (pv 0) (pa_cons (pe_op op_pow pe_int pe_int) pa_nil))) (pe_callD O__law_take hr rfl (pa_cons (pv 0) (pa_cons (pe_op op_add (pe_op op_pow pe_int pe_int) pe_int) pa_nil)))))))))),?_⟩
 refine⟨_,rfl,_,_,rfl,rfl,_,rfl,?_⟩
 refine ite2 (fun c=>?_) (fun c=>?_)
 ·have c':y < 2:=of_decide_eq_true c
  refine⟨_,rfl,p,3,rfl,hp,by decide,by decide,fun r H1 r0 r1 b1 p1=>?_⟩
  refine⟨_,_,rfl,rfl,(by show 2≤sizeLine;decide),fun l hl=>?_⟩
  have at_:∃ v:Int,atI [V.int 1,V.int (1 + r)] y=some (.int v)∧1≤v∧v≤10 ^ 18:=by
   have:y=0∨y=1:=by omega
   rcases this with e | e <;> rw[e]
   ·exact⟨1,rfl,by decide +kernel,by decide +kernel⟩
   ·exact⟨1 + r,rfl,by omega,by omega⟩
  obtain⟨v,hv,v0,v1⟩:=at_
  refine⟨_,rfl,l,_,_,_,rfl,rfl,SqL.of upd_same,hv,?_⟩
  obtain⟨a',b',e',z⟩:=p1
  exact q v _ v0 v1 (b1.trans (But.new hl)) ⟨a',b',(same_new hl) _ _ e',z⟩
 refine⟨_,rfl,rfl,_,rfl,?_⟩
 refine ite2 (fun c2=>?_) (fun c2=>?_)
 ·refine⟨_,rfl,p,50,rfl,hp,by decide,by decide,fun r H1 r0 r1 b1 p1=>?_⟩
  exact⟨_,_,rfl,rfl,q _ _ (by omega) (by omega) b1 p1⟩
 refine⟨_,rfl,rfl,_,rfl,?_⟩
 refine ite2 (fun c3=>?_) (fun c3=>?_)
 ·refine⟨_,_,rfl,rfl,⟨by decide,by decide,by decide⟩,_,_,rfl,rfl,⟨by decide,by decide,by decide⟩,_,_,rfl,rfl,_,_,rfl,rfl,⟨by decide,by decide,by decide⟩,(by show 6≤sizeLine;decide),fun l hl=>?_⟩
  have hp':Pot (upd H l (.lst [V.int 1,V.int 2,V.int 3,V.int ((10:Int) ^ (18:Int).toNat),V.int ((10:Int) ^ (18:Int).toNat - 1),V.int ((10:Int) ^ (17:Int).toNat)])) p:=by
   obtain⟨a',b',e',z⟩:=hp
   exact⟨a',b',(same_new hl) _ _ e',z⟩
  have lp:l≠p:=by
   obtain⟨a',b',e',z⟩:=hp
   exact fun e=>by rw[e,e'] at hl;cases hl
  refine⟨_,rfl,p,6,rfl,hp',by decide,by decide,fun r H1 r0 r1 b1 p1=>?_⟩
  have at_:∃ v:Int,atI [V.int 1,V.int 2,V.int 3,V.int ((10:Int) ^ (18:Int).toNat),V.int ((10:Int) ^ (18:Int).toNat - 1),V.int ((10:Int) ^ (17:Int).toNat)] r=some (.int v)∧1≤v∧v≤10 ^ 18:=by
   have:r=0∨r=1∨r=2∨r=3∨r=4∨r=5:=by omega
   rcases this with e | e | e | e | e | e <;> rw[e] <;> exact⟨_,rfl,by decide +kernel,by decide +kernel⟩
  obtain⟨v,hv,v0,v1⟩:=at_
  refine⟨l,_,_,_,rfl,rfl,SqL.of (b1 _ _ lp upd_same),hv,?_⟩
  exact q v _ v0 v1 ((But.new hl).trans b1) p1
 ·refine⟨_,rfl,_,_,rfl,rfl,⟨by decide,by decide,by decide⟩,p,_,rfl,hp,by decide,by decide,fun r H1 r0 r1 b1 p1=>?_⟩
  refine⟨_,rfl,_,_,rfl,rfl,⟨by decide,by decide,by decide⟩,_,_,rfl,rfl,p,_,rfl,p1,by decide,by decide,fun r2 H2 r20 r21 b2 p2=>?_⟩
  have e9:((10:Int) ^ (9:Int).toNat)=1000000000:=by decide
  rw[e9] at r1 r21
  refine⟨_,_,rfl,rfl,.inl ⟨by omega,by omega⟩,_,_,rfl,rfl,?_⟩
  have m0:0≤r * r2:=Int.mul_nonneg r0 r20
  have m1:r * r2≤999999999 * 1000000000:=Int.mul_le_mul (by omega) (by omega) r20 (by decide)
  exact q _ _ (by omega) (by omega) (b1.trans b2) p2
theorem ok__law_tied (T:Bi mg) (D:DefOk K mg "_law_tied" s__law_tied ["pot","n","style","a","b"]) (O__law_take:Ok P w K mg base 1 "_law_take" ["pot","many"] spTake):Ok P w K mg base 2 "_law_tied" ["pot","n","style","a","b"] spTied:=by
 refine mk_ok (k:=1) D sc__law_tied (fun vs H Q E h=>?_) (fun f cdv A outer s H vs Q E hr h=>?_)
 ·obtain⟨p,n,y,a,b,rfl,_⟩:=h
  rfl
 obtain⟨p,n,y,a,b,rfl,hp,q⟩:=h
 have nd:=sc__law_tied.nd
 have q0:∀ k,Q (.bl k) H:=fun k=>q k H But.refl hp
 refine⟨_,(pss_cons (ps_set (i:=5) nd rfl (Or.inl rfl) (pe_or (pe_cmpR op_eq (pe_op op_sub (pv 4) (pv 3)) pe_int (nomark _)) (pe_one (pe_cmpR op_eq (pe_op op_sub (pv 4) (pv 3)) (pe_op op_sub (pv 1) pe_int) (nomark _))))) (pss_cons (ps_if (pt_cmpR op_lt (pv 2) pe_int (nomark _)) (pss_one (ps_ret (pe_or (pv 5) (pe_one (pe_and (pe_cmpR op_eq (pv 2) pe_int (nomark _)) (pe_one (pe_cmpR op_eq (pe_callD O__law_take hr rfl (pa_cons (pv 0) (pa_cons pe_int pa_nil))) pe_int (nomark _)))))))) pss_nil) (pss_cons (ps_if (pt_cmpR op_lt (pv 2) pe_int (nomark _)) (pss_one (ps_ret (pe_cmpR op_eq (pe_cmpR op_gt (pe_callD O__law_take hr rfl (pa_cons (pv 0) (pa_cons pe_int pa_nil))) pe_int (nomark _)) (pe_cmpR op_eq (pv 2) pe_int (nomark _)) (nomark _)))) pss_nil) (pss_cons (ps_if (pt_cmpR op_eq (pv 2) pe_int (nomark _)) (pss_one (ps_ret (pe_or (pe_cmpR op_eq (pe_op op_sub (pv 4) (pv 3)) pe_int (nomark _)) (pe_one (pe_and (pe_cmpR op_eq (pe_op op_sub (pv 4) (pv 3)) pe_int (nomark _)) (pe_one (pe_cmpR op_gt (pe_op op_mod (pv 4) pe_int) pe_int (nomark _)))))))) pss_nil) (pss_cons (ps_if (pt_cmpR op_lt (pv 2) pe_int (nomark _)) (pss_one (ps_ret (pe_and (pe_cmpR op_eq (pe_cmpR op_eq (pe_op op_mod (pv 3) pe_int) (pe_op op_mod (pv 4) pe_int) (nomark _)) (pe_cmpR op_eq (pv 2) pe_int (nomark _)) (nomark _)) (pe_one (pe_cmpR op_gt (pe_callD O__law_take hr rfl (pa_cons (pv 0) (pa_cons pe_int pa_nil))) pe_int (nomark _)))))) pss_nil) (pss_one (ps_ret pe_bl))))))),?_⟩
 refine⟨_,rfl,_,rfl,_,_,rfl,rfl,rfl,_,rfl,?_⟩
 refine ite2 (fun c=>?_) (fun c=>?_)
 all_goals (try refine⟨_,rfl,_,rfl,_,_,rfl,rfl,_,rfl,_,_,rfl,rfl,rfl,?_⟩)
 all_goals
  refine⟨_,rfl,_,_,rfl,rfl,_,rfl,?_⟩
  refine ite2 (fun c1=>?_) (fun c1=>?_)
  ·refine⟨_,rfl,_,rfl,?_⟩
   refine ite2 (fun d=>?_) (fun d=>?_)
   ·exact q0 _
   ·refine⟨_,rfl,rfl,_,rfl,?_⟩
    refine ite2 (fun d=>?_) (fun d=>?_)
    ·exact⟨_,rfl,p,_,rfl,hp,by decide,by decide,fun r H' _ _ b1 p1=>⟨rfl,q _ _ b1 p1⟩⟩
    ·exact q0 _
  refine⟨_,rfl,_,_,rfl,rfl,_,rfl,?_⟩
  refine ite2 (fun c2=>?_) (fun c2=>?_)
  ·exact⟨_,rfl,p,_,rfl,hp,by decide,by decide,fun r H' _ _ b1 p1=>⟨_,_,rfl,rfl,_,rfl,rfl,rfl,q _ _ b1 p1⟩⟩
  refine⟨_,rfl,rfl,_,rfl,?_⟩
  refine ite2 (fun c3=>?_) (fun c3=>?_)
  ·refine⟨_,rfl,_,rfl,_,_,rfl,rfl,rfl,_,rfl,?_⟩
   refine ite2 (fun d=>?_) (fun d=>?_)
   ·exact q0 _
   ·refine⟨_,rfl,_,rfl,_,_,rfl,rfl,rfl,_,rfl,?_⟩
    refine ite2 (fun d=>?_) (fun d=>?_)
    ·exact⟨_,rfl,_,_,rfl,rfl,(by show (0:Int) < 3;decide),_,_,rfl,rfl,q0 _⟩
    ·exact q0 _
  refine⟨_,rfl,_,_,rfl,rfl,_,rfl,?_⟩
  refine ite2 (fun c4=>?_) (fun c4=>?_)
  ·refine⟨_,rfl,_,_,rfl,rfl,(by show (0:Int) < 2;decide),_,rfl,_,_,rfl,rfl,(by show (0:Int) < 2;decide),rfl,_,rfl,rfl,rfl,_,rfl,?_⟩
   refine ite2 (fun d=>?_) (fun d=>?_)
   ·exact⟨_,rfl,p,_,rfl,hp,by decide,by decide,fun r H' _ _ b1 p1=>⟨_,_,rfl,rfl,q _ _ b1 p1⟩⟩
   ·exact q0 _
  ·exact q0 _
theorem ok__law_order (T:Bi mg) (D:DefOk K mg "_law_order" s__law_order ["pot","many"]) (O__law_take:Ok P w K mg base 1 "_law_take" ["pot","many"] spTake):Ok P w K mg base 2 "_law_order" ["pot","many"] spOrder:=by
 refine mk_ok (k:=1) D sc__law_order (fun vs H Q E h=>?_) (fun f cdv A outer s H vs Q E hr h=>?_)
 ·obtain⟨p,m,rfl,_⟩:=h
  rfl
 obtain⟨p,m,rfl,hp,hm0,hm1,q⟩:=h
 have nd:=sc__law_order.nd
 refine⟨_,(pss_cons (ps_set (i:=2) nd rfl (Or.inl rfl) (pe_callTy (call_list_rng rfl) rfl T.z_list (by decide +kernel) (pa_cons (pe_callTy call_range rfl T.z_range (by decide +kernel) (pa_cons (pv 1) pa_nil)) pa_nil))) (pss_cons (ps_set (i:=3) nd rfl (Or.inl rfl) (pe_lst pa_nil)) (pss_cons (ps_for PassesOwn.never rfl (pi_range1 rfl T.z_range (pa_cons (pv 1) pa_nil)) (pg_name (i:=4) nd rfl (Or.inl rfl)) (pss_one (ps_expr (pe_bm PySem.F.plainAttrs_list PySem.F.slot_list_append PySem.F.type_list_append mt_append (pv 3) (pa_cons (pe_bm PySem.F.plainAttrs_list PySem.F.slot_list_pop PySem.F.type_list_pop mt_popAt (pv 2) (pa_cons (pe_callD O__law_take hr rfl (pa_cons (pv 0) (pa_cons (pe_callB call_len_seq rfl T.z_len (by decide +kernel) (pa_cons (pv 2) pa_nil)) pa_nil))) pa_nil)) pa_nil))))) (pss_one (ps_ret (pv 3)))))),?_⟩
 refine⟨_,rfl,m,rfl,fun g hg=>?_⟩
 refine⟨g,m,rfl,upd_same,hm0,hm1,fun l hl=>?_⟩
 refine⟨(by show 0≤sizeLine;decide),fun l2 hl2=>?_⟩
 obtain⟨H0,eH0⟩:∃ H0,H0=upd (upd (upd H g (.rng 0 m)) l (.lst ((List.range m.toNat).map fun i:Nat=>V.int (i:Int)))) l2 (.lst []):=⟨_,rfl⟩
 rw[← eH0]
 have S1:Same H (upd H g (.rng 0 m)):=same_new hg
 have S2:=S1.trans (same_new (o:=.lst ((List.range m.toNat).map fun i:Nat=>V.int (i:Int))) hl)
 have S3:Same H H0:=by rw[eH0];exact S2.trans (same_new hl2)
 have fl:H l=none:=S1.free hl
 have fl2:H l2=none:=S2.free hl2
 have ll2:l≠l2:=fun e=>by rw[← e,upd_same] at hl2;cases hl2
 have el:H0 l=some (.lst ((List.range m.toNat).map fun i:Nat=>V.int (i:Int))):=by rw[eH0,upd_ne ll2,upd_same]
 have el2:H0 l2=some (.lst []):=by rw[eH0,upd_same]
 have hp0:Pot H0 p:=by
  obtain⟨a,b,e,z⟩:=hp
  exact⟨a,b,S3 _ _ e,z⟩
 have nlp:l≠p:=by
  obtain⟨a,b,e,z⟩:=hp
  exact fun x=>by rw[x,e] at fl;cases fl
 have nl2p:l2≠p:=by
  obtain⟨a,b,e,z⟩:=hp
  exact fun x=>by rw[x,e] at fl2;cases fl2
 refine⟨_,rfl,m,rfl,by omega,by omega,?_⟩
 refine for_range (n:=m.toNat) (fun i σ H'=>∃ (t:Option V) (ls ms:List Int),σ=[some (.ref p),some (.int m),some (.ref l),some (.ref l2),t]∧H' l=some (.lst (ls.map V.int))∧H' l2=some (.lst (ms.map V.int))∧Pot H' p ∧
  (∀ b o,b≠p->H b=some o->H' b=some o)∧(ms++ls).Perm ((List.range m.toNat).map fun i:Nat=>(i:Int))∧ms.length=i) ?start ?turn ?fin
 case start=>exact⟨none,(List.range m.toNat).map fun i:Nat=>(i:Int),[],rfl,by rw[el,List.map_map];rfl,el2,hp0,fun b o _ e=>S3 b o e,List.Perm.refl _,rfl⟩
 case turn =>
  rintro i σ H' hi ⟨t,ls,ms,rfl,e1,e2,hp',kp,pm,hl'⟩
  have hlen:ls.length=m.toNat - i:=by
   have:=pm.length_eq
   rw[List.length_append,List.length_map,List.length_range] at this
   omega
  refine⟨_,rfl,.inl ⟨rfl,_,SqL.of e2⟩,_,rfl,.inl ⟨rfl,_,SqL.of e1⟩,_,rfl,_,rfl,l,_,rfl,.inl (SqL.of e1),?_⟩
  refine⟨p,_,rfl,hp',(by rw[List.length_map];omega),(by rw[List.length_map];omega),fun r H1 r0 r1 b1 p1=>?_⟩
  rw[List.length_map] at r1
  have hr1:r.toNat < ls.length:=by omega
  have er:r=((r.toNat:Nat):Int):=by omega
  have six:seqIndex? r (ls.map V.int).length=some r.toNat:=(ixN_seq (by unfold ixN;rw[if_pos r0,if_pos (by rw[List.length_map];omega)])).1
  refine⟨l,_,r,r.toNat,.int ls[r.toNat],rfl,rfl,b1 _ _ nlp e1,by omega,by omega,six,by rw[List.getElem?_map,List.getElem?_eq_getElem hr1];rfl,?_⟩
  refine⟨l2,_,_,rfl,rfl,by rw[upd_ne ll2.symm];exact b1 _ _ nl2p e2,?_,?_⟩
  ·rw[List.length_map]
   exact Nat.lt_of_le_of_lt (by omega:ms.length≤1000) (by decide)
  ·refine⟨_,ls.eraseIdx r.toNat,ms++[ls[r.toNat]],rfl,?_,?_,?_,?_,?_,by rw[List.length_append,List.length_singleton];omega⟩
   ·rw[upd_ne ll2,upd_same,map_erase]
   ·rw[upd_same,List.map_append];rfl
   ·obtain⟨a,b,e,z⟩:=p1
    exact⟨a,b,by rw[upd_ne nl2p.symm,upd_ne nlp.symm];exact e,z⟩
   ·intro b o hb e
    have n1:b≠l:=fun x=>by rw[x,fl] at e;cases e
    have n2:b≠l2:=fun x=>by rw[x,fl2] at e;cases e
    rw[upd_ne n2,upd_ne n1]
    exact b1 _ _ hb (kp _ _ hb e)
   ·refine List.Perm.trans ?_ pm
    rw[List.append_assoc]
    refine List.Perm.append_left _ ?_
    show (ls[r.toNat]::ls.eraseIdx r.toNat).Perm ls
    exact erase_perm ls r.toNat hr1
 case fin =>
  rintro σ H' ⟨t,ls,ms,rfl,e1,e2,hp',kp,pm,hl'⟩
  have hlen:ls=[]:=by
   have:=pm.length_eq
   rw[List.length_append,List.length_map,List.length_range] at this
   exact List.eq_nil_of_length_eq_zero (by omega)
  subst hlen
  rw[List.append_nil] at pm
  exact⟨_,rfl,q l2 H' ms kp hp' fl2 nl2p e2 pm⟩
/-- between the turns of the web's loops -/
def WInv (H:Hp) (p ln lt:Addr) (m n st wy:Int) (ms:List Int) (b a:Nat) (σ:L2.St) (H':Hp):Prop :=
 ∃ (t7 t8 t9 t10:Option V) (ys:List V) (ties:List Tie),σ=[some (.ref p),some (.int m),some (.int n),some (.int st),some (.int wy),some (.ref ln),some (.ref lt),t7,t8,t9,t10] ∧
  H' ln=some (.lst (ms.map V.int))∧H' lt=some (.lst ys)∧TieL H' ys ties∧Pot H' p∧(∀ b o,b≠p->H b=some o->H' b=some o)∧Grown n.toNat ms b a ties
theorem ok__law_web (T:Bi mg) (D:DefOk K mg "_law_web" s__law_web ["pot","most"]) (O__law_take:Ok P w K mg base 2 "_law_take" ["pot","many"] spTake) (O__law_order:Ok P w K mg base 2 "_law_order" ["pot","many"] spOrder)
  (O__law_tied:Ok P w K mg base 2 "_law_tied" ["pot","n","style","a","b"] spTied) (O__law_length:Ok P w K mg base 2 "_law_length" ["pot","way"] spLength):Ok P w K mg base 3 "_law_web" ["pot","most"] (spWeb K):=by
 refine mk_ok (k:=2) D sc__law_web (fun vs H Q E h=>?_) (fun f cdv A outer s H vs Q E hr h=>?_)
 ·obtain⟨p,m,rfl,_⟩:=h
  rfl
 obtain⟨p,m,rfl,hp,hm0,hm1,q⟩:=h
 have nd:=sc__law_web.nd
 refine⟨_,(pss_cons (ps_set (i:=2) nd rfl (Or.inl rfl) (pe_op op_add pe_int (pe_callD O__law_take hr rfl (pa_cons (pv 0) (pa_cons (pv 1) pa_nil))))) (pss_cons (ps_set (i:=3) nd rfl (Or.inl rfl) (pe_callD O__law_take hr rfl (pa_cons (pv 0) (pa_cons pe_int pa_nil)))) (pss_cons (ps_set (i:=4) nd rfl (Or.inl rfl) (pe_callD O__law_take hr rfl (pa_cons (pv 0) (pa_cons pe_int pa_nil)))) (pss_cons (ps_set (i:=5) nd rfl (Or.inl rfl) (pe_callD O__law_order hr rfl (pa_cons (pv 0) (pa_cons (pv 2) pa_nil)))) (pss_cons (ps_set (i:=6) nd rfl (Or.inl rfl) (pe_lst pa_nil)) (pss_cons (ps_for PassesOwn.never rfl (pi_range1 rfl T.z_range (pa_cons (pv 2) pa_nil)) (pg_name (i:=7) nd rfl (Or.inl rfl)) (pss_one (ps_for PassesOwn.never rfl (pi_range1 rfl T.z_range (pa_cons (pv 7) pa_nil)) (pg_name (i:=8) nd rfl (Or.inl rfl)) (pss_one (ps_if (PW.pt (pw_and (pt_val (pe_callD O__law_tied hr rfl (pa_cons (pv 0) (pa_cons (pv 2) (pa_cons (pv 3) (pa_cons (pv 8) (pa_cons (pv 7) pa_nil))))))) (pw_and1 (pt_cmpR op_lt (pe_callB call_len_seq rfl T.z_len (by decide +kernel) (pa_cons (pv 6) pa_nil)) pe_int (nomark _))))) (pss_cons (ps_asg (pe_callB call_sortedI rfl T.z_sorted (by decide +kernel) (pa_cons (pe_lst (pa_cons (pe_ix ix_list (pv 5) (pv 8) (fun _ _=>rfl)) (pa_cons (pe_ix ix_list (pv 5) (pv 7) (fun _ _=>rfl)) pa_nil))) pa_nil)) (pg_lst (n:=2) rfl (pgs_cons (pg_name (i:=9) nd rfl (Or.inl rfl)) (pgs_cons (pg_name (i:=10) nd rfl (Or.inl rfl)) pgs_nil)))) (pss_one (ps_expr (pe_bm PySem.F.plainAttrs_list PySem.F.slot_list_append PySem.F.type_list_append mt_append (pv 6) (pa_cons (pe_tup (pa_cons (pv 9) (pa_cons (pv 10) (pa_cons (pe_callD O__law_length hr rfl (pa_cons (pv 0) (pa_cons (pv 4) pa_nil))) pa_nil)))) pa_nil))))) pss_nil))))) (pss_one (ps_ret (pe_tup (pa_cons (pv 2) (pa_cons (pe_callTy call_tuple_of rfl T.z_tuple (by decide +kernel) (pa_cons (pe_callB call_sortedT rfl T.z_sorted (by decide +kernel) (pa_cons (pv 6) pa_nil)) pa_nil)) pa_nil))))))))))),?_⟩
 refine⟨_,rfl,_,rfl,p,m,rfl,hp,by omega,by omega,fun r1 H1 r10 r11 b1 p1=>?_⟩
 refine⟨_,_,rfl,rfl,?_⟩
 refine⟨_,rfl,p,8,rfl,p1,by decide,by decide,fun st H2 _ _ b2 p2=>?_⟩
 refine⟨_,rfl,p,5,rfl,p2,by decide,by decide,fun wy H3 wy0 wy1 b3 p3=>?_⟩
 refine⟨_,rfl,_,rfl,p,_,rfl,p3,by omega,by omega,fun ln H4 ms b4 p4 f4 n4 e4 pm=>?_⟩
 obtain⟨n,en⟩:∃ n:Int,n=1 + r1:=⟨_,rfl⟩
 rw[← en] at pm
 have bt4:But p H H4:=b1.trans (b2.trans (b3.trans b4))
 have fln:H ln=none:=by
  cases e:H ln with
  | none=>rfl
  | some u=>rw[(b1.trans (b2.trans b3)) _ _ n4 e] at f4;cases f4
 refine⟨(by show 0≤sizeLine;decide),fun lt hlt=>?_⟩
 have flt:H lt=none:=by
  by_cases z:lt=p
  ·obtain⟨a',b',e',_⟩:=p4;rw[z,e'] at hlt;cases hlt
  ·cases e:H lt with
   | none=>rfl
   | some u=>rw[bt4 _ _ z e] at hlt;cases hlt
 have nlt:lt≠p:=by
  obtain⟨a',b',e',_⟩:=p4
  exact fun x=>by rw[x,e'] at hlt;cases hlt
 have nln:ln≠lt:=fun x=>by rw[← x,e4] at hlt;cases hlt
 have pm0:Perm0 n.toNat ms:=Perm0.of pm
 refine⟨_,rfl,n,by rw[en],by omega,by omega,?_⟩
 refine for_range (n:=n.toNat) (fun i σ H'=>WInv H p ln lt m n st wy ms i 0 σ H') ?start ?turn ?fin
 case start =>
  refine⟨none,none,none,none,[],[],by rw[en];rfl,by rw[upd_ne nln];exact e4,upd_same,.nil,?_,fun b o hb e=>?_,Grown.start⟩
  ·obtain⟨a',b',e',z⟩:=p4
   exact⟨a',b',by rw[upd_ne nlt.symm];exact e',z⟩
  ·rw[upd_ne (fun x=>by rw[x,flt] at e;cases e)]
   exact bt4 _ _ hb e
 case turn =>
  rintro i σ H' hi ⟨t7,t8,t9,t10,ys,ties,rfl,g1,g2,g3,g4,g5,g6⟩
  refine⟨_,rfl,_,rfl,by omega,by omega,?_⟩
  have ei:((0 + (i:Int)):Int).toNat=i:=by omega
  rw[ei]
  refine for_range (n:=i) (fun k σ H''=>(∃ t7,σ[7]?=some (some (.int (0 + (i:Int))))∧t7=())∧WInv H p ln lt m n st wy ms i k σ H'') ?start2 ?turn2 ?fin2
  case start2=>exact⟨⟨(),rfl,rfl⟩,some (.int (0 + (i:Int))),t8,t9,t10,ys,ties,rfl,g1,g2,g3,g4,g5,g6⟩
  case fin2 =>
   rintro σ H'' ⟨_,t7,t8,t9,t10,ys,ties,rfl,g1,g2,g3,g4,g5,g6⟩
   exact⟨t7,t8,t9,t10,ys,ties,rfl,g1,g2,g3,g4,g5,g6.down⟩
  case turn2 =>
   rintro k σ K1 hk ⟨⟨_,h7,_⟩,t7,t8,t9,t10,ys,ties,rfl,g1,g2,g3,g4,g5,g6⟩
   have e7:t7=some (.int (0 + (i:Int))):=by simpa using h7
   subst e7
   have again : ∀ {u8 u9 u10 : Option V} {ys' : List V} {ts : List Tie} {J : Hp}, J ln = some (.lst (ms.map V.int)) → J lt = some (.lst ys') → TieL J ys' ts → Pot J p → (∀ b o, b ≠ p → H b = some o → J b = some o) → Grown n.toNat ms i (k + 1) ts →
       (∃ t7,([some (.ref p),some (.int m),some (.int n),some (.int st),some (.int wy),some (.ref ln),some (.ref lt),some (.int (0 + (i:Int))),u8,u9,u10]:L2.St)[7]?=some (some (.int (0 + (i:Int))))∧t7=())∧WInv H p ln lt m n st wy ms i (k + 1) [some (.ref p),some (.int m),some (.int n),some (.int st),some (.int wy),some (.ref ln),some (.ref lt),some (.int (0 + (i:Int))),u8,u9,u10] J :=
    fun a1 a2 a3 a4 a5 a6=>⟨⟨(),rfl,rfl⟩,_,_,_,_,_,_,rfl,a1,a2,a3,a4,a5,a6⟩
   refine⟨_,rfl,_,rfl,_,rfl,_,rfl,_,rfl,p,_,_,_,_,rfl,g4,fun kk K2 c2 d2=>⟨kk,rfl,?_⟩⟩
   have nlnp:ln≠p:=n4
   have l1:K2 ln=some (.lst (ms.map V.int)):=c2 _ _ nlnp g1
   have l2:K2 lt=some (.lst ys):=c2 _ _ nlt g2
   have tup2:∀ a xs,K1 a=some (.tup xs)->K2 a=some (.tup xs):=fun a xs e=>c2 _ _ (fun x=>by
    obtain⟨a',b',e',_⟩:=g4
    rw[x,e'] at e;cases e) e
   have l3:TieL K2 ys ties:=g3.keep tup2
   have l5:∀ b o,b≠p->H b=some o->K2 b=some o:=fun b o hb e=>c2 _ _ hb (g5 _ _ hb e)
   have ylen:ys.length=ties.length:=Paired.length g3
   cases kk with
   | false =>
    refine iteF (iteF ?_)
    exact again l1 l2 l3 d2 l5 g6.skip
   | true =>
    refine iteT ?_
    refine⟨_,rfl,lt,_,rfl,.inl (SqL.of l2),_,_,rfl,rfl,_,rfl,?_⟩
    refine ite2 (fun c=>?_) (fun c=>?_)
    case refine_2=>exact again l1 l2 l3 d2 l5 g6.skip
    have c':((ys.length:Nat):Int) < 60:=of_decide_eq_true c
    have hkn:k < n.toNat:=by omega
    have at_:∀ j:Nat,j < n.toNat->atI (ms.map V.int) (j:Int)=some (.int (ms.getD j 0)):=fun j hj=>by
     have hj':j < ms.length:=by rw[pm0.len];exact hj
     refine atI_nat ?_
     rw[List.getElem?_map,List.getElem?_eq_getElem hj']
     simp [List.getD,hj']
    have ak:atI (ms.map V.int) (0 + (k:Int))=some (.int (ms.getD k 0)):=by rw[Int.zero_add];exact at_ k hkn
    have ai:atI (ms.map V.int) (0 + (i:Int))=some (.int (ms.getD i 0)):=by rw[Int.zero_add];exact at_ i hi
    refine⟨_,rfl,_,rfl,ln,_,_,_,rfl,rfl,SqL.of l1,ak,_,rfl,_,rfl,ln,_,_,_,rfl,rfl,SqL.of l1,ai,(by show 2≤sizeLine;decide),fun s1 hs1=>?_⟩
    refine⟨s1,[ms.getD k 0,ms.getD i 0],rfl,SqL.of upd_same,(by show 2 < 64;decide),fun zs pz wz s2 hs2=>?_⟩
    obtain⟨x,y,rfl,hxy,hor⟩:=two_sorted pz wz
    refine⟨s2,_,rfl,SqL.of upd_same,rfl,?_⟩
    refine⟨_,_,rfl,_,_,rfl,rfl,?_⟩
    have n1:∀ b o,K2 b=some o->b≠s1:=fun b o e=>ne_of_none e hs1
    have n2:∀ b o,K2 b=some o->b≠s2:=fun b o e=>ne_of_none (same_new hs1 b o e) hs2
    have up:∀ b o,K2 b=some o->upd (upd K2 s1 (.lst [.int (ms.getD k 0),.int (ms.getD i 0)])) s2 (.lst [.int x,.int y]) b=some o:=fun b o e=>by rw[upd_ne (n2 b o e),upd_ne (n1 b o e)];exact e
    refine⟨_,rfl,.inl ⟨rfl,_,SqL.of (up _ _ l2)⟩,_,rfl,_,rfl,_,rfl,_,rfl,?_⟩
    refine⟨p,wy,rfl,?_,wy0,wy1,fun len K5 ln0 ln1 c5 d5=>?_⟩
    ·obtain⟨a',b',e',z⟩:=d2
     exact⟨a',b',up _ _ e',z⟩
    refine⟨(by show 3≤sizeLine;decide),fun tp htp=>?_⟩
    have pl:∃ xs,K2 p=some (.lst xs):=d2.lst
    have up5:∀ b o,b≠p->K2 b=some o->upd K5 tp (.tup [.int x,.int y,.int len]) b=some o:=fun b o hb e=>by
     have e5:=c5 b o hb (up b o e)
     rw[upd_ne (ne_of_none e5 htp)];exact e5
    refine⟨lt,_,_,rfl,rfl,up5 _ _ nlt l2,?_,?_⟩
    ·exact Nat.lt_of_le_of_lt (by omega:ys.length≤1000) (by decide)
    have k5:∀ b o,b≠p->b≠lt->K2 b=some o->upd (upd K5 tp (.tup [.int x,.int y,.int len])) lt (.lst (ys++[.ref tp])) b=some o:=fun b o hb hb2 e=>by rw[upd_ne hb2];exact up5 b o hb e
    have ntp:tp≠lt:=fun z=>by
     have:=c5 _ _ nlt (up _ _ l2)
     rw[← z,htp] at this;cases this
    refine again (k5 _ _ nlnp nln l1) upd_same (TieL.snoc (TieL.keep l3 fun a xs e=>k5 _ _ ?_ ?_ e) ?_) ?_ (fun b o hb e=>k5 _ _ hb (fun z=>by rw[z,flt] at e;cases e) (l5 _ _ hb e))
     (g6.add (x:=x) (y:=y) (l:=len) pm0 hk hi (by omega) ln0 ln1 hor hxy)
    ·intro z
     obtain⟨xs',e'⟩:=pl
     rw[z,e'] at e;cases e
    ·intro z
     rw[z,l2] at e;cases e
    ·rw[upd_ne ntp,upd_same];rfl
    ·obtain⟨a',b',e',z⟩:=d5
     exact⟨a',b',by rw[upd_ne nlt.symm,upd_ne (ne_of_none e' htp)];exact e',z⟩
 case fin =>
  rintro σ H' ⟨t7,t8,t9,t10,ys,ties,rfl,g1,g2,g3,g4,g5,g6⟩
  have ylen:ys.length=ties.length:=Paired.length g3
  have few:=g6.few
  refine⟨_,rfl,_,rfl,lt,ys,ties.map tieI,rfl,SqL.of g2,by omega,paired_keys (fun y t ⟨a,e1,e2⟩=>⟨a,e1,SqT.of e2⟩) g3,fun k hk=>?_,fun qs pq wq l hl=>?_⟩
  ·obtain⟨t,_,rfl⟩:=List.mem_map.mp hk
   exact fun z=>by cases z
  obtain⟨ts,pt,tl,wt⟩:=tie_out g3 pq wq
  refine⟨l,_,rfl,.inl ⟨SqL.of upd_same,fun l' hl'=>?_⟩⟩
  refine⟨(by show 2≤sizeLine;decide),fun v hv=>?_⟩
  have S1:Same H' (upd H' l (.lst (qs.map (·.1)))):=same_new hl
  have S2:=S1.trans (same_new (o:=.tup (qs.map (·.1))) hl')
  have S3:=S2.trans (same_new (o:=.tup [.int n,.ref l']) hv)
  refine q (.ref v) _ n ts (fun b o hb e=>S3 _ _ (g5 _ _ hb e)) ?_ ⟨by omega,by omega,rise_of wt ((pt.pairwise_iff (fun {a b} h z=>h ⟨z.1.symm,z.2.symm⟩)).mpr g6.nd),by have:=pt.length_eq;omega,fun t ht=>?_⟩ (by omega) ?_
  ·obtain⟨a',b',e',z⟩:=g4
   exact⟨a',b',S3 _ _ e',z⟩
  ·have:=g6.ok t (pt.mem_iff.mp ht)
   have e:((n.toNat:Nat):Int)=n:=by omega
   rw[e] at this
   exact this
  ·refine⟨v,_,rfl,upd_same,_,_,rfl,rfl,_,_,rfl,⟨l',qs.map (·.1),rfl,?_,?_⟩,rfl⟩
   ·exact (same_new hv) _ _ upd_same
   ·exact TieL.is (tl.keep fun a xs e=>S3 _ _ e)
theorem ok__law_keep (T:Bi mg) (D:DefOk K mg "_law_keep" s__law_keep ["pot","web"]) (O__law_take:Ok P w K mg base 1 "_law_take" ["pot","many"] spTake):Ok P w K mg base 2 "_law_keep" ["pot","web"] (spKeep K):=by
 refine mk_ok (k:=1) D sc__law_keep (fun vs H Q E h=>?_) (fun f cdv A outer s H vs Q E hr h=>?_)
 ·obtain⟨p,n,ts,v,rfl,_⟩:=h
  rfl
 obtain⟨p,n,ts,v,rfl,hp,hw,few60,q⟩:=h
 have nd:=sc__law_keep.nd
 refine⟨_,(pss_cons (ps_set (i:=2) nd rfl (Or.inr rfl) (pe_callD O__law_take hr rfl (pa_cons (pv 0) (pa_cons pe_int pa_nil)))) (pss_one (ps_ret (pe_callTy call_tuple_of rfl T.z_tuple (by decide +kernel) (pa_cons (pe_comp (N:=["pot","web","way"]) (sc0:=defScope s__law_keep) (own:=["number"]) (fr:=["way","pot"]) (js:=[2,0]) rfl (pi_range1 rfl T.z_range (pa_cons (pe_callB call_len_seq rfl T.z_len (by decide +kernel) (pa_cons (pe_ix ix_tup (pv 1) pe_int (fun _ _=>rfl)) pa_nil)) pa_nil)) (fun _ _ _ _=>(pg_name (i:=0) (by show List.Nodup [("number":Str),("way":Str),("pot":Str)];decide +kernel) rfl (Or.inl rfl))) (fun _ _ _ _=>(pts_one (PW.pt (pw_or (pt_cmpR op_eq (pv 1) pe_int (nomark _)) (pw_or1 (PW.pt (pw_and (pt_cmpR op_gt (pv 1) pe_int (nomark _)) (pw_and1 (pt_cmpR op_eq (pe_cmpR op_eq (pe_callD O__law_take hr rfl (pa_cons (pv 2) (pa_cons pe_int pa_nil))) pe_int (nomark _)) (pe_cmpR op_eq (pv 1) pe_int (nomark _)) (nomark _)))))))))) (fun _ _ _ _=>(pv 0))) pa_nil))))),?_⟩
 refine⟨_,rfl,p,4,rfl,hp,by decide,by decide,fun way H1 w0 w1 b1 p1=>?_⟩
 obtain⟨g0,g,ws,rfl,hg0,hg,hall,hlw⟩:=web_parts hw
 obtain⟨xs0,e0⟩:=hp.lst
 have tup1:∀ c zs,H c=some (.tup zs)->H1 c=some (.tup zs):=fun c zs e=>b1 _ _ (fun x=>by rw[x,e0] at e;cases e) e
 refine⟨_,rfl,g0,_,_,_,rfl,rfl,SqT.of (tup1 _ _ hg0),rfl,g,_,rfl,.inr (SqT.of (tup1 _ _ hg)),_,rfl,by omega,by omega,fun L hL=>?_⟩
 have nLp:L≠p:=by
  obtain⟨a',b',e',_⟩:=p1
  exact fun z=>by rw[z,e'] at hL;cases hL
 have en:(((ws.length:Nat):Int)).toNat=ts.length:=by omega
 rw[en]
 refine⟨fun i m ys σ' H'=>m=ts.length - i∧i≤ts.length∧(∃ o,σ'=[o,some (.int way),some (.ref p)])∧But p H1 H'∧Pot H' p∧∃ ks:List Nat,ys=(keepI ks).map V.int∧KeepOk i ks,⟨ts.length,rfl,Nat.zero_le _,⟨none,rfl⟩,But.new hL,?_,[],rfl,.nil,fun k hk=>by cases hk⟩,?_⟩
 ·obtain⟨a',b',e',z⟩:=p1
  exact⟨a',b',by rw[upd_ne nLp.symm];exact e',z⟩
 rintro i m ys σ' H' ⟨rfl,hi,⟨o,rfl⟩,bt,pt,ks,rfl,ko⟩ hd
 by_cases hlt:i < ts.length
 ·refine .inr ⟨hlt,fun x H2 hy=>?_⟩
  obtain⟨rfl,rfl⟩:=hy
  have lenk:ks.length≤i:=ko.len
  have takeIt : ∀ {J : Hp}, But p H2 J → Pot J p → J L = some (.lst ((keepI ks).map V.int)) ∧ ((keepI ks).map V.int).length < sizeLine ∧ ∃ m', m' < ts.length - i ∧ (m' = ts.length - (i + 1) ∧ i + 1 ≤ ts.length ∧ (∃ o, ([some (V.int (0 + (i : Int))), some (.int way), some (.ref p)] : L2.St) = [o, some (.int way), some (.ref p)]) ∧
      But p H1 (upd J L (.lst ((keepI ks).map V.int++[.int (0 + (i:Int))])))∧Pot (upd J L (.lst ((keepI ks).map V.int++[.int (0 + (i:Int))]))) p∧∃ ks':List Nat,(keepI ks).map V.int++[.int (0 + (i:Int))]=(keepI ks').map V.int∧KeepOk (i + 1) ks'):=fun {J} bj pj=>by
   refine⟨bj _ _ nLp hd,?_,ts.length - (i + 1),by omega,rfl,hlt,⟨_,rfl⟩,fun b o hb e=>?_,?_,ks++[i],?_,?_⟩
   ·rw[List.length_map];unfold keepI;rw[List.length_map]
    exact Nat.lt_of_le_of_lt (by omega:ks.length≤1000) (by decide)
   ·rw[upd_ne (ne_of_none e hL)];exact bj _ _ hb (bt _ _ hb e)
   ·obtain⟨a',b',e',z⟩:=pj
    exact⟨a',b',by rw[upd_ne nLp.symm];exact e',z⟩
   ·unfold keepI
    rw[List.map_append,List.map_append]
    simp
   ·refine⟨List.pairwise_append.mpr ⟨ko.1,List.pairwise_singleton _ _,fun x hx y hy=>?_⟩,fun k hk=>?_⟩
    ·have:y=i:=by simpa using hy
     rw[this];exact ko.2 x hx
    ·rcases List.mem_append.mp hk with hk | hk
     ·have:=ko.2 k hk;omega
     ·have:k=i:=by simpa using hk
      omega
  have leaveIt:∀ {J:Hp},But p H2 J->Pot J p->J L=some (.lst ((keepI ks).map V.int))∧∃ m',m' < ts.length - i∧(m'=ts.length - (i + 1)∧i + 1≤ts.length∧(∃ o,([some (V.int (0 + (i:Int))),some (.int way),some (.ref p)]:L2.St)=[o,some (.int way),some (.ref p)])∧But p H1 J∧Pot J p∧∃ ks':List Nat,(keepI ks).map V.int=(keepI ks').map V.int∧KeepOk (i + 1) ks'):=fun {J} bj pj =>
   ⟨bj _ _ nLp hd,ts.length - (i + 1),by omega,rfl,hlt,⟨_,rfl⟩,bt.trans bj,pj,ks,rfl,ko.1,fun k hk=>by have:=ko.2 k hk;omega⟩
  refine⟨_,rfl,rfl,_,rfl,ite2 (fun c=>?_) (fun c=>?_)⟩
  ·exact iteT ⟨_,rfl,takeIt But.refl pt⟩
  ·refine⟨_,rfl,_,_,rfl,rfl,_,rfl,ite2 (fun c2=>?_) (fun c2=>?_)⟩
   ·refine⟨_,rfl,p,4,rfl,pt,by decide,by decide,fun r J _ _ bj pj=>⟨rfl,_,rfl,rfl,rfl,_,rfl,ite2 (fun c3=>?_) (fun c3=>?_)⟩⟩
    ·exact⟨_,rfl,takeIt bj pj⟩
    ·exact leaveIt bj pj
   ·exact iteF (leaveIt But.refl pt)
 ·have e:i=ts.length:=by omega
  subst e
  refine .inl ⟨Nat.le_refl _,L,_,rfl,.inl ⟨SqL.of hd,fun l hl=>?_⟩⟩
  refine q _ _ ks (b1.trans (bt.trans (But.new hl))) ?_ ko ⟨l,_,rfl,upd_same,IsAll.ints _⟩
  obtain⟨a',b',e',z⟩:=pt
  exact⟨a',b',(same_new hl) _ _ e',z⟩
theorem ok_is_whole (T:Bi mg) (D:DefOk K mg "is_whole" s_is_whole ["thing"]):Ok P w K mg base 1 "is_whole" ["thing"] (spD1 K (fun _=>True) wholeB):=by
 refine mk_ok (k:=0) D sc_is_whole (fun vs H Q E h=>?_) (fun f cdv A outer s H vs Q E hr h=>?_)
 ·obtain⟨d,v,rfl,_⟩:=h
  rfl
 obtain⟨d,v,rfl,hd,_,q⟩:=h
 have nd:=sc_is_whole.nd
 have q0:=q H (Same.refl H)
 have ty:=ty_of hd
 refine⟨_,(pss_one (ps_ret (pe_and (pe_callB (call_isi (n:="int")) rfl T.z_isinstance (by decide +kernel) (pa_cons (pv 0) (pa_cons (pe_bltn (v:=.ty "int") rfl T.z_int (by decide +kernel) rfl) pa_nil))) (pe_one (pe_not (pe_callB (call_isi (n:="bool")) rfl T.z_isinstance (by decide +kernel) (pa_cons (pv 0) (pa_cons (pe_bltn (v:=.ty "bool") rfl T.z_bool (by decide +kernel) rfl) pa_nil)))))))),?_⟩
 cases d with
 | int i=>exact⟨_,rfl,_,_,_,rfl,ty,rfl,_,rfl,iteT ⟨_,rfl,_,_,_,rfl,ty,rfl,_,rfl,q0⟩⟩
 | bool b=>exact⟨_,rfl,_,_,_,rfl,ty,rfl,_,rfl,iteT ⟨_,rfl,_,_,_,rfl,ty,rfl,_,rfl,q0⟩⟩
 | none=>exact⟨_,rfl,_,_,_,rfl,ty,rfl,_,rfl,iteF q0⟩
 | str x=>exact⟨_,rfl,_,_,_,rfl,ty,rfl,_,rfl,iteF q0⟩
 | tuple ds=>exact⟨_,rfl,_,_,_,rfl,ty,rfl,_,rfl,iteF q0⟩
 | list ds=>exact⟨_,rfl,_,_,_,rfl,ty,rfl,_,rfl,iteF q0⟩
 | dict ds=>exact⟨_,rfl,_,_,_,rfl,ty,rfl,_,rfl,iteF q0⟩
theorem ok_is_wholes (T:Bi mg) (D:DefOk K mg "is_wholes" s_is_wholes ["thing"]) (O_is_whole:Ok P w K mg base 1 "is_whole" ["thing"] (spD1 K (fun _=>True) wholeB)):Ok P w K mg base 2 "is_wholes" ["thing"] (spD1 K few wholesB):=by
 refine mk_ok (k:=1) D sc_is_wholes (fun vs H Q E h=>?_) (fun f cdv A outer s H vs Q E hr h=>?_)
 ·obtain⟨d,v,rfl,_⟩:=h
  rfl
 obtain⟨d,v,rfl,hd,hfew,q⟩:=h
 have nd:=sc_is_wholes.nd
 have q0:=q H (Same.refl H)
 have ty:=ty_of hd
 refine⟨_,(pss_one (ps_ret (pe_and (pe_callB (call_isi (n:="tuple")) rfl T.z_isinstance (by decide +kernel) (pa_cons (pv 0) (pa_cons (pe_bltn (v:=.ty "tuple") rfl T.z_tuple (by decide +kernel) rfl) pa_nil))) (pe_one (pe_callB (call_all rfl) rfl T.z_all (by decide +kernel) (pa_cons (pe_comp (N:=["thing"]) (sc0:=defScope s_is_wholes) (own:=["part"]) (fr:=[]) (js:=[]) rfl (pi_tup (pv 0)) (fun _ _ _ _=>(pg_name (i:=0) (by show List.Nodup [("part":Str)];decide +kernel) rfl (Or.inl rfl))) (fun _ _ _ _=>pts_nil) (fun _ _ _ _=>(pe_callD O_is_whole hr rfl (pa_cons (pv 0) pa_nil)))) pa_nil)))))),?_⟩
 cases d with
 | int i=>exact⟨_,rfl,_,_,_,rfl,ty,rfl,_,rfl,iteF q0⟩
 | bool b=>exact⟨_,rfl,_,_,_,rfl,ty,rfl,_,rfl,iteF q0⟩
 | none=>exact⟨_,rfl,_,_,_,rfl,ty,rfl,_,rfl,iteF q0⟩
 | str x=>exact⟨_,rfl,_,_,_,rfl,ty,rfl,_,rfl,iteF q0⟩
 | list ds=>exact⟨_,rfl,_,_,_,rfl,ty,rfl,_,rfl,iteF q0⟩
 | dict ds=>exact⟨_,rfl,_,_,_,rfl,ty,rfl,_,rfl,iteF q0⟩
 | tuple ds =>
  refine⟨_,rfl,_,_,_,rfl,ty,rfl,_,rfl,iteT ?_⟩
  obtain⟨p,vs,rfl,hp,hall⟩:=hd
  have hl:=hall.length
  have hf:ds.length≤1000:=hfew
  refine⟨_,rfl,p,rfl,⟨_,SqT.of hp⟩,?_⟩
  refine comp_tup hp (fun σ'=>σ'.length=1) (fun i v _=>v=.bl (wholeB (ds.getD i .none))) (by omega) (by rfl) (fun _ _ _ _ _ h=>h) (fun i x σ' H' hx s sg C hC=>?_) (fun L ys H' hL s hH hly hys=>?_)
  ·obtain⟨d,hdi,hdx⟩:=hall.get' hx
   match σ',sg with
   | [o],_ =>
    refine⟨_,rfl,d,x,rfl,Is.same s d hdx,trivial,fun H5 s5=>hC _ _ _ rfl s5 ?_⟩
    simp [List.getD,hdi]
  ·refine⟨L,_,rfl,SqL.of (by rw[hH,bools_of (hly.trans hl) hys]),?_⟩
   have e:((List.range ds.length).map fun i=>wholeB (ds.getD i .none)).all id=ds.all wholeB:=by
    have:((List.range ds.length).map fun i=>wholeB (ds.getD i .none))=ds.map wholeB:=by
     have:=congrArg (List.map wholeB) (L3.range_getD ds .none)
     rw[List.map_map] at this
     exact this
    rw[this,List.all_map]
    rfl
   rw[e]
   exact q H' s
theorem ok_across (T:Bi mg) (D:DefOk K mg "across" s_across ["web","tie","heights"]):Ok P w K mg base 1 "across" ["web","tie","heights"] (spAcross K):=by
 refine mk_ok (k:=0) D sc_across (fun vs H Q E h=>?_) (fun f cdv A outer s H vs Q E hr h=>?_)
 ·obtain⟨n,ts,wv,k,p,hs,rfl,_⟩:=h
  rfl
 obtain⟨n,ts,wv,k,p,hs,rfl,isw,ok,hkl,ht,hlh,q⟩:=h
 have nd:=sc_across.nd
 obtain⟨g0,g,ws,rfl,hg0,hg,hall,hlw⟩:=web_parts isw
 obtain⟨ta,hta,htie⟩:=tie_val hall hkl
 have tk:=ok.tie _ (tieAt_in hkl).2
 refine⟨_,(pss_cons (ps_asg (pe_ix ix_tup (pe_ix ix_tup (pv 0) pe_int (fun _ _=>rfl)) (pv 1) (fun _ _=>rfl)) (pg_tup (n:=3) rfl (pgs_cons (pg_name (i:=3) nd rfl (Or.inl rfl)) (pgs_cons (pg_name (i:=4) nd rfl (Or.inl rfl)) (pgs_cons (pg_name (i:=5) nd rfl (Or.inl rfl)) pgs_nil))))) (pss_one (ps_ret (pe_callB call_abs rfl T.z_abs (by decide +kernel) (pa_cons (pe_op op_sub (pe_ix ix_tup (pv 2) (pv 3) (fun _ _=>rfl)) (pe_ix ix_tup (pv 2) (pv 4) (fun _ _=>rfl))) pa_nil))))),?_⟩
 refine⟨_,rfl,g0,_,_,_,rfl,rfl,SqT.of hg0,rfl,_,rfl,g,_,_,_,rfl,rfl,SqT.of hg,atI_toNat (Int.natCast_nonneg _) hta,ta,_,rfl,SqT.of htie,rfl,_,_,rfl,_,_,rfl,_,_,rfl,rfl,?_⟩
 exact⟨_,rfl,_,rfl,p,_,_,_,rfl,rfl,SqT.of ht.1,hAt_at (by omega) (by omega),_,rfl,_,rfl,p,_,_,_,rfl,rfl,SqT.of ht.1,hAt_at (by omega) (by omega),_,_,rfl,rfl,_,rfl,q⟩
theorem ok_heights_hold (T:Bi mg) (D:DefOk K mg "heights_hold" s_heights_hold ["web","keep","heights"]) (O_is_wholes:Ok P w K mg base 2 "is_wholes" ["thing"] (spD1 K few wholesB)) (O_across:Ok P w K mg base 2 "across" ["web","tie","heights"] (spAcross K)):Ok P w K mg base 3 "heights_hold" ["web","keep","heights"] (spHold K):=by
 refine mk_ok (k:=2) D sc_heights_hold (fun vs H Q E h=>?_) (fun f cdv A outer s H vs Q E hr h=>?_)
 ·obtain⟨n,ts,ks,wv,kv,p,hs,rfl,_⟩:=h
  rfl
 obtain⟨n,ts,ks,wv,kv,p,hs,rfl,⟨isw,ok,isk,ko⟩,ht,q⟩:=h
 have nd:=sc_heights_hold.nd
 have n1:=ok.n1
 have few60:=ok.few
 obtain⟨g0,g,ws,rfl,hg0,hg,hall,hlw⟩:=web_parts isw
 obtain⟨kp,rfl,hkp⟩:=keep_parts isk
 refine⟨_,(pss_cons (ps_if (PW.pt (pw_or (pt_not (pt_val (pe_callD O_is_wholes hr rfl (pa_cons (pv 2) pa_nil)))) (pw_or1 (pt_cmpR op_ne (pe_callB call_len_seq rfl T.z_len (by decide +kernel) (pa_cons (pv 2) pa_nil)) (pe_ix ix_tup (pv 0) pe_int (fun _ _=>rfl)) (nomark _))))) (pss_one (ps_ret pe_bl)) pss_nil) (pss_one (ps_ret (pe_callB (call_all rfl) rfl T.z_all (by decide +kernel) (pa_cons (pe_comp (N:=["web","keep","heights"]) (sc0:=defScope s_heights_hold) (own:=["tie"]) (fr:=["web","heights"]) (js:=[0,2]) rfl (pi_tup (pv 1)) (fun _ _ _ _=>(pg_name (i:=0) (by show List.Nodup [("tie":Str),("web":Str),("heights":Str)];decide +kernel) rfl (Or.inl rfl))) (fun _ _ _ _=>pts_nil) (fun _ _ _ _=>(pe_cmpR op_le (pe_callD O_across hr rfl (pa_cons (pv 1) (pa_cons (pv 0) (pa_cons (pv 2) pa_nil)))) (pe_ix ix_tupC (pe_ix ix_tupC (pe_ix ix_tupC (pv 1) pe_int (fun _ _=>rfl)) (pv 0) (fun _ _=>rfl)) pe_int (fun _ _=>rfl)) (nomark _)))) pa_nil))))),?_⟩
 refine⟨_,rfl,.tuple (hs.map .int),_,rfl,ht.is,(by show (hs.map PyData.int).length≤1000;rw[List.length_map];exact ht.2),fun H1 s1=>⟨_,rfl,iteB2 (fun _=>?_) (fun c=>?_)⟩⟩
 case refine_2=>rw[wholes_ints] at c;cases c
 have t1:=ht.same s1
 refine⟨_,rfl,p,_,rfl,.inr (SqT.of t1.1),_,rfl,g0,_,_,_,rfl,rfl,SqT.of (s1 _ _ hg0),rfl,rfl,_,rfl,?_⟩
 by_cases hn:hs.length=n.toNat
 case neg =>
  have ne:decide (V.int (((hs.map V.int).length:Nat):Int)=V.int n)=false:=decide_eq_false fun e=>by
   have:(((hs.map V.int).length:Nat):Int)=n:=by injection e
   rw[List.length_map] at this
   omega
  rw[ne]
  refine iteT ?_
  have q1:=q H1 s1
  have e:holdB n ts ks hs=false:=by unfold holdB;rw[decide_eq_false hn];rfl
  rw[e] at q1;exact q1
 refine iteNS (by rw[List.length_map,hn];congr 1;omega) ?_
 refine⟨_,rfl,kp,rfl,⟨_,SqT.of (s1 _ _ hkp)⟩,?_⟩
 have lk:((keepI ks).map V.int).length=ks.length:=by unfold keepI;rw[List.length_map,List.length_map]
 have lks:=ko.len
 refine comp_tup (s1 _ _ hkp) (fun σ'=>∃ o,σ'=[o,some (.ref g0),some (.ref p)]) (fun i v _=>v=.bl (decide (acrossI ts hs (ks.getD i 0)≤(tieAt ts (ks.getD i 0)).2.2))) (by omega) (by exact⟨none,rfl⟩) (fun _ _ _ _ _ h=>h) (fun i x σ' H' hx s2 sg C hC=>?_) (fun L ys H2 hL s2 hH hly hys=>?_)
 ·obtain⟨o,rfl⟩:=sg
  obtain⟨k,hk,rfl⟩:=keep_at hx
  have hkl:k < ts.length:=ko.2 k (List.mem_of_getElem? hk)
  obtain⟨ta,hta,htie⟩:=tie_val hall hkl
  have s12:=s1.trans s2
  have ek:ks.getD i 0=k:=by rw[List.getD_eq_getElem?_getD,hk];rfl
  refine⟨_,rfl,_,rfl,_,rfl,n,ts,_,k,p,hs,rfl,Is.same s12 _ isw,ok,hkl,ht.same s12,hn,?_⟩
  refine⟨_,rfl,g0,_,_,_,rfl,rfl,SqT.of (s12 _ _ hg0),rfl,_,rfl,g,_,_,_,rfl,rfl,SqT.of (s12 _ _ hg),atI_toNat (Int.natCast_nonneg _) hta,ta,_,_,_,rfl,rfl,SqT.of (s12 _ _ htie),rfl,_,_,rfl,rfl,hC _ _ _ ⟨_,rfl⟩ (Same.refl _) ?_⟩
  rw[ek]
 ·refine⟨L,_,rfl,SqL.of (by rw[hH,bools_of (hly.trans lk) hys]),?_⟩
  have q1:=q H2 (s1.trans s2)
  have e:holdB n ts ks hs=((List.range ks.length).map fun i=>decide (acrossI ts hs (ks.getD i 0)≤(tieAt ts (ks.getD i 0)).2.2)).all id:=by
   unfold holdB
   rw[decide_eq_true hn,Bool.true_and]
   have z:=congrArg (List.map fun k=>decide (acrossI ts hs k≤(tieAt ts k).2.2)) (L3.range_getD ks 0)
   rw[List.map_map] at z
   have z':((List.range ks.length).map fun i=>decide (acrossI ts hs (ks.getD i 0)≤(tieAt ts (ks.getD i 0)).2.2))=ks.map fun k=>decide (acrossI ts hs k≤(tieAt ts k).2.2):=z
   rw[z',List.all_map];rfl
  rw[e] at q1;exact q1
theorem ok_tie_between (T:Bi mg) (D:DefOk K mg "tie_between" s_tie_between ["web","a","b"]):Ok P w K mg base 1 "tie_between" ["web","a","b"] (spTB K):=by
 refine mk_ok (k:=0) D sc_tie_between (fun vs H Q E h=>?_) (fun f cdv A outer s H vs Q E hr h=>?_)
 ·obtain⟨n,ts,wv,u,v,rfl,_⟩:=h
  rfl
 obtain⟨n,ts,wv,u,v,rfl,isw,few60,q⟩:=h
 have nd:=sc_tie_between.nd
 have units:∀ {x:Nat},x≤3->(A.deeper (envOfC "tie_between" (defScope s_tie_between) s.heap.objs.size f cdv)).units + x < cLine:=fun {x} hu=>by have:=hr.units;omega
 obtain⟨g0,g,ws,rfl,hg0,hg,hall,hlw⟩:=web_parts isw
 refine⟨_,(pss_cons (ps_set (i:=3) nd rfl (Or.inl rfl) (pe_tupG (pa_cons (pe_callB (call_min2 rfl) rfl T.z_min (by decide +kernel) (pa_cons (pv 1) (pa_cons (pv 2) pa_nil))) (pa_cons (pe_callB (call_max2 rfl) rfl T.z_max (by decide +kernel) (pa_cons (pv 1) (pa_cons (pv 2) pa_nil))) pa_nil)))) (pss_cons (ps_for PassesOwn.never rfl (pi_enum true rfl T.z_enumerate (pa_cons (pe_ix ix_tup (pv 0) pe_int (fun _ _=>rfl)) pa_nil)) (pg_tup (n:=2) rfl (pgs_cons (pg_name (i:=4) nd rfl (Or.inl rfl)) (pgs_cons (pg_name (i:=5) nd rfl (Or.inl rfl)) pgs_nil))) (pss_one (ps_if (pt_cmpR op_eqD (pe_slice sl_tupA (pv 5) po_none (po_some pe_int)) (pv 3) (nomark _)) (pss_one (ps_ret (pv 4))) pss_nil))) (pss_one (ps_ret pe_non)))),?_⟩
 refine⟨_,rfl,_,rfl,_,_,rfl,_,rfl,_,rfl,_,_,rfl,(by show 2≤1000;decide),fun te J1 S1 f1 e1=>?_⟩
 have eMin:(if (v:Int) < (u:Int) then (v:Int) else u)=min (u:Int) v:=by split <;> omega
 have eMax:(if (v:Int) > (u:Int) then (v:Int) else u)=max (u:Int) v:=by split <;> omega
 rw[eMin,eMax] at e1
 refine⟨_,rfl,g0,_,_,_,rfl,rfl,SqT.of (S1 _ _ hg0),rfl,g,rfl,⟨ws,SqX.of (S1 _ _ hg)⟩,?_⟩
 refine⟨fun i m σ J=>m=ts.length - i∧i≤ts.length∧(∃ y4 y5:Option V,σ=[some (.ref g0),some (.int (u:Int)),some (.int (v:Int)),some (.ref te),y4,y5])∧Same J1 J∧∀ k,k < i->isTB ts u v k=false,⟨_,rfl,Nat.zero_le _,⟨none,none,rfl⟩,Same.refl _,fun k hk=>(by omega)⟩,?_⟩
 rintro i m σ J ⟨rfl,hi,⟨y4,y5,rfl⟩,sm,pre⟩
 have sH:=S1.trans sm
 have sq:SqX true K J g ws:=SqX.of (sH _ _ hg)
 by_cases hlt:i < ts.length
 ·refine .inr ⟨⟨ws,ws[i]'(by omega),sq,by simp [show i < ws.length by omega]⟩,fun σ' J'=>∃ m',m' < ts.length - i∧(m'=ts.length - (i + 1)∧i + 1≤ts.length∧(∃ y4 y5:Option V,σ'=[some (.ref g0),some (.int (u:Int)),some (.int (v:Int)),some (.ref te),y4,y5])∧Same J1 J'∧∀ k,k < i + 1->isTB ts u v k=false),fun _ _ h=>h,fun x J' hy=>?_⟩
  obtain⟨T',y,hT,rfl,rfl,ey⟩:=hy
  have hyi:=ey ws sq
  obtain⟨ta,hta,htie⟩:=tie_val hall hlt
  rw[hta] at hyi
  cases hyi
  have S2:=same_new (o:=.tup [.int (i:Nat),.ref ta]) hT
  have htie':=S2 _ _ (sH _ _ htie)
  refine⟨T',_,rfl,SqT.of upd_same,rfl,_,_,rfl,_,_,rfl,rfl,?_⟩
  refine⟨_,rfl,_,rfl,ta,_,rfl,htie',fun tc J3 S3 e3=>?_⟩
  have e3':J3 tc=some (.tup (([(tieAt ts i).1,(tieAt ts i).2.1]:List Int).map V.int)):=e3
  have e1':J3 te=some (.tup (([min (u:Int) v,max (u:Int) v]:List Int).map V.int)):=S3 _ _ (S2 _ _ (sm _ _ e1))
  refine⟨_,rfl,.tuple (([(tieAt ts i).1,(tieAt ts i).2.1]:List Int).map .int),.tuple (([min (u:Int) v,max (u:Int) v]:List Int).map .int),⟨tc,_,rfl,e3',IsAll.ints _⟩,⟨te,_,rfl,e1',IsAll.ints _⟩,lay_ints _,lay_ints _,?_,_,rfl,?_⟩
  ·have d1:=deep_ints [(tieAt ts i).1,(tieAt ts i).2.1]
   have d2:PyData.depth (.tuple (([(tieAt ts i).1,(tieAt ts i).2.1]:List Int).map .int))=PyData.depthAll (([(tieAt ts i).1,(tieAt ts i).2.1]:List Int).map .int) + 1:=rfl
   exact units (Nat.le_trans (Nat.min_le_left _ _) (by rw[d2];omega))
  have eq:PyData.eqv (.tuple (([(tieAt ts i).1,(tieAt ts i).2.1]:List Int).map .int)) (.tuple (([min (u:Int) v,max (u:Int) v]:List Int).map .int))=isTB ts u v i:=pair_eqv _ _ _ _
  rw[eq]
  have SS:=S2.trans S3
  refine ite2 (fun c=>?_) (fun c=>?_)
  ·have et:tbN ts u v=some i:=by
    unfold tbN
    refine List.find?_range_eq_some.mpr ⟨c,List.mem_range.mpr hlt,fun j hj=>?_⟩
    rw[pre j hj];rfl
   have q1:=q J3 (sH.trans SS)
   rw[et] at q1
   exact⟨_,rfl,q1⟩
  ·refine⟨ts.length - (i + 1),by omega,rfl,hlt,⟨_,_,rfl⟩,sm.trans SS,fun k hk=>?_⟩
   by_cases z:k=i
   ·rw[z];exact Bool.eq_false_iff.mpr c
   ·exact pre k (by omega)
 ·have e:i=ts.length:=by omega
  subst e
  refine .inl ⟨⟨ws,sq,by omega⟩,?_⟩
  have et:tbN ts u v=none:=by
   unfold tbN
   refine List.find?_eq_none.mpr fun k hk=>?_
   rw[pre k (List.mem_range.mp hk)];exact Bool.false_ne_true
  have q1:=q J sH
  rw[et] at q1
  exact q1
theorem ok_whole (T:Bi mg) (D:DefOk K mg "whole" s_whole ["web"]):Ok P w K mg base 1 "whole" ["web"] (spWhole K):=by
 refine mk_ok (k:=0) D sc_whole (fun vs H Q E h=>?_) (fun f cdv A outer s H vs Q E hr h=>?_)
 ·obtain⟨n,ts,v,rfl,_⟩:=h
  rfl
 obtain⟨n,ts,v,rfl,hw,few60,q⟩:=h
 have nd:=sc_whole.nd
 obtain⟨g0,g,ws,rfl,hg0,hg,hall,hlw⟩:=web_parts hw
 refine⟨_,(pss_one (ps_ret (pe_callTy (call_tuple_rng rfl) rfl T.z_tuple (by decide +kernel) (pa_cons (pe_callTy call_range rfl T.z_range (by decide +kernel) (pa_cons (pe_callB call_len_seq rfl T.z_len (by decide +kernel) (pa_cons (pe_ix ix_tup (pv 0) pe_int (fun _ _=>rfl)) pa_nil)) pa_nil)) pa_nil)))),?_⟩
 refine⟨_,rfl,g0,_,_,_,rfl,rfl,SqT.of hg0,rfl,g,_,rfl,.inr (SqT.of hg),_,rfl,fun r hr'=>?_⟩
 refine⟨r,_,rfl,upd_same,by omega,by omega,fun l H' S f e=>q l H' ((same_new hr').trans S) ((same_new (o:=.rng 0 _) hr').free f) ?_⟩
 rw[e,show ((ws.length:Nat):Int).toNat=ts.length by omega]
theorem ok__law_weights (T:Bi mg) (D:DefOk K mg "_law_weights" s__law_weights ["web"]):Ok P w K mg base 1 "_law_weights" ["web"] (spLWeights K):=by
 refine mk_ok (k:=0) D sc__law_weights (fun vs H Q E h=>?_) (fun f cdv A outer s H vs Q E hr h=>?_)
 ·obtain⟨n,ts,v,rfl,_⟩:=h
  rfl
 obtain⟨n,ts,v,rfl,hw,ok,q⟩:=h
 have nd:=sc__law_weights.nd
 have few60:=ok.few
 obtain⟨g0,g,ws,rfl,hg0,hg,hall,hlw⟩:=web_parts hw
 refine⟨_,(pss_cons (ps_set (i:=1) nd rfl (Or.inl rfl) (pe_lstG pa_nil)) (pss_cons (ps_set (i:=2) nd rfl (Or.inl rfl) pe_int) (pss_cons (ps_for PassesOwn.never rfl (pi_tup (pe_ix ix_tup (pv 0) pe_int (fun _ _=>rfl))) (pg_tup (n:=3) rfl (pgs_cons (pg_name (i:=3) nd rfl (Or.inl rfl)) (pgs_cons (pg_name (i:=4) nd rfl (Or.inl rfl)) (pgs_cons (pg_name (i:=5) nd rfl (Or.inl rfl)) pgs_nil)))) (pss_cons (ps_expr (pe_bm PySem.F.plainAttrs_list PySem.F.slot_list_append PySem.F.type_list_append mt_appendG (pv 1) (pa_cons (pe_op op_add (pe_op op_mul (pv 5) (pe_op op_pow pe_int pe_int)) (pv 2)) pa_nil))) (pss_one (ps_set (i:=2) nd rfl (Or.inl rfl) (pe_op op_add (pv 2) (pv 2)))))) (pss_one (ps_ret (pv 1)))))),?_⟩
 refine⟨(by show 0≤1000;decide),fun l J0 S0 f0 e0=>?_⟩
 refine⟨_,rfl,g0,_,_,_,rfl,rfl,SqT.of (S0 _ _ hg0),rfl,g,rfl,⟨_,SqT.of (S0 _ _ hg)⟩,?_⟩
 refine for_tup (xs:=ws) (fun i σ J=>∃ y3 y4 y5:Option V,σ=[some (.ref g0),some (.ref l),some (.int (2 ^ i)),y3,y4,y5]∧Same H J∧J l=some (.lst (wts ts i))) ⟨none,none,none,rfl,S0,e0⟩ (fun i σ J _ h=>by obtain⟨_,_,_,_,s,_⟩:=h;exact SqT.of (s _ _ hg)) (fun i x σ J hx h=>?_) (fun σ J h=>?_)
 ·obtain⟨y3,y4,y5,rfl,s1,e1⟩:=h
  have hi:i < ts.length:=by have:=(List.getElem?_eq_some_iff.mp hx).1;omega
  obtain⟨ta,hta,htie⟩:=tie_val hall hi
  have tk:=ok.tie _ (tieAt_in hi).2
  rw[hta] at hx
  cases hx
  refine⟨ta,_,rfl,SqT.of (s1 _ _ htie),rfl,_,_,rfl,_,_,rfl,_,_,rfl,rfl,?_⟩
  refine⟨_,rfl,.inl ⟨rfl,_,SqL.of e1⟩,_,rfl,_,_,rfl,rfl,⟨by decide,by decide,by decide⟩,_,_,rfl,rfl,.inl ⟨by omega,by omega⟩,_,rfl,_,_,rfl,rfl,l,_,_,rfl,rfl,e1,(by unfold wts;rw[List.length_map,List.length_range];omega),fun J1 b1 e2=>?_⟩
  refine⟨_,rfl,_,rfl,_,_,rfl,rfl,?_⟩
  refine⟨some (V.int (tieAt ts i).1),some (V.int (tieAt ts i).2.1),some (V.int (tieAt ts i).2.2),?_,fun b o e=>b1 _ _ (ne_of_none e f0) (s1 _ _ e),by rw[e2,wts_succ];rfl⟩
  have ep:(2:Int) ^ i + 2 ^ i=2 ^ (i + 1):=by rw[Int.pow_succ];omega
  show [some (V.ref g0),some (V.ref l),some (V.int (2 ^ i + 2 ^ i)),some (V.int (tieAt ts i).1),some (V.int (tieAt ts i).2.1),some (V.int (tieAt ts i).2.2)]=_
  rw[ep]
 ·obtain⟨y3,y4,y5,rfl,s1,e1⟩:=h
  exact⟨_,rfl,q l J s1 f0 (by rw[e1,hlw])⟩
theorem pick2 (m m':Int) (b:Bool):atI [V.int m,V.int m'] (if b=true then 1 else 0)=some (.int (if b=true then m' else m)):=by cases b <;> rfl
theorem ok__law_most16 (T:Bi mg) (D:DefOk K mg "_law_most" s__law_most ["pot","k"]) (O__law_take:Ok P w K mg base 1 "_law_take" ["pot","many"] spTake):Ok P w K mg base 2 "_law_most" ["pot","k"] spMost:=by
 refine mk_ok (k:=1) D sc__law_most (fun vs H Q E h=>?_) (fun f cdv A outer s H vs Q E hr h=>?_)
 ·obtain⟨p,k,rfl,_⟩:=h
  rfl
 obtain⟨p,k,rfl,hp,q⟩:=h
 have nd:=sc__law_most.nd
 refine⟨_,(pss_cons (ps_set (i:=2) nd rfl (Or.inl rfl) (pe_ix ix_list (pe_lstG (pa_cons pe_int (pa_cons pe_int (pa_cons pe_int (pa_cons pe_int (pa_cons pe_int (pa_cons pe_int (pa_cons pe_int (pa_cons pe_int pa_nil))))))))) (pe_callD O__law_take hr rfl (pa_cons (pv 0) (pa_cons pe_int pa_nil))) (fun _ _=>rfl))) (pss_one (ps_ret (pe_ix ix_list (pe_lstG (pa_cons (pv 2) (pa_cons (pe_callB (call_min2 rfl) rfl T.z_min (by decide +kernel) (pa_cons (pv 2) (pa_cons pe_int pa_nil))) pa_nil))) (pe_callTy call_int1 rfl T.z_int (by decide +kernel) (pa_cons (pe_cmpR op_gt (pv 1) pe_int (nomark _)) pa_nil)) (fun _ _=>rfl))))),?_⟩
 refine⟨(by show 8≤1000;decide),fun l0 J1 S1 f1 e1=>?_⟩
 have n0:l0≠p:=fun z=>by
  obtain⟨a',b',e',_⟩:=hp
  rw[z,e'] at f1;cases f1
 refine⟨_,rfl,p,8,rfl,hp.same S1,by decide,by decide,fun rr J2 rr0 rr1 b2 p2=>?_⟩
 obtain⟨mm,mm1,mm24,hatm⟩:∃ m:Int,1≤m∧m≤24∧atI [V.int 8,V.int 8,V.int 5,V.int 8,V.int 12,V.int 8,V.int 8,V.int 24] rr=some (.int m):=by
  have:rr=0∨rr=1∨rr=2∨rr=3∨rr=4∨rr=5∨rr=6∨rr=7:=by omega
  rcases this with rfl | rfl | rfl | rfl | rfl | rfl | rfl | rfl
  ·exact⟨8,by decide,by decide,rfl⟩
  ·exact⟨8,by decide,by decide,rfl⟩
  ·exact⟨5,by decide,by decide,rfl⟩
  ·exact⟨8,by decide,by decide,rfl⟩
  ·exact⟨12,by decide,by decide,rfl⟩
  ·exact⟨8,by decide,by decide,rfl⟩
  ·exact⟨8,by decide,by decide,rfl⟩
  ·exact⟨24,by decide,by decide,rfl⟩
 refine⟨l0,_,_,_,rfl,rfl,SqL.of (b2 _ _ n0 e1),hatm,?_⟩
 refine⟨_,rfl,_,rfl,_,_,rfl,(by show 2≤1000;decide),fun l1 J3 S3 f3 e3=>?_⟩
 have B:But p H J3:=(Same.but S1).trans (b2.trans (Same.but S3))
 refine⟨_,rfl,_,_,rfl,rfl,.inr ⟨_,rfl,l1,_,_,_,rfl,rfl,SqL.of e3,pick2 _ _ _,?_⟩⟩
 generalize decide ((0:Int) < k)=bb
 refine q _ J3 B (p2.same S3) ?_ ?_
 ·cases bb with
  | true=>rw[if_pos rfl];split <;> omega
  | false=>exact mm1
 ·cases bb with
  | true=>rw[if_pos rfl];split <;> omega
  | false=>exact mm24
def nbr (ts:List Tie) (j k:Nat):Option Nat:=if (en ts k).1=j then some (en ts k).2 else if (en ts k).2=j then some (en ts k).1 else none
def rowsN (ts:List Tie) (ks:List Nat) (j:Nat):List Nat:=ks.filterMap (nbr ts j)
theorem rows_mem {n:Int} {ts:List Tie} {ks:List Nat} (ok:WebOk n ts) (ko:KeepOk ts.length ks) (j c:Nat):c ∈ rowsN ts ks j↔Adj ts ks j c:=by
 unfold rowsN
 rw[List.mem_filterMap]
 constructor
 ·rintro ⟨k,hk,e⟩
  refine⟨k,hk,a2_iff.mpr ?_⟩
  unfold nbr at e
  by_cases z:(en ts k).1=j
  ·rw[if_pos z] at e
   exact .inl ⟨z.symm,(Option.some.inj e).symm⟩
  ·rw[if_neg z] at e
   by_cases y:(en ts k).2=j
   ·rw[if_pos y] at e
    exact .inr ⟨y.symm,(Option.some.inj e).symm⟩
   ·rw[if_neg y] at e;cases e
 ·rintro ⟨k,hk,m⟩
  have lt:=(en_lt ok (ko.2 k hk)).1
  refine⟨k,hk,?_⟩
  unfold nbr
  rcases a2_iff.mp m with ⟨z1,z2⟩ | ⟨z1,z2⟩
  ·rw[if_pos (show (en ts k).1=j from z1.symm),z2];rfl
  ·have z1':(en ts k).2=j:=z1.symm
   rw[if_neg (by omega),if_pos z1',z2];rfl
theorem rows_nodup {n:Int} {ts:List Tie} {ks:List Nat} (ok:WebOk n ts) (ko:KeepOk ts.length ks) (j:Nat):(rowsN ts ks j).Nodup:=by
 unfold rowsN
 rw[List.Nodup,List.pairwise_filterMap]
 refine List.Pairwise.imp_of_mem ?_ ko.1
 intro k k' hk hk' lt c hc c' hc' e
 subst e
 have arc:∀ {k},k ∈ ks->nbr ts j k=some c->(j,c,(tieAt ts k).2.2) ∈ arcs2 (tieAt ts k):=fun {k} hk e=>by
  refine a2_iff.mpr ?_
  unfold nbr at e
  by_cases z:(en ts k).1=j
  ·rw[if_pos z] at e;exact .inl ⟨z.symm,(Option.some.inj e).symm⟩
  ·rw[if_neg z] at e
   by_cases y:(en ts k).2=j
   ·rw[if_pos y] at e;exact .inr ⟨y.symm,(Option.some.inj e).symm⟩
   ·rw[if_neg y] at e;cases e
 exact Nat.ne_of_lt lt (tie_oneB ok (ko.2 k hk) (ko.2 k' hk') (arc hk hc) (arc hk' hc'))
theorem rows_snoc {ts:List Tie} {ks:List Nat} {k j:Nat}:rowsN ts (ks++[k]) j=rowsN ts ks j++(nbr ts j k).toList:=by
 unfold rowsN
 rw[List.filterMap_append]
 cases e:nbr ts j k <;> simp [e]
def spBesE (K:PySem.W.Frag):Sp:=fun vs H Q _=>∃ n ts ks wv kp,∃ tp:Bool,vs=[wv,.ref kp]∧WKE K H n ts ks wv kp tp∧∀ l as H',Same H H'->H l=none->Bes H' l as (fun j=>natV (rowsN ts ks j))->as.length=n.toNat->Q (.ref l) H'
theorem ok__law_besideE (T:Bi mg) (D:DefOk K mg "_law_beside" s__law_beside ["web","keep"]):Ok P w K mg base 1 "_law_beside" ["web","keep"] (spBesE K):=by
 refine mk_ok (k:=0) D sc__law_beside (fun vs H Q E h=>?_) (fun f cdv A outer s H vs Q E hr h=>?_)
 ·obtain⟨n,ts,ks,wv,kp,tp,rfl,_⟩:=h
  rfl
 obtain⟨n,ts,ks,wv,kp,tp,rfl,wk,q⟩:=h
 have nd:=sc__law_beside.nd
 have ok:=wk.2.1
 have ko:=wk.2.2.2
 have n1:=ok.n1
 have n24:=ok.n24
 have few60:=ok.few
 have kl:=ko.len
 obtain⟨g0,g,ws,rfl,hg0,hg,hall,hlw⟩:=web_parts wk.1
 have hkp:=wk.2.2.1
 have lenK:(natV ks).length=ks.length:=by unfold natV;rw[List.length_map]
 have N24:n.toNat≤24:=by omega
 refine⟨_,(pss_cons (ps_setcomp (i:=2) (N:=["web","keep","found","number","a","b","length"]) (sc0:=defScope s__law_beside) (own:=["place"]) (fr:=[]) (js:=[]) rfl (pi_range1 rfl T.z_range (pa_cons (pe_ix ix_tup (pv 0) pe_int (fun _ _=>rfl)) pa_nil)) (fun _ _ _ _=>(pg_name (i:=0) (by show List.Nodup [("place":Str)];decide +kernel) rfl (Or.inl rfl))) (fun _ _ _ _=>pts_nil) (fun _ _ _ _=>(pe_lstG pa_nil)) nd rfl (Or.inl rfl)) (pss_cons (ps_for PassesOwn.never rfl (pi_any (pv 1)) (pg_name (i:=3) nd rfl (Or.inl rfl)) (pss_cons (ps_asg (pe_ix ix_tup (pe_ix ix_tup (pv 0) pe_int (fun _ _=>rfl)) (pv 3) (fun _ _=>rfl)) (pg_tup (n:=3) rfl (pgs_cons (pg_name (i:=4) nd rfl (Or.inl rfl)) (pgs_cons (pg_name (i:=5) nd rfl (Or.inl rfl)) (pgs_cons (pg_name (i:=6) nd rfl (Or.inl rfl)) pgs_nil))))) (pss_cons (ps_expr (pe_bm PySem.F.plainAttrs_list PySem.F.slot_list_append PySem.F.type_list_append mt_appendG (pe_ix ix_list (pv 2) (pv 4) (fun _ _=>rfl)) (pa_cons (pv 5) pa_nil))) (pss_one (ps_expr (pe_bm PySem.F.plainAttrs_list PySem.F.slot_list_append PySem.F.type_list_append mt_appendG (pe_ix ix_list (pv 2) (pv 5) (fun _ _=>rfl)) (pa_cons (pv 4) pa_nil))))))) (pss_one (ps_ret (pv 2))))),?_⟩
 refine⟨_,rfl,g0,_,_,_,rfl,rfl,SqT.of hg0,rfl,n,rfl,by omega,by omega,?_⟩
 refine comp_rangeD (n:=n.toNat) (lo:=0) (fun σ'=>σ'.length=1) (by omega) (by rfl) (fun i σ' H' hi s6 sg C hC=>?_) (fun L as J1 hL S1 hH las ndA noA new=>?_)
 ·match σ',sg with
  | [o],_=>exact⟨(by show 0≤1000;decide),fun l H5 s5 f5 e5=>hC _ _ _ rfl s5 f5 e5⟩
 have B1:=Bes.new hH ndA noA fun a ha=>(new a ha).2
 have fas:∀ a ∈ as,H a=none:=fun a ha=>(new a ha).1
 refine⟨_,rfl,kp,rfl,tp,⟨_,SqX.of (t:=tp) (S1 _ _ hkp)⟩,?_⟩
 refine for_any (t:=tp) (xs:=natV ks) (fun i σ J=>∃ (y3 y4 y5 y6:Option V),σ=[some (.ref g0),some (.ref kp),some (.ref L),y3,y4,y5,y6]∧Same H J∧Bes J L as fun j=>natV (rowsN ts (ks.take i) j)) ⟨none,none,none,none,rfl,S1,B1⟩ (fun i σ J _ h=>?_) (fun i x σ J hx h=>?_) (fun σ J h=>?_)
 ·obtain⟨y3,y4,y5,y6,rfl,sm,_⟩:=h
  exact SqX.of (t:=tp) (sm _ _ hkp)
 ·obtain⟨y3,y4,y5,y6,rfl,sm,B⟩:=h
  obtain⟨k,hk,rfl⟩:=nat_at hx
  have hkm:=List.mem_of_getElem? hk
  have hkl:k < ts.length:=ko.2 k hkm
  obtain⟨ta,hta,htie⟩:=tie_val hall hkl
  obtain⟨e1,e2,e3,e4⟩:=en_lt ok hkl
  have tn:ks.take (i + 1)=ks.take i++[k]:=by rw[List.take_add_one,hk];rfl
  have lr:∀ j,(rowsN ts (ks.take i) j).length≤60:=fun j=>by
   unfold rowsN
   have h1:=List.length_filterMap_le (nbr ts j) (ks.take i)
   have h2:=List.length_take_le i ks
   have h3:(ks.take i).length≤ks.length:=by rw[List.length_take];omega
   omega
  have lrV:∀ j,(natV (rowsN ts (ks.take i) j)).length≤60:=fun j=>by unfold natV;rw[List.length_map];exact lr j
  refine⟨_,rfl,g0,_,_,_,rfl,rfl,SqT.of (sm _ _ hg0),rfl,_,rfl,g,_,_,_,rfl,rfl,SqT.of (sm _ _ hg),atI_toNat (Int.natCast_nonneg _) hta,?_⟩
  refine⟨ta,_,rfl,SqT.of (sm _ _ htie),rfl,_,_,rfl,_,_,rfl,_,_,rfl,rfl,?_⟩
  rw[← e3,← e4]
  obtain⟨a1,i1,v1,r1⟩:=B.ix (i:=(en ts k).1) (by omega)
  refine⟨_,rfl,_,rfl,L,_,_,.ref a1,rfl,rfl,SqL.of B.top,atI_toNat (Int.natCast_nonneg _) v1,.inl ⟨rfl,_,SqL.of r1⟩,_,rfl,?_⟩
  refine⟨a1,_,_,rfl,rfl,r1,by have:=lrV (en ts k).1;omega,fun J3 b3 h3=>?_⟩
  have ma1:=List.mem_of_getElem? i1
  have B3:=B.put i1 b3 h3
  have sm3:Same H J3:=fun b o e=>b3 _ _ (ne_of_none e (fas a1 ma1)) (sm _ _ e)
  have nab:(en ts k).2≠(en ts k).1:=by omega
  obtain⟨a2,i2,v2,r2⟩:=B3.ix (i:=(en ts k).2) (by omega)
  rw[if_neg nab] at r2
  refine⟨_,rfl,_,rfl,L,_,_,.ref a2,rfl,rfl,SqL.of B3.top,atI_toNat (Int.natCast_nonneg _) v2,.inl ⟨rfl,_,SqL.of r2⟩,_,rfl,?_⟩
  refine⟨a2,_,_,rfl,rfl,r2,by have:=lrV (en ts k).2;omega,fun J5 b5 h5=>?_⟩
  have ma2:=List.mem_of_getElem? i2
  have B5:=B3.put i2 b5 h5
  have ef:(fun j=>if j=(en ts k).2 then natV (rowsN ts (ks.take i) (en ts k).2)++[V.int (((en ts k).1:Nat):Int)] else if j=(en ts k).1 then natV (rowsN ts (ks.take i) (en ts k).1)++[V.int (((en ts k).2:Nat):Int)] else natV (rowsN ts (ks.take i) j))=fun j=>natV (rowsN ts (ks.take (i + 1)) j):=funext fun j=>by
   rw[tn,rows_snoc]
   unfold nbr
   by_cases z:j=(en ts k).2
   ·subst z
    rw[if_pos rfl,if_neg (Ne.symm nab),if_pos rfl]
    unfold natV;rw[List.map_append];rfl
   ·rw[if_neg z]
    by_cases y:j=(en ts k).1
    ·subst y
     rw[if_pos rfl,if_pos rfl]
     unfold natV;rw[List.map_append];rfl
    ·rw[if_neg y,if_neg (Ne.symm y),if_neg (Ne.symm z)]
     unfold natV;rw[List.map_append];simp
  rw[ef] at B5
  exact⟨_,_,_,_,rfl,fun b o e=>b5 _ _ (ne_of_none e (fas a2 ma2)) (sm3 _ _ e),B5⟩
 ·obtain⟨y3,y4,y5,y6,rfl,sm,B⟩:=h
  rw[lenK,List.take_length] at B
  exact⟨_,rfl,q L as J sm hL B las⟩
theorem row_few {n:Int} {ts:List Tie} {ks:List Nat} (ok:WebOk n ts) (ko:KeepOk ts.length ks) (j:Nat):(rowsN ts ks j).length≤n.toNat:=Peel.len_below _ _ (rows_nodup ok ko j) fun c hc=>adj_lt ok ko j c ((rows_mem ok ko j c).mp hc)
def spStepsE (K:PySem.W.Frag):Sp:=fun vs H Q _=>∃ n ts ks wv kp,∃ (tp:Bool) (s0:Nat),vs=[wv,.ref kp,.int (s0:Int)]∧WKE K H n ts ks wv kp tp∧s0 < n.toNat∧∀ l DD H',Same H H'->H l=none->H' l=some (.lst (DD.map ov))->DD.length=n.toNat->(∀ v,v < n.toNat->Far.Dst (arcs (ones ts) ks) s0 v (Far.get DD v))->Q (.ref l) H'
theorem ok__law_stepsE (T:Bi mg) (D:DefOk K mg "_law_steps" s__law_steps ["web","keep","start"]) (O__law_beside:Ok P w K mg base 1 "_law_beside" ["web","keep"] (spBesE K)):Ok P w K mg base 2 "_law_steps" ["web","keep","start"] (spStepsE K):=by
 refine mk_ok (k:=1) D sc__law_steps (fun vs H Q E h=>?_) (fun f cdv A outer s H vs Q E hr h=>?_)
 ·obtain⟨n,ts,ks,wv,kp,tp,s0,rfl,_⟩:=h
  rfl
 obtain⟨n,ts,ks,wv,kp,tp,s0,rfl,wk,hs0,q⟩:=h
 have nd:=sc__law_steps.nd
 have ok:=wk.2.1
 have ko:=wk.2.2.2
 have n1:=ok.n1
 have n24:=ok.n24
 have N24:n.toNat≤24:=by omega
 have U:Far.Unit1 (arcs (ones ts) ks):=unit_ones ko
 obtain⟨g0,g,ws,rfl,hg0,hg,hall,hlw⟩:=web_parts wk.1
 refine⟨_,(pss_cons (ps_set (i:=3) nd rfl (Or.inl rfl) (pe_callD O__law_beside hr rfl (pa_cons (pv 0) (pa_cons (pv 1) pa_nil)))) (pss_cons (ps_set (i:=4) nd rfl (Or.inr rfl) (pe_op op_rep1 (pe_lstG (pa_cons pe_non pa_nil)) (pe_ix ix_tup (pv 0) pe_int (fun _ _=>rfl)))) (pss_cons (ps_set (i:=5) nd rfl (Or.inl rfl) (pe_lstG (pa_cons (pv 2) pa_nil))) (pss_cons (ps_for PassesOwn.never rfl (pi_range1 rfl T.z_range (pa_cons (pe_ix ix_tup (pv 0) pe_int (fun _ _=>rfl)) pa_nil)) (pg_name (i:=6) nd rfl (Or.inl rfl)) (pss_cons (ps_for PassesOwn.never rfl (pi_list (pv 5)) (pg_name (i:=7) nd rfl (Or.inl rfl)) (pss_one (ps_asg (pv 6) (pg_sub (pv 4) (pv 7) set_list)))) (pss_cons (ps_set (i:=8) nd rfl (Or.inl rfl) (pe_lstG pa_nil)) (pss_cons (ps_for PassesOwn.never rfl (pi_list (pv 5)) (pg_name (i:=7) nd rfl (Or.inl rfl)) (pss_one (ps_expr (pe_bm PySem.F.plainAttrs_list PySem.F.slot_list_extend PySem.F.type_list_extend mt_extendB (pv 8) (pa_cons (pe_ix ix_list (pv 3) (pv 7) (fun _ _=>rfl)) pa_nil))))) (pss_one (ps_setcomp (i:=5) (N:=["web","keep","start","beside","found","ring","steps","place","further"]) (sc0:=defScope s__law_steps) (own:=["place"]) (fr:=["found"]) (js:=[4]) rfl (pi_list (pe_callB (call_sortedS rfl) rfl T.z_sorted (by decide +kernel) (pa_cons (pe_callTy (call_setXL rfl) rfl T.z_set (by decide +kernel) (pa_cons (pv 8) pa_nil)) pa_nil))) (fun _ _ _ _=>(pg_name (i:=0) (by show List.Nodup [("place":Str),("found":Str)];decide +kernel) rfl (Or.inl rfl))) (fun _ _ _ _=>(pts_one (pt_cmpR op_isN (pe_ix ix_listC (pv 1) (pv 0) (fun _ _=>rfl)) pe_non (nomark _)))) (fun _ _ _ _=>(pv 0)) nd rfl (Or.inl rfl))))))) (pss_one (ps_ret (pv 4))))))),?_⟩
 refine⟨_,rfl,_,rfl,n,ts,ks,_,kp,tp,rfl,wk,fun lb as J1 S1 fb B1 las=>?_⟩
 refine⟨(by show 1≤1000;decide),fun t0 J2 S2 f2 e2=>⟨_,rfl,g0,_,_,_,rfl,rfl,SqT.of ((S1.trans S2) _ _ hg0),rfl,t0,n,_,rfl,rfl,e2,by omega,by omega,fun lf J3 S3 f3 e3=>?_⟩⟩
 refine⟨_,rfl,(by show 1≤1000;decide),fun lr0 J4 S4 f4 e4=>?_⟩
 have S14:=S2.trans (S3.trans S4)
 have S04:=S1.trans S14
 have ff:H lf=none:=(S1.trans S2).free f3
 have B2:=B1.same S2
 have nlf:lb≠lf:=fun z=>by rw[← z,B2.top] at f3;cases f3
 have naf:lf ∉ as:=fun z=>by
  obtain⟨i,hi,e⟩:=List.getElem_of_mem z
  have:=B2.row i lf (by rw[List.getElem?_eq_getElem hi,e])
  rw[this] at f3;cases f3
 have nrf:lr0≠lf:=fun z=>by rw[z,e3] at f4;cases f4
 refine⟨_,rfl,g0,_,_,_,rfl,rfl,SqT.of (S04 _ _ hg0),rfl,n,rfl,by omega,by omega,?_⟩
 refine for_range (n:=n.toNat) (fun i σ J=>∃ (E:List (Option Nat)) (ring:List Nat) (lr:Addr) (y6 y7 y8:Option V),σ=[some (.ref g0),some (.ref kp),some (.int (s0:Int)),some (.ref lb),some (.ref lf),some (.ref lr),y6,y7,y8]∧But lf J4 J∧J lf=some (.lst (E.map oa))∧E.length=n.toNat∧lr≠lf∧J lr=some (.lst (natV ring))∧ring.Nodup∧(∀ v ∈ ring,v < n.toNat)∧Far.Bfs (arcs (ones ts) ks) s0 i (Far.get E) ring) ⟨List.replicate n.toNat none,[s0],lr0,none,none,none,rfl,But.refl,?_,List.length_replicate,nrf,e4,by simp,fun v hv=>by rw[List.mem_singleton.mp hv];exact hs0,?_⟩ (fun i σ J hi h=>?_) (fun σ J h=>?_)
 ·rw[S4 _ _ e3,List.map_replicate];rfl
 ·have e:Far.get (List.replicate n.toNat (none:Option Nat))=fun _=>none:=funext fun v=>by
   unfold Far.get
   rw[List.getD_eq_getElem?_getD,List.getElem?_replicate]
   split <;> rfl
  rw[e]
  exact Far.Bfs.start U
 ·obtain⟨E,ring,lr,y6,y7,y8,rfl,bt,hf,lE,nlr,hr_,rnd,rin,bf⟩:=h
  refine⟨_,rfl,lr,rfl,⟨_,SqL.of hr_⟩,?_⟩
  refine for_list (xs:=natV ring) (fun j σ J'=>∃ (E':List (Option Nat)) (y7:Option V),σ=[some (.ref g0),some (.ref kp),some (.int (s0:Int)),some (.ref lb),some (.ref lf),some (.ref lr),some (.int (0 + (i:Int))),y7,y8]∧But lf J J'∧J' lf=some (.lst (E'.map oa))∧E'.length=n.toNat∧∀ v,Far.get E' v=if v ∈ ring.take j then some i else Far.get E v) ⟨E,_,rfl,But.refl,hf,lE,fun v=>by rw[if_neg (by simp)]⟩ (fun j σ J' _ h=>?_) (fun j x σ J' hx h=>?_) (fun σ J5 h=>?_)
  ·obtain⟨E',y7,rfl,b5,_⟩:=h
   exact SqL.of (b5 _ _ nlr hr_)
  ·obtain⟨E',y7,rfl,b5,h5,lE',g5⟩:=h
   obtain⟨p,hp,rfl⟩:=nat_at hx
   have hpn:=rin p (List.mem_of_getElem? hp)
   refine⟨_,rfl,_,rfl,_,rfl,lf,_,(p:Int),p,rfl,rfl,h5,ixN_nat (Int.natCast_nonneg _) (by rw[List.length_map];omega),?_⟩
   have tn:ring.take (j + 1)=ring.take j++[p]:=by rw[List.take_add_one,hp];rfl
   refine⟨E'.set p (some i),_,rfl,b5.trans But.upd,?_,by rw[List.length_set];exact lE',fun v=>?_⟩
   ·rw[upd_same,List.map_set,Int.zero_add];rfl
   ·rw[get_set E' i (by omega),g5 v,tn]
    by_cases z:v=p
    ·rw[if_pos z,if_pos (by rw[z];simp)]
    ·rw[if_neg z]
     by_cases y:v ∈ ring.take j
     ·rw[if_pos y,if_pos (List.mem_append_left _ y)]
     ·rw[if_neg y,if_neg (fun m=>(List.mem_append.mp m).elim y fun m=>z (List.mem_singleton.mp m))]
  obtain⟨E',y7,rfl,b5,h5,lE',g5⟩:=h
  rw[natV_length,List.take_length] at g5
  have hr5:=b5 _ _ nlr hr_
  have B5:Bes J5 lb as fun j=>natV (rowsN ts ks j):=(B1.same S14).but nlf naf (bt.trans b5)
  refine⟨(by show 0≤1000;decide),fun lu J6 S6 f6 e6=>?_⟩
  have nuf:lf≠lu:=fun z=>by rw[← z,h5] at f6;cases f6
  have nul:lr≠lu:=fun z=>by rw[← z,hr5] at f6;cases f6
  have nub:lb≠lu:=fun z=>by rw[← z,B5.top] at f6;cases f6
  have nua:lu ∉ as:=fun z=>by
   obtain⟨i,hi,e⟩:=List.getElem_of_mem z
   have:=B5.row i lu (by rw[List.getElem?_eq_getElem hi,e])
   rw[this] at f6;cases f6
  have fl:∀ l:List Nat,l.length≤24->(l.flatMap (rowsN ts ks)).length≤576:=fun l hl=>by
   have h1:=flat_le (f:=rowsN ts ks) (m:=24) l fun x _=>Nat.le_trans (row_few ok ko x) N24
   have h2:=Nat.mul_le_mul_right 24 hl
   omega
  have lring:ring.length≤24:=Nat.le_trans (Peel.len_below n.toNat ring rnd rin) N24
  refine⟨_,rfl,lr,rfl,⟨_,SqL.of (S6 _ _ hr5)⟩,?_⟩
  refine for_list (xs:=natV ring) (fun j σ J'=>∃ (y7:Option V),σ=[some (.ref g0),some (.ref kp),some (.int (s0:Int)),some (.ref lb),some (.ref lf),some (.ref lr),some (.int (0 + (i:Int))),y7,some (.ref lu)]∧But lu J6 J'∧J' lu=some (.lst (natV ((ring.take j).flatMap (rowsN ts ks))))) ⟨_,rfl,But.refl,e6⟩ (fun j σ J' _ h=>?_) (fun j x σ J' hx h=>?_) (fun σ J7 h=>?_)
  ·obtain⟨y7,rfl,b7,_⟩:=h
   exact SqL.of (b7 _ _ nul (S6 _ _ hr5))
  ·obtain⟨y7,rfl,b7,h7⟩:=h
   obtain⟨p,hp,rfl⟩:=nat_at hx
   have hpn:=rin p (List.mem_of_getElem? hp)
   have B7:=(B5.same S6).but nub nua b7
   obtain⟨a1,i1,v1,r1⟩:=B7.ix (i:=p) (by omega)
   have tn:ring.take (j + 1)=ring.take j++[p]:=by rw[List.take_add_one,hp];rfl
   refine⟨_,rfl,.inl ⟨rfl,_,SqL.of h7⟩,_,rfl,_,rfl,lb,_,_,.ref a1,rfl,rfl,SqL.of B7.top,atI_toNat (Int.natCast_nonneg _) (by rw[Int.toNat_natCast];exact v1),?_⟩
   have l1:=fl (ring.take j) (by rw[List.length_take];omega)
   have l2:=row_few ok ko p
   refine⟨lu,a1,_,_,rfl,rfl,h7,r1,by rw[natV_length,natV_length];omega,fun J8 b8 e8=>⟨_,rfl,b7.trans b8,?_⟩⟩
   rw[e8,tn,List.flatMap_append,natV_append]
   simp
  obtain⟨y7',rfl,b7,h7⟩:=h
  rw[natV_length,List.take_length] at h7
  obtain⟨fu,efu⟩:∃ fu,fu=ring.flatMap (rowsN ts ks):=⟨_,rfl⟩
  have lfu:fu.length≤576:=by rw[efu];exact fl ring lring
  rw[← efu] at h7
  have mfu:∀ c,c ∈ fu↔∃ u ∈ ring,Adj ts ks u c:=fun c=>by
   rw[efu,List.mem_flatMap]
   exact⟨fun ⟨u,hu,m⟩=>⟨u,hu,(rows_mem ok ko u c).mp m⟩,fun ⟨u,hu,m⟩=>⟨u,hu,(rows_mem ok ko u c).mpr m⟩⟩
  have fin:∀ c ∈ fu,c < n.toNat:=fun c hc=>let ⟨u,_,a⟩:=(mfu c).mp hc;adj_lt ok ko u c a
  have hf7:J7 lf=some (.lst (E'.map oa)):=b7 _ _ nuf (S6 _ _ h5)
  rw[natV_keep] at h7
  have inI:∀ x ∈ keepI fu,0≤x∧x < ((24:Nat):Int):=fun x hx=>by
   obtain⟨c,hc,rfl⟩:=List.mem_map.mp hx
   have:=fin c hc
   omega
  have few:=setN_few inI
  refine⟨_,rfl,lu,keepI fu,rfl,h7,by unfold keepI;rw[List.length_map];omega,fun q1 J8 S8 f8 e8=>⟨q1,_,_,rfl,e8,by omega,fun ms m1 m2 m3 l9 J9 S9 f9 e9=>⟨l9,rfl,⟨_,SqL.of e9⟩,?_⟩⟩⟩
  obtain⟨mnd,mmem⟩:=set_told m1 m2
  obtain⟨os,eos⟩:∃ os,os=ms.map Int.toNat:=⟨_,rfl⟩
  have ms0:∀ x ∈ ms,0≤x∧x < ((24:Nat):Int):=fun x hx=>inI x ((mmem x).mp hx)
  rw[ints_nat fun x hx=>(ms0 x hx).1,← eos] at e9
  have omem:∀ c,c ∈ os↔c ∈ fu:=fun c=>by
   rw[eos,List.mem_map]
   constructor
   ·rintro ⟨x,hx,rfl⟩
    obtain⟨c,hc,rfl⟩:=List.mem_map.mp ((mmem x).mp hx)
    rw[Int.toNat_natCast];exact hc
   ·intro hc
    exact⟨(c:Int),(mmem _).mpr (List.mem_map.mpr ⟨c,hc,rfl⟩),Int.toNat_natCast c⟩
  have ond:os.Nodup:=by
   rw[eos,List.Nodup,List.pairwise_map]
   refine List.Pairwise.imp_of_mem ?_ mnd
   intro a b ha hb ne z
   have h1:=ms0 a ha
   have h2:=ms0 b hb
   exact ne (by omega)
  have los:os.length≤24:=Peel.len_below 24 os ond fun c hc=>by have:=fin c ((omem c).mp hc);omega
  have hf9:=S9 _ _ (S8 _ _ hf7)
  refine comp_selL e9 (fun σ'=>∃ o,σ'=[o,some (.ref lf)]) (fun j=>if decide (Far.get E' (os.getD j 0)=none)=true then some (V.int ((os.getD j 0:Nat):Int)) else none) (by rw[natV_length];omega) (by exact⟨none,rfl⟩) (fun j x σ' H' hx s3 sg C M hC hM=>?_) (fun L J10 hL S10 hH=>?_)
  ·obtain⟨o,rfl⟩:=sg
   obtain⟨p,hp,rfl⟩:=nat_at hx
   have ep:os.getD j 0=p:=by rw[List.getD_eq_getElem?_getD,hp];rfl
   have hpn:=fin p ((omem p).mp (List.mem_of_getElem? hp))
   rw[ep] at hC hM
   refine⟨_,rfl,_,rfl,lf,_,_,_,rfl,rfl,SqL.of (s3 _ _ hf9),atI_toNat (Int.natCast_nonneg _) (by rw[Int.toNat_natCast];exact oa_at (by omega)),?_⟩
   cases eg:Far.get E' p with
   | none =>
    rw[eg] at hC
    exact⟨rfl,_,rfl,iteT ⟨_,rfl,hC _ _ _ ⟨_,rfl⟩ (Same.refl _) (by rw[if_pos (decide_eq_true rfl)])⟩⟩
   | some d =>
    rw[eg] at hM
    exact⟨rfl,_,rfl,iteF (hM _ _ ⟨_,rfl⟩ (Same.refl _) (by rw[if_neg (by simp)]))⟩
  rw[natV_length,sel_list (fun j=>decide (Far.get E' j=none)) os] at hH
  have nLf:L≠lf:=fun z=>by rw[z,hf9] at hL;cases hL
  refine⟨E',os.filter (fun j=>decide (Far.get E' j=none)),L,_,_,_,rfl,?_,S10 _ _ hf9,lE',nLf,hH,List.Pairwise.filter _ ond,fun v hv=>fin v ((omem v).mp (List.mem_filter.mp hv).1),?_⟩
  ·intro b o z e
   exact S10 _ _ (S9 _ _ (S8 _ _ (b7 _ _ (fun y=>by rw[y] at e;rw[(bt.trans b5) _ _ (fun x=>nuf x.symm) e] at f6;cases f6) (S6 _ _ ((bt.trans b5) _ _ z e)))))
  ·refine Far.Bfs.step U bf g5 fun c=>?_
   rw[List.mem_filter,omem,mfu]
   refine and_congr ⟨fun ⟨u,hu,a⟩=>⟨u,hu,(arcs_ones ko).mpr ⟨rfl,a⟩⟩,fun ⟨u,hu,a⟩=>⟨u,hu,((arcs_ones ko).mp a).2⟩⟩ ⟨of_decide_eq_true,fun z=>decide_eq_true z⟩
 ·obtain⟨E,ring,lr,y6,y7,y8,rfl,bt,hf,lE,nlr,hr_,rnd,rin,bf⟩:=h
  have en:=bf.end_ U (Peel.len_below n.toNat) fun k v a=>walk_in ok ko hs0 a.1
  refine⟨_,rfl,q lf (E.map fun o=>o.map fun d:Nat=>(d:Int)) J (fun b o e=>bt _ _ (ne_of_none e ff) (S04 _ _ e)) ff (by rw[ov_oa];exact hf) (by rw[List.length_map];exact lE) fun v hv=>?_⟩
  rw[get_mapN]
  exact en v
def spPlainW (K:PySem.W.Frag):Sp:=fun vs H Q _=>∃ n ts v,vs=[v]∧Is K H (webD n ts) v∧ts.length≤60∧∀ H',Same H H'->Q (.bl (ts.all fun t=>decide (t.2.2=1))) H'
theorem tieAt_getD {ts:List Tie} {i:Nat} (h:i < ts.length):ts[i]?=some (tieAt ts i):=by
 obtain⟨h1,h2⟩:=tieAt_in h
 exact h1
theorem ok_is_plain (T:Bi mg) (D:DefOk K mg "is_plain" s_is_plain ["web"]):Ok P w K mg base 1 "is_plain" ["web"] (spPlainW K):=by
 refine mk_ok (k:=0) D sc_is_plain (fun vs H Q E h=>?_) (fun f cdv A outer s H vs Q E hr h=>?_)
 ·obtain⟨n,ts,v,rfl,_⟩:=h
  rfl
 obtain⟨n,ts,v,rfl,hw,few60,q⟩:=h
 have nd:=sc_is_plain.nd
 obtain⟨g0,g,ws,rfl,hg0,hg,hall,hlw⟩:=web_parts hw
 refine⟨_,(pss_one (ps_ret (pe_callB (call_all rfl) rfl T.z_all (by decide +kernel) (pa_cons (pe_comp (N:=["web"]) (sc0:=defScope s_is_plain) (own:=["tie"]) (fr:=[]) (js:=[]) rfl (pi_tup (pe_ix ix_tup (pv 0) pe_int (fun _ _=>rfl))) (fun _ _ _ _=>(pg_name (i:=0) (by show List.Nodup [("tie":Str)];decide +kernel) rfl (Or.inl rfl))) (fun _ _ _ _=>pts_nil) (fun _ _ _ _=>(pe_cmpR op_eq (pe_ix ix_tupC (pv 0) pe_int (fun _ _=>rfl)) pe_int (nomark _)))) pa_nil)))),?_⟩
 refine⟨_,rfl,g0,_,_,_,rfl,rfl,SqT.of hg0,rfl,g,rfl,⟨_,SqT.of hg⟩,?_⟩
 refine comp_tup hg (fun σ'=>σ'.length=1) (fun i v _=>v=.bl (decide ((tieAt ts i).2.2=1))) (by omega) (by rfl) (fun _ _ _ _ _ h=>h) (fun i x σ' H' hx s2 sg C hC=>?_) (fun L ys H' hL s2 hH hly hys=>?_)
 ·match σ',sg with
  | [o],_ =>
   have hi:i < ts.length:=by have:=(List.getElem?_eq_some_iff.mp hx).1;omega
   obtain⟨ta,hta,htie⟩:=tie_val hall hi
   rw[hta] at hx
   cases hx
   refine⟨_,rfl,ta,_,_,_,rfl,rfl,SqT.of (s2 _ _ htie),rfl,rfl,hC _ _ _ rfl (Same.refl _) ?_⟩
   by_cases z:(tieAt ts i).2.2=1
   ·rw[decide_eq_true z,decide_eq_true (congrArg V.int z)]
   ·rw[decide_eq_false z,decide_eq_false fun h=>z (by injection h)]
 ·refine⟨L,_,rfl,SqL.of (by rw[hH,bools_of hly hys]),?_⟩
  have e:((List.range ws.length).map fun i=>decide ((tieAt ts i).2.2=1)).all id=ts.all fun t=>decide (t.2.2=1):=by
   rw[List.all_map,Bool.eq_iff_iff,List.all_eq_true,List.all_eq_true]
   constructor
   ·intro h t ht
    obtain⟨j,hj,rfl⟩:=List.getElem_of_mem ht
    have:=h j (List.mem_range.mpr (by omega))
    have e2:=tieAt_getD hj
    rw[List.getElem?_eq_getElem hj] at e2
    rw[Option.some.inj e2]
    exact this
   ·intro h j hj
    have hj':j < ts.length:=by have:=List.mem_range.mp hj;omega
    exact h _ (tieAt_in hj').2
  rw[e]
  exact q H' s2
def spPlain52 (K:PySem.W.Frag):Sp:=fun vs H Q _=>∃ (p:Addr) (m:Int),vs=[.ref p,.int m]∧Pot H p∧1≤m∧m≤24∧∀ (v:V) (H':Hp) (n:Int) (ts:List Tie),But p H H'->Pot H' p->WebOk n ts->Is K H' (webD n (ones ts)) v->Q v H'
theorem ok__law_plain (T:Bi mg) (D:DefOk K mg "_law_plain" s__law_plain ["pot","most"]) (O__law_web:Ok P w K mg base 3 "_law_web" ["pot","most"] (spWeb K)):Ok P w K mg base 4 "_law_plain" ["pot","most"] (spPlain52 K):=by
 refine mk_ok (k:=3) D sc__law_plain (fun vs H Q E h=>?_) (fun f cdv A outer s H vs Q E hr h=>?_)
 ·obtain⟨p,m,rfl,_⟩:=h
  rfl
 obtain⟨p,m,rfl,hp,m1,m24,q⟩:=h
 have nd:=sc__law_plain.nd
 refine⟨_,(pss_cons (ps_asg (pe_callD O__law_web hr rfl (pa_cons (pv 0) (pa_cons (pv 1) pa_nil))) (pg_tup (n:=2) rfl (pgs_cons (pg_name (i:=2) nd rfl (Or.inl rfl)) (pgs_cons (pg_name (i:=3) nd rfl (Or.inl rfl)) pgs_nil)))) (pss_one (ps_ret (pe_tupG (pa_cons (pv 2) (pa_cons (pe_callTy call_tupleG rfl T.z_tuple (by decide +kernel) (pa_cons (pe_comp (N:=["pot","most","n","ties"]) (sc0:=defScope s__law_plain) (own:=["a","b","length"]) (fr:=[]) (js:=[]) rfl (pi_tup (pv 3)) (fun _ _ _ _=>(pg_tupC (n:=3) rfl (pgs_cons (pg_name (i:=0) (by show List.Nodup [("a":Str),("b":Str),("length":Str)];decide +kernel) rfl (Or.inl rfl)) (pgs_cons (pg_name (i:=1) (by show List.Nodup [("a":Str),("b":Str),("length":Str)];decide +kernel) rfl (Or.inl rfl)) (pgs_cons (pg_name (i:=2) (by show List.Nodup [("a":Str),("b":Str),("length":Str)];decide +kernel) rfl (Or.inl rfl)) pgs_nil))))) (fun _ _ _ _=>pts_nil) (fun _ _ _ _=>(pe_tupG (pa_cons (pv 0) (pa_cons (pv 1) (pa_cons pe_int pa_nil)))))) pa_nil)) pa_nil)))))),?_⟩
 refine⟨_,rfl,_,rfl,p,m,rfl,hp,m1,m24,fun wv H1 n ts b1 p1 ok _ isw=>?_⟩
 have few60:=ok.few
 obtain⟨g0,g,ws,rfl,hg0,hg,hall,hlw⟩:=web_parts isw
 refine⟨g0,_,rfl,SqT.of hg0,rfl,_,_,rfl,_,_,rfl,rfl,?_⟩
 refine⟨_,rfl,_,rfl,g,rfl,⟨_,SqT.of hg⟩,?_⟩
 refine comp_tup hg (fun σ'=>σ'.length=3) (fun i x H'=>∃ t,x=.ref t∧H' t=some (.tup ([(tieAt ts i).1,(tieAt ts i).2.1,(1:Int)].map V.int))) (by omega) (by rfl) (fun i x H H' k h=>by obtain⟨t,e1,e2⟩:=h;exact⟨t,e1,k _ _ e2⟩) (fun i x σ' H' hx s2 sg C hC=>?_) (fun L ys H2 hL s2 hH hly hys=>?_)
 ·match σ',sg with
  | [o1,o2,o3],_ =>
   have hi:i < ts.length:=by have:=(List.getElem?_eq_some_iff.mp hx).1;omega
   obtain⟨ta,hta,htie⟩:=tie_val hall hi
   rw[hta] at hx
   cases hx
   refine⟨ta,_,rfl,SqT.of (s2 _ _ htie),rfl,_,_,rfl,_,_,rfl,_,_,rfl,rfl,?_⟩
   exact⟨_,rfl,_,rfl,(by show 3≤1000;decide),fun t J S f e=>hC _ _ _ rfl S ⟨t,rfl,e⟩⟩
 ·refine⟨L,_,rfl,hH,fun p2 J S f e=>⟨(by show 2≤1000;decide),fun r J2 S2 f2 e2=>?_⟩⟩
  have S12:=s2.trans (S.trans S2)
  refine q _ J2 n ts (b1.trans (Same.but S12)) (p1.same S12) ok ⟨r,_,rfl,e2,.int n,_,rfl,rfl,.ref p2,[],rfl,⟨p2,ys,rfl,S2 _ _ e,?_⟩,rfl⟩
  have l1:((ones ts).map tieD).length=ts.length:=by rw[List.length_map,ones_len]
  refine IsAll.of (by rw[hly,hlw,l1]) fun i d v hd hv=>?_
  have hi:i < ts.length:=by have:=(List.getElem?_eq_some_iff.mp hd).1;omega
  have ed:d=tieD ((tieAt ts i).1,(tieAt ts i).2.1,1):=by
   rw[List.getElem?_map,(tieAt_in (ts:=ones ts) (k:=i) (by rw[ones_len];exact hi)).1,ones_at hi] at hd
   exact (Option.some.inj hd).symm
  obtain⟨t,rfl,e3⟩:=hys i v hv
  rw[ed]
  exact⟨t,_,rfl,(S.trans S2) _ _ e3,IsAll.ints _⟩
def spNeedP (K:PySem.W.Frag):Sp:=fun vs H Q _=>∃ (n:Int) (ts:List Tie) (wv:V),vs=[wv]∧Is K H (webD n (ones ts)) wv∧ts.length≤60∧∀ H',Same H H'->Q .non H'
theorem ok_need_plain (T:Bi mg) (D:DefOk K mg "need_plain" s_need_plain ["web"]) (O_is_plain:Ok P w K mg base 1 "is_plain" ["web"] (spPlainW K)):Ok P w K mg base 2 "need_plain" ["web"] (spNeedP K):=by
 refine mk_ok (k:=1) D sc_need_plain (fun vs H Q E h=>?_) (fun f cdv A outer s H vs Q E hr h=>?_)
 ·obtain⟨n,ts,wv,rfl,_⟩:=h
  rfl
 obtain⟨n,ts,wv,rfl,isw,few,q⟩:=h
 have nd:=sc_need_plain.nd
 refine⟨_,(pss_one (ps_if (pt_not (pt_val (pe_callD O_is_plain hr rfl (pa_cons (pv 0) pa_nil)))) (pss_one ps_never) pss_nil)),?_⟩
 refine⟨_,rfl,n,ones ts,wv,rfl,isw,by rw[ones_len];exact few,fun H1 s1=>?_⟩
 rw[ones_plain]
 exact⟨_,rfl,iteF (q H1 s1)⟩
def spLTreeW (K:PySem.W.Frag):Sp:=fun vs H Q _=>∃ n ts ks wv kv r,vs=[wv,kv,.int r]∧WK K H n ts ks wv kv∧0≤r∧r < n∧∀ t F H',Same H H'->H' t=some (.tup ((F:List (Option Nat)).map oa))->F.length=n.toNat->Q (.ref t) H'
def KeepV (J:Hp) (m:Nat) (v:V):Prop:=∃ p ks,v=.ref p∧J p=some (.tup (natV ks))∧KeepOk m ks
theorem KeepV.tk {J J':Hp} {m:Nat} {v:V} (k:TupKeep J J') (h:KeepV J m v):KeepV J' m v:=let ⟨p,ks,e,e1,o⟩:=h;⟨p,ks,e,k _ _ e1,o⟩
def spTKeep (K:PySem.W.Frag):Sp:=fun vs H Q _=>∃ (n:Int) (ts:List Tie) (wv:V) (p:Addr) (rs:List Int),vs=[wv,.ref p]∧Is K H (webD n ts) wv∧WebOk n ts∧H p=some (.lst (rs.map V.int))∧rs.length≤4∧(∀ r ∈ rs,0≤r∧r < n)∧∀ v H',Same H H'->KeepV H' ts.length v->Q v H'
theorem ok__law_tree_keep (T:Bi mg) (D:DefOk K mg "_law_tree_keep" s__law_tree_keep ["web","roots"]) (O__law_tree:Ok P w K mg base 3 "_law_tree" ["web","keep","root"] (spLTreeW K)):Ok P w K mg base 4 "_law_tree_keep" ["web","roots"] (spTKeep K):=by
 refine mk_ok (k:=3) D sc__law_tree_keep (fun vs H Q E h=>?_) (fun f cdv A outer s H vs Q E hr h=>?_)
 ·obtain⟨n,ts,wv,p,rs,rfl,_⟩:=h
  rfl
 obtain⟨n,ts,wv,p,rs,rfl,isw,ok,hp,lrs,hrs,q⟩:=h
 have nd:=sc__law_tree_keep.nd
 have units:∀ {x:Nat},x≤3->(A.deeper (envOfC "_law_tree_keep" (defScope s__law_tree_keep) s.heap.objs.size f cdv)).units + x < cLine:=fun {x} hu=>by have:=hr.units;omega
 have few60:=ok.few
 have n24:=ok.n24
 have n1:=ok.n1
 obtain⟨g0,g,ws,rfl,hg0,hg,hall,hlw⟩:=web_parts isw
 refine⟨_,(pss_cons (ps_set (i:=2) nd rfl (Or.inl rfl) (pe_callTy (call_tuple_rng rfl) rfl T.z_tuple (by decide +kernel) (pa_cons (pe_callTy call_range rfl T.z_range (by decide +kernel) (pa_cons (pe_callB call_len_seq rfl T.z_len (by decide +kernel) (pa_cons (pe_ix ix_tup (pv 0) pe_int (fun _ _=>rfl)) pa_nil)) pa_nil)) pa_nil))) (pss_cons (ps_set (i:=3) nd rfl (Or.inr rfl) (pe_lstG pa_nil)) (pss_cons (ps_for PassesOwn.never rfl (pi_list (pv 1)) (pg_name (i:=4) nd rfl (Or.inl rfl)) (pss_cons (ps_set (i:=5) nd rfl (Or.inl rfl) (pe_callD O__law_tree hr rfl (pa_cons (pv 0) (pa_cons (pv 2) (pa_cons (pv 4) pa_nil))))) (pss_one (ps_expr (pe_bm PySem.F.plainAttrs_list PySem.F.slot_list_extend PySem.F.type_list_extend mt_extendB (pv 3) (pa_cons (pe_comp (N:=["web","roots","every","along","root","tree"]) (sc0:=defScope s__law_tree_keep) (own:=["place","one"]) (fr:=[]) (js:=[]) rfl (pi_enum true rfl T.z_enumerate (pa_cons (pv 5) pa_nil)) (fun _ _ _ _=>(pg_tupC (n:=2) rfl (pgs_cons (pg_name (i:=0) (by show List.Nodup [("place":Str),("one":Str)];decide +kernel) rfl (Or.inl rfl)) (pgs_cons (pg_name (i:=1) (by show List.Nodup [("place":Str),("one":Str)];decide +kernel) rfl (Or.inl rfl)) pgs_nil)))) (fun _ _ _ _=>(pts_one (pt_cmpR op_notN (pv 1) pe_non (nomark _)))) (fun _ _ _ _=>(pe_callTy call_tupleG rfl T.z_tuple (by decide +kernel) (pa_cons (pe_callB call_sortedIM rfl T.z_sorted (by decide +kernel) (pa_cons (pe_lstG (pa_cons (pv 0) (pa_cons (pv 1) pa_nil))) pa_nil)) pa_nil)))) pa_nil)))))) (pss_one (ps_ret (pe_callTy call_tupleG rfl T.z_tuple (by decide +kernel) (pa_cons (pe_comp (N:=["web","roots","every","along","root","tree"]) (sc0:=defScope s__law_tree_keep) (own:=["number"]) (fr:=["web","along"]) (js:=[0,3]) rfl (pi_tup (pv 2)) (fun _ _ _ _=>(pg_name (i:=0) (by show List.Nodup [("number":Str),("web":Str),("along":Str)];decide +kernel) rfl (Or.inl rfl))) (fun _ _ _ _=>(pts_one (pt_cmpR op_inLD (pe_slice sl_tupA (pe_ix ix_tupC (pe_ix ix_tupC (pv 1) pe_int (fun _ _=>rfl)) (pv 0) (fun _ _=>rfl)) po_none (po_some pe_int)) (pv 2) (by with_unfolding_all rfl)))) (fun _ _ _ _=>(pv 0))) pa_nil))))))),?_⟩
 refine⟨_,rfl,g0,_,_,_,rfl,rfl,SqT.of hg0,rfl,g,_,rfl,.inr (SqT.of hg),_,rfl,fun rg hrg=>⟨rg,_,rfl,upd_same,Int.natCast_nonneg _,by omega,fun ev J1 S1 f1 e1=>?_⟩⟩
 rw[Int.toNat_natCast,hlw] at e1
 have S01:=(same_new (o:=.rng 0 (ws.length:Int)) hrg).trans S1
 refine⟨(by show 0≤1000;decide),fun la J2 S2 f2 e2=>?_⟩
 have S02:=S01.trans S2
 have fa:H la=none:=S01.free f2
 refine⟨_,rfl,p,rfl,⟨_,SqL.of (S02 _ _ hp)⟩,?_⟩
 have nev:ev≠la:=fun z=>by rw[z,f2] at e1;cases e1
 refine for_list (xs:=rs.map V.int) (fun i σ J=>∃ (vs:List V) (y4 y5:Option V),σ=[some (.ref g0),some (.ref p),some (.ref ev),some (.ref la),y4,y5]∧But la J2 J∧J la=some (.lst vs)∧vs.length≤i * 24∧∀ v ∈ vs,RowV 2 2 J v) ⟨[],none,none,rfl,But.refl,e2,Nat.zero_le _,fun v h=>(by cases h)⟩ (fun i σ J _ h=>?_) (fun i x σ J hx h=>?_) (fun σ J h=>?_)
 ·obtain⟨vs,y4,y5,rfl,bt,_⟩:=h
  exact SqL.of (bt _ _ (ne_of_none hp fa) (S02 _ _ hp))
 ·obtain⟨vs,y4,y5,rfl,bt,ha,lvs,hvs⟩:=h
  rw[List.getElem?_map] at hx
  obtain⟨r,hr_,rfl⟩:=Option.map_eq_some_iff.mp hx
  obtain⟨r0,r1⟩:=hrs r (List.mem_of_getElem? hr_)
  have hi:=(List.getElem?_eq_some_iff.mp hr_).1
  have sm:Same H J:=fun b o e=>bt _ _ (ne_of_none e fa) (S02 _ _ e)
  have eJ:J ev=some (.tup (natV (List.range ts.length))):=bt _ _ nev (S2 _ _ e1)
  refine⟨_,rfl,_,rfl,_,rfl,n,ts,List.range ts.length,_,.ref ev,r,rfl,⟨Is.same sm _ isw,ok,is_nkeepL eJ,keep_all ts⟩,r0,r1,fun t F J3 S3 e3 lF=>?_⟩
  have ha3:=S3 _ _ ha
  refine⟨_,rfl,.inl ⟨rfl,_,SqL.of ha3⟩,?_⟩
  refine⟨_,rfl,t,rfl,⟨_,SqX.of (t:=true) e3⟩,?_⟩
  refine comp_selEP (t:=true) e3 (fun σ'=>σ'.length=2) (fun v J=>RowV 2 2 J v) (by rw[List.length_map];omega) (by rfl) (fun v H H' k h=>h.tk k) (fun j x U σ' H' hx s2 hU sg C L hC hL=>?_) (fun L ys J4 hL S4 hH hly hys=>?_)
  ·match σ',sg with
   | [o1,o2],_ =>
    have hj:j < F.length:=by have:=(List.getElem?_eq_some_iff.mp hx).1;rw[List.length_map] at this;exact this
    rw[oa_at hj] at hx
    cases hx
    refine⟨U,_,rfl,SqT.of upd_same,rfl,_,_,rfl,_,_,rfl,rfl,?_⟩
    have SU:=same_new (H:=H') (o:=.tup [.int (j:Nat),oa (Far.get F j)]) hU
    refine⟨_,rfl,?_⟩
    cases e:Far.get F j with
    | none =>
     rw[e] at SU
     exact⟨rfl,_,rfl,iteF (hL _ _ rfl SU)⟩
    | some u =>
     rw[e] at SU
     refine⟨rfl,_,rfl,iteT ⟨_,rfl,_,rfl,(by show 2≤1000;decide),fun l5 J5 S5 f5 e5=>?_⟩⟩
     refine⟨l5,[(j:Int),(u:Int)],rfl,SqL.of e5,by simp,fun ms pm _ l6 hl6=>⟨l6,_,rfl,upd_same,fun t7 J7 S7 f7 e7=>?_⟩⟩
     refine hC _ _ _ rfl (SU.trans (S5.trans ((same_new hl6).trans S7))) ⟨t7,ms,rfl,e7,?_,?_⟩
     ·rw[pm.length_eq];exact Nat.le_refl _
     ·rw[pm.length_eq];exact Nat.le_refl _
  rw[List.length_map,lF] at hly
  refine⟨la,L,_,_,rfl,rfl,S4 _ _ ha3,hH,by omega,fun J5 b5 e5=>?_⟩
  have tk5:TupKeep J4 J5:=fun b us e=>b5 _ _ (fun z=>by rw[z,S4 _ _ ha3] at e;cases e) e
  refine⟨vs++ys,_,_,rfl,fun b o z e=>b5 _ _ z (S4 _ _ (S3 _ _ (bt _ _ z e))),e5,by rw[List.length_append];omega,fun v hv=>?_⟩
  rcases List.mem_append.mp hv with z | z
  ·exact (hvs v z).tk fun b us e=>tk5 _ _ (S4 _ _ (S3 _ _ e))
  ·exact (hys v z).tk tk5
 ·obtain⟨vs,y4,y5,rfl,bt,ha,lvs,hvs⟩:=h
  have sm:Same H J:=fun b o e=>bt _ _ (ne_of_none e fa) (S02 _ _ e)
  have eJ:J ev=some (.tup (natV (List.range ts.length))):=bt _ _ nev (S2 _ _ e1)
  obtain⟨pp,hpp,_,_⟩:=rows_pap (K:=K) hvs
  have depT:∀ l:List Int,PyData.depth (.tuple (l.map .int))≤2:=fun l=>Nat.succ_le_succ (deep_ints l)
  refine⟨_,rfl,ev,rfl,⟨_,SqT.of eJ⟩,?_⟩
  obtain⟨bf,ebf⟩:∃ bf:Nat->Bool,bf=fun k=>(pp.map tupH).any fun d=>PyData.eqv d (.tuple (([(tieAt ts k).1,(tieAt ts k).2.1]:List Int).map .int)):=⟨_,rfl⟩
  refine comp_selT eJ (fun σ'=>∃ o,σ'=[o,some (.ref g0),some (.ref la)]) (fun i=>if bf ((List.range ts.length).getD i 0)=true then some (V.int (((List.range ts.length).getD i 0:Nat):Int)) else none) (by rw[natV_length,List.length_range];omega) (by exact⟨none,rfl⟩) (fun i x σ' H' hx s2 sg C L hC hL=>?_) (fun L J4 hL S4 hH=>?_)
  ·obtain⟨o,rfl⟩:=sg
   obtain⟨k,hk,rfl⟩:=nat_at hx
   have ek:(List.range ts.length).getD i 0=k:=by rw[List.getD_eq_getElem?_getD,hk];rfl
   have hkl:k < ts.length:=List.mem_range.mp (List.mem_of_getElem? hk)
   rw[ek] at hC hL
   obtain⟨ta,hta,htie⟩:=tie_val hall hkl
   have s3:=sm.trans s2
   refine⟨_,rfl,g0,_,_,_,rfl,rfl,SqT.of (s3 _ _ hg0),rfl,_,rfl,g,_,_,_,rfl,rfl,SqT.of (s3 _ _ hg),atI_toNat (Int.natCast_nonneg _) hta,_,rfl,ta,_,rfl,s3 _ _ htie,fun tb J5 S5 e5=>?_⟩
   have e5':J5 tb=some (.tup (([(tieAt ts k).1,(tieAt ts k).2.1]:List Int).map V.int)):=e5
   have hu2:=depT [(tieAt ts k).1,(tieAt ts k).2.1]
   refine⟨_,rfl,la,pp.map tupH,vs,.tuple (([(tieAt ts k).1,(tieAt ts k).2.1]:List Int).map .int),rfl,S5 _ _ (s2 _ _ ha),IsAll.same (s2.trans S5) _ hpp,⟨tb,_,rfl,e5',IsAll.ints _⟩,(fun d hd=>?_),lay_ints _,?_,_,rfl,?_⟩
   ·obtain⟨hs,_,rfl⟩:=List.mem_map.mp hd
    exact lay_ints _
   ·exact Nat.lt_of_le_of_lt (Nat.add_le_add (Nat.le_refl _) hu2) (units (x:=3) (Nat.le_refl _))
   have eb:((pp.map tupH).any fun d=>PyData.eqv d (.tuple (([(tieAt ts k).1,(tieAt ts k).2.1]:List Int).map .int)))=bf k:=by rw[ebf]
   rw[eb]
   cases e:bf k with
   | true=>exact iteT ⟨_,rfl,hC _ _ _ ⟨_,rfl⟩ S5 (by rw[if_pos e])⟩
   | false=>exact iteF (hL _ _ ⟨_,rfl⟩ S5 (by rw[if_neg (by rw[e];decide)]))
  rw[natV_length,sel_list bf (List.range ts.length)] at hH
  exact⟨L,_,rfl,hH,fun t J5 S5 f5 e5=>q _ J5 (sm.trans (S4.trans S5)) ⟨t,_,rfl,e5,List.Pairwise.filter _ List.pairwise_lt_range,fun k hk=>List.mem_range.mp (List.mem_filter.mp hk).1⟩⟩
theorem ok__law_weighedT (T:Bi mg) (D:DefOk K mg "_law_weighed" s__law_weighed ["web","keep","start"]) (O__law_weights:Ok P w K mg base 1 "_law_weights" ["web"] (spLWeights K)):Ok P w K mg base 2 "_law_weighed" ["web","keep","start"] (spWeighed K):=by
 refine mk_ok (k:=1) D sc__law_weighed (fun vs H Q E h=>?_) (fun f cdv A outer s H vs Q E hr h=>?_)
 ·obtain⟨n,ts,ks,wv,kv,r,rfl,_⟩:=h
  rfl
 obtain⟨n,ts,ks,wv,kv,r,rfl,⟨isw,ok,isk,ko⟩,r0,r1,q⟩:=h
 have nd:=sc__law_weighed.nd
 have units:∀ {u:Nat},u≤4->(A.deeper (envOfC "_law_weighed" (defScope s__law_weighed) s.heap.objs.size f cdv)).units + u < cLine:=fun {u} hu=>by have:=hr.units;omega
 have few60:=ok.few
 have n1:=ok.n1
 have n24:=ok.n24
 obtain⟨g0,g,ws,rfl,hg0,hg,hall,hlw⟩:=web_parts isw
 obtain⟨kp,rfl,hkp⟩:=keep_parts isk
 have KB:=arcsB_keys ok ko
 have P:Far.Pos (arcsW ts ks):=by rw[arcsW_eq];exact Far.arcsC_pos KB
 have inn:∀ u v l,(u,v,l) ∈ arcsW ts ks->u < n.toNat∧v < n.toNat:=fun u v l h=>by
  rw[arcsW_eq] at h
  obtain⟨l',k',m',_⟩:=Far.arcsC_mem.mp h
  exact arcsB_in ok ko m'
 obtain⟨δ,dd⟩:∃ δ:Nat->Option Int,∀ v,Far.Dst (arcsW ts ks) r.toNat v (δ v):=⟨fun v=>Classical.choose (Far.dst_exists P r.toNat v),fun v=>Classical.choose_spec (Far.dst_exists P r.toNat v)⟩
 refine⟨_,(pss_cons (ps_set (i:=3) nd rfl (Or.inl rfl) (pe_callD O__law_weights hr rfl (pa_cons (pv 0) pa_nil))) (pss_cons (ps_set (i:=4) nd rfl (Or.inl rfl) (pe_op op_rep1 (pe_lstG (pa_cons pe_non pa_nil)) (pe_ix ix_tup (pv 0) pe_int (fun _ _=>rfl)))) (pss_cons (ps_asg pe_int (pg_sub (pv 4) (pv 2) set_list)) (pss_cons (ps_for PassesOwn.never rfl (pi_range1 rfl T.z_range (pa_cons (pe_ix ix_tup (pv 0) pe_int (fun _ _=>rfl)) pa_nil)) (pg_name (i:=5) nd rfl (Or.inl rfl)) (pss_cons (ps_set (i:=6) nd rfl (Or.inl rfl) (pe_callTy call_listG rfl T.z_list (by decide +kernel) (pa_cons (pv 4) pa_nil))) (pss_cons (ps_for PassesOwn.never rfl (pi_tup (pv 1)) (pg_name (i:=7) nd rfl (Or.inl rfl)) (pss_cons (ps_asg (pe_ix ix_tup (pe_ix ix_tup (pv 0) pe_int (fun _ _=>rfl)) (pv 7) (fun _ _=>rfl)) (pg_tup (n:=3) rfl (pgs_cons (pg_name (i:=8) nd rfl (Or.inl rfl)) (pgs_cons (pg_name (i:=9) nd rfl (Or.inl rfl)) (pgs_cons (pg_name (i:=10) nd rfl (Or.inl rfl)) pgs_nil))))) (pss_one (ps_for PassesOwn.never rfl (pi_list (pe_lstG (pa_cons (pe_tupG (pa_cons (pv 8) (pa_cons (pv 9) pa_nil))) (pa_cons (pe_tupG (pa_cons (pv 9) (pa_cons (pv 8) pa_nil))) pa_nil)))) (pg_tup (n:=2) rfl (pgs_cons (pg_name (i:=11) nd rfl (Or.inl rfl)) (pgs_cons (pg_name (i:=12) nd rfl (Or.inl rfl)) pgs_nil))) (pss_one (ps_if (pt_cmpR op_notN (pe_ix ix_list (pv 4) (pv 11) (fun _ _=>rfl)) pe_non (nomark _)) (pss_cons (ps_set (i:=13) nd rfl (Or.inl rfl) (pe_op op_add (pe_ix ix_list (pv 4) (pv 11) (fun _ _=>rfl)) (pe_ix ix_list (pv 3) (pv 7) (fun _ _=>rfl)))) (pss_one (ps_if (PW.pt (pw_or (pt_cmpR op_isN (pe_ix ix_list (pv 4) (pv 12) (fun _ _=>rfl)) pe_non (nomark _)) (pw_or1 (pt_cmpR op_gt (pe_ix ix_list (pv 4) (pv 12) (fun _ _=>rfl)) (pv 13) (nomark _))))) (pss_one (ps_asg (pv 13) (pg_sub (pv 4) (pv 12) set_list))) pss_nil))) pss_nil)))))) (pss_one (ps_if (pt_cmpR op_eqD (pv 6) (pv 4) (nomark _)) (pss_one (ps_ret (pv 4))) pss_nil))))) (pss_one (ps_ret (pv 4))))))),?_⟩
 refine⟨_,rfl,n,ts,_,rfl,isw,ok,fun lw Jw Sw fw ew=>?_⟩
 refine⟨(by show 1≤1000;decide),fun t0 J1 S1 f1 e1=>⟨_,rfl,g0,_,_,_,rfl,rfl,SqT.of (S1 _ _ (Sw _ _ hg0)),rfl,t0,n,_,rfl,rfl,e1,by omega,by omega,fun lf J2 S2 f2 e2=>?_⟩⟩
 have S12:=Sw.trans (S1.trans S2)
 have ff:H lf=none:=(Sw.trans S1).free f2
 have nwf:lw≠lf:=fun z=>by rw[← z,S1 _ _ ew] at f2;cases f2
 have ew2:=S2 _ _ (S1 _ _ ew)
 refine⟨_,rfl,_,rfl,lf,_,r,r.toNat,rfl,rfl,e2,ixN_nat r0 (by rw[List.length_replicate];omega),?_⟩
 have keepF:∀ {J:Hp} {o:HO},Same H J->Same H (upd J lf o):=fun {J o} s b o e=>by rw[upd_ne (ne_of_none e ff)];exact s _ _ e
 have fst:(List.replicate n.toNat V.non).set r.toNat (.int 0)=(((List.replicate n.toNat (none:Option Int)).set r.toNat (some 0)).map ov):=by
  rw[List.map_set,List.map_replicate];rfl
 rw[fst]
 have S0:Far.Snd (arcsW ts ks) n.toNat r.toNat ((List.replicate n.toNat none).set r.toNat (some 0)):=Far.Snd.first (by omega)
 refine⟨_,rfl,g0,_,_,_,rfl,rfl,SqT.of (keepF S12 _ _ hg0),rfl,n,rfl,by omega,by omega,?_⟩
 refine for_range (n:=n.toNat) (fun i σ J=>∃ (DD:List (Option Int)) (y4 ye y5 y6 y7 y8 y9 y10 y11:Option V),σ=[some (.ref g0),some (.ref kp),some (.int r),some (.ref lw),some (.ref lf),y4,ye,y5,y6,y7,y8,y9,y10,y11]∧J lw=some (.lst (wts ts ts.length))∧Same H J∧J lf=some (.lst (DD.map ov))∧Far.Snd (arcsW ts ks) n.toNat r.toNat DD∧Far.Done n.toNat δ DD i)
  ⟨_,none,none,none,none,none,none,none,none,none,rfl,(by rw[upd_ne nwf];exact ew2),keepF S12,upd_same,S0,Far.start_done P (by omega) dd S0⟩ (fun i σ J hi h=>?_) (fun σ J h=>?_)
 ·obtain⟨D0,y4,ye,y5,y6,y7,y8,y9,y10,y11,rfl,hw,sm,hf,sd,dn⟩:=h
  refine⟨_,rfl,lf,_,rfl,.inl hf,fun le Je Se fe ee=>?_⟩
  have nel:le≠lf:=fun z=>by rw[z,hf] at fe;cases fe
  refine⟨_,rfl,kp,rfl,⟨_,SqT.of (Se _ _ (sm _ _ hkp))⟩,?_⟩
  refine for_tup (xs:=(keepI ks).map V.int) (fun i' σ J=>∃ (DD:List (Option Int)) (y4 y5 y6 y7 y8 y9 y10 y11:Option V),σ=[some (.ref g0),some (.ref kp),some (.int r),some (.ref lw),some (.ref lf),y4,some (.ref le),y5,y6,y7,y8,y9,y10,y11]∧J le=some (.lst (D0.map ov))∧J lw=some (.lst (wts ts ts.length))∧Same H J∧J lf=some (.lst (DD.map ov))∧Far.Rnd (arcsW ts ks) n.toNat r.toNat δ D0 (fun z=>z ∈ arcsW ts (ks.take i')) DD)
   ⟨D0,_,_,_,_,_,_,_,_,rfl,ee,Se _ _ hw,sm.trans Se,Se _ _ hf,(Far.Rnd.start sd).less fun a z=>(by cases z)⟩ (fun i' σ J _ h=>?_) (fun i' x σ J hx h=>?_) (fun σ J h=>?_)
  ·obtain⟨DD,y4,y5,y6,y7,y8,y9,y10,y11,rfl,_,_,sm,_⟩:=h
   exact SqT.of (sm _ _ hkp)
  ·obtain⟨DD,y4,y5,y6,y7,y8,y9,y10,y11,rfl,hle,hw,sm,hf,rn⟩:=h
   obtain⟨k,hk,rfl⟩:=keep_at hx
   have hkl:k < ts.length:=ko.2 k (List.mem_of_getElem? hk)
   obtain⟨ta,hta,htie⟩:=tie_val hall hkl
   obtain⟨t,et⟩:∃ t,t=tieAt ts k:=⟨_,rfl⟩
   rw[← et] at htie
   have tk:=ok.tie _ (tieAt_in hkl).2
   rw[← et] at tk
   refine⟨_,rfl,g0,_,_,_,rfl,rfl,SqT.of (sm _ _ hg0),rfl,_,rfl,g,_,_,_,rfl,rfl,SqT.of (sm _ _ hg),atI_toNat (Int.natCast_nonneg _) hta,ta,_,rfl,SqT.of (sm _ _ htie),rfl,_,_,rfl,_,_,rfl,_,_,rfl,rfl,?_⟩
   refine⟨_,rfl,_,rfl,(by show 2≤1000;decide),fun t1 K1 T1 u1 v1=>⟨_,rfl,_,rfl,(by show 2≤1000;decide),fun t2 K2 T2 u2 v2=>⟨(by show 2≤1000;decide),fun t3 K3 T3 u3 v3=>⟨t3,rfl,⟨_,SqL.of v3⟩,?_⟩⟩⟩⟩
   have T13:=T1.trans (T2.trans T3)
   have v1':=T3 _ _ (T2 _ _ v1)
   have v2':=T3 _ _ v2
   have n3:t3≠lf:=fun z=>by rw[z,T2 _ _ (T1 _ _ hf)] at u3;cases u3
   refine for_list (xs:=[V.ref t1,.ref t2]) (fun j σ J=>∃ (DD:List (Option Int)) (y9 y10 y11:Option V),σ=[some (.ref g0),some (.ref kp),some (.int r),some (.ref lw),some (.ref lf),y4,some (.ref le),some (.int (k:Int)),some (.int t.1),some (.int t.2.1),some (.int t.2.2),y9,y10,y11]∧J le=some (.lst (D0.map ov))∧J lw=some (.lst (wts ts ts.length))∧Same H J∧J lf=some (.lst (DD.map ov))∧Far.Rnd (arcsW ts ks) n.toNat r.toNat δ D0 (fun z=>z ∈ arcsW ts (ks.take i')∨z ∈ (arcs2W ts k).take j) DD∧But lf K3 J)
    ⟨DD,_,_,_,rfl,T13 _ _ hle,T13 _ _ hw,sm.trans T13,T13 _ _ hf,rn.less fun a z=>z.elim id fun z=>(by cases z),But.refl⟩ (fun j σ J _ h=>?_) (fun j x σ J hx h=>?_) (fun σ J h=>?_)
   ·obtain⟨DD,y9,y10,y11,rfl,_,_,_,_,_,b3⟩:=h
    exact SqL.of (b3 _ _ n3 v3)
   ·obtain⟨DD,y9,y10,y11,rfl,hle,hw,sm,hf,rn,b3⟩:=h
    have tkp:TupKeep K3 J:=fun a xs e=>b3 _ _ (fun z=>by rw[z,T13 _ _ ‹_›] at e;cases e) e
    obtain⟨p,u,v,rfl,hp,u0,un,v0,vn,arc,more⟩:∃ p u v,x=.ref p∧J p=some (.tup [.int u,.int v])∧0≤u∧u < n∧0≤v∧v < n∧(u.toNat,v.toNat,wOf ts k) ∈ arcsW ts ks∧∀ z,z ∈ (arcs2W ts k).take (j + 1)->z ∈ (arcs2W ts k).take j∨z=(u.toNat,v.toNat,wOf ts k):=by
     have mem:∀ z,z ∈ arcs2W ts k->z ∈ arcsW ts ks:=fun z hz=>arcsW_mem.mpr ⟨k,List.mem_of_getElem? hk,hz⟩
     have mW:∀ {z},z=(t.1.toNat,t.2.1.toNat,wOf ts k)∨z=(t.2.1.toNat,t.1.toNat,wOf ts k)->z ∈ arcs2W ts k:=fun {z} hz=>by unfold arcs2W;rw[← et];simpa using hz
     match j,hx with
     | 0,hx=>cases hx;exact⟨t1,t.1,t.2.1,rfl,tkp _ _ v1',by omega,by omega,by omega,by omega,mem _ (mW (.inl rfl)),fun z hz=>by unfold arcs2W at *;rw[← et] at *;simpa using hz⟩
     | 1,hx=>cases hx;exact⟨t2,t.2.1,t.1,rfl,tkp _ _ v2',by omega,by omega,by omega,by omega,mem _ (mW (.inr rfl)),fun z hz=>by unfold arcs2W at *;rw[← et] at *;simpa using hz⟩
    refine⟨p,_,rfl,SqT.of hp,rfl,_,_,rfl,_,_,rfl,rfl,?_⟩
    have lD:=rn.snd.len
    have next:∀ {D':List (Option Int)},Far.Rnd (arcsW ts ks) n.toNat r.toNat δ D0 (Far.plus (fun z=>z ∈ arcsW ts (ks.take i')∨z ∈ (arcs2W ts k).take j) (u.toNat,v.toNat,wOf ts k)) D'->Far.Rnd (arcsW ts ks) n.toNat r.toNat δ D0 (fun z=>z ∈ arcsW ts (ks.take i')∨z ∈ (arcs2W ts k).take (j + 1)) D':=fun h=>h.less fun z hz=>by
     rcases hz with hz | hz
     ·exact .inl (.inl hz)
     ·exact (more z hz).elim (fun y=>.inl (.inr y)) .inr
    have at1:=atI_toNat u0 (ov_at (D:=DD) (i:=u.toNat) (by omega))
    have at2:=atI_toNat v0 (ov_at (D:=DD) (i:=v.toNat) (by omega))
    refine⟨_,rfl,_,rfl,lf,_,_,_,rfl,rfl,SqL.of hf,at1,rfl,_,rfl,?_⟩
    cases gu:Far.get DD u.toNat with
    | none=>exact iteF ⟨DD,_,_,_,rfl,hle,hw,sm,hf,next (rn.no gu),b3⟩
    | some d =>
     rw[gu] at at1
     refine iteT ⟨_,rfl,_,rfl,lf,_,_,_,rfl,rfl,SqL.of hf,at1,_,rfl,_,rfl,lw,_,_,_,rfl,rfl,SqL.of hw,wts_atI hkl,_,_,rfl,rfl,?_⟩
     refine⟨_,rfl,_,rfl,lf,_,_,_,rfl,rfl,SqL.of hf,at2,rfl,_,rfl,?_⟩
     have put:∀ (hv:Far.get DD v.toNat=none∨∃ y,Far.get DD v.toNat=some y∧d + wOf ts k < y),Far.Rnd (arcsW ts ks) n.toNat r.toNat δ D0 (fun z=>z ∈ arcsW ts (ks.take i')∨z ∈ (arcs2W ts k).take (j + 1)) (DD.set v.toNat (some (d + wOf ts k))):=fun hv=>next (rn.put dd arc (by omega) gu hv P)
     have eset:(DD.map ov).set v.toNat (.int (d + wOf ts k))=(DD.set v.toNat (some (d + wOf ts k))).map ov:=by rw[List.map_set];rfl
     cases gv:Far.get DD v.toNat with
     | none =>
      refine iteT (iteT ?_)
      refine⟨_,rfl,_,rfl,_,rfl,lf,_,_,_,rfl,rfl,hf,ixN_nat v0 (by rw[List.length_map];omega),?_⟩
      exact⟨_,_,_,_,rfl,(by rw[upd_ne nel];exact hle),(by rw[upd_ne nwf];exact hw),keepF sm,(by rw[upd_same,eset]),put (.inl gv),b3.trans But.upd⟩
     | some y =>
      rw[gv] at at2
      refine iteF ⟨_,rfl,_,rfl,lf,_,_,_,rfl,rfl,SqL.of hf,at2,_,rfl,_,_,rfl,rfl,_,rfl,ite2 (fun c=>?_) (fun c=>?_)⟩
      ·refine⟨_,rfl,_,rfl,_,rfl,lf,_,_,_,rfl,rfl,hf,ixN_nat v0 (by rw[List.length_map];omega),?_⟩
       exact⟨_,_,_,_,rfl,(by rw[upd_ne nel];exact hle),(by rw[upd_ne nwf];exact hw),keepF sm,(by rw[upd_same,eset]),put (.inr ⟨y,gv,of_decide_eq_true c⟩),b3.trans But.upd⟩
      ·have hy:y≤d + wOf ts k:=by
        have:=of_decide_eq_false (Bool.eq_false_iff.mpr c);omega
       exact⟨DD,_,_,_,rfl,hle,hw,sm,hf,next (rn.old gu gv hy),b3⟩
   ·obtain⟨DD,y9,y10,y11,rfl,hle,hw,sm,hf,rn,_⟩:=h
    refine⟨DD,_,_,_,_,_,_,_,_,rfl,hle,hw,sm,hf,rn.less fun z hz=>?_⟩
    exact (arcsW_take hk hz).elim .inl .inr
  ·obtain⟨DD,y4,y5,y6,y7,y8,y9,y10,y11,rfl,hle,hw',sm',hf',rn⟩:=h
   have lk:((keepI ks).map V.int).length=ks.length:=by unfold keepI;rw[List.length_map,List.length_map]
   rw[lk,List.take_length] at rn
   refine⟨_,rfl,_,rfl,.list (D0.map ovD),.list (DD.map ovD),is_ovL hle,is_ovL hf',lay_ovs _,lay_ovs _,units ?_,_,rfl,ite2 (fun c=>?_) (fun c=>?_)⟩
   ·have:=deep_ovs D0
    have:=Nat.min_le_left (PyData.depth (.list (D0.map ovD))) (PyData.depth (.list (DD.map ovD)))
    have e:PyData.depth (.list (D0.map ovD))=PyData.depthAll (D0.map ovD) + 1:=rfl
    omega
   ·have eD:D0=DD:=eqv_ovs c
    subst eD
    refine⟨_,rfl,q lf D0 J sm' ff hf' sd.len fun v hv=>?_⟩
    have ev:Far.get D0 v=δ v:=Classical.byContradiction fun ne=>by
     obtain⟨v',hv',n0,n1⟩:=rn.next dd P inn sd (fun a h=>h) ((δ v).getD 0).toNat v hv ne fun d e=>by rw[e];exact Nat.le_refl _
     exact n0 n1
    rw[ev];exact dd v
   ·exact⟨DD,_,_,_,_,_,_,_,_,_,rfl,hw',sm',hf',rn.snd,Far.Done.round dd P inn sd rn (fun a h=>h) dn⟩
 ·obtain⟨DD,y4,ye,y5,y6,y7,y8,y9,y10,y11,rfl,hw,sm,hf,sd,dn⟩:=h
  have all:=dn.all
  exact⟨_,rfl,q lf DD J sm ff hf sd.len fun v hv=>by rw[all v hv];exact dd v⟩
theorem ok__law_treeT (T:Bi mg) (D:DefOk K mg "_law_tree" s__law_tree ["web","keep","root"]) (O__law_weights:Ok P w K mg base 2 "_law_weights" ["web"] (spLWeights K)) (O__law_weighed:Ok P w K mg base 2 "_law_weighed" ["web","keep","start"] (spWeighed K)):Ok P w K mg base 3 "_law_tree" ["web","keep","root"] (spLTree K):=by
 refine mk_ok (k:=2) D sc__law_tree (fun vs H Q E h=>?_) (fun f cdv A outer s H vs Q E hr h=>?_)
 ·obtain⟨n,ts,ks,wv,kv,r,rfl,_⟩:=h
  rfl
 obtain⟨n,ts,ks,wv,kv,r,rfl,wk,r0,r1,q⟩:=h
 have nd:=sc__law_tree.nd
 have ok:=wk.2.1
 have ko:=wk.2.2.2
 have few60:=ok.few
 have n1:=ok.n1
 have n24:=ok.n24
 have KB:=arcsB_keys ok ko
 obtain⟨g0,g,ws,rfl,hg0,hg,hall,hlw⟩:=web_parts wk.1
 obtain⟨kp,rfl,hkp⟩:=keep_parts wk.2.2.1
 refine⟨_,(pss_cons (ps_set (i:=3) nd rfl (Or.inl rfl) (pe_callD O__law_weights hr rfl (pa_cons (pv 0) pa_nil))) (pss_cons (ps_set (i:=4) nd rfl (Or.inl rfl) (pe_callD O__law_weighed hr rfl (pa_cons (pv 0) (pa_cons (pv 1) (pa_cons (pv 2) pa_nil))))) (pss_cons (ps_set (i:=5) nd rfl (Or.inl rfl) (pe_op op_rep1 (pe_lstG (pa_cons pe_non pa_nil)) (pe_ix ix_tup (pv 0) pe_int (fun _ _=>rfl)))) (pss_cons (ps_for PassesOwn.never rfl (pi_tup (pv 1)) (pg_name (i:=6) nd rfl (Or.inl rfl)) (pss_cons (ps_asg (pe_ix ix_tup (pe_ix ix_tup (pv 0) pe_int (fun _ _=>rfl)) (pv 6) (fun _ _=>rfl)) (pg_tup (n:=3) rfl (pgs_cons (pg_name (i:=7) nd rfl (Or.inl rfl)) (pgs_cons (pg_name (i:=8) nd rfl (Or.inl rfl)) (pgs_cons (pg_name (i:=9) nd rfl (Or.inl rfl)) pgs_nil))))) (pss_one (ps_for PassesOwn.never rfl (pi_list (pe_lstG (pa_cons (pe_tupG (pa_cons (pv 7) (pa_cons (pv 8) pa_nil))) (pa_cons (pe_tupG (pa_cons (pv 8) (pa_cons (pv 7) pa_nil))) pa_nil)))) (pg_tup (n:=2) rfl (pgs_cons (pg_name (i:=10) nd rfl (Or.inl rfl)) (pgs_cons (pg_name (i:=11) nd rfl (Or.inl rfl)) pgs_nil))) (pss_one (ps_if (PW.pt (pw_and (pt_cmpR op_notN (pe_ix ix_list (pv 4) (pv 10) (fun _ _=>rfl)) pe_non (nomark _)) (pw_and1 (pt_cmpR op_eq (pe_ix ix_list (pv 4) (pv 11) (fun _ _=>rfl)) (pe_op op_add (pe_ix ix_list (pv 4) (pv 10) (fun _ _=>rfl)) (pe_ix ix_list (pv 3) (pv 6) (fun _ _=>rfl))) (nomark _))))) (pss_one (ps_asg (pv 10) (pg_sub (pv 5) (pv 11) set_list))) pss_nil)))))) (pss_one (ps_ret (pe_callTy call_tupleG rfl T.z_tuple (by decide +kernel) (pa_cons (pv 5) pa_nil)))))))),?_⟩
 refine⟨_,rfl,n,ts,_,rfl,wk.1,ok,fun lw J1 S1 f1 e1=>?_⟩
 refine⟨_,rfl,_,rfl,_,rfl,n,ts,ks,_,_,r,rfl,wk.same S1,r0,r1,fun ld DD J2 S2 f2 e2 lD hD=>?_⟩
 have S12:=S1.trans S2
 refine⟨(by show 1≤1000;decide),fun t0 J3 S3 f3 e3=>⟨_,rfl,g0,_,_,_,rfl,rfl,SqT.of (S3 _ _ (S12 _ _ hg0)),rfl,t0,n,_,rfl,rfl,e3,by omega,by omega,fun lf J4 S4 f4 e4=>?_⟩⟩
 have S34:=S3.trans S4
 have S14:=S12.trans S34
 have ff:H lf=none:=(S12.trans S3).free f4
 have ew:=S34 _ _ (S2 _ _ e1)
 have ed:=S34 _ _ e2
 have nwf:lw≠lf:=fun z=>by rw[← z,S3 _ _ (S2 _ _ e1)] at f4;cases f4
 have ndf:ld≠lf:=fun z=>by rw[← z,S3 _ _ e2] at f4;cases f4
 have e4':J4 lf=some (.lst ((List.replicate n.toNat (none:Option Nat)).map oa)):=by rw[e4,List.map_replicate];rfl
 have comb_of:∀ {cs as},Far.Best (arcsB ts ks) n.toNat r.toNat cs as->∀ v,v < n.toNat->Far.get DD v=(Far.get cs v).map Far.comb:=fun {cs as} b v hv=>by
  have h1:=hD v hv
  rw[arcsW_eq] at h1
  exact Far.Dst.unique h1 (b.dst KB v)
  -- what is put in is the tree's
 have right:∀ {cs as} (b:Far.Best (arcsB ts ks) n.toNat r.toNat cs as) {u v l k du dv},(u,v,l,k) ∈ arcsB ts ks->Far.get DD u=some du->Far.get DD v=some dv->dv=du + (l * 2 ^ 61 + 2 ^ k)->Far.get as v=some u:=fun {cs as} b {u v l k du dv} m hu hv he=>by
  obtain⟨iu,iv⟩:=arcsB_in ok ko m
  rw[comb_of b u iu] at hu
  rw[comb_of b v iv] at hv
  obtain⟨cu,eu,rfl⟩:=Option.map_eq_some_iff.mp hu
  obtain⟨cv,ev,rfl⟩:=Option.map_eq_some_iff.mp hv
  have s1:=b.small KB eu
  have s2:=b.small KB ev
  have k60:=KB.few _ _ _ _ m
  have p1:=Far.two_pos k
  have p2:=(pow_le (i:=k) k60).2
  have e:cv=(cu.1 + l,cu.2 + 2 ^ k):=Far.comb_inj ⟨s2.1,by omega⟩ ⟨by show 0≤cu.2 + 2 ^ k;omega,by show cu.2 + 2 ^ k < 2 ^ 61;omega⟩ (by rw[he];unfold Far.comb;simp only;omega)
  rw[e] at ev
  exact b.tree KB m eu ev
 refine⟨_,rfl,kp,rfl,⟨_,SqT.of (S14 _ _ hkp)⟩,?_⟩
 refine for_tup (xs:=(keepI ks).map V.int) (fun i σ J=>∃ (F:List (Option Nat)) (y6 y7 y8 y9 y10 y11:Option V),σ=[some (.ref g0),some (.ref kp),some (.int r),some (.ref lw),some (.ref ld),some (.ref lf),y6,y7,y8,y9,y10,y11]∧But lf J4 J∧Same H J∧J lf=some (.lst (F.map oa))∧F.length=n.toNat∧(∀ cs as,Far.Best (arcsB ts ks) n.toNat r.toNat cs as->∀ v u,Far.get F v=some u->Far.get as v=some u) ∧
  ∀ u v l k du,(u,v,l,k) ∈ arcsB ts (ks.take i)->Far.get DD u=some du->Far.get DD v=some (du + (l * 2 ^ 61 + 2 ^ k))->Far.get F v≠none)
  ⟨_,none,none,none,none,none,none,rfl,But.refl,S14,e4',by rw[List.length_replicate],(fun cs as _ v u z=>by rw[Far.get_rep] at z;cases z),(fun u v l k du z=>by cases z)⟩ (fun i σ J _ h=>?_) (fun i x σ J hx h=>?_) (fun σ J h=>?_)
 ·obtain⟨F,y6,y7,y8,y9,y10,y11,rfl,_,sm,_⟩:=h
  exact SqT.of (sm _ _ hkp)
 ·obtain⟨F,y6,y7,y8,y9,y10,y11,rfl,bf,sm,hf,lF,invA,invB⟩:=h
  obtain⟨k,hk,rfl⟩:=keep_at hx
  have hkl:k < ts.length:=ko.2 k (List.mem_of_getElem? hk)
  obtain⟨ta,hta,htie⟩:=tie_val hall hkl
  obtain⟨t,et⟩:∃ t,t=tieAt ts k:=⟨_,rfl⟩
  rw[← et] at htie
  have tk:=ok.tie _ (tieAt_in hkl).2
  rw[← et] at tk
  refine⟨_,rfl,g0,_,_,_,rfl,rfl,SqT.of (sm _ _ hg0),rfl,_,rfl,g,_,_,_,rfl,rfl,SqT.of (sm _ _ hg),atI_toNat (Int.natCast_nonneg _) hta,ta,_,rfl,SqT.of (sm _ _ htie),rfl,_,_,rfl,_,_,rfl,_,_,rfl,rfl,?_⟩
  refine⟨_,rfl,_,rfl,(by show 2≤1000;decide),fun t1 K1 T1 u1 v1=>⟨_,rfl,_,rfl,(by show 2≤1000;decide),fun t2 K2 T2 u2 v2=>⟨(by show 2≤1000;decide),fun t3 K3 T3 u3 v3=>⟨t3,rfl,⟨_,SqL.of v3⟩,?_⟩⟩⟩⟩
  have T13:=T1.trans (T2.trans T3)
  have v1':=T3 _ _ (T2 _ _ v1)
  have v2':=T3 _ _ v2
  have hf3:=T13 _ _ hf
  have n3:t3≠lf:=fun z=>by rw[z,T2 _ _ (T1 _ _ hf)] at u3;cases u3
  have bf3:But lf J4 K3:=bf.trans (Same.but T13)
  refine for_list (xs:=[V.ref t1,.ref t2]) (fun j σ J=>∃ (F:List (Option Nat)) (y10 y11:Option V),σ=[some (.ref g0),some (.ref kp),some (.int r),some (.ref lw),some (.ref ld),some (.ref lf),some (.int (k:Int)),some (.int t.1),some (.int t.2.1),some (.int t.2.2),y10,y11]∧But lf K3 J∧Same H J∧J lf=some (.lst (F.map oa))∧F.length=n.toNat∧(∀ cs as,Far.Best (arcsB ts ks) n.toNat r.toNat cs as->∀ v u,Far.get F v=some u->Far.get as v=some u) ∧
   ∀ u v l k' du,((u,v,l,k') ∈ arcsB ts (ks.take i)∨(u,v,l,k') ∈ (arcs2B t k).take j)->Far.get DD u=some du->Far.get DD v=some (du + (l * 2 ^ 61 + 2 ^ k'))->Far.get F v≠none)
   ⟨F,_,_,rfl,But.refl,sm.trans T13,hf3,lF,invA,(fun u v l k' du z=>invB u v l k' du (z.elim id fun z=>(by cases z)))⟩ (fun j σ J _ h=>?_) (fun j x σ J hx h=>?_) (fun σ J h=>?_)
  ·obtain⟨F,y10,y11,rfl,b3,_⟩:=h
   exact SqL.of (b3 _ _ n3 v3)
  ·obtain⟨F,y10,y11,rfl,b3,sm,hf,lF,invA,invB⟩:=h
   have tkp:TupKeep K3 J:=fun a xs e=>b3 _ _ (fun z=>by rw[z,hf3] at e;cases e) e
   have hw:=b3 _ _ nwf (bf3 _ _ nwf ew)
   have hd:=b3 _ _ ndf (bf3 _ _ ndf ed)
   obtain⟨p,u,v,rfl,hp,u0,un,v0,vn,arcB,more⟩:∃ p u v,x=.ref p∧J p=some (.tup [.int u,.int v])∧0≤u∧u < n∧0≤v∧v < n∧(u.toNat,v.toNat,t.2.2,k) ∈ arcsB ts ks∧∀ z,z ∈ (arcs2B t k).take (j + 1)->z ∈ (arcs2B t k).take j∨z=(u.toNat,v.toNat,t.2.2,k):=by
    have memB:∀ z,z ∈ arcs2B t k->z ∈ arcsB ts ks:=fun z hz=>arcsB_mem.mpr ⟨k,List.mem_of_getElem? hk,by rw[← et];exact hz⟩
    match j,hx with
    | 0,hx=>cases hx;exact⟨t1,t.1,t.2.1,rfl,tkp _ _ v1',by omega,by omega,by omega,by omega,memB _ (arcs2B_mem.mpr (.inl rfl)),fun z hz=>by unfold arcs2B at *;simpa using hz⟩
    | 1,hx=>cases hx;exact⟨t2,t.2.1,t.1,rfl,tkp _ _ v2',by omega,by omega,by omega,by omega,memB _ (arcs2B_mem.mpr (.inr rfl)),fun z hz=>by unfold arcs2B at *;simpa using hz⟩
   refine⟨p,_,rfl,SqT.of hp,rfl,_,_,rfl,_,_,rfl,rfl,?_⟩
   have at1:=atI_toNat u0 (ov_at (D:=DD) (i:=u.toNat) (by omega))
   have at2:=atI_toNat v0 (ov_at (D:=DD) (i:=v.toNat) (by omega))
   have wk_:wOf ts k=t.2.2 * 2 ^ 61 + 2 ^ k:=by unfold wOf;rw[← et]
   have skip:(∀ du,Far.get DD u.toNat=some du->Far.get DD v.toNat=some (du + (t.2.2 * 2 ^ 61 + 2 ^ k))->False)->∀ u' v' l k' du,((u',v',l,k') ∈ arcsB ts (ks.take i)∨(u',v',l,k') ∈ (arcs2B t k).take (j + 1))->Far.get DD u'=some du->Far.get DD v'=some (du + (l * 2 ^ 61 + 2 ^ k'))->Far.get F v'≠none:=fun no u' v' l k' du z h1 h2=>by
    rcases z with z | z
    ·exact invB u' v' l k' du (.inl z) h1 h2
    ·rcases more _ z with z | z
     ·exact invB u' v' l k' du (.inr z) h1 h2
     ·cases z;exact (no du h1 h2).elim
   refine⟨_,rfl,_,rfl,ld,_,_,_,rfl,rfl,SqL.of hd,at1,rfl,_,rfl,?_⟩
   cases gu:Far.get DD u.toNat with
   | none=>exact iteF (iteF ⟨F,_,_,rfl,b3,sm,hf,lF,invA,skip fun du z=>by rw[gu] at z;cases z⟩)
   | some d =>
    rw[gu] at at1
    refine iteT ⟨_,rfl,_,rfl,ld,_,_,_,rfl,rfl,SqL.of hd,at2,_,rfl,_,rfl,ld,_,_,_,rfl,rfl,SqL.of hd,at1,_,rfl,_,rfl,lw,_,_,_,rfl,rfl,SqL.of hw,wts_atI hkl,_,_,rfl,rfl,?_⟩
    rw[wk_]
    by_cases z:Far.get DD v.toNat=some (d + (t.2.2 * 2 ^ 61 + 2 ^ k))
    ·rw[z]
     refine⟨rfl,_,rfl,?_⟩
     have tt:decide (ov (some (d + (t.2.2 * 2 ^ 61 + 2 ^ k)))=V.int (d + (t.2.2 * 2 ^ 61 + 2 ^ k)))=true:=decide_eq_true rfl
     rw[tt]
     refine iteT ⟨_,rfl,_,rfl,_,rfl,lf,_,_,_,rfl,rfl,hf,ixN_nat v0 (by rw[List.length_map];omega),?_⟩
     have eset:(F.map oa).set v.toNat (.int u)=(F.set v.toNat (some u.toNat)).map oa:=by
      rw[List.map_set]
      show _=(F.map oa).set v.toNat (V.int ((u.toNat:Nat):Int))
      rw[Int.toNat_of_nonneg u0]
     have hv:v.toNat < F.length:=by omega
     refine⟨F.set v.toNat (some u.toNat),_,_,rfl,b3.trans But.upd,fun b o e=>?_,by rw[upd_same,eset],by rw[List.length_set];exact lF,fun cs as b x y e=>?_,fun u' v' l k' du hz h1 h2=>?_⟩
     ·rw[upd_ne (ne_of_none e ff)];exact sm _ _ e
     ·rw[Far.get_set hv] at e
      split at e
      ·rename_i xe;rw[xe]
       cases e
       exact right b arcB gu z rfl
      ·exact invA cs as b x y e
     ·rw[Far.get_set hv]
      split
      ·exact fun z=>by cases z
      ·rename_i ne
       rcases hz with hz | hz
       ·exact invB u' v' l k' du (.inl hz) h1 h2
       ·rcases more _ hz with hz | hz
        ·exact invB u' v' l k' du (.inr hz) h1 h2
        ·cases hz;exact absurd rfl ne
    ·have side:flatV (ov (Far.get DD v.toNat))=true:=by cases Far.get DD v.toNat <;> rfl
     have ff':decide (ov (Far.get DD v.toNat)=V.int (d + (t.2.2 * 2 ^ 61 + 2 ^ k)))=false:=decide_eq_false fun y=>z (by
      cases e:Far.get DD v.toNat with
      | none=>rw[e] at y;cases y
      | some q'=>rw[e] at y;rw[show q'=d + (t.2.2 * 2 ^ 61 + 2 ^ k) by injection y])
     refine⟨?_,_,rfl,?_⟩
     ·cases Far.get DD v.toNat <;> rfl
     ·rw[ff']
      exact iteF ⟨F,_,_,rfl,b3,sm,hf,lF,invA,skip fun du h1 h2=>by rw[gu] at h1;cases h1;exact z h2⟩
  ·obtain⟨F,y10,y11,rfl,b3,sm,hf,lF,invA,invB⟩:=h
   refine⟨F,_,_,_,_,_,_,rfl,bf3.trans b3,sm,hf,lF,invA,fun u v l k' du hz=>invB u v l k' du ?_⟩
   exact (arcsB_take hk hz).elim .inl fun y=>.inr (by rw[← et] at y;exact y)
 ·obtain⟨F,y6,y7,y8,y9,y10,y11,rfl,bf,sm,hf,lF,invA,invB⟩:=h
  have lk:((keepI ks).map V.int).length=ks.length:=by unfold keepI;rw[List.length_map,List.length_map]
  rw[lk,List.take_length] at invB
  refine⟨_,rfl,lf,_,rfl,hf,fun tt J5 S5 f5 e5=>q tt F J5 (sm.trans S5) e5 fun cs as b=>?_⟩
  refine List.ext_getElem? fun v=>?_
  have la:=b.alen
  by_cases hv:v < n.toNat
  ·have gF:F[v]?=some (Far.get F v):=by unfold Far.get;rw[List.getD_eq_getElem?_getD,List.getElem?_eq_getElem (by omega)];rfl
   have gA:as[v]?=some (Far.get as v):=by unfold Far.get;rw[List.getD_eq_getElem?_getD,List.getElem?_eq_getElem (by omega)];rfl
   rw[gF,gA]
   congr 1
   cases ea:Far.get as v with
   | none =>
    cases e:Far.get F v with
    | none=>rfl
    | some u=>rw[invA cs as b v u e] at ea;cases ea
   | some u =>
    obtain⟨l,k,cu,m,eu,ev⟩:=b.arc v u ea
    obtain⟨iu,iv⟩:=arcsB_in ok ko m
    have hne:=invB u v l k (Far.comb cu) m (by rw[comb_of b u iu,eu];rfl) (by
     rw[comb_of b v iv,ev]
     show some (Far.comb (cu.1 + l,cu.2 + 2 ^ k))=_
     congr 1
     unfold Far.comb;simp only;omega)
    cases e:Far.get F v with
    | none=>exact absurd e hne
    | some u'=>rw[← ea,invA cs as b v u' e]
  ·rw[List.getElem?_eq_none (by omega),List.getElem?_eq_none (by omega)]
theorem treeW_imp {vs:List V} {H:Hp} {Q:VK} {E:XK} (h:spLTreeW K vs H Q E):spLTree K vs H Q E:=by
 obtain⟨n,ts,ks,wv,kv,r,rfl,wk,r0,r1,q⟩:=h
 refine⟨n,ts,ks,wv,kv,r,rfl,wk,r0,r1,fun p F H' S e hF=>q p F H' S e ?_⟩
 obtain⟨cs,as,B⟩:=Far.best_exists (arcsB_keys wk.2.1 wk.2.2.2) (fun u v l k m=>arcsB_in wk.2.1 wk.2.2.2 m) (s:=r.toNat) (n:=n.toNat) (by omega)
 rw[hF cs as B]
 exact B.alen
theorem ok__law_truth (T:Bi mg) (D:DefOk K mg "_law_truth" s__law_truth ["found","due"]):Ok P w K mg base 1 "_law_truth" ["found","due"] spTruth:=by
 refine mk_ok (k:=0) D sc__law_truth (fun vs H Q E h=>?_) (fun f cdv A outer s H vs Q E hr h=>?_)
 ·obtain⟨a,b,rfl,_⟩:=h
  rfl
 obtain⟨a,b,rfl,q⟩:=h
 have nd:=sc__law_truth.nd
 refine⟨_,(pss_one (ps_ret (pe_and (pe_callB (call_isi (n:="bool")) rfl T.z_isinstance (by decide +kernel) (pa_cons (pv 0) (pa_cons (pe_bltn (v:=.ty "bool") rfl T.z_bool (by decide +kernel) rfl) pa_nil))) (pe_one (pe_cmpR op_eq (pv 0) (pv 1) (nomark _)))))),?_⟩
 refine⟨_,rfl,_,_,_,rfl,TyOf.bl _,rfl,?_⟩
 refine⟨_,rfl,iteT ⟨_,rfl,_,rfl,rfl,?_⟩⟩
 have e:decide (V.bl a=V.bl b)=decide (a=b):=by cases a <;> cases b <;> rfl
 show Q (.bl (decide (V.bl a=V.bl b))) H
 rw[e];exact q
def spTupN:Sp:=fun vs H Q _=>∃ (t:Addr) (xs:List V) (m:Nat),vs=[.ref t,.int (m:Int)]∧H t=some (.tup xs)∧Q (.bl (decide (xs.length=m))) H
theorem ok_is_tuple_ofN (T:Bi mg) (D:DefOk K mg "is_tuple_of" s_is_tuple_of ["thing","many"]):Ok P w K mg base 1 "is_tuple_of" ["thing","many"] spTupN:=by
 refine mk_ok (k:=0) D sc_is_tuple_of (fun vs H Q E h=>?_) (fun f cdv A outer s H vs Q E hr h=>?_)
 ·obtain⟨t,xs,m,rfl,_⟩:=h
  rfl
 obtain⟨t,xs,m,rfl,ht,q⟩:=h
 have nd:=sc_is_tuple_of.nd
 refine⟨_,(pss_one (ps_ret (pe_and (pe_callB (call_isi (n:="tuple")) rfl T.z_isinstance (by decide +kernel) (pa_cons (pv 0) (pa_cons (pe_bltn (v:=.ty "tuple") rfl T.z_tuple (by decide +kernel) rfl) pa_nil))) (pe_one (pe_cmpR op_eq (pe_callB call_len_seq rfl T.z_len (by decide +kernel) (pa_cons (pv 0) pa_nil)) (pv 1) (nomark _)))))),?_⟩
 refine⟨_,rfl,_,_,_,rfl,TyOf.tup ht,rfl,_,rfl,iteT ?_⟩
 refine⟨_,rfl,t,_,rfl,.inr (SqT.of ht),_,rfl,rfl,?_⟩
 have e:decide (V.int ((xs.length:Nat):Int)=V.int (m:Int))=decide (xs.length=m):=by
  by_cases z:xs.length=m
  ·rw[decide_eq_true z,decide_eq_true (by rw[z])]
  ·rw[decide_eq_false z,decide_eq_false fun y=>z (by injection y with y;omega)]
 rw[e]
 exact q
theorem atI_lastN (pre:List Nat) (c:Nat):atI (natV (pre++[c])) (-1)=some (.int (c:Int)):=by
 unfold atI ixN
 rw[natV_length,if_neg (by decide),if_pos (by rw[List.length_append,List.length_singleton];omega)]
 show (natV (pre++[c]))[(-1 + ((pre++[c]).length:Int)).toNat]?=_
 rw[List.length_append,List.length_singleton,show (-1 + ((pre.length + 1:Nat):Int)).toNat=pre.length by omega,natV_append,List.getElem?_append_right (by rw[natV_length];exact Nat.le_refl _),natV_length,Nat.sub_self];rfl
def LedV (H:Hp) (o:Option Int) (v:V):Prop:=(o=none∧v=.non)∨∃ t ws x,o=some x∧v=.ref t∧H t=some (.tup (natV ws))∧(ws.length:Int)=x + 1
def kpB (ts:List Tie) (ks:List Nat) (u v:Nat):Bool:=ks.any (isTB ts u v)
theorem kp_tb {n:Int} {ts:List Tie} {ks:List Nat} (ok:WebOk n ts) (ko:KeepOk ts.length ks) (u v:Nat):inV (oa (tbN ts u v)) (natV ks)=kpB ts ks u v:=by
 unfold kpB
 cases e:tbN ts u v with
 | none =>
  have e1:inV (oa none) (natV ks)=false:=by
   unfold inV natV
   rw[List.any_map,List.any_eq_false]
   intro x _ z
   cases z
  rw[e1];symm
  rw[List.any_eq_false]
  intro k hk z
  unfold tbN at e
  rw[List.find?_eq_none] at e
  exact e k (List.mem_range.mpr (ko.2 k hk)) z
 | some k =>
  show inV (.int (k:Int)) (natV ks)=_
  rw[inV_nat (Int.natCast_nonneg _),Int.toNat_natCast,Bool.eq_iff_iff,decide_eq_true_iff,List.any_eq_true]
  have b:=List.find?_some e
  have hk:=List.mem_range.mp (List.mem_of_find?_eq_some e)
  constructor
  ·exact fun h=>⟨k,h,b⟩
  ·rintro ⟨j,hj,b'⟩
   rw[tb_one ok hk (ko.2 j hj) b b'];exact hj
def goF (nx:Nat->Option Nat) (u:Nat):Nat->Nat->Option Int
 | 0,_=>none
 | f + 1,p=>if p=u then some 0 else match nx p with | none=>none | some q=>(goF nx u f q).map (· + 1)
theorem go_at {nx:Nat->Option Nat} {u f:Nat}:goF nx u (f + 1) u=some 0:=if_pos rfl
theorem go_none {nx:Nat->Option Nat} {u f p:Nat} (h:p≠u) (e:nx p=none):goF nx u (f + 1) p=none:=by
 show (if p=u then _ else _)=_
 rw[if_neg h,e]
theorem go_some {nx:Nat->Option Nat} {u f p q:Nat} (h:p≠u) (e:nx p=some q):goF nx u (f + 1) p=(goF nx u f q).map (· + 1):=by
 show (if p=u then _ else _)=_
 rw[if_neg h,e]
theorem go_cycle {nx:Nat->Option Nat} {u:Nat} {S:List Nat} (hu:u ∉ S) (h:∀ x ∈ S,∃ y ∈ S,nx x=some y):∀ f x,x ∈ S->goF nx u f x=none
 | 0,_,_=>rfl
 | f + 1,x,hx=>by
  obtain⟨y,hy,e⟩:=h x hx
  rw[go_some (fun z=>hu (by rw[← z];exact hx)) e,go_cycle hu h f y hy];rfl
theorem go_step {o:Option Int} {a:Int}:(o.map (· + 1)).map (· + a)=o.map (· + (a + 1)):=by
 cases o with
 | none=>rfl
 | some x=>show some (x + 1 + a)=some (x + (a + 1));congr 1;omega
def nxT (n:Int) (ts:List Tie) (ks:List Nat) (tr:List (Option Int)) (p:Nat):Option Nat:=match Far.get tr p with
 | none=>none
 | some x=>if 0≤x∧x < n∧kpB ts ks p x.toNat=true then some x.toNat else none
theorem nx_none {n:Int} {ts:List Tie} {ks:List Nat} {tr:List (Option Int)} {p:Nat} (e:Far.get tr p=none):nxT n ts ks tr p=none:=by unfold nxT;rw[e]
theorem nx_out {n:Int} {ts:List Tie} {ks:List Nat} {tr:List (Option Int)} {p:Nat} {x:Int} (e:Far.get tr p=some x) (h:¬ (0≤x∧x < n∧kpB ts ks p x.toNat=true)):nxT n ts ks tr p=none:=by unfold nxT;rw[e];exact if_neg h
theorem nx_in {n:Int} {ts:List Tie} {ks:List Nat} {tr:List (Option Int)} {p:Nat} {x:Int} (e:Far.get tr p=some x) (h:0≤x∧x < n∧kpB ts ks p x.toNat=true):nxT n ts ks tr p=some x.toNat:=by unfold nxT;rw[e];exact if_pos h
def ldF (n:Int) (ts:List Tie) (ks:List Nat) (tr:List (Option Int)) (u p:Nat):Option Int:=goF (nxT n ts ks tr) u n.toNat p
def hV (hs:List Int) (v:Nat):Int:=hs.getD v 0
def plB (n:Int) (ts:List Tie) (ks:List Nat) (m:Int) (u:Nat) (x:List Int × List (Option Int)):Bool:=holdB n ts (List.range ts.length) x.1 && (decide (hV x.1 u=0) && (decide (x.2.length=n.toNat) && (List.range n.toNat).all fun v=>!decide (hV x.1 v < n) || ledB (ldF n ts ks x.2 u v) (hV x.1 v) m))
def mrB (n:Int) (ts:List Tie) (ks:List Nat) (m:Int) (pp:List (List Int × List (Option Int))):Bool:=decide (pp.length=n.toNat) && (List.range n.toNat).all fun u=>plB n ts ks m u (pp.getD u ([],[]))
def PrV (J:Hp) (x:List Int × List (Option Int)) (v:V):Prop:=∃ p a b,v=.ref p∧J p=some (.tup [.ref a,.ref b])∧J a=some (.tup (x.1.map V.int))∧J b=some (.tup (x.2.map ov))∧x.1.length≤24∧x.2.length≤24
theorem PrV.tk {J J':Hp} {x:List Int × List (Option Int)} {v:V} (k:TupKeep J J'):PrV J x v->PrV J' x v:=fun ⟨p,a,b,e,e1,e2,e3,r⟩=>⟨p,a,b,e,k _ _ e1,k _ _ e2,k _ _ e3,r⟩
def PpV (J:Hp) (t:Addr) (pp:List (List Int × List (Option Int))):Prop:=∃ vs,J t=some (.tup vs)∧vs.length=pp.length∧pp.length≤25∧∀ i v,vs[i]?=some v->PrV J (pp.getD i ([],[])) v
theorem PpV.tk {J J':Hp} {t:Addr} {pp:List (List Int × List (Option Int))} (k:TupKeep J J'):PpV J t pp->PpV J' t pp:=fun ⟨vs,e,l,l2,h⟩=>⟨vs,k _ _ e,l,l2,fun i v z=>(h i v z).tk k⟩
def spPlaceI (K:PySem.W.Frag):Sp:=fun vs H Q _=>∃ (n:Int) (ts:List Tie) (wv:V) (o:Option Int),vs=[wv,ov o]∧Is K H (webD n ts) wv∧∀ H',Same H H'->Q (.bl (match o with | none=>false | some x=>decide (0≤x) && decide (x < n))) H'
theorem ok_is_placeI (T:Bi mg) (D:DefOk K mg "is_place" s_is_place ["web","thing"]) (O_is_whole:Ok P w K mg base 1 "is_whole" ["thing"] (spD1 K (fun _=>True) wholeB)):Ok P w K mg base 2 "is_place" ["web","thing"] (spPlaceI K):=by
 refine mk_ok (k:=1) D sc_is_place (fun vs H Q E h=>?_) (fun f cdv A outer s H vs Q E hr h=>?_)
 ·obtain⟨n,ts,wv,o,rfl,_⟩:=h
  rfl
 obtain⟨n,ts,wv,o,rfl,isw,q⟩:=h
 have nd:=sc_is_place.nd
 obtain⟨g0,g,ws,rfl,hg0,_⟩:=web_parts isw
 refine⟨_,(pss_one (ps_ret (pe_and (pe_callD O_is_whole hr rfl (pa_cons (pv 1) pa_nil)) (pe_one (pe_chain op_le op_lt pe_int (pv 1) (pe_ix ix_tup (pv 0) pe_int (fun _ _=>rfl))))))),?_⟩
 cases o with
 | none=>exact⟨_,rfl,.none,.non,rfl,rfl,trivial,fun H1 s1=>⟨_,rfl,iteF (q H1 s1)⟩⟩
 | some x =>
  refine⟨_,rfl,.int x,.int x,rfl,rfl,trivial,fun H1 s1=>⟨_,rfl,iteT ?_⟩⟩
  refine⟨_,rfl,_,_,rfl,rfl,_,rfl,?_⟩
  have q1:=q H1 s1
  by_cases z:0≤x
  ·rw[decide_eq_true z]
   rw[show (match some x with | none=>false | some x=>decide (0≤x) && decide (x < n))=decide (x < n) by show (decide (0≤x) && decide (x < n))=_;rw[decide_eq_true z,Bool.true_and]] at q1
   exact iteT ⟨_,rfl,g0,_,_,_,rfl,rfl,SqT.of (s1 _ _ hg0),rfl,_,_,rfl,rfl,q1⟩
  ·rw[decide_eq_false z]
   rw[show (match some x with | none=>false | some x=>decide (0≤x) && decide (x < n))=false by show (decide (0≤x) && decide (x < n))=_;rw[decide_eq_false z,Bool.false_and]] at q1
   exact iteF q1
def spLedA (K:PySem.W.Frag):Sp:=fun vs H Q _=>∃ (n:Int) (ts:List Tie) (ks:List Nat) (wv kv:V) (t:Addr) (tr:List (Option Int)) (r p:Nat),vs=[wv,kv,.ref t,.int (r:Int),.int (p:Int)]∧WK K H n ts ks wv kv∧H t=some (.tup (tr.map ov))∧tr.length=n.toNat∧r < n.toNat∧p < n.toNat∧∀ v H',Same H H'->LedV H' (ldF n ts ks tr r p) v->Q v H'
theorem ok_led_to_rootA (T:Bi mg) (D:DefOk K mg "led_to_root" s_led_to_root ["web","keep","tree","root","place"]) (O_is_place:Ok P w K mg base 2 "is_place" ["web","thing"] (spPlaceI K)) (O_tie_between:Ok P w K mg base 2 "tie_between" ["web","a","b"] (spTB K)):Ok P w K mg base 3 "led_to_root" ["web","keep","tree","root","place"] (spLedA K):=by
 refine mk_ok (k:=2) D sc_led_to_root (fun vs H Q E h=>?_) (fun f cdv A outer s H vs Q E hr h=>?_)
 ·obtain⟨n,ts,ks,wv,kv,t,tr,r,p,rfl,_⟩:=h
  rfl
 obtain⟨n,ts,ks,wv,kv,t,tr,r,p,rfl,wk,ht,ltr,hr_,hp_,q⟩:=h
 have nd:=sc_led_to_root.nd
 have ok:=wk.2.1
 have n24:=ok.n24
 have few60:=ok.few
 have ko:=wk.2.2.2
 obtain⟨kp,rfl,hkp⟩:=keep_parts wk.2.2.1
 rw[← natV_keep] at hkp
 obtain⟨nx,enx⟩:∃ nx,nx=nxT n ts ks tr:=⟨_,rfl⟩
 have eld:ldF n ts ks tr r p=goF nx r n.toNat p:=by rw[enx];rfl
 rw[eld] at q
 refine⟨_,(pss_cons (ps_set (i:=5) nd rfl (Or.inl rfl) (pe_lstG (pa_cons (pv 4) pa_nil))) (pss_cons (ps_while PassesOwn.never (pt_cmpR op_ne (pe_ix ix_list (pv 5) (pe_un un_neg pe_int) (fun _ _=>rfl)) (pv 3) (nomark _)) (pss_cons (ps_set (i:=6) nd rfl (Or.inl rfl) (pe_ix ix_tup (pv 2) (pe_ix ix_list (pv 5) (pe_un un_neg pe_int) (fun _ _=>rfl)) (fun _ _=>rfl))) (pss_cons (ps_if (PW.pt (pw_or (pt_not (pt_val (pe_callD O_is_place hr rfl (pa_cons (pv 0) (pa_cons (pv 6) pa_nil))))) (pw_or (pt_cmpR op_in_seq (pv 6) (pv 5) (by with_unfolding_all rfl)) (pw_or1 (pt_cmpR op_notIn_seq (pe_callD O_tie_between hr rfl (pa_cons (pv 0) (pa_cons (pe_ix ix_list (pv 5) (pe_un un_neg pe_int) (fun _ _=>rfl)) (pa_cons (pv 6) pa_nil)))) (pv 1) (by with_unfolding_all rfl)))))) (pss_one (ps_ret pe_non)) pss_nil) (pss_one (ps_expr (pe_bm PySem.F.plainAttrs_list PySem.F.slot_list_append PySem.F.type_list_append mt_appendG (pv 5) (pa_cons (pv 6) pa_nil))))))) (pss_one (ps_ret (pe_callTy call_tupleG rfl T.z_tuple (by decide +kernel) (pa_cons (pv 5) pa_nil)))))),?_⟩
 refine⟨_,rfl,(by show 1≤1000;decide),fun lw J1 S1 f1 e1=>?_⟩
 refine⟨fun m σ J=>∃ (pre:List Nat) (c:Nat) (y6:Option V),σ=[some wv,some (.ref kp),some (.ref t),some (.int (r:Int)),some (.int (p:Int)),some (.ref lw),y6]∧But lw J1 J∧J lw=some (.lst (natV (pre++[c])))∧(pre++[c]).Nodup∧(∀ x ∈ pre++[c],x < n.toNat)∧r ∉ pre∧(∀ x ∈ pre,∃ y ∈ pre++[c],nx x=some y)∧goF nx r n.toNat p=(goF nx r (n.toNat - pre.length) c).map (· + (pre.length:Int))∧m=n.toNat - pre.length,?_,?_⟩
 ·refine⟨n.toNat,[],p,none,rfl,But.refl,e1,by simp,fun x hx=>by rw[List.mem_singleton.mp hx];exact hp_,by simp,(fun x h=>by cases h),?_,rfl⟩
  show goF nx r n.toNat p=(goF nx r n.toNat p).map (· + (0:Int))
  cases goF nx r n.toNat p with
  | none=>rfl
  | some x=>show some x=some (x + 0);rw[Int.add_zero]
 rintro m σ J ⟨pre,c,y6,rfl,bt,hw,nod,lt,rpre,chn,ego,rfl⟩
 have lastV:=atI_lastN pre c
 have sm:Same H J:=fun b o e=>bt _ _ (ne_of_none e f1) (S1 _ _ e)
 have lpre:pre.length + 1≤n.toNat:=by
  have:=Peel.len_below n.toNat _ nod lt
  rw[List.length_append,List.length_singleton] at this
  exact this
 obtain⟨fu,efu⟩:∃ fu,n.toNat - pre.length=fu + 1:=⟨n.toNat - pre.length - 1,by omega⟩
 rw[efu] at ego ⊢
 have hc:c < n.toNat:=lt c (by simp)
 refine⟨_,rfl,_,rfl,lw,_,_,_,rfl,rfl,SqL.of hw,lastV,_,rfl,rfl,_,rfl,?_⟩
 by_cases cb:c=r
 ·refine iteNS (by rw[cb]) ?_
  refine⟨_,rfl,lw,_,rfl,hw,fun t3 J3 S3 f3 e3=>q _ J3 (sm.trans S3) (.inr ⟨t3,pre++[c],(pre.length:Int),?_,rfl,e3,by rw[List.length_append,List.length_singleton];rfl⟩)⟩
  rw[ego,cb,go_at]
  show some ((0:Int) + (pre.length:Int))=_
  rw[Int.zero_add]
 ·have ne:decide (V.int (c:Int)=V.int (r:Int))=false:=decide_eq_false fun z=>cb (by injection z with z;omega)
  rw[ne]
  have hat:atI (tr.map ov) (c:Int)=some (ov (Far.get tr c)):=atI_toNat (Int.natCast_nonneg _) (by rw[Int.toNat_natCast];exact ov_at (by omega))
  refine iteT ⟨fun σ' J'=>∃ m',m' < fu + 1∧∃ (pre:List Nat) (c:Nat) (y6:Option V),σ'=[some wv,some (.ref kp),some (.ref t),some (.int (r:Int)),some (.int (p:Int)),some (.ref lw),y6]∧But lw J1 J'∧J' lw=some (.lst (natV (pre++[c])))∧(pre++[c]).Nodup∧(∀ x ∈ pre++[c],x < n.toNat)∧r ∉ pre∧(∀ x ∈ pre,∃ y ∈ pre++[c],nx x=some y)∧goF nx r n.toNat p=(goF nx r (n.toNat - pre.length) c).map (· + (pre.length:Int))∧m'=n.toNat - pre.length,fun _ _ h=>h,?_⟩
  refine⟨_,rfl,_,rfl,_,rfl,lw,_,_,_,rfl,rfl,SqL.of hw,lastV,t,_,_,_,rfl,rfl,SqT.of (sm _ _ ht),hat,?_⟩
  have out:nx c=none->goF nx r n.toNat p=none:=fun e=>by rw[ego,go_none cb e];rfl
  cases ea:Far.get tr c with
  | none =>
   refine⟨_,rfl,_,rfl,n,ts,wv,none,rfl,Is.same sm _ wk.1,fun J2 S2=>⟨_,rfl,iteT ?_⟩⟩
   exact q _ _ (sm.trans S2) (.inl ⟨out (by rw[enx];exact nx_none ea),rfl⟩)
  | some x =>
   refine⟨_,rfl,_,rfl,n,ts,wv,some x,rfl,Is.same sm _ wk.1,fun J2 S2=>⟨_,rfl,?_⟩⟩
   show if (!(decide (0≤x) && decide (x < n)))=true then _ else _
   by_cases pl:0≤x∧x < n
   case neg =>
    have e0:(decide (0≤x) && decide (x < n))=false:=by
     rw[← Bool.not_eq_true,Bool.and_eq_true,decide_eq_true_iff,decide_eq_true_iff];exact pl
    rw[e0]
    exact iteT (q _ _ (sm.trans S2) (.inl ⟨out (by rw[enx];exact nx_out ea fun z=>pl ⟨z.1,z.2.1⟩),rfl⟩))
   rw[decide_eq_true pl.1,decide_eq_true pl.2]
   have hw2:=S2 _ _ hw
   have s2:=sm.trans S2
   refine iteF ⟨_,rfl,_,rfl,lw,_,rfl,.inl (SqL.of hw2),rfl,flat_nat _,_,rfl,?_⟩
   show if inV (V.int x) (natV (pre++[c]))=true then _ else _
   rw[inV_nat pl.1]
   by_cases iw:x.toNat ∈ pre++[c]
   ·rw[decide_eq_true iw]
    refine iteT (q _ _ s2 (.inl ⟨?_,rfl⟩))
    by_cases kb:kpB ts ks c x.toNat=true
    ·rw[ego,go_cycle (S:=pre++[c]) (fun z=>?_) (fun y hy=>?_) _ c (by simp)]
     ·rfl
     ·rcases List.mem_append.mp z with z | z
      ·exact rpre z
      ·exact cb (List.mem_singleton.mp z).symm
     ·rcases List.mem_append.mp hy with z | z
      ·exact chn y z
      ·rw[List.mem_singleton.mp z]
       exact⟨_,iw,by rw[enx];exact nx_in ea ⟨pl.1,pl.2,kb⟩⟩
    ·exact out (by rw[enx];exact nx_out ea fun z=>kb z.2.2)
   rw[decide_eq_false iw]
   have ex:ov (some x)=V.int ((x.toNat:Nat):Int):=by rw[Int.toNat_of_nonneg pl.1];rfl
   refine iteF ⟨_,rfl,_,rfl,_,rfl,lw,_,_,_,rfl,rfl,SqL.of hw2,lastV,_,rfl,n,ts,wv,c,x.toNat,(by rw[ex];rfl),Is.same s2 _ wk.1,few60,fun J3 S3=>?_⟩
   refine⟨_,rfl,kp,_,rfl,.inr (SqT.of ((s2.trans S3) _ _ hkp)),(by cases tbN ts c x.toNat <;> rfl),flat_nat ks,_,rfl,?_⟩
   show if (!inV (oa (tbN ts c x.toNat)) (natV ks))=true then _ else _
   rw[kp_tb ok ko]
   cases kb:kpB ts ks c x.toNat with
   | false=>exact iteT (q _ _ (s2.trans S3) (.inl ⟨out (by rw[enx];exact nx_out ea fun z=>by rw[kb] at z;cases z.2.2),rfl⟩))
   | true =>
    have hw3:=S3 _ _ hw2
    refine iteF ⟨_,rfl,.inl ⟨rfl,_,SqL.of hw3⟩,_,rfl,lw,_,_,rfl,rfl,hw3,by rw[natV_length,List.length_append,List.length_singleton];omega,fun J4 b4 e4=>?_⟩
    have enc:nx c=some x.toNat:=by rw[enx];exact nx_in ea ⟨pl.1,pl.2,kb⟩
    refine⟨fu,by omega,pre++[c],x.toNat,_,rfl,fun b o z e=>b4 _ _ z (S3 _ _ (S2 _ _ (bt _ _ z e))),?_,?_,fun y hy=>?_,fun z=>?_,fun y hy=>?_,?_,?_⟩
    ·rw[e4,natV_append (pre++[c]) [x.toNat],ex];rfl
    ·rw[List.nodup_append]
     refine⟨nod,by simp,fun a ha b hb=>?_⟩
     rw[List.mem_singleton.mp hb]
     exact fun z=>iw (z ▸ ha)
    ·rcases List.mem_append.mp hy with z | z
     ·exact lt y z
     ·rw[List.mem_singleton.mp z];omega
    ·rcases List.mem_append.mp z with z | z
     ·exact rpre z
     ·exact cb (List.mem_singleton.mp z).symm
    ·rcases List.mem_append.mp hy with z | z
     ·obtain⟨w',h1,h2⟩:=chn y z
      exact⟨w',List.mem_append_left _ h1,h2⟩
     ·rw[List.mem_singleton.mp z]
      exact⟨_,by simp,enc⟩
    ·rw[ego,go_some cb enc,go_step,List.length_append,List.length_singleton,show n.toNat - (pre.length + 1)=fu by omega]
     rfl
    ·rw[List.length_append,List.length_singleton];omega
def spIsLedA (K:PySem.W.Frag):Sp:=fun vs H Q _=>∃ (n:Int) (ts:List Tie) (ks:List Nat) (wv kv:V) (m:Int) (u:Nat) (a b:Addr) (hs:List Int) (tr:List (Option Int)) (p:Nat),vs=[wv,kv,.int m,.int (u:Int),.ref a,.ref b,.int (p:Int)]∧WK K H n ts ks wv kv∧H a=some (.tup (hs.map V.int))∧H b=some (.tup (tr.map ov))∧hs.length=n.toNat∧tr.length=n.toNat∧u < n.toNat∧p < n.toNat∧∀ H',Same H H'->Q (.bl (ledB (ldF n ts ks tr u p) (hV hs p) m)) H'
theorem hV_at {hs:List Int} {v:Nat} (h:v < hs.length):atI (hs.map V.int) (v:Int)=some (.int (hV hs v)):=atI_toNat (Int.natCast_nonneg _) (by rw[Int.toNat_natCast,List.getElem?_map,List.getElem?_eq_getElem h];unfold hV;rw[List.getD_eq_getElem?_getD,List.getElem?_eq_getElem h];rfl)
theorem ok_is_ledA (T:Bi mg) (D:DefOk K mg "is_led" s_is_led ["web","keep","m","u","heights","tree","place"]) (O_led_to_root:Ok P w K mg base 3 "led_to_root" ["web","keep","tree","root","place"] (spLedA K)):Ok P w K mg base 4 "is_led" ["web","keep","m","u","heights","tree","place"] (spIsLedA K):=by
 refine mk_ok (k:=3) D sc_is_led (fun vs H Q E h=>?_) (fun f cdv A outer s H vs Q E hr h=>?_)
 ·obtain⟨n,ts,ks,wv,kv,m,u,a,b,hs,tr,p,rfl,_⟩:=h
  rfl
 obtain⟨n,ts,ks,wv,kv,m,u,a,b,hs,tr,p,rfl,wk,ha,hb,lh,lt,hu,hp,q⟩:=h
 have nd:=sc_is_led.nd
 refine⟨_,(pss_cons (ps_set (i:=7) nd rfl (Or.inl rfl) (pe_callD O_led_to_root hr rfl (pa_cons (pv 0) (pa_cons (pv 1) (pa_cons (pv 5) (pa_cons (pv 3) (pa_cons (pv 6) pa_nil))))))) (pss_one (ps_ret (pe_and (pe_cmpR op_notN (pv 7) pe_non (nomark _)) (pe_one (pe_cmpR op_le (pe_op op_sub (pe_callB call_len_seq rfl T.z_len (by decide +kernel) (pa_cons (pv 7) pa_nil)) pe_int) (pe_op op_add (pe_ix ix_tup (pv 4) (pv 6) (fun _ _=>rfl)) (pv 2)) (nomark _))))))),?_⟩
 refine⟨_,rfl,_,rfl,_,rfl,_,rfl,_,rfl,n,ts,ks,wv,kv,b,tr,u,p,rfl,wk,hb,lt,hu,hp,fun v J S led=>?_⟩
 have q1:=q J S
 rcases led with ⟨e,rfl⟩ | ⟨t,ws,x,e,rfl,ht,lw⟩
 ·rw[e] at q1
  exact⟨_,rfl,rfl,_,rfl,iteF q1⟩
 ·rw[e] at q1
  have lx:(ws.length:Int) - 1=x:=by omega
  refine⟨_,rfl,rfl,_,rfl,iteT ⟨_,rfl,t,_,rfl,.inr (SqT.of ht),_,_,rfl,rfl,_,rfl,_,rfl,a,_,_,.int (hV hs p),rfl,rfl,SqT.of (S _ _ ha),hV_at (by omega),_,rfl,_,_,rfl,rfl,_,_,rfl,rfl,?_⟩⟩
  rw[natV_length,lx]
  exact q1
def spPlaceA (K:PySem.W.Frag):Sp:=fun vs H Q _=>∃ (n:Int) (ts:List Tie) (ks:List Nat) (wv kv:V) (m:Int) (u:Nat) (a b:Addr) (x:List Int × List (Option Int)),vs=[wv,kv,.int m,.int (u:Int),.ref a,.ref b]∧WK K H n ts ks wv kv∧H a=some (.tup (x.1.map V.int))∧H b=some (.tup (x.2.map ov))∧x.1.length≤24∧u < n.toNat∧∀ H',Same H H'->Q (.bl (plB n ts ks m u x)) H'
theorem ok_place_rightA (T:Bi mg) (D:DefOk K mg "place_right" s_place_right ["web","keep","m","u","heights","tree"]) (O_heights_hold:Ok P w K mg base 4 "heights_hold" ["web","keep","heights"] (spHold K)) (O_whole:Ok P w K mg base 4 "whole" ["web"] (spWhole K)) (O_is_tuple_of:Ok P w K mg base 4 "is_tuple_of" ["thing","many"] spTupN) (O_is_led:Ok P w K mg base 4 "is_led" ["web","keep","m","u","heights","tree","place"] (spIsLedA K)):Ok P w K mg base 5 "place_right" ["web","keep","m","u","heights","tree"] (spPlaceA K):=by
 refine mk_ok (k:=4) D sc_place_right (fun vs H Q E h=>?_) (fun f cdv A outer s H vs Q E hr h=>?_)
 ·obtain⟨n,ts,ks,wv,kv,m,u,a,b,x,rfl,_⟩:=h
  rfl
 obtain⟨n,ts,ks,wv,kv,m,u,a,b,⟨hs,tr⟩,rfl,wk,ha,hb,l24,hu,q⟩:=h
 have ha:H a=some (.tup (hs.map V.int)):=ha
 have hb:H b=some (.tup (tr.map ov)):=hb
 have l24:hs.length≤24:=l24
 have nd:=sc_place_right.nd
 have ok:=wk.2.1
 have few60:=ok.few
 have n1:=ok.n1
 have n24:=ok.n24
 obtain⟨g0,gg,ws,rfl,hg0,hg,hall,hlw⟩:=web_parts wk.1
 have q0:∀ H',Same H H'->Q (.bl (holdB n ts (List.range ts.length) hs && (decide (hV hs u=0) && (decide (tr.length=n.toNat) && (List.range n.toNat).all fun v=>!decide (hV hs v < n) || ledB (ldF n ts ks tr u v) (hV hs v) m)))) H':=q
 refine⟨_,(pss_cons (ps_if (PW.pt (pw_or (pt_not (pt_val (pe_callD O_heights_hold hr rfl (pa_cons (pv 0) (pa_cons (pe_callD O_whole hr rfl (pa_cons (pv 0) pa_nil)) (pa_cons (pv 4) pa_nil)))))) (pw_or (pt_cmpR op_ne (pe_ix ix_tup (pv 4) (pv 3) (fun _ _=>rfl)) pe_int (nomark _)) (pw_or1 (pt_not (pt_val (pe_callD O_is_tuple_of hr rfl (pa_cons (pv 5) (pa_cons (pe_ix ix_tup (pv 0) pe_int (fun _ _=>rfl)) pa_nil))))))))) (pss_one (ps_ret pe_bl)) pss_nil) (pss_cons (ps_setcomp (i:=6) (N:=["web","keep","m","u","heights","tree","low"]) (sc0:=defScope s_place_right) (own:=["place"]) (fr:=["heights","web"]) (js:=[4,0]) rfl (pi_range1 rfl T.z_range (pa_cons (pe_ix ix_tup (pv 0) pe_int (fun _ _=>rfl)) pa_nil)) (fun _ _ _ _=>(pg_name (i:=0) (by show List.Nodup [("place":Str),("heights":Str),("web":Str)];decide +kernel) rfl (Or.inl rfl))) (fun _ _ _ _=>(pts_one (pt_cmpR op_lt (pe_ix ix_tupC (pv 1) (pv 0) (fun _ _=>rfl)) (pe_ix ix_tupC (pv 2) pe_int (fun _ _=>rfl)) (nomark _)))) (fun _ _ _ _=>(pv 0)) nd rfl (Or.inl rfl)) (pss_one (ps_ret (pe_callB (call_all rfl) rfl T.z_all (by decide +kernel) (pa_cons (pe_comp (N:=["web","keep","m","u","heights","tree","low"]) (sc0:=defScope s_place_right) (own:=["place"]) (fr:=["web","keep","m","u","heights","tree"]) (js:=[0,1,2,3,4,5]) rfl (pi_list (pv 6)) (fun _ _ _ _=>(pg_name (i:=0) (by show List.Nodup [("place":Str),("web":Str),("keep":Str),("m":Str),("u":Str),("heights":Str),("tree":Str)];decide +kernel) rfl (Or.inl rfl))) (fun _ _ _ _=>pts_nil) (fun _ _ _ _=>(pe_callD O_is_led hr rfl (pa_cons (pv 1) (pa_cons (pv 2) (pa_cons (pv 3) (pa_cons (pv 4) (pa_cons (pv 5) (pa_cons (pv 6) (pa_cons (pv 0) pa_nil)))))))))) pa_nil)))))),?_⟩
 refine⟨_,rfl,_,rfl,n,ts,_,rfl,wk.1,few60,fun lk J1 S1 f1 e1=>?_⟩
 refine⟨_,rfl,n,ts,List.range ts.length,_,.ref lk,a,hs,rfl,⟨Is.same S1 _ wk.1,ok,is_nkeepL e1,keep_all ts⟩,⟨S1 _ _ ha,by omega⟩,fun J2 S2=>⟨_,rfl,?_⟩⟩
 have S12:=S1.trans S2
 cases eh:holdB n ts (List.range ts.length) hs with
 | false =>
  have q1:=q0 J2 S12
  rw[eh] at q1
  exact iteT q1
 | true =>
 have lh:hs.length=n.toNat:=by
  unfold holdB at eh
  rw[Bool.and_eq_true] at eh
  exact of_decide_eq_true eh.1
 rw[eh] at q0
 refine iteF ⟨_,rfl,_,rfl,a,_,_,_,rfl,rfl,SqT.of (S12 _ _ ha),hV_at (by omega),rfl,_,rfl,?_⟩
 by_cases z0:hV hs u=0
 case neg =>
  have q1:=q0 J2 S12
  rw[decide_eq_false z0] at q1
  rw[decide_eq_false (show ¬ V.int (hV hs u)=V.int 0 from fun y=>z0 (by injection y))]
  exact iteT q1
 rw[decide_eq_true z0] at q0
 refine iteNS (by rw[z0]) ?_
 refine⟨_,rfl,_,rfl,g0,_,_,_,rfl,rfl,SqT.of (S12 _ _ hg0),rfl,b,_,n.toNat,(show [V.ref b,.int n]=[.ref b,.int ((n.toNat:Nat):Int)] by rw[Int.toNat_of_nonneg (by omega)]),S12 _ _ hb,_,rfl,?_⟩
 rw[List.length_map]
 by_cases lt:tr.length=n.toNat
 case neg =>
  have q1:=q0 J2 S12
  rw[decide_eq_false lt] at q1 ⊢
  exact iteT q1
 rw[decide_eq_true lt] at q0 ⊢
 refine iteF ?_
 refine⟨_,rfl,g0,_,_,_,rfl,rfl,SqT.of (S12 _ _ hg0),rfl,n,rfl,by omega,by omega,?_⟩
 obtain⟨pf,epf⟩:∃ pf:Nat->Bool,pf=fun v=>decide (hV hs v < n):=⟨_,rfl⟩
 refine comp_selR (n:=n.toNat) (lo:=0) (fun σ'=>∃ o,σ'=[o,some (.ref a),some (.ref g0)]) (fun v=>if pf v=true then some (V.int (v:Int)) else none) (by omega) (by exact⟨none,rfl⟩) (fun v σ' H' hv s3 sg C M hC hM=>?_) (fun L J3 hL S3 hH=>?_)
 ·obtain⟨o,rfl⟩:=sg
  have s4:=S12.trans s3
  have ev:(0:Int) + (v:Int)=(v:Int):=Int.zero_add _
  rw[ev]
  refine⟨_,rfl,_,rfl,a,_,_,_,rfl,rfl,SqT.of (s4 _ _ ha),hV_at (by omega),_,rfl,g0,_,_,_,rfl,rfl,SqT.of (s4 _ _ hg0),rfl,_,_,rfl,rfl,_,rfl,?_⟩
  have eb:decide (hV hs v < n)=pf v:=by rw[epf]
  rw[eb]
  cases e:pf v with
  | true=>exact iteT ⟨_,rfl,hC _ _ _ ⟨_,rfl⟩ (Same.refl _) (by rw[if_pos e])⟩
  | false=>exact iteF (hM _ _ ⟨_,rfl⟩ (Same.refl _) (by rw[if_neg (by rw[e];decide)]))
 have eL:(List.range n.toNat).filterMap (fun v=>if pf v=true then some (V.int (v:Int)) else none)=natV ((List.range n.toNat).filter pf):=by
  unfold natV
  generalize List.range n.toNat=l
  induction l with
  | nil=>rfl
  | cons x l ih =>
   rw[List.filterMap_cons,List.filter_cons]
   cases e:pf x with
   | true=>rw[if_pos rfl,if_pos rfl,List.map_cons,ih]
   | false=>rw[if_neg (by decide),if_neg (by decide),ih]
 rw[eL] at hH
 have S13:=S12.trans S3
 have lF:((List.range n.toNat).filter pf).length≤24:=by
  have:=List.length_filter_le pf (List.range n.toNat)
  rw[List.length_range] at this
  omega
 obtain⟨low,elow⟩:∃ low,low=(List.range n.toNat).filter pf:=⟨_,rfl⟩
 rw[← elow] at hH lF
 have hlow:∀ v ∈ low,v < n.toNat:=fun v hv=>by rw[elow] at hv;exact List.mem_range.mp (List.mem_filter.mp hv).1
 refine⟨_,rfl,L,rfl,⟨_,SqL.of hH⟩,?_⟩
 refine comp_lst hH (fun σ'=>∃ o,σ'=[o,some (.ref g0),some kv,some (.int m),some (.int (u:Int)),some (.ref a),some (.ref b)]) (fun i v _=>v=.bl ((fun p=>ledB (ldF n ts ks tr u p) (hV hs p) m) (low.getD i 0))) (by rw[natV_length];omega) (by exact⟨none,rfl⟩) (fun _ _ _ _ _ h=>h) (fun i x σ' H' hx s4 sg C hC=>?_) (fun L2 ys J4 hL2 S4 hH2 hly hys=>?_)
 ·obtain⟨o,rfl⟩:=sg
  obtain⟨p,hp,rfl⟩:=nat_at hx
  have ep:low.getD i 0=p:=by rw[List.getD_eq_getElem?_getD,hp];rfl
  rw[ep] at hC
  have s5:=S13.trans s4
  exact⟨_,rfl,_,rfl,_,rfl,_,rfl,_,rfl,_,rfl,_,rfl,n,ts,ks,_,kv,m,u,a,b,hs,tr,p,rfl,wk.same s5,s5 _ _ ha,s5 _ _ hb,lh,lt,hu,hlow p (List.mem_of_getElem? hp),fun H5 S5=>hC _ _ _ ⟨_,rfl⟩ S5 rfl⟩
 refine⟨L2,_,rfl,SqL.of (by rw[hH2,bools_of (hly.trans (natV_length low)) hys]),?_⟩
 have q1:=q0 J4 (S13.trans S4)
 have e:((List.range n.toNat).all fun v=>!decide (hV hs v < n) || ledB (ldF n ts ks tr u v) (hV hs v) m)=((List.range low.length).map fun i=>(fun p=>ledB (ldF n ts ks tr u p) (hV hs p) m) (low.getD i 0)).all id:=by
  have z:=congrArg (List.map fun v=>ledB (ldF n ts ks tr u v) (hV hs v) m) (L3.range_getD low 0)
  rw[List.map_map] at z
  have z':((List.range low.length).map fun i=>(fun p=>ledB (ldF n ts ks tr u p) (hV hs p) m) (low.getD i 0))=low.map fun v=>ledB (ldF n ts ks tr u v) (hV hs v) m:=z
  rw[z',elow,List.all_map,Bool.eq_iff_iff,List.all_eq_true,List.all_eq_true]
  constructor
  ·intro h v hv
   obtain⟨h1,h2⟩:=List.mem_filter.mp hv
   have h3:=h v h1
   rw[epf] at h2
   have h2':decide (hV hs v < n)=true:=h2
   rw[h2',Bool.not_true,Bool.false_or] at h3
   exact h3
  ·intro h v hv
   cases e:decide (hV hs v < n) with
   | false=>rfl
   | true=>exact h v (List.mem_filter.mpr ⟨hv,by rw[epf];exact e⟩)
 rw[e] at q1;exact q1
def spMoreA (K:PySem.W.Frag):Sp:=fun vs H Q _=>∃ (n:Int) (ts:List Tie) (ks:List Nat) (wv kv:V) (m:Int) (t:Addr) (pp:List (List Int × List (Option Int))),vs=[wv,kv,.int m,.ref t]∧WK K H n (ones ts) ks wv kv∧PpV H t pp∧∀ H',Same H H'->Q (.bl (mrB n (ones ts) ks m pp)) H'
theorem ok_more_rightA (T:Bi mg) (D:DefOk K mg "more_right" s_more_right ["web","keep","m","paper"]) (O_need_plain:Ok P w K mg base 5 "need_plain" ["web"] (spNeedP K)) (O_is_tuple_of:Ok P w K mg base 5 "is_tuple_of" ["thing","many"] spTupN) (O_place_right:Ok P w K mg base 5 "place_right" ["web","keep","m","u","heights","tree"] (spPlaceA K)):Ok P w K mg base 6 "more_right" ["web","keep","m","paper"] (spMoreA K):=by
 refine mk_ok (k:=5) D sc_more_right (fun vs H Q E h=>?_) (fun f cdv A outer s H vs Q E hr h=>?_)
 ·obtain⟨n,ts,ks,wv,kv,m,t,pp,rfl,_⟩:=h
  rfl
 obtain⟨n,ts,ks,wv,kv,m,t,pp,rfl,wk,⟨ps,ht,lps,l25,hps⟩,q⟩:=h
 have nd:=sc_more_right.nd
 have ok:=wk.2.1
 have few60:=ok.few
 rw[ones_len] at few60
 have n1:=ok.n1
 have n24:=ok.n24
 obtain⟨g0,gg,ws,rfl,hg0,hg,hall,hlw⟩:=web_parts wk.1
 have q0:∀ H',Same H H'->Q (.bl (decide (pp.length=n.toNat) && (List.range n.toNat).all fun u=>plB n (ones ts) ks m u (pp.getD u ([],[])))) H':=q
 refine⟨_,(pss_cons (ps_expr (pe_callD O_need_plain hr rfl (pa_cons (pv 0) pa_nil))) (pss_cons (ps_if (PW.pt (pw_or (pt_not (pt_val (pe_callD O_is_tuple_of hr rfl (pa_cons (pv 3) (pa_cons (pe_ix ix_tup (pv 0) pe_int (fun _ _=>rfl)) pa_nil))))) (pw_or1 (pt_not (pt_val (pe_callB (call_all rfl) rfl T.z_all (by decide +kernel) (pa_cons (pe_comp (N:=["web","keep","m","paper"]) (sc0:=defScope s_more_right) (own:=["pair"]) (fr:=[]) (js:=[]) rfl (pi_tup (pv 3)) (fun _ _ _ _=>(pg_name (i:=0) (by show List.Nodup [("pair":Str)];decide +kernel) rfl (Or.inl rfl))) (fun _ _ _ _=>pts_nil) (fun _ _ _ _=>(pe_callD O_is_tuple_of hr rfl (pa_cons (pv 0) (pa_cons pe_int pa_nil))))) pa_nil))))))) (pss_one (ps_ret pe_bl)) pss_nil) (pss_one (ps_ret (pe_callB (call_all rfl) rfl T.z_all (by decide +kernel) (pa_cons (pe_comp (N:=["web","keep","m","paper"]) (sc0:=defScope s_more_right) (own:=["u","pair"]) (fr:=["web","keep","m"]) (js:=[0,1,2]) rfl (pi_enum true rfl T.z_enumerate (pa_cons (pv 3) pa_nil)) (fun _ _ _ _=>(pg_tupC (n:=2) rfl (pgs_cons (pg_name (i:=0) (by show List.Nodup [("u":Str),("pair":Str),("web":Str),("keep":Str),("m":Str)];decide +kernel) rfl (Or.inl rfl)) (pgs_cons (pg_name (i:=1) (by show List.Nodup [("u":Str),("pair":Str),("web":Str),("keep":Str),("m":Str)];decide +kernel) rfl (Or.inl rfl)) pgs_nil)))) (fun _ _ _ _=>pts_nil) (fun _ _ _ _=>(pe_callD O_place_right hr rfl (pa_cons (pv 2) (pa_cons (pv 3) (pa_cons (pv 4) (pa_cons (pv 0) (pa_cons (pe_ix ix_tupC (pv 1) pe_int (fun _ _=>rfl)) (pa_cons (pe_ix ix_tupC (pv 1) pe_int (fun _ _=>rfl)) pa_nil))))))))) pa_nil)))))),?_⟩
 refine⟨_,rfl,n,ts,_,rfl,wk.1,few60,fun J0 S0=>?_⟩
 refine⟨_,rfl,_,rfl,g0,_,_,_,rfl,rfl,SqT.of (S0 _ _ hg0),rfl,t,_,n.toNat,(show [V.ref t,.int n]=[.ref t,.int ((n.toNat:Nat):Int)] by rw[Int.toNat_of_nonneg (by omega)]),S0 _ _ ht,_,rfl,?_⟩
 rw[lps]
 by_cases ln:pp.length=n.toNat
 case neg =>
  have q1:=q0 J0 S0
  rw[decide_eq_false ln] at q1 ⊢
  exact iteT q1
 rw[decide_eq_true ln] at q0 ⊢
 refine iteF ⟨_,rfl,t,rfl,⟨_,SqT.of (S0 _ _ ht)⟩,?_⟩
 have lV:ps.length=n.toNat:=lps.trans ln
 refine comp_tup (S0 _ _ ht) (fun σ'=>σ'.length=1) (fun i v _=>v=.bl ((fun _=>true) i)) (by omega) (by rfl) (fun _ _ _ _ _ h=>h) (fun i x σ' H' hx s2 sg C hC=>?_) (fun L ys J1 hL S1 hH hly hys=>?_)
 ·match σ',sg with
  | [o],_ =>
   obtain⟨p,a,b,rfl,e1,_⟩:=hps i x hx
   exact⟨_,rfl,p,_,2,rfl,(S0.trans s2) _ _ e1,hC _ _ _ rfl (Same.refl _) rfl⟩
 refine⟨L,_,rfl,SqL.of (by rw[hH,bools_of (hly.trans lV) hys]),_,rfl,?_⟩
 have e1:((List.range n.toNat).map fun _=>true).all id=true:=by simp
 rw[e1]
 have S01:=S0.trans S1
 refine iteF ⟨_,rfl,t,rfl,⟨_,SqX.of (t:=true) (S01 _ _ ht)⟩,?_⟩
 refine comp_enumT (S01 _ _ ht) (fun σ'=>∃ o1 o2,σ'=[o1,o2,some (.ref g0),some kv,some (.int m)]) (fun i v _=>v=.bl (plB n (ones ts) ks m i (pp.getD i ([],[])))) (by omega) (by exact⟨none,none,rfl⟩) (fun _ _ _ _ _ h=>h) (fun i x U σ' H' hx s2 hU sg C hC=>?_) (fun L2 ys2 J2 hL2 S2 hH2 hly2 hys2=>?_)
 ·obtain⟨o1,o2,rfl⟩:=sg
  have hi:i < n.toNat:=by have:=(List.getElem?_eq_some_iff.mp hx).1;omega
  obtain⟨p,a,b,rfl,e1,e2,e3,l1,l2⟩:=hps i x hx
  have SU:=same_new (H:=H') (o:=.tup [.int (i:Nat),.ref p]) hU
  have s3:=(S01.trans s2).trans SU
  refine⟨U,_,rfl,SqT.of upd_same,rfl,_,_,rfl,_,_,rfl,rfl,?_⟩
  exact⟨_,rfl,_,rfl,_,rfl,_,rfl,_,rfl,p,_,_,_,rfl,rfl,SqT.of (s3 _ _ e1),rfl,_,rfl,p,_,_,_,rfl,rfl,SqT.of (s3 _ _ e1),rfl,n,ones ts,ks,_,kv,m,i,a,b,_,rfl,wk.same s3,s3 _ _ e2,s3 _ _ e3,l1,hi,fun H5 S5=>hC _ _ _ ⟨_,_,rfl⟩ (SU.trans S5) rfl⟩
 refine⟨L2,_,rfl,SqL.of (by rw[hH2,bools_of (hly2.trans lV) hys2]),?_⟩
 have q1:=q0 J2 (S01.trans S2)
 have e:((List.range n.toNat).all fun u=>plB n (ones ts) ks m u (pp.getD u ([],[])))=((List.range n.toNat).map fun i=>plB n (ones ts) ks m i (pp.getD i ([],[]))).all id:=by
  rw[List.all_map];rfl
 rw[e] at q1;exact q1
abbrev key2 (a b:Int):List Key:=[.inl a,.inl b]
theorem key2_inj {a b c d:Int}:key2 a b=key2 c d↔a=c∧b=d:=by
 constructor
 ·intro e
  unfold key2 at e
  simp at e
  exact e
 ·rintro ⟨rfl,rfl⟩;rfl
def TiedD (ts:List Tie) (ks:List Nat) (kvs:List (List Key × V)):Prop:=∀ a b,(valV kvs (key2 a b)).isSome=true↔∃ k ∈ ks,(tieAt ts k).1=a∧(tieAt ts k).2.1=b
theorem tied_nx {n:Int} {ts:List Tie} {ks:List Nat} {kvs:List (List Key × V)} (ok:WebOk n ts) (ko:KeepOk ts.length ks) (td:TiedD ts ks kvs) {p:Nat} {x:Int} (hp:p < n.toNat):(valV kvs (key2 (if x < (p:Int) then x else p) (if x > (p:Int) then x else p))).isSome=true↔0≤x∧x < n∧kpB ts ks p x.toNat=true:=by
 rw[td]
 unfold kpB
 rw[List.any_eq_true]
 constructor
 ·rintro ⟨k,hk,e1,e2⟩
  have tk:=ok.tie _ (tieAt_in (ko.2 k hk)).2
  have x0:0≤x:=by split at e1 <;> omega
  have xn:x < n:=by split at e2 <;> omega
  refine⟨x0,xn,k,hk,?_⟩
  unfold isTB
  rw[Bool.and_eq_true,decide_eq_true_iff,decide_eq_true_iff,Int.toNat_of_nonneg x0]
  split at e1 <;> split at e2 <;> omega
 ·rintro ⟨x0,xn,k,hk,e⟩
  unfold isTB at e
  rw[Bool.and_eq_true,decide_eq_true_iff,decide_eq_true_iff,Int.toNat_of_nonneg x0] at e
  exact⟨k,hk,by split <;> omega,by split <;> omega⟩
def spLeads (K:PySem.W.Frag):Sp:=fun vs H Q _=>∃ (n:Int) (ts:List Tie) (ks:List Nat) (d t:Addr) (kvs:List (List Key × V)) (tr:List (Option Int)) (p u:Nat),vs=[.int n,.ref d,.ref t,.int (p:Int),.int (u:Int)]∧WebOk n ts∧KeepOk ts.length ks∧H d=some (.dT kvs)∧TiedD ts ks kvs∧H t=some (.tup (tr.map ov))∧tr.length=n.toNat∧p < n.toNat∧u < n.toNat∧∀ H',Same H H'->Q (ov (ldF n ts ks tr u p)) H'
theorem ok__law_leads54 (T:Bi mg) (D:DefOk K mg "_law_leads" s__law_leads ["n","tied","tree","place","u"]):Ok P w K mg base 1 "_law_leads" ["n","tied","tree","place","u"] (spLeads K):=by
 refine mk_ok (k:=0) D sc__law_leads (fun vs H Q E h=>?_) (fun f cdv A outer s H vs Q E hr h=>?_)
 ·obtain⟨n,ts,ks,d,t,kvs,tr,p,u,rfl,_⟩:=h
  rfl
 obtain⟨n,ts,ks,d,t,kvs,tr,p,u,rfl,ok,ko,hd,td,ht,lt,hp,hu_,q⟩:=h
 have nd:=sc__law_leads.nd
 have hu:(A.deeper (envOfC "_law_leads" (defScope s__law_leads) s.heap.objs.size f cdv)).units + 1 < cLine:=by have:=hr.units;omega
 have n24:=ok.n24
 have n1:=ok.n1
 obtain⟨nx,enx⟩:∃ nx,nx=nxT n ts ks tr:=⟨_,rfl⟩
 have eld:ldF n ts ks tr u p=goF nx u n.toNat p:=by rw[enx];rfl
 rw[eld] at q
 refine⟨_,(pss_cons (ps_for PassesOwn.never rfl (pi_range1 rfl T.z_range (pa_cons (pv 0) pa_nil)) (pg_name (i:=5) nd rfl (Or.inl rfl)) (pss_cons (ps_if (pt_cmpR op_eq (pv 3) (pv 4) (nomark _)) (pss_one (ps_ret (pv 5))) pss_nil) (pss_cons (ps_set (i:=6) nd rfl (Or.inl rfl) (pe_ix ix_tup (pv 2) (pv 3) (fun _ _=>rfl))) (pss_cons (ps_if (PW.pt (pw_or (pt_cmpR op_isN (pv 6) pe_non (nomark _)) (pw_or1 (pt_cmp (pc_dnotin hu (pe_tupG (pa_cons (pe_callB (call_min2 rfl) rfl T.z_min (by decide +kernel) (pa_cons (pv 3) (pa_cons (pv 6) pa_nil))) (pa_cons (pe_callB (call_max2 rfl) rfl T.z_max (by decide +kernel) (pa_cons (pv 3) (pa_cons (pv 6) pa_nil))) pa_nil))) (pv 1)) (by with_unfolding_all rfl))))) (pss_one (ps_ret pe_non)) pss_nil) (pss_one (ps_set (i:=3) nd rfl (Or.inl rfl) (pv 6))))))) (pss_one (ps_ret pe_non))),?_⟩
 refine⟨_,rfl,n,rfl,by omega,by omega,?_⟩
 refine for_range (n:=n.toNat) (fun i σ J=>∃ (c:Nat) (y5 y6:Option V),σ=[some (.int n),some (.ref d),some (.ref t),some (.int (c:Int)),some (.int (u:Int)),y5,y6]∧Same H J∧c < n.toNat∧goF nx u n.toNat p=(goF nx u (n.toNat - i) c).map (· + (i:Int))) ⟨p,none,none,rfl,Same.refl H,hp,?_⟩ (fun i σ J hi h=>?_) (fun σ J h=>?_)
 ·show goF nx u n.toNat p=(goF nx u n.toNat p).map (· + (0:Int))
  cases goF nx u n.toNat p with
  | none=>rfl
  | some x=>show some x=some (x + 0);rw[Int.add_zero]
 ·obtain⟨c,y5,y6,rfl,sm,hc,ego⟩:=h
  obtain⟨fu,efu⟩:∃ fu,n.toNat - i=fu + 1:=⟨n.toNat - i - 1,by omega⟩
  rw[efu] at ego
  refine⟨_,rfl,_,rfl,rfl,_,rfl,?_⟩
  by_cases cb:c=u
  ·rw[decide_eq_true (show V.int (c:Int)=V.int (u:Int) by rw[cb])]
   refine iteT ⟨_,rfl,?_⟩
   have q1:=q J sm
   rw[ego,cb,go_at] at q1
   exact q1
  rw[decide_eq_false (show ¬ V.int (c:Int)=V.int (u:Int) from fun z=>cb (by injection z with z;omega))]
  have hat:atI (tr.map ov) (c:Int)=some (ov (Far.get tr c)):=atI_toNat (Int.natCast_nonneg _) (by rw[Int.toNat_natCast];exact ov_at (by omega))
  refine iteF ⟨_,rfl,_,rfl,t,_,_,_,rfl,rfl,SqT.of (sm _ _ ht),hat,?_⟩
  have out:nx c=none->goF nx u n.toNat p=none:=fun e=>by rw[ego,go_none cb e];rfl
  have qn:∀ J',Same H J'->nx c=none->Q .non J':=fun J' S e=>by
   have q1:=q J' S
   rw[out e] at q1;exact q1
  cases ea:Far.get tr c with
  | none =>
   refine⟨_,rfl,rfl,_,rfl,iteT ?_⟩
   exact qn J sm (by rw[enx];exact nx_none ea)
  | some x =>
   refine⟨_,rfl,rfl,_,rfl,iteF ?_⟩
   refine⟨_,rfl,_,rfl,_,_,rfl,_,rfl,_,rfl,_,_,rfl,(by show 2≤1000;decide),fun tp J2 S2 f2 e2=>?_⟩
   have s2:=sm.trans S2
   refine⟨_,rfl,d,_,rfl,.inr ⟨kvs,key2 (if x < (c:Int) then x else c) (if x > (c:Int) then x else c),tp,Rd.of (s2 _ _ hd),rfl,e2,rfl⟩,_,rfl,?_⟩
   have tn:=tied_nx ok ko td (p:=c) (x:=x) hc
   by_cases z:0≤x∧x < n∧kpB ts ks c x.toNat=true
   case neg =>
    have e0:(valV kvs (key2 (if x < (c:Int) then x else c) (if x > (c:Int) then x else c))).isSome=false:=by
     rw[← Bool.not_eq_true,tn];exact z
    rw[e0]
    exact iteT (qn J2 s2 (by rw[enx];exact nx_out ea z))
   rw[tn.mpr z]
   have enc:nx c=some x.toNat:=by rw[enx];exact nx_in ea z
   refine iteF ⟨_,rfl,x.toNat,some (.int (0 + (i:Int))),some (ov (some x)),?_,s2,by omega,?_⟩
   ·rw[Int.toNat_of_nonneg z.1];rfl
   ·rw[ego,go_some cb enc,go_step,show n.toNat - (i + 1)=fu by omega];rfl
 ·obtain⟨c,y5,y6,rfl,sm,hc,ego⟩:=h
  have q1:=q J sm
  rw[ego,Nat.sub_self] at q1
  exact q1
theorem tied_of {n:Int} {ts:List Tie} {ks:List Nat}:TiedD ts ks (ks.map fun k=>(key2 (tieAt ts k).1 (tieAt ts k).2.1,V.int (k:Int))):=fun a b=>by
 rw[← valV_any,List.any_map,List.any_eq_true]
 constructor
 ·rintro ⟨k,hk,e⟩
  have:=key2_inj.mp (of_decide_eq_true e)
  exact⟨k,hk,this.1,this.2⟩
 ·rintro ⟨k,hk,e1,e2⟩
  exact⟨k,hk,decide_eq_true (key2_inj.mpr ⟨e1,e2⟩)⟩
theorem tied_nd {n:Int} {ts:List Tie} {ks:List Nat} (ok:WebOk n ts) (ko:KeepOk ts.length ks):((ks.map fun k=>(key2 (tieAt ts k).1 (tieAt ts k).2.1,V.int (k:Int))).map (·.1)).Nodup:=by
 rw[List.map_map]
 refine List.Pairwise.map _ (R:=fun i j:Nat=>i < j∧i < ts.length∧j < ts.length) (fun i j h e=>?_) ?_
 ·have z:=key2_inj.mp e
  have ti:=ok.tie _ (tieAt_in h.2.1).2
  have:=tb_one ok (u:=(tieAt ts i).1.toNat) (v:=(tieAt ts i).2.1.toNat) h.2.1 h.2.2 ?_ ?_
  ·omega
  ·unfold isTB
   rw[Bool.and_eq_true,decide_eq_true_iff,decide_eq_true_iff]
   omega
  ·unfold isTB
   rw[Bool.and_eq_true,decide_eq_true_iff,decide_eq_true_iff]
   omega
 ·exact ko.1.imp_of_mem fun {a b} ha hb lt=>⟨lt,ko.2 a ha,ko.2 b hb⟩
theorem pl_fail {n:Int} {ts:List Tie} {ks:List Nat} {m:Int} {pp:List (List Int × List (Option Int))} {i:Nat} (hi:i < n.toNat) (e:plB n ts ks m i (pp.getD i ([],[]))=false):((List.range n.toNat).all fun u=>plB n ts ks m u (pp.getD u ([],[])))=false:=by
 rw[List.all_eq_false]
 exact⟨i,List.mem_range.mpr hi,by rw[e];decide⟩
def spDue (K:PySem.W.Frag):Sp:=fun vs H Q _=>∃ (n:Int) (ts:List Tie) (ks:List Nat) (wv kv:V) (m:Int) (t:Addr) (pp:List (List Int × List (Option Int))),vs=[wv,kv,.int m,.ref t]∧WK K H n (ones ts) ks wv kv∧PpV H t pp∧∀ H',Same H H'->Q (.bl (mrB n (ones ts) ks m pp)) H'
theorem ok__law_due54 (T:Bi mg) (D:DefOk K mg "_law_due" s__law_due ["web","keep","m","paper"]) (O__law_leads:Ok P w K mg base 1 "_law_leads" ["n","tied","tree","place","u"] (spLeads K)):Ok P w K mg base 2 "_law_due" ["web","keep","m","paper"] (spDue K):=by
 refine mk_ok (k:=1) D sc__law_due (fun vs H Q E h=>?_) (fun f cdv A outer s H vs Q E hr h=>?_)
 ·obtain⟨n,ts,ks,wv,kv,m,t,pp,rfl,_⟩:=h
  rfl
 obtain⟨n,ts0,ks,wv,kv,m,t,pp,rfl,wk,⟨ps,ht,lps,l25,hps⟩,q⟩:=h
 have nd:=sc__law_due.nd
 have hu2:(A.deeper (envOfC "_law_due" (defScope s__law_due) s.heap.objs.size f cdv)).units + 2 < cLine:=by have:=hr.units;omega
 obtain⟨ts,ets⟩:∃ ts,ts=ones ts0:=⟨_,rfl⟩
 have l1:∀ {k:Nat},k < ts.length->(tieAt ts k).2.2=1:=fun {k} hk=>by rw[ets] at hk ⊢;rw[ones_at (by rw[ones_len] at hk;exact hk)]
 rw[← ets] at wk q
 have ok:=wk.2.1
 have ko:=wk.2.2.2
 have few60:=ok.few
 have n1:=ok.n1
 have n24:=ok.n24
 have lks:=ko.len
 obtain⟨g0,gg,ws,rfl,hg0,hg,hall,hlw⟩:=web_parts wk.1
 obtain⟨kp,rfl,hkp⟩:=keep_parts wk.2.2.1
 rw[← natV_keep] at hkp
 have q0:∀ H',Same H H'->Q (.bl (decide (pp.length=n.toNat) && (List.range n.toNat).all fun u=>plB n ts ks m u (pp.getD u ([],[])))) H':=q
 refine⟨_,(pss_cons (ps_if (pt_cmpR op_ne (pe_callB call_len_seq rfl T.z_len (by decide +kernel) (pa_cons (pv 3) pa_nil)) (pe_ix ix_tup (pv 0) pe_int (fun _ _=>rfl)) (nomark _)) (pss_one (ps_ret pe_bl)) pss_nil) (pss_cons (ps_set (i:=4) nd rfl (Or.inl rfl) (pe_callTy (call_dictLT rfl hu2) rfl T.z_dict (by decide +kernel) (pa_cons (pe_comp (N:=["web","keep","m","paper","tied","u","heights","tree","place","steps"]) (sc0:=defScope s__law_due) (own:=["number"]) (fr:=["web"]) (js:=[0]) rfl (pi_tup (pv 1)) (fun _ _ _ _=>(pg_name (i:=0) (by show List.Nodup [("number":Str),("web":Str)];decide +kernel) rfl (Or.inl rfl))) (fun _ _ _ _=>pts_nil) (fun _ _ _ _=>(pe_tupG (pa_cons (pe_slice sl_tupA (pe_ix ix_tupC (pe_ix ix_tupC (pv 1) pe_int (fun _ _=>rfl)) (pv 0) (fun _ _=>rfl)) po_none (po_some pe_int)) (pa_cons (pv 0) pa_nil))))) pa_nil))) (pss_cons (ps_for PassesOwn.never rfl (pi_enum true rfl T.z_enumerate (pa_cons (pv 3) pa_nil)) (pg_tup (n:=2) rfl (pgs_cons (pg_name (i:=5) nd rfl (Or.inl rfl)) (pgs_cons (pg_tup (n:=2) rfl (pgs_cons (pg_name (i:=6) nd rfl (Or.inr rfl)) (pgs_cons (pg_name (i:=7) nd rfl (Or.inl rfl)) pgs_nil))) pgs_nil))) (pss_cons (ps_if (PW.pt (pw_or (pt_cmpR op_ne (pe_callB call_len_seq rfl T.z_len (by decide +kernel) (pa_cons (pv 6) pa_nil)) (pe_ix ix_tup (pv 0) pe_int (fun _ _=>rfl)) (nomark _)) (pw_or (pt_cmpR op_ne (pe_ix ix_tup (pv 6) (pv 5) (fun _ _=>rfl)) pe_int (nomark _)) (pw_or1 (pt_cmpR op_ne (pe_callB call_len_seq rfl T.z_len (by decide +kernel) (pa_cons (pv 7) pa_nil)) (pe_ix ix_tup (pv 0) pe_int (fun _ _=>rfl)) (nomark _)))))) (pss_one (ps_ret pe_bl)) pss_nil) (pss_cons (ps_if (pt_cmpR op_gt (pe_callB (call_maxL rfl) rfl T.z_max (by decide +kernel) (pa_cons (pe_op op_catL (pe_comp (N:=["web","keep","m","paper","tied","u","heights","tree","place","steps"]) (sc0:=defScope s__law_due) (own:=["a","b","length"]) (fr:=["heights"]) (js:=[6]) rfl (pi_tup (pe_ix ix_tup (pv 0) pe_int (fun _ _=>rfl))) (fun _ _ _ _=>(pg_tupC (n:=3) rfl (pgs_cons (pg_name (i:=0) (by show List.Nodup [("a":Str),("b":Str),("length":Str),("heights":Str)];decide +kernel) rfl (Or.inl rfl)) (pgs_cons (pg_name (i:=1) (by show List.Nodup [("a":Str),("b":Str),("length":Str),("heights":Str)];decide +kernel) rfl (Or.inl rfl)) (pgs_cons (pg_name (i:=2) (by show List.Nodup [("a":Str),("b":Str),("length":Str),("heights":Str)];decide +kernel) rfl (Or.inl rfl)) pgs_nil))))) (fun _ _ _ _=>pts_nil) (fun _ _ _ _=>(pe_callB call_abs rfl T.z_abs (by decide +kernel) (pa_cons (pe_op op_sub (pe_ix ix_tupC (pv 3) (pv 0) (fun _ _=>rfl)) (pe_ix ix_tupC (pv 3) (pv 1) (fun _ _=>rfl))) pa_nil)))) (pe_lstG (pa_cons pe_int pa_nil))) pa_nil)) pe_int (nomark _)) (pss_one (ps_ret pe_bl)) pss_nil) (pss_one (ps_for PassesOwn.never rfl (pi_range1 rfl T.z_range (pa_cons (pe_ix ix_tup (pv 0) pe_int (fun _ _=>rfl)) pa_nil)) (pg_name (i:=8) nd rfl (Or.inl rfl)) (pss_cons (ps_set (i:=9) nd rfl (Or.inl rfl) (pe_callD O__law_leads hr rfl (pa_cons (pe_ix ix_tup (pv 0) pe_int (fun _ _=>rfl)) (pa_cons (pv 4) (pa_cons (pv 7) (pa_cons (pv 8) (pa_cons (pv 5) pa_nil))))))) (pss_one (ps_if (PW.pt (pw_and (pt_cmpR op_lt (pe_ix ix_tup (pv 6) (pv 8) (fun _ _=>rfl)) (pe_ix ix_tup (pv 0) pe_int (fun _ _=>rfl)) (nomark _)) (pw_and1 (PW.pt (pw_or (pt_cmpR op_isN (pv 9) pe_non (nomark _)) (pw_or1 (pt_cmpR op_gt (pv 9) (pe_op op_add (pe_ix ix_tup (pv 6) (pv 8) (fun _ _=>rfl)) (pv 2)) (nomark _)))))))) (pss_one (ps_ret pe_bl)) pss_nil)))))))) (pss_one (ps_ret pe_bl))))),?_⟩
 refine⟨_,rfl,t,_,rfl,.inr (SqT.of ht),_,rfl,g0,_,_,_,rfl,rfl,SqT.of hg0,rfl,rfl,_,rfl,?_⟩
 rw[lps]
 by_cases ln:pp.length=n.toNat
 case neg =>
  have q1:=q0 H (Same.refl H)
  rw[decide_eq_false ln] at q1
  rw[decide_eq_false (show ¬ V.int ((pp.length:Nat):Int)=V.int n from fun z=>ln (by injection z with z;omega))]
  exact iteT q1
 rw[decide_eq_true ln] at q0
 refine iteNS (by rw[ln,Int.toNat_of_nonneg (by omega)]) ?_
 refine⟨_,rfl,kp,rfl,⟨_,SqT.of hkp⟩,?_⟩
 refine comp_tup hkp (fun σ'=>∃ o,σ'=[o,some (.ref g0)]) (fun i v J=>∃ c ka,v=.ref c∧J c=some (.tup [.ref ka,.int ((ks.getD i 0:Nat):Int)])∧J ka=some (.tup ((key2 (tieAt ts (ks.getD i 0)).1 (tieAt ts (ks.getD i 0)).2.1).map kV))) (by rw[natV_length];omega) (by exact⟨none,rfl⟩) (fun i v J J' k h=>?_) (fun i x σ' H' hx s2 sg C hC=>?_) (fun L ys J1 hL S1 hH hly hys=>?_)
 ·obtain⟨c,ka,e1,e2,e3⟩:=h
  exact⟨c,ka,e1,k _ _ e2,k _ _ e3⟩
 ·obtain⟨o,rfl⟩:=sg
  obtain⟨k,hk,rfl⟩:=nat_at hx
  have ek:ks.getD i 0=k:=by rw[List.getD_eq_getElem?_getD,hk];rfl
  rw[ek] at hC
  obtain⟨ta,hta,htie⟩:=tie_val hall (ko.2 k (List.mem_of_getElem? hk))
  refine⟨_,rfl,g0,_,_,_,rfl,rfl,SqT.of (s2 _ _ hg0),rfl,_,rfl,gg,_,_,_,rfl,rfl,SqT.of (s2 _ _ hg),atI_toNat (Int.natCast_nonneg _) hta,_,rfl,ta,_,rfl,s2 _ _ htie,fun tb J5 S5 e5=>?_⟩
  exact⟨_,rfl,(by show 2≤1000;decide),fun c J6 S6 f6 e6=>hC _ _ _ ⟨_,rfl⟩ (S5.trans S6) ⟨c,tb,rfl,e6,S6 _ _ e5⟩⟩
 rw[natV_length] at hly
 refine⟨L,ys,ks.map fun k=>(key2 (tieAt ts k).1 (tieAt ts k).2.1,V.int (k:Int)),rfl,hH,by rw[List.length_map];exact hly,fun i y hy=>?_,tied_nd ok ko,fun ld J2 S2 f2 e2=>?_⟩
 ·obtain⟨c,ka,e1,e2,e3⟩:=hys i y hy
  have hi:i < ks.length:=by have:=(List.getElem?_eq_some_iff.mp hy).1;omega
  have ek:ks.getD i 0=ks[i]:=by rw[List.getD_eq_getElem?_getD,List.getElem?_eq_getElem hi];rfl
  rw[ek] at e2 e3
  exact⟨c,ka,_,_,by rw[List.getElem?_map,List.getElem?_eq_getElem hi];rfl,e1,e2,e3⟩
 have S12:=S1.trans S2
 have td:=tied_of (n:=n) (ts:=ts) (ks:=ks)
 obtain⟨kvs,ekvs⟩:∃ kvs,kvs=ks.map fun k=>(key2 (tieAt ts k).1 (tieAt ts k).2.1,V.int (k:Int)):=⟨_,rfl⟩
 rw[← ekvs] at e2 td
 refine⟨_,rfl,t,rfl,⟨_,SqX.of (t:=true) (S12 _ _ ht)⟩,?_⟩
 refine for_enum (t:=true) (xs:=ps) (fun i σ J=>∃ y5 y6 y7 y8 y9:Option V,σ=[some (.ref g0),some (.ref kp),some (.int m),some (.ref t),some (.ref ld),y5,y6,y7,y8,y9]∧Same J2 J∧∀ j,j < i->plB n ts ks m j (pp.getD j ([],[]))=true) ⟨none,none,none,none,none,rfl,Same.refl _,fun j h=>absurd h (Nat.not_lt_zero _)⟩ (fun i σ J h=>?_) (fun i x U σ J hx hU h=>?_) (fun σ J h=>?_)
 ·obtain⟨y5,y6,y7,y8,y9,rfl,sm,_⟩:=h
  exact SqX.of (t:=true) ((S12.trans sm) _ _ ht)
 ·obtain⟨y5,y6,y7,y8,y9,rfl,sm,hall'⟩:=h
  have hi:i < n.toNat:=by have:=(List.getElem?_eq_some_iff.mp hx).1;omega
  obtain⟨p,a,b,rfl,e1,e3,e4,l1',l2'⟩:=hps i x hx
  obtain⟨hs,etr⟩:∃ hs,hs=(pp.getD i ([],[])).1:=⟨_,rfl⟩
  obtain⟨tr,etr'⟩:∃ tr,tr=(pp.getD i ([],[])).2:=⟨_,rfl⟩
  rw[← etr] at e3 l1'
  rw[← etr'] at e4 l2'
  have epl:plB n ts ks m i (pp.getD i ([],[]))=(holdB n ts (List.range ts.length) hs && (decide (hV hs i=0) && (decide (tr.length=n.toNat) && (List.range n.toNat).all fun v=>!decide (hV hs v < n) || ledB (ldF n ts ks tr i v) (hV hs v) m))):=by rw[etr,etr'];rfl
  have SU:=same_new (H:=J) (o:=.tup [.int (i:Nat),.ref p]) hU
  have S3:=(S12.trans sm).trans SU
  have SJ:=sm.trans SU
  have fail:∀ J',Same H J'->plB n ts ks m i (pp.getD i ([],[]))=false->Q (.bl false) J':=fun J' S e=>by
   have q1:=q0 J' S
   rw[pl_fail hi e] at q1;exact q1
  refine⟨U,_,rfl,SqT.of upd_same,rfl,_,_,rfl,_,_,rfl,p,_,rfl,SqT.of (S3 _ _ e1),rfl,_,_,rfl,_,_,rfl,rfl,rfl,?_⟩
  refine⟨_,rfl,a,_,rfl,.inr (SqT.of (S3 _ _ e3)),_,rfl,g0,_,_,_,rfl,rfl,SqT.of (S3 _ _ hg0),rfl,rfl,_,rfl,?_⟩
  rw[List.length_map]
  by_cases lh:hs.length=n.toNat
  case neg =>
   rw[decide_eq_false (show ¬ V.int ((hs.length:Nat):Int)=V.int n from fun z=>lh (by injection z with z;omega))]
   refine iteT (fail _ S3 ?_)
   rw[epl]
   unfold holdB
   rw[decide_eq_false lh];rfl
  refine iteNS (by rw[lh,Int.toNat_of_nonneg (by omega)]) ?_
  refine⟨_,rfl,_,rfl,a,_,_,_,rfl,rfl,SqT.of (S3 _ _ e3),hV_at (by omega),rfl,_,rfl,?_⟩
  by_cases z0:hV hs i=0
  case neg =>
   rw[decide_eq_false (show ¬ V.int (hV hs i)=V.int 0 from fun y=>z0 (by injection y))]
   refine iteT (fail _ S3 ?_)
   rw[epl,decide_eq_false z0,Bool.false_and,Bool.and_false]
  refine iteNS (by rw[z0]) ?_
  refine⟨_,rfl,b,_,rfl,.inr (SqT.of (S3 _ _ e4)),_,rfl,g0,_,_,_,rfl,rfl,SqT.of (S3 _ _ hg0),rfl,rfl,_,rfl,?_⟩
  rw[List.length_map]
  by_cases lt:tr.length=n.toNat
  case neg =>
   rw[decide_eq_false (show ¬ V.int ((tr.length:Nat):Int)=V.int n from fun z=>lt (by injection z with z;omega))]
   refine iteT (fail _ S3 ?_)
   rw[epl,decide_eq_false lt,Bool.false_and,Bool.and_false,Bool.and_false]
  refine iteNS (by rw[lt,Int.toNat_of_nonneg (by omega)]) ?_
  refine⟨_,rfl,g0,_,_,_,rfl,rfl,SqT.of (S3 _ _ hg0),rfl,gg,rfl,⟨_,SqT.of (S3 _ _ hg)⟩,?_⟩
  refine comp_tup (S3 _ _ hg) (fun σ'=>∃ o1 o2 o3,σ'=[o1,o2,o3,some (.ref a)]) (fun k v _=>v=.int (acrossI ts hs k)) (by omega) (by exact⟨none,none,none,rfl⟩) (fun _ _ _ _ _ h=>h) (fun k x σ' H' hx s2 sg C hC=>?_) (fun L2 ys2 J3 hL2 S4 hH2 hly2 hys2=>?_)
  ·obtain⟨o1,o2,o3,rfl⟩:=sg
   have hk:k < ts.length:=by have:=(List.getElem?_eq_some_iff.mp hx).1;omega
   obtain⟨ta,hta,htie⟩:=tie_val hall hk
   rw[hta] at hx
   cases hx
   have tk:=ok.tie _ (tieAt_in hk).2
   have s5:=S3.trans s2
   refine⟨ta,_,rfl,SqT.of (s5 _ _ htie),rfl,_,_,rfl,_,_,rfl,_,_,rfl,rfl,?_⟩
   exact⟨_,rfl,_,rfl,a,_,_,_,rfl,rfl,SqT.of (s5 _ _ e3),hAt_at (by omega) (by omega),_,rfl,_,rfl,a,_,_,_,rfl,rfl,SqT.of (s5 _ _ e3),hAt_at (by omega) (by omega),_,_,rfl,rfl,_,rfl,hC _ _ _ ⟨_,_,_,rfl⟩ (Same.refl _) rfl⟩
  have eys:ys2=((List.range ts.length).map (acrossI ts hs)).map V.int:=by
   rw[List.map_map]
   refine List.ext_getElem? fun k=>?_
   by_cases hk:k < ts.length
   ·have e:ys2[k]?=some ys2[k]:=List.getElem?_eq_getElem (by omega)
    rw[e,hys2 k _ e,List.getElem?_map,List.getElem?_range hk];rfl
   ·rw[List.getElem?_eq_none (by omega),List.getElem?_eq_none (by rw[List.length_map,List.length_range];omega)]
  rw[eys] at hH2
  refine⟨(by show 1≤1000;decide),fun lz J4 S5 f5 e5=>⟨L2,lz,_,_,rfl,rfl,S5 _ _ hH2,e5,?_,fun lm J5 S6 f6 e6=>?_⟩⟩
  ·rw[List.length_map,List.length_map,List.length_range]
   show ts.length + 1≤1000
   omega
  have em:J5 lm=some (.lst (((List.range ts.length).map (acrossI ts hs)++[0]).map V.int)):=by rw[e6,List.map_append];rfl
  refine⟨lm,_,rfl,em,by simp,fun mx hm1 hm2=>⟨_,_,rfl,rfl,_,rfl,?_⟩⟩
  have S7:=S3.trans (S4.trans (S5.trans S6))
  by_cases hold:holdB n ts (List.range ts.length) hs=true
  case neg =>
   have big:mx > 1:=by
    refine Classical.byContradiction fun c=>hold ?_
    unfold holdB
    rw[decide_eq_true lh,Bool.true_and,List.all_eq_true]
    intro k hk
    have hk':=List.mem_range.mp hk
    have:=hm2 (acrossI ts hs k) (List.mem_append_left _ (List.mem_map.mpr ⟨k,hk,rfl⟩))
    rw[decide_eq_true_iff,l1 hk'];omega
   rw[decide_eq_true big]
   refine iteT (fail _ S7 ?_)
   rw[epl,Bool.eq_false_iff.mpr hold];rfl
  have small:¬ mx > 1:=by
   rcases List.mem_append.mp hm1 with z | z
   ·obtain⟨k,hk,rfl⟩:=List.mem_map.mp z
    unfold holdB at hold
    rw[Bool.and_eq_true,List.all_eq_true] at hold
    have:=of_decide_eq_true (hold.2 k hk)
    rw[l1 (List.mem_range.mp hk)] at this
    omega
   ·rw[List.mem_singleton.mp z];decide
  rw[decide_eq_false small]
  refine iteF ?_
  rw[hold,decide_eq_true z0,decide_eq_true lt,Bool.true_and,Bool.true_and,Bool.true_and] at epl
  refine⟨_,rfl,g0,_,_,_,rfl,rfl,SqT.of (S7 _ _ hg0),rfl,n,rfl,by omega,by omega,?_⟩
  have SJ5:Same J2 J5:=SJ.trans (S4.trans (S5.trans S6))
  refine for_range (n:=n.toNat) (fun v σ J'=>∃ y8 y9:Option V,σ=[some (.ref g0),some (.ref kp),some (.int m),some (.ref t),some (.ref ld),some (.int (i:Int)),some (.ref a),some (.ref b),y8,y9]∧Same J2 J'∧∀ j,j < v->(!decide (hV hs j < n) || ledB (ldF n ts ks tr i j) (hV hs j) m)=true) ⟨_,_,rfl,SJ5,fun j h=>absurd h (Nat.not_lt_zero _)⟩ (fun v σ J' hv h=>?_) (fun σ J' h=>?_)
  ·obtain⟨y8,y9,rfl,s6,hv'⟩:=h
   have s7:=S12.trans s6
   have ev:V.int (0 + (v:Int))=V.int (v:Int):=by rw[Int.zero_add]
   rw[ev]
   refine⟨_,rfl,g0,_,_,_,rfl,rfl,SqT.of (s7 _ _ hg0),rfl,_,rfl,_,rfl,_,rfl,_,rfl,n,ts,ks,ld,b,kvs,tr,v,i,rfl,ok,ko,s6 _ _ e2,td,s7 _ _ e4,lt,hv,hi,fun J6 S8=>?_⟩
   have s9:=s7.trans S8
   have next:(!decide (hV hs v < n) || ledB (ldF n ts ks tr i v) (hV hs v) m)=true->∀ j,j < v + 1->(!decide (hV hs j < n) || ledB (ldF n ts ks tr i j) (hV hs j) m)=true:=fun e j hj=>by
    rcases Nat.lt_or_eq_of_le (Nat.le_of_lt_succ hj) with z | z
    ·exact hv' j z
    ·rw[z];exact e
   have bad:(!decide (hV hs v < n) || ledB (ldF n ts ks tr i v) (hV hs v) m)=false->Q (.bl false) J6:=fun e=>by
    refine fail J6 s9 ?_
    rw[epl,List.all_eq_false]
    exact⟨v,List.mem_range.mpr hv,by rw[e];decide⟩
   refine⟨_,rfl,_,rfl,a,_,_,_,rfl,rfl,SqT.of (s9 _ _ e3),hV_at (by omega),_,rfl,g0,_,_,_,rfl,rfl,SqT.of (s9 _ _ hg0),rfl,_,_,rfl,rfl,_,rfl,?_⟩
   by_cases lo:hV hs v < n
   case neg =>
    rw[decide_eq_false lo]
    exact iteF ⟨_,_,rfl,s6.trans S8,next (by rw[decide_eq_false lo];rfl)⟩
   rw[decide_eq_true lo]
   refine iteT ⟨_,rfl,?_⟩
   cases eo:ldF n ts ks tr i v with
   | none =>
    refine⟨rfl,_,rfl,iteT ?_⟩
    exact bad (by rw[decide_eq_true lo,eo];rfl)
   | some y =>
    refine⟨rfl,_,rfl,iteF ?_⟩
    refine⟨_,rfl,_,rfl,_,rfl,a,_,_,_,rfl,rfl,SqT.of (s9 _ _ e3),hV_at (by omega),_,rfl,_,_,rfl,rfl,_,_,rfl,rfl,_,rfl,?_⟩
    by_cases gt:y > hV hs v + m
    ·rw[decide_eq_true gt]
     refine iteT (bad ?_)
     rw[decide_eq_true lo,eo]
     show decide (y≤hV hs v + m)=false
     exact decide_eq_false (by omega)
    ·rw[decide_eq_false gt]
     refine iteF ⟨_,_,rfl,s6.trans S8,next ?_⟩
     rw[decide_eq_true lo,eo]
     show decide (y≤hV hs v + m)=true
     exact decide_eq_true (by omega)
  ·obtain⟨y8,y9,rfl,s6,hv'⟩:=h
   refine⟨_,_,_,_,_,rfl,s6,fun j hj=>?_⟩
   rcases Nat.lt_or_eq_of_le (Nat.le_of_lt_succ hj) with z | z
   ·exact hall' j z
   ·rw[z,epl,List.all_eq_true]
    exact fun v hv=>hv' v (List.mem_range.mp hv)
 ·obtain⟨y5,y6,y7,y8,y9,rfl,sm,hall'⟩:=h
  have q1:=q0 J (S12.trans sm)
  have e:((List.range n.toNat).all fun u=>plB n ts ks m u (pp.getD u ([],[])))=true:=by
   rw[List.all_eq_true]
   exact fun u hu=>hall' u (by rw[lps,ln];exact List.mem_range.mp hu)
  rw[e] at q1
  exact q1
theorem cutI_A (is:List Int) (k:Nat):cutV (is.map V.int) none (some (k:Int))=(is.take k).map V.int:=by rw[cut_toK,List.map_take]
theorem cutI_C (is:List Int) (k:Nat):cutV (is.map V.int) (some ((k:Int) + 1)) none=(is.drop (k + 1)).map V.int:=by rw[show (k:Int) + 1=((k + 1:Nat):Int) from rfl,cut_fromK,List.map_drop]
theorem pot_tup {J J':Hp} {p:Addr} (b:But p J J') (pp:Pot J p):TupKeep J J':=by
 obtain⟨xs,e⟩:=pp.lst
 exact fun a ys h=>b _ _ (fun z=>by rw[z,e] at h;cases h) h
def PrN (J:Hp) (n:Nat) (v:V):Prop:=∃ x,PrV J x v∧x.1.length=n∧x.2.length=n
theorem PrN.tk {J J':Hp} {n:Nat} {v:V} (k:TupKeep J J'):PrN J n v->PrN J' n v:=fun ⟨x,h,r⟩=>⟨x,h.tk k,r⟩
def MdV (J:Hp) (n:Nat) (t:Addr):Prop:=∃ vs,J t=some (.tup vs)∧vs.length=n∧∀ v ∈ vs,PrN J n v
theorem MdV.tk {J J':Hp} {n:Nat} {t:Addr} (k:TupKeep J J'):MdV J n t->MdV J' n t:=fun ⟨vs,e,l,h⟩=>⟨vs,k _ _ e,l,fun v hv=>(h v hv).tk k⟩
theorem oa_ov (F:List (Option Nat)):F.map oa=(F.map fun o=>o.map fun u:Nat=>(u:Int)).map ov:=by
 rw[List.map_map]
 exact List.map_congr_left fun o _=>by cases o <;> rfl
def spMade (K:PySem.W.Frag):Sp:=fun vs H Q _=>∃ (p:Addr) (n:Int) (ts:List Tie) (ks:List Nat) (wv kv:V),vs=[.ref p,wv,kv]∧Pot H p∧WK K H n ts ks wv kv∧∀ t H',But p H H'->Pot H' p->MdV H' n.toNat t->Q (.ref t) H'
theorem ok__law_made54 (T:Bi mg) (D:DefOk K mg "_law_made" s__law_made ["pot","web","keep"]) (O__law_take:Ok P w K mg base 3 "_law_take" ["pot","many"] spTake) (O__law_steps:Ok P w K mg base 3 "_law_steps" ["web","keep","start"] (spStepsE K)) (O__law_tree:Ok P w K mg base 3 "_law_tree" ["web","keep","root"] (spLTreeW K)):Ok P w K mg base 4 "_law_made" ["pot","web","keep"] (spMade K):=by
 refine mk_ok (k:=3) D sc__law_made (fun vs H Q E h=>?_) (fun f cdv A outer s H vs Q E hr h=>?_)
 ·obtain⟨p,n,ts,ks,wv,kv,rfl,_⟩:=h
  rfl
 obtain⟨p,n,ts,ks,wv,kv,rfl,hp,wk,q⟩:=h
 have nd:=sc__law_made.nd
 have ok:=wk.2.1
 have ko:=wk.2.2.2
 have few60:=ok.few
 have n1:=ok.n1
 have n24:=ok.n24
 have isw:=wk.1
 obtain⟨g0,gg,ws,rfl,hg0,hg,hall,hlw⟩:=web_parts wk.1
 obtain⟨kp,rfl,hkp⟩:=keep_parts wk.2.2.1
 rw[← natV_keep] at hkp
 have isk:=wk.2.2.1
 refine⟨_,(pss_cons (ps_set (i:=3) nd rfl (Or.inl rfl) (pe_callTy (call_tuple_rng rfl) rfl T.z_tuple (by decide +kernel) (pa_cons (pe_callTy call_range rfl T.z_range (by decide +kernel) (pa_cons (pe_callB call_len_seq rfl T.z_len (by decide +kernel) (pa_cons (pe_ix ix_tup (pv 1) pe_int (fun _ _=>rfl)) pa_nil)) pa_nil)) pa_nil))) (pss_cons (ps_set (i:=4) nd rfl (Or.inr rfl) (pe_ix ix_list (pe_lstG (pa_cons (pe_ix ix_tup (pv 1) pe_int (fun _ _=>rfl)) (pa_cons (pe_ix ix_tup (pv 1) pe_int (fun _ _=>rfl)) (pa_cons (pe_op op_add pe_int (pe_callD O__law_take hr rfl (pa_cons (pv 0) (pa_cons (pe_ix ix_tup (pv 1) pe_int (fun _ _=>rfl)) pa_nil)))) pa_nil)))) (pe_callD O__law_take hr rfl (pa_cons (pv 0) (pa_cons pe_int pa_nil))) (fun _ _=>rfl))) (pss_cons (ps_set (i:=5) nd rfl (Or.inl rfl) (pe_ix ix_list (pe_lstG (pa_cons (pv 2) (pa_cons (pv 2) (pa_cons (pv 2) (pa_cons (pv 3) pa_nil))))) (pe_callD O__law_take hr rfl (pa_cons (pv 0) (pa_cons pe_int pa_nil))) (fun _ _=>rfl))) (pss_cons (ps_set (i:=6) nd rfl (Or.inl rfl) (pe_lstG pa_nil)) (pss_cons (ps_for PassesOwn.never rfl (pi_range1 rfl T.z_range (pa_cons (pe_ix ix_tup (pv 1) pe_int (fun _ _=>rfl)) pa_nil)) (pg_name (i:=7) nd rfl (Or.inl rfl)) (pss_cons (ps_setcomp (i:=8) (N:=["pot","web","keep","every","roof","along","found","u","heights"]) (sc0:=defScope s__law_made) (own:=["steps"]) (fr:=["web","roof"]) (js:=[1,4]) rfl (pi_list (pe_callD O__law_steps hr rfl (pa_cons (pv 1) (pa_cons (pv 3) (pa_cons (pv 7) pa_nil))))) (fun _ _ _ _=>(pg_name (i:=0) (by show List.Nodup [("steps":Str),("web":Str),("roof":Str)];decide +kernel) rfl (Or.inl rfl))) (fun _ _ _ _=>pts_nil) (fun _ _ _ _=>(pe_ifExp (pt_cmpR op_isN (pv 0) pe_non (nomark _)) (pe_ix ix_tupC (pv 1) pe_int (fun _ _=>rfl)) (pe_callB (call_min2 rfl) rfl T.z_min (by decide +kernel) (pa_cons (pv 0) (pa_cons (pv 2) pa_nil))))) nd rfl (Or.inl rfl)) (pss_one (ps_expr (pe_bm PySem.F.plainAttrs_list PySem.F.slot_list_append PySem.F.type_list_append mt_appendG (pv 6) (pa_cons (pe_tupG (pa_cons (pe_callTy call_tupleG rfl T.z_tuple (by decide +kernel) (pa_cons (pv 8) pa_nil)) (pa_cons (pe_callD O__law_tree hr rfl (pa_cons (pv 1) (pa_cons (pv 5) (pa_cons (pv 7) pa_nil)))) pa_nil))) pa_nil)))))) (pss_one (ps_ret (pe_callTy call_tupleG rfl T.z_tuple (by decide +kernel) (pa_cons (pv 6) pa_nil))))))))),?_⟩
 refine⟨_,rfl,g0,_,_,_,rfl,rfl,SqT.of hg0,rfl,gg,_,rfl,.inr (SqT.of hg),_,rfl,fun rg hrg=>⟨rg,_,rfl,upd_same,Int.natCast_nonneg _,by omega,fun ev J1 S1 f1 e1=>?_⟩⟩
 rw[Int.toNat_natCast,hlw] at e1
 have S01:=(same_new (o:=.rng 0 (ws.length:Int)) hrg).trans S1
 have p1:=hp.same S01
 have npot:∀ {J:Hp} {b:Addr},Pot J p->J b=none->b≠p:=fun pp hb z=>by
  obtain⟨xs,e⟩:=pp.lst
  rw[z,e] at hb;cases hb
 refine⟨_,rfl,g0,_,_,_,rfl,rfl,SqT.of (S01 _ _ hg0),rfl,_,rfl,g0,_,_,_,rfl,rfl,SqT.of (S01 _ _ hg0),rfl,?_⟩
 refine⟨_,rfl,_,rfl,g0,_,_,_,rfl,rfl,SqT.of (S01 _ _ hg0),rfl,p,n,rfl,p1,by omega,by omega,fun r1 J2 r10 r11 b2 p2=>⟨_,_,rfl,rfl,(by show 3≤1000;decide),fun l0 J3 S3 f3 e3=>?_⟩⟩
 have n0:=npot p2 f3
 have tk2:=pot_tup b2 p1
 have p3:=p2.same S3
 refine⟨_,rfl,p,3,rfl,p3,by decide,by decide,fun r2 J4 r20 r21 b4 p4=>?_⟩
 have tk4:=pot_tup b4 p3
 obtain⟨roof,hroof⟩:∃ roof:Int,atI [V.int n,V.int n,V.int (1 + r1)] r2=some (.int roof):=by
  have:r2=0∨r2=1∨r2=2:=by omega
  rcases this with rfl | rfl | rfl
  ·exact⟨_,rfl⟩
  ·exact⟨_,rfl⟩
  ·exact⟨_,rfl⟩
 refine⟨l0,_,_,_,rfl,rfl,SqL.of (b4 _ _ n0 e3),hroof,?_⟩
 refine⟨_,rfl,_,rfl,_,rfl,_,rfl,(by show 4≤1000;decide),fun l5 J5 S5 f5 e5=>?_⟩
 have n5:=npot p4 f5
 have p5:=p4.same S5
 refine⟨_,rfl,p,4,rfl,p5,by decide,by decide,fun r3 J6 r30 r31 b6 p6=>?_⟩
 have B6:But p H J6:=(Same.but S01).trans (b2.trans ((Same.but S3).trans (b4.trans ((Same.but S5).trans b6))))
 have tkJ:TupKeep J1 J6:=fun a us e=>pot_tup b6 p5 _ _ (S5 _ _ (tk4 _ _ (S3 _ _ (tk2 _ _ e))))
 have ev6:=tkJ _ _ e1
 have isw6:Is K J6 (webD n ts) (.ref g0):=Is.tk tkJ _ (tup_web n ts) (Is.same S01 _ isw)
 obtain⟨ka,ks',hka,eka,kok⟩:∃ ka ks',atI [V.ref kp,V.ref kp,V.ref kp,V.ref ev] r3=some (.ref ka)∧J6 ka=some (.tup (natV ks'))∧KeepOk ts.length ks':=by
  have k6:=tkJ _ _ (S01 _ _ hkp)
  have:r3=0∨r3=1∨r3=2∨r3=3:=by omega
  rcases this with rfl | rfl | rfl | rfl
  ·exact⟨kp,ks,rfl,k6,ko⟩
  ·exact⟨kp,ks,rfl,k6,ko⟩
  ·exact⟨kp,ks,rfl,k6,ko⟩
  ·exact⟨ev,_,rfl,ev6,keep_all ts⟩
 refine⟨l5,_,_,_,rfl,rfl,SqL.of (b6 _ _ n5 e5),hka,?_⟩
 refine⟨(by show 0≤1000;decide),fun lf J7 S7 f7 e7=>?_⟩
 have g7:=S7 _ _ (tkJ _ _ (S01 _ _ hg0))
 refine⟨_,rfl,g0,_,_,_,rfl,rfl,SqT.of g7,rfl,n,rfl,by omega,by omega,?_⟩
 have nlf:lf≠p:=npot p6 f7
 refine for_range (n:=n.toNat) (fun i σ J=>∃ (vs:List V) (y7 y8:Option V),σ=[some (.ref p),some (.ref g0),some (.ref kp),some (.ref ev),some (.int roof),some (.ref ka),some (.ref lf),y7,y8]∧But lf J7 J∧J lf=some (.lst vs)∧vs.length=i∧∀ v ∈ vs,PrN J n.toNat v) ⟨[],none,none,rfl,But.refl,e7,rfl,fun v h=>(by cases h)⟩ (fun i σ J hi h=>?_) (fun σ J h=>?_)
 ·obtain⟨vs,y7,y8,rfl,bt,hf,lvs,hvs⟩:=h
  have sm:Same J6 J:=fun b o e=>bt _ _ (ne_of_none e f7) (S7 _ _ e)
  have iswJ:=Is.same sm _ isw6
  refine⟨_,rfl,_,rfl,_,rfl,n,ts,List.range ts.length,.ref g0,ev,true,i,(show [V.ref g0,.ref ev,.int (0 + (i:Int))]=[.ref g0,.ref ev,.int (i:Int)] by rw[Int.zero_add]),⟨iswJ,ok,sm _ _ ev6,keep_all ts⟩,by omega,fun ln D1 J8 S8 f8 e8 lD1 _=>?_⟩
  refine⟨ln,rfl,⟨_,SqL.of e8⟩,?_⟩
  have g8:=S8 _ _ (sm _ _ (tkJ _ _ (S01 _ _ hg0)))
  refine comp_lst e8 (fun σ'=>∃ o,σ'=[o,some (.ref g0),some (.int roof)]) (fun v x _=>∃ y:Int,x=.int y) (by rw[List.length_map];omega) (by exact⟨none,rfl⟩) (fun _ _ _ _ _ h=>h) (fun v x σ' H' hx s2 sg C hC=>?_) (fun L ys J9 hL S9 hH hly hys=>?_)
  ·obtain⟨o,rfl⟩:=sg
   have hv:v < D1.length:=by have:=(List.getElem?_eq_some_iff.mp hx).1;rw[List.length_map] at this;exact this
   rw[ov_at hv] at hx
   cases hx
   refine⟨_,rfl,?_⟩
   cases e:Far.get D1 v with
   | none=>exact⟨rfl,_,rfl,iteT ⟨_,rfl,g0,_,_,_,rfl,rfl,SqT.of (s2 _ _ g8),rfl,hC _ _ _ ⟨_,rfl⟩ (Same.refl _) ⟨_,rfl⟩⟩⟩
   | some x=>exact⟨rfl,_,rfl,iteF ⟨_,rfl,_,rfl,_,_,rfl,hC _ _ _ ⟨_,rfl⟩ (Same.refl _) ⟨_,rfl⟩⟩⟩
  obtain⟨hs,rfl⟩:=AllI.of (xs:=ys) fun x hx=>by
   obtain⟨k,hk⟩:=List.getElem?_of_mem hx
   exact hys k x hk
  rw[List.length_map,List.length_map,lD1] at hly
  have hf9:=S9 _ _ (S8 _ _ hf)
  refine⟨_,rfl,.inl ⟨rfl,_,SqL.of hf9⟩,_,rfl,L,_,rfl,hH,fun a J10 S10 f10 e10=>?_⟩
  have S610:=sm.trans (S8.trans (S9.trans S10))
  refine⟨_,rfl,_,rfl,_,rfl,n,ts,ks',_,.ref ka,0 + (i:Int),rfl,⟨Is.same S610 _ isw6,ok,is_nkeepL (S610 _ _ eka),kok⟩,by omega,by omega,fun b F J11 S11 e11 lF=>?_⟩
  rw[oa_ov] at e11
  refine⟨(by show 2≤1000;decide),fun c J12 S12 f12 e12=>?_⟩
  have hf12:=S12 _ _ (S11 _ _ (S10 _ _ hf9))
  refine⟨lf,_,_,rfl,rfl,hf12,by omega,fun J13 b13 e13=>?_⟩
  have tk:TupKeep J12 J13:=fun b us e=>b13 _ _ (fun z=>by rw[z,hf12] at e;cases e) e
  have SJ:=S8.trans (S9.trans (S10.trans (S11.trans S12)))
  refine⟨vs++[.ref c],_,_,rfl,fun b o z e=>b13 _ _ z (SJ _ _ (bt _ _ z e)),e13,by rw[List.length_append,lvs];rfl,fun v hv=>?_⟩
  rcases List.mem_append.mp hv with z | z
  ·exact (hvs v z).tk fun b us e=>tk _ _ (SJ _ _ e)
  ·rw[List.mem_singleton.mp z]
   refine PrN.tk tk ⟨(hs,F.map fun o=>o.map fun u:Nat=>(u:Int)),⟨c,a,b,rfl,e12,S12 _ _ (S11 _ _ e10),S12 _ _ e11,?_,?_⟩,?_,?_⟩
   ·show hs.length≤24;omega
   ·show (F.map _).length≤24;rw[List.length_map];omega
   ·exact hly
   ·show (F.map _).length=n.toNat;rw[List.length_map];exact lF
 ·obtain⟨vs,y7,y8,rfl,bt,hf,lvs,hvs⟩:=h
  refine⟨_,rfl,lf,_,rfl,hf,fun t J14 S14 f14 e14=>?_⟩
  refine q t J14 (fun b o z e=>S14 _ _ (bt _ _ (fun y=>?_) (S7 _ _ (B6 _ _ z e)))) ?_ ⟨vs,e14,lvs,fun v hv=>(hvs v hv).tk fun b us e=>S14 _ _ e⟩
  ·have:=B6 _ _ z e
   rw[y,f7] at this;cases this
  ·obtain⟨x,y,e,r⟩:=p6
   exact⟨x,y,S14 _ _ (bt _ _ (Ne.symm nlf) (S7 _ _ e)),r⟩
theorem cutF_A {α:Type} (g:α->V) (is:List α) (k:Nat):cutV (is.map g) none (some (k:Int))=(is.take k).map g:=by rw[cut_toK,List.map_take]
theorem cutF_C {α:Type} (g:α->V) (is:List α) (k:Nat):cutV (is.map g) (some ((k:Int) + 1)) none=(is.drop (k + 1)).map g:=by rw[show (k:Int) + 1=((k + 1:Nat):Int) from rfl,cut_fromK,List.map_drop]
def PrX (J:Hp) (v:V):Prop:=∃ x,PrV J x v
theorem PrX.tk {J J':Hp} {v:V} (k:TupKeep J J'):PrX J v->PrX J' v:=fun ⟨x,h⟩=>⟨x,h.tk k⟩
theorem prx_pp {J:Hp} {t:Addr} {vs:List V} (e:J t=some (.tup vs)) (l:vs.length≤25) (h:∀ v ∈ vs,PrX J v):∃ pp,PpV J t pp:=by
 have:∀ us:List V,(∀ v ∈ us,PrX J v)->∃ pp:List (List Int × List (Option Int)),us.length=pp.length∧∀ i v,us[i]?=some v->PrV J (pp.getD i ([],[])) v:=fun us=>by
  induction us with
  | nil=>exact fun _=>⟨[],rfl,fun i v h=>by cases h⟩
  | cons u r ih =>
   intro hu
   obtain⟨pp,l,hp⟩:=ih fun v hv=>hu v (List.mem_cons_of_mem _ hv)
   obtain⟨x,hx⟩:=hu u List.mem_cons_self
   refine⟨x::pp,by rw[List.length_cons,List.length_cons,l],fun i v hv=>?_⟩
   cases i with
   | zero=>cases hv;exact hx
   | succ i=>exact hp i v hv
 obtain⟨pp,l2,hp⟩:=this vs h
 exact⟨pp,vs,e,l2,by omega,hp⟩
def spSpo (K:PySem.W.Frag):Sp:=fun vs H Q _=>∃ (p t:Addr) (n:Int),vs=[.ref p,.int n,.ref t]∧Pot H p∧1≤n∧n≤24∧MdV H n.toNat t∧∀ v H' pp,But p H H'->Pot H' p->PpV H' v pp->Q (.ref v) H'
theorem ok__law_spoilt54 (T:Bi mg) (D:DefOk K mg "_law_spoilt" s__law_spoilt ["pot","n","paper"]) (O__law_take:Ok P w K mg base 1 "_law_take" ["pot","many"] spTake):Ok P w K mg base 2 "_law_spoilt" ["pot","n","paper"] (spSpo K):=by
 refine mk_ok (k:=1) D sc__law_spoilt (fun vs H Q E h=>?_) (fun f cdv A outer s H vs Q E hr h=>?_)
 ·obtain⟨p,t,n,rfl,_⟩:=h
  rfl
 obtain⟨p,t,n,rfl,hp,n1,n24,⟨vs,ht,lvs,hvs⟩,q⟩:=h
 have nd:=sc__law_spoilt.nd
 have npot:∀ {J:Hp} {b:Addr},Pot J p->J b=none->b≠p:=fun pp hb z=>by
  obtain⟨xs,e⟩:=pp.lst
  rw[z,e] at hb;cases hb
 have line:∀ a b:List V,a.length≤60->b.length≤60->a.length + b.length≤sizeLine:=fun a b h1 h2=>Nat.le_trans (show _≤1000 by omega) (by decide)
 refine⟨_,(BSs.h (bss_cons (bs_set (i:=3) nd rfl (Or.inl rfl) (BE.mk (pe_callD O__law_take hr rfl (pa_cons (pv 0) (pa_cons (pv 1) pa_nil))))) (bss_cons (bs_set (i:=4) nd rfl (Or.inl rfl) (BE.mk (pe_callD O__law_take hr rfl (pa_cons (pv 0) (pa_cons (pv 1) pa_nil))))) (bss_cons (bs_set (i:=5) nd rfl (Or.inl rfl) (BE.mk (pe_callD O__law_take hr rfl (pa_cons (pv 0) (pa_cons (pv 1) pa_nil))))) (bss_cons (BS.mk (ps_asg (pe_ix ix_tup (pv 2) (pv 3) (fun _ _=>rfl)) (pg_tup (n:=2) rfl (pgs_cons (pg_name (i:=6) nd rfl (Or.inl rfl)) (pgs_cons (pg_name (i:=7) nd rfl (Or.inl rfl)) pgs_nil))))) (bss_cons (bs_set (i:=8) nd rfl (Or.inr rfl) (be_ix ix_list (be_lstG (ba_consC (BE.mk pe_int) (ba_consU (BE.mk (pe_un un_neg pe_int)) (ba_consC (BE.mk pe_int) (ba_consN (BE.mk (pv 1)) (ba_consU (BE.mk (pe_un un_neg (pv 1))) (ba_consB (BE.mk (pe_op op_pow pe_int pe_int)) ba_nil))))))) (BE.mk (pe_callD O__law_take hr rfl (pa_cons (pv 0) (pa_cons pe_int pa_nil)))) (fun _ _=>rfl))) (bss_cons (bs_set (i:=9) nd rfl (Or.inl rfl) (be_ix ix_list (be_lstG (ba_consC (BE.mk pe_non) (ba_consN (BE.mk (pv 5)) (ba_consU (BE.mk (pe_un un_neg pe_int)) (ba_consN (BE.mk (pv 1)) (ba_consB (BE.mk (pe_op op_pow pe_int pe_int)) (ba_consN (BE.mk (pv 4)) (ba_consN (BE.mk (pv 3)) ba_nil)))))))) (BE.mk (pe_callD O__law_take hr rfl (pa_cons (pv 0) (pa_cons pe_int pa_nil)))) (fun _ _=>rfl))) (bss_cons (bs_set (i:=10) nd rfl (Or.inl rfl) (be_lstG (ba_consT (be_tupG (ba_consB (be_op op_catA (be_op op_catA (BE.mk (pe_slice sl_tupA (pv 6) po_none (po_some (pv 5)))) (be_tupG (ba_consB (BE.mk (pe_op op_add (pe_ix ix_tup (pv 6) (pv 5) (fun _ _=>rfl)) (pv 8))) ba_nil))) (BE.mk (pe_slice sl_tupA (pv 6) (po_some (pe_op op_add (pv 5) pe_int)) po_none))) (ba_consN (BE.mk (pv 7)) ba_nil))) (ba_consT (be_tupG (ba_consS (BE.mk (pe_slice sl_tupA (pv 6) po_none (po_some (pe_un un_neg pe_int)))) (ba_consN (BE.mk (pv 7)) ba_nil))) ba_nil)))) (bss_cons (BS.mk (ps_expr (pe_bm PySem.F.plainAttrs_list PySem.F.slot_list_extend PySem.F.type_list_extend mt_extendG (pv 10) (pa_cons (pe_lstG (pa_cons (pe_tupG (pa_cons (pv 6) (pa_cons (pe_op op_catA (pe_op op_catA (pe_slice sl_tupA (pv 7) po_none (po_some (pv 5))) (pe_tupG (pa_cons (pv 9) pa_nil))) (pe_slice sl_tupA (pv 7) (po_some (pe_op op_add (pv 5) pe_int)) po_none)) pa_nil))) (pa_cons (pe_tupG (pa_cons (pv 6) (pa_cons (pe_slice sl_tupA (pv 7) po_none (po_some (pv 5))) pa_nil))) pa_nil))) pa_nil)))) (bss_cons (BS.mk (ps_expr (pe_bm PySem.F.plainAttrs_list PySem.F.slot_list_extend PySem.F.type_list_extend mt_extendG (pv 10) (pa_cons (pe_lstG (pa_cons (pe_tupG (pa_cons (pe_callTy call_tupleG rfl T.z_tuple (by decide +kernel) (pa_cons (pe_comp (N:=["pot","n","paper","at","other","place","heights","tree","up","ahead","some","way"]) (sc0:=defScope s__law_spoilt) (own:=["height"]) (fr:=["up"]) (js:=[8]) rfl (pi_tup (pv 6)) (fun _ _ _ _=>(pg_name (i:=0) (by show List.Nodup [("height":Str),("up":Str)];decide +kernel) rfl (Or.inl rfl))) (fun _ _ _ _=>pts_nil) (fun _ _ _ _=>(pe_op op_add (pv 0) (pv 1)))) pa_nil)) (pa_cons (pv 7) pa_nil))) (pa_cons (pe_tupG (pa_cons (pe_ix ix_tup (pe_ix ix_tup (pv 2) (pv 4) (fun _ _=>rfl)) pe_int (fun _ _=>rfl)) (pa_cons (pv 7) pa_nil))) pa_nil))) pa_nil)))) (bss_cons (BS.mk (ps_expr (pe_bm PySem.F.plainAttrs_list PySem.F.slot_list_extend PySem.F.type_list_extend mt_extendG (pv 10) (pa_cons (pe_lstG (pa_cons (pe_tupG (pa_cons (pv 6) (pa_cons (pe_ix ix_tup (pe_ix ix_tup (pv 2) (pv 4) (fun _ _=>rfl)) pe_int (fun _ _=>rfl)) pa_nil))) (pa_cons (pe_tupG (pa_cons (pe_op op_repTn (pe_tupG (pa_cons pe_int pa_nil)) (pv 1)) (pa_cons (pv 7) pa_nil))) pa_nil))) pa_nil)))) (bss_cons (bs_set (i:=11) nd rfl (Or.inl rfl) (BE.mk (pe_callD O__law_take hr rfl (pa_cons (pv 0) (pa_cons pe_int pa_nil))))) (bss_cons (bs_if (pt_cmpR op_lt (pv 11) pe_int (nomark _)) (bss_one (bs_ret (be_op op_catA (be_op op_catA (BE.mk (pe_slice sl_tupA (pv 2) po_none (po_some (pv 3)))) (be_tupG (ba_consS (be_ix ix_list (BE.mk (pv 10)) (BE.mk (pv 11)) (fun _ _=>rfl)) ba_nil))) (BE.mk (pe_slice sl_tupA (pv 2) (po_some (pe_op op_add (pv 3) pe_int)) po_none))))) bss_nil) (bss_one (bs_ret (be_ix ix_list (be_lstG (ba_consB (be_op op_catA (BE.mk (pe_slice sl_tupA (pv 2) po_none (po_some (pv 3)))) (BE.mk (pe_slice sl_tupA (pv 2) (po_some (pe_op op_add (pv 3) pe_int)) po_none))) (ba_consB (be_op op_catA (BE.mk (pv 2)) (BE.mk (pe_slice sl_tupA (pv 2) (po_some (pv 3)) (po_some (pe_op op_add (pv 3) pe_int))))) (ba_consB (be_op op_catA (BE.mk (pe_slice sl_tupA (pv 2) (po_some (pv 3)) po_none)) (BE.mk (pe_slice sl_tupA (pv 2) po_none (po_some (pv 3))))) ba_nil)))) (BE.mk (pe_op op_sub (pv 11) pe_int)) (fun _ _=>rfl))))))))))))))))),?_⟩
 refine⟨_,rfl,_,rfl,p,n,rfl,hp,by omega,by omega,fun a0 J1 a00 a01 b1 p1=>?_⟩
 refine⟨_,rfl,_,rfl,p,n,rfl,p1,by omega,by omega,fun o0 J2 o00 o01 b2 p2=>?_⟩
 refine⟨_,rfl,_,rfl,p,n,rfl,p2,by omega,by omega,fun c0 J3 c00 c01 b3 p3=>?_⟩
 obtain⟨at_,rfl⟩:∃ k:Nat,a0=k:=⟨a0.toNat,by omega⟩
 obtain⟨ot,rfl⟩:∃ k:Nat,o0=k:=⟨o0.toNat,by omega⟩
 obtain⟨pl,rfl⟩:∃ k:Nat,c0=k:=⟨c0.toNat,by omega⟩
 have B3:But p H J3:=b1.trans (b2.trans b3)
 have tk3:TupKeep H J3:=pot_tup B3 hp
 have ht3:=tk3 _ _ ht
 have hA:at_ < vs.length:=by omega
 have hO:ot < vs.length:=by omega
 obtain⟨⟨hs,tr⟩,⟨c,a,b,ec,e1,e2,e3,_,_⟩,lh,lt⟩:=(hvs _ (List.getElem_mem hA)).tk tk3
 obtain⟨⟨hs',tr'⟩,⟨c',a',b',ec',e1',e2',e3',_,_⟩,lh',lt'⟩:=(hvs _ (List.getElem_mem hO)).tk tk3
 have e2:J3 a=some (.tup (hs.map V.int)):=e2
 have e3:J3 b=some (.tup (tr.map ov)):=e3
 have e2':J3 a'=some (.tup (hs'.map V.int)):=e2'
 have e3':J3 b'=some (.tup (tr'.map ov)):=e3'
 have lh:hs.length=n.toNat:=lh
 have lt:tr.length=n.toNat:=lt
 have lh':hs'.length=n.toNat:=lh'
 have lt':tr'.length=n.toNat:=lt'
 have hatA:atI vs (at_:Int)=some (.ref c):=atI_toNat (Int.natCast_nonneg _) (by rw[Int.toNat_natCast,List.getElem?_eq_getElem hA,ec])
 have hatO:atI vs (ot:Int)=some (.ref c'):=atI_toNat (Int.natCast_nonneg _) (by rw[Int.toNat_natCast,List.getElem?_eq_getElem hO,ec'])
 refine⟨_,rfl,_,rfl,t,_,_,_,rfl,rfl,SqT.of ht3,hatA,c,_,rfl,SqT.of e1,rfl,_,_,rfl,_,_,rfl,rfl,?_⟩
 refine⟨_,rfl,_,rfl,_,rfl,_,rfl,_,_,rfl,rfl,⟨by decide,by decide,by decide⟩,(by show 6≤1000;decide),fun l0 K0 S0 f0 g0=>?_⟩
 have n0:=npot p3 f0
 have pK0:=p3.same S0
 refine⟨_,rfl,p,6,rfl,pK0,by decide,by decide,fun r1 K1 r10 r11 b4 p4=>?_⟩
 obtain⟨up,hup⟩:∃ up:Int,atI [V.int 1,V.int (-1),V.int 2,V.int n,V.int (-n),V.int ((10:Int) ^ (20:Int).toNat)] r1=some (.int up):=by
  have:r1=0∨r1=1∨r1=2∨r1=3∨r1=4∨r1=5:=by omega
  rcases this with rfl | rfl | rfl | rfl | rfl | rfl <;> exact⟨_,rfl⟩
 refine⟨l0,_,_,_,rfl,rfl,SqL.of (b4 _ _ n0 g0),hup,?_⟩
 refine⟨_,rfl,_,rfl,_,rfl,_,_,rfl,rfl,⟨by decide,by decide,by decide⟩,_,rfl,_,rfl,(by show 7≤1000;decide),fun l1 K2 S2 f2 g2=>?_⟩
 have n2:=npot p4 f2
 have pK2:=p4.same S2
 refine⟨_,rfl,p,7,rfl,pK2,by decide,by decide,fun r2 K3 r20 r21 b5 p5=>?_⟩
 obtain⟨ah,hah⟩:∃ o:Option Int,atI [V.non,V.int (pl:Int),V.int (-1),V.int n,V.int ((10:Int) ^ (20:Int).toNat),V.int (ot:Int),V.int (at_:Int)] r2=some (ov o):=by
  have:r2=0∨r2=1∨r2=2∨r2=3∨r2=4∨r2=5∨r2=6:=by omega
  rcases this with rfl | rfl | rfl | rfl | rfl | rfl | rfl
  ·exact⟨none,rfl⟩
  ·exact⟨some _,rfl⟩
  ·exact⟨some _,rfl⟩
  ·exact⟨some _,rfl⟩
  ·exact⟨some _,rfl⟩
  ·exact⟨some _,rfl⟩
  ·exact⟨some _,rfl⟩
 refine⟨l1,_,_,_,rfl,rfl,SqL.of (b5 _ _ n2 g2),hah,?_⟩
 have BK:But p H K3:=B3.trans ((Same.but S0).trans (b4.trans ((Same.but S2).trans b5)))
 have tkK:TupKeep J3 K3:=fun x us e=>pot_tup b5 pK2 _ _ (S2 _ _ (pot_tup b4 pK0 _ _ (S0 _ _ e)))
 have ea:=tkK _ _ e2
 have eb:=tkK _ _ e3
 have ea':=tkK _ _ e2'
 have eb':=tkK _ _ e3'
 have ht4:=tkK _ _ ht3
 have ec4:=tkK _ _ e1
 have ec4':=tkK _ _ e1'
 have hvs4:∀ v ∈ vs,PrX K3 v:=fun v hv=>by
  obtain⟨x,h,_⟩:=(hvs v hv).tk fun x us e=>tkK _ _ (tk3 _ _ e)
  exact⟨x,h⟩
 have lA:(hs.take pl).length≤24:=by rw[List.length_take];omega
 have lB:(hs.drop (pl + 1)).length≤24:=by rw[List.length_drop];omega
 have lAB:(hs.take pl).length + 1 + (hs.drop (pl + 1)).length≤24:=by rw[List.length_take,List.length_drop];omega
 have lC:(tr.take pl).length≤24:=by rw[List.length_take];omega
 have lCD:(tr.take pl).length + 1 + (tr.drop (pl + 1)).length≤24:=by rw[List.length_take,List.length_drop];omega
 have hpl:atI (hs.map V.int) (pl:Int)=some (.int (hV hs pl)):=hV_at (by omega)
 obtain⟨m5,c5,h5⟩:=cut_row hs none (some (-1))
 refine⟨_,rfl,_,rfl,_,rfl,a,_,rfl,ea,fun x1 L1 T1 g1=>?_⟩
 rw[cutI_A] at g1
 refine⟨_,rfl,_,rfl,a,_,_,_,rfl,rfl,SqT.of (T1 _ _ ea),hpl,_,rfl,_,_,rfl,rfl,(by show 1≤1000;decide),fun x2 L2 T2 f2' g2'=>?_⟩
 refine⟨x1,x2,_,_,rfl,rfl,T2 _ _ g1,g2',line _ _ (by rw[List.length_map];omega) (by show 1≤60;decide),fun x3 L3 T3 g3=>?_⟩
 refine⟨_,rfl,_,rfl,_,_,rfl,rfl,_,rfl,a,_,rfl,T3 _ _ (T2 _ _ (T1 _ _ ea)),fun x4 L4 T4 g4=>?_⟩
 rw[cutI_C] at g4
 refine⟨x3,x4,_,_,rfl,rfl,T4 _ _ g3,g4,line _ _ (by rw[List.length_append,List.length_map];show _ + 1≤60;omega) (by rw[List.length_map];omega),fun x5 L5 T5 g5=>?_⟩
 have g5':L5 x5=some (.tup ((hs.take pl++[hV hs pl + up]++hs.drop (pl + 1)).map V.int)):=by rw[g5,List.map_append,List.map_append];rfl
 have V5:=T1.trans (T2.trans (T3.trans (T4.trans T5)))
 refine⟨_,rfl,(by show 2≤1000;decide),fun y1 L6 T6 f6 g6=>?_⟩
 have V6:=V5.trans T6
 refine⟨_,rfl,_,rfl,_,rfl,a,_,rfl,V6 _ _ ea,fun x6 L7 T7 g7=>?_⟩
 rw[show cutV (hs.map V.int) none (some (-1))=m5.map V.int from c5] at g7
 have V7:=V6.trans T7
 refine⟨_,rfl,(by show 2≤1000;decide),fun y2 L8 T8 f8 g8=>?_⟩
 have V8:=V7.trans T8
 refine⟨(by show 2≤1000;decide),fun lS L9 T9 f9 g9=>?_⟩
 have V9:=V8.trans T9
 have r1:PrX L9 (.ref y1):=⟨(_,tr),y1,x5,b,rfl,T9 _ _ (T8 _ _ (T7 _ _ g6)),T9 _ _ (T8 _ _ (T7 _ _ (T6 _ _ g5'))),V9 _ _ eb,by show (_++_++_:List Int).length≤24;rw[List.length_append,List.length_append];exact lAB,by show tr.length≤24;omega⟩
 have r2:PrX L9 (.ref y2):=⟨(m5,tr),y2,x6,b,rfl,T9 _ _ g8,T9 _ _ (T8 _ _ g7),V9 _ _ eb,by show m5.length≤24;omega,by show tr.length≤24;omega⟩
 have pS:lS≠p:=npot (p5.same V8) f9
 have ext:∀ {X X':Hp} {zs:List V},But lS X X'->X lS=some (.lst zs)->Pot X p->TupKeep X X'∧Pot X' p:=fun b e pp=>⟨fun x us e'=>b _ _ (fun z=>by rw[z,e] at e';cases e') e',by obtain⟨x,y,e',r⟩:=pp;exact⟨x,y,b _ _ (Ne.symm pS) e',r⟩⟩
 refine⟨_,rfl,.inl ⟨rfl,_,SqL.of g9⟩,_,rfl,_,rfl,_,rfl,_,rfl,b,_,rfl,V9 _ _ eb,fun x7 M1 U1 k1=>?_⟩
 rw[cutF_A] at k1
 refine⟨_,rfl,(by show 1≤1000;decide),fun x8 M2 U2 _ k2=>?_⟩
 refine⟨x7,x8,_,_,rfl,rfl,U2 _ _ k1,k2,line _ _ (by rw[List.length_map];omega) (by show 1≤60;decide),fun x9 M3 U3 k3=>?_⟩
 refine⟨_,rfl,_,rfl,_,_,rfl,rfl,_,rfl,b,_,rfl,U3 _ _ (U2 _ _ (U1 _ _ (V9 _ _ eb))),fun x10 M4 U4 k4=>?_⟩
 rw[cutF_C] at k4
 refine⟨x9,x10,_,_,rfl,rfl,U4 _ _ k3,k4,line _ _ (by rw[List.length_append,List.length_map];show _ + 1≤60;omega) (by rw[List.length_map];omega),fun x11 M5 U5 k5=>?_⟩
 have k5':M5 x11=some (.tup ((tr.take pl++[ah]++tr.drop (pl + 1)).map ov)):=by rw[k5,List.map_append,List.map_append];rfl
 have W5:=U1.trans (U2.trans (U3.trans (U4.trans U5)))
 refine⟨(by show 2≤1000;decide),fun y3 M6 U6 _ k6=>?_⟩
 have W6:=W5.trans U6
 refine⟨_,rfl,_,rfl,_,rfl,_,rfl,b,_,rfl,W6 _ _ (V9 _ _ eb),fun x12 M7 U7 k7=>?_⟩
 rw[cutF_A] at k7
 refine⟨(by show 2≤1000;decide),fun y4 M8 U8 _ k8=>?_⟩
 refine⟨(by show 2≤1000;decide),fun lx M9 U9 _ k9=>?_⟩
 have W9:=W6.trans (U7.trans (U8.trans U9))
 have V19:=V9.trans W9
 refine⟨lS,lx,_,_,rfl,rfl,W9 _ _ g9,k9,(by show 2 + 2≤1000;decide),fun N1 bN1 eN1=>?_⟩
 obtain⟨tkN1,pN1⟩:=ext bN1 (W9 _ _ g9) (p5.same V19)
 have r3:PrX N1 (.ref y3):=PrX.tk tkN1 ⟨(hs,_),y3,a,x11,rfl,U9 _ _ (U8 _ _ (U7 _ _ k6)),V19 _ _ ea,U9 _ _ (U8 _ _ (U7 _ _ (U6 _ _ k5'))),by show hs.length≤24;omega,by show (_++_++_:List (Option Int)).length≤24;rw[List.length_append,List.length_append];exact lCD⟩
 have r4:PrX N1 (.ref y4):=PrX.tk tkN1 ⟨(hs,tr.take pl),y4,a,x12,rfl,U9 _ _ k8,V19 _ _ ea,U9 _ _ (U8 _ _ k7),by show hs.length≤24;omega,lC⟩
 have tkL1:TupKeep L9 N1:=fun x us e=>tkN1 _ _ (W9 _ _ e)
 have tkK1:TupKeep K3 N1:=fun x us e=>tkL1 _ _ (V9 _ _ e)
 refine⟨_,rfl,.inl ⟨rfl,_,SqL.of eN1⟩,_,rfl,a,rfl,⟨_,SqT.of (tkK1 _ _ ea)⟩,?_⟩
 refine comp_tup (tkK1 _ _ ea) (fun σ'=>∃ o,σ'=[o,some (.int up)]) (fun i v _=>v=.int (hV hs i + up)) (by rw[List.length_map];omega) (by exact⟨none,rfl⟩) (fun _ _ _ _ _ h=>h) (fun i x σ' H' hx s2 sg C hC=>?_) (fun L ys O1 hL R1 hH hly hys=>?_)
 ·obtain⟨o,rfl⟩:=sg
  have hi:i < hs.length:=by have:=(List.getElem?_eq_some_iff.mp hx).1;rw[List.length_map] at this;exact this
  have ex:x=.int (hV hs i):=by
   rw[List.getElem?_map,List.getElem?_eq_getElem hi] at hx
   unfold hV
   rw[List.getD_eq_getElem?_getD,List.getElem?_eq_getElem hi]
   exact (Option.some.inj hx).symm
  rw[ex]
  exact⟨_,rfl,_,rfl,_,_,rfl,rfl,hC _ _ _ ⟨_,rfl⟩ (Same.refl _) rfl⟩
 obtain⟨hs2,rfl⟩:=AllI.of (xs:=ys) fun x hx=>by
  obtain⟨k,hk⟩:=List.getElem?_of_mem hx
  exact⟨_,hys k x hk⟩
 rw[List.length_map,List.length_map] at hly
 refine⟨L,_,rfl,hH,fun x13 O2 R2 _ k13=>⟨_,rfl,(by show 2≤1000;decide),fun y5 O3 R3 _ k14=>?_⟩⟩
 have R13:=R1.trans (R2.trans R3)
 refine⟨_,rfl,_,rfl,t,_,_,_,rfl,rfl,SqT.of (R13 _ _ (tkK1 _ _ ht4)),hatO,c',_,_,_,rfl,rfl,SqT.of (R13 _ _ (tkK1 _ _ ec4')),rfl,_,rfl,(by show 2≤1000;decide),fun y6 O4 R4 _ k15=>?_⟩
 refine⟨(by show 2≤1000;decide),fun lx2 O5 R5 _ k16=>?_⟩
 have R15:=R13.trans (R4.trans R5)
 have eO5:=R15 _ _ eN1
 refine⟨lS,lx2,_,_,rfl,rfl,eO5,k16,(by show 4 + 2≤1000;decide),fun N2 bN2 eN2=>?_⟩
 obtain⟨tkN2,pN2⟩:=ext bN2 eO5 (pN1.same R15)
 have r5:PrX N2 (.ref y5):=PrX.tk tkN2 ⟨(hs2,tr),y5,x13,b,rfl,R5 _ _ (R4 _ _ k14),R5 _ _ (R4 _ _ (R3 _ _ k13)),R15 _ _ (tkK1 _ _ eb),by show hs2.length≤24;omega,by show tr.length≤24;omega⟩
 have r6:PrX N2 (.ref y6):=PrX.tk tkN2 ⟨(hs',tr),y6,a',b,rfl,R5 _ _ k15,R15 _ _ (tkK1 _ _ ea'),R15 _ _ (tkK1 _ _ eb),by show hs'.length≤24;omega,by show tr.length≤24;omega⟩
 have tk12:TupKeep N1 N2:=fun x us e=>tkN2 _ _ (R15 _ _ e)
 have tkK2:TupKeep K3 N2:=fun x us e=>tk12 _ _ (tkK1 _ _ e)
 refine⟨_,rfl,.inl ⟨rfl,_,SqL.of eN2⟩,_,rfl,_,rfl,_,rfl,t,_,_,_,rfl,rfl,SqT.of (tkK2 _ _ ht4),hatO,c',_,_,_,rfl,rfl,SqT.of (tkK2 _ _ ec4'),rfl,(by show 2≤1000;decide),fun y7 P1 X1 _ q1=>?_⟩
 refine⟨(by show 1≤1000;decide),fun x14 P2 X2 _ q2=>⟨_,rfl,x14,n,_,rfl,rfl,q2,n1,by omega,(by show 1 * n.toNat≤1000;omega),(by simp),fun x15 P3 X3 q3=>?_⟩⟩
 have q3':P3 x15=some (.tup ((List.replicate n.toNat (0:Int)).map V.int)):=by
  rw[q3,rep_one,List.map_replicate]
 refine⟨_,rfl,(by show 2≤1000;decide),fun y8 P4 X4 _ q4=>⟨(by show 2≤1000;decide),fun lx3 P5 X5 _ q5=>?_⟩⟩
 have X15:=X1.trans (X2.trans (X3.trans (X4.trans X5)))
 have eP5:=X15 _ _ eN2
 refine⟨lS,lx3,_,_,rfl,rfl,eP5,q5,(by show 6 + 2≤1000;decide),fun N3 bN3 eN3=>?_⟩
 obtain⟨tkN3,pN3⟩:=ext bN3 eP5 (pN2.same X15)
 have r7:PrX N3 (.ref y7):=PrX.tk tkN3 ⟨(hs,tr'),y7,a,b',rfl,X5 _ _ (X4 _ _ (X3 _ _ (X2 _ _ q1))),X15 _ _ (tkK2 _ _ ea),X15 _ _ (tkK2 _ _ eb'),by show hs.length≤24;omega,by show tr'.length≤24;omega⟩
 have r8:PrX N3 (.ref y8):=PrX.tk tkN3 ⟨(_,tr),y8,x15,b,rfl,X5 _ _ q4,X5 _ _ (X4 _ _ q3'),X15 _ _ (tkK2 _ _ eb),by show (List.replicate n.toNat (0:Int)).length≤24;rw[List.length_replicate];omega,by show tr.length≤24;omega⟩
 have tk23:TupKeep N2 N3:=fun x us e=>tkN3 _ _ (X15 _ _ e)
 have tkK3:TupKeep K3 N3:=fun x us e=>tk23 _ _ (tkK2 _ _ e)
 have BN:But p H N3:=fun x o na e=>by
  have e8:=V8 _ _ (BK _ _ na e)
  have ns:x≠lS:=fun z=>by rw[z,f9] at e8;cases e8
  exact bN3 _ _ ns (X15 _ _ (bN2 _ _ ns (R15 _ _ (bN1 _ _ ns (W9 _ _ (T9 _ _ e8))))))
 refine⟨_,rfl,p,11,rfl,pN3,by decide,by decide,fun wy N4 w0 w1 b6 p6=>?_⟩
 have tk4:=pot_tup b6 pN3
 have B4:=BN.trans b6
 have tkK4:TupKeep K3 N4:=fun x us e=>tk4 _ _ (tkK3 _ _ e)
 have ht5:=tkK4 _ _ ht4
 have hvs5:∀ v ∈ vs,PrX N4 v:=fun v hv=>(hvs4 v hv).tk tkK4
 have eS:=b6 _ _ pS eN3
 refine⟨_,rfl,_,_,rfl,rfl,_,rfl,?_⟩
 have lTk:(vs.take at_).length≤24:=by rw[List.length_take];omega
 have lDr:(vs.drop (at_ + 1)).length≤24:=by rw[List.length_drop];omega
 have lTD:(vs.take at_).length + 1 + (vs.drop (at_ + 1)).length≤24:=by rw[List.length_take,List.length_drop];omega
 have inT:∀ v ∈ vs.take at_,PrX N4 v:=fun v hv=>hvs5 v (List.mem_of_mem_take hv)
 have inD:∀ v ∈ vs.drop (at_ + 1),PrX N4 v:=fun v hv=>hvs5 v (List.mem_of_mem_drop hv)
 have fin:∀ {X:Hp} {z:Addr} {us:List V},Same N4 X->X z=some (.tup us)->us.length≤25->(∀ v ∈ us,PrX X v)->Q (.ref z) X:=fun S e l h=>by
  obtain⟨pp,hpp⟩:=prx_pp e l h
  exact q _ _ pp (B4.trans (Same.but S)) (p6.same S) hpp
 have cA:cutV vs none (some (at_:Int))=vs.take at_:=cut_toK ..
 have cC:cutV vs (some ((at_:Int) + 1)) none=vs.drop (at_ + 1):=by rw[show (at_:Int) + 1=((at_ + 1:Nat):Int) from rfl,cut_fromK]
 by_cases w8:wy < 8
 ·rw[decide_eq_true w8]
  refine iteT ?_
  refine⟨_,rfl,_,rfl,_,rfl,t,_,rfl,ht5,fun z1 Y1 Z1 h1=>?_⟩
  rw[cA] at h1
  obtain⟨sv,hsv,esv⟩:=atI_in (xs:=([V.ref y1,V.ref y2]++[V.ref y3,V.ref y4]++[V.ref y5,V.ref y6]++[V.ref y7,V.ref y8]:List V)) w0 (by show wy < 8;exact w8)
  have rsv:PrX N4 sv:=by
   simp only [List.cons_append,List.nil_append,List.mem_cons,List.not_mem_nil,or_false] at hsv
   have k0:TupKeep L9 N4:=fun x us e=>tk4 _ _ (tk23 _ _ (tk12 _ _ (tkL1 _ _ e)))
   have k1:TupKeep N1 N4:=fun x us e=>tk4 _ _ (tk23 _ _ (tk12 _ _ e))
   have k2:TupKeep N2 N4:=fun x us e=>tk4 _ _ (tk23 _ _ e)
   rcases hsv with rfl | rfl | rfl | rfl | rfl | rfl | rfl | rfl
   ·exact r1.tk k0
   ·exact r2.tk k0
   ·exact r3.tk k1
   ·exact r4.tk k1
   ·exact r5.tk k2
   ·exact r6.tk k2
   ·exact r7.tk tk4
   ·exact r8.tk tk4
  refine⟨_,rfl,_,rfl,lS,_,wy,sv,rfl,rfl,SqL.of (Z1 _ _ eS),esv,(by show 1≤1000;decide),fun z2 Y2 Z2 _ h2=>?_⟩
  refine⟨z1,z2,_,_,rfl,rfl,Z2 _ _ h1,h2,line _ _ (by omega) (by show 1≤60;decide),fun z3 Y3 Z3 h3=>?_⟩
  have Z13:=Z1.trans (Z2.trans Z3)
  refine⟨_,rfl,_,rfl,_,_,rfl,rfl,_,rfl,t,_,rfl,Z13 _ _ ht5,fun z4 Y4 Z4 h4=>?_⟩
  rw[cC] at h4
  refine⟨z3,z4,_,_,rfl,rfl,Z4 _ _ h3,h4,line _ _ (by rw[List.length_append];show _ + 1≤60;omega) (by omega),fun z5 Y5 Z5 h5'=>?_⟩
  have Z15:=Z13.trans (Z4.trans Z5)
  refine fin Z15 h5' (by rw[List.length_append,List.length_append];exact Nat.le_trans lTD (by decide)) fun v hv=>?_
  refine PrX.tk (fun x us e=>Z15 _ _ e) ?_
  rcases List.mem_append.mp hv with z | z
  ·rcases List.mem_append.mp z with z | z
   ·exact inT v z
   ·rw[List.mem_singleton.mp z];exact rsv
  ·exact inD v z
 rw[decide_eq_false w8]
 refine iteF ?_
 have cB:cutV vs (some (at_:Int)) none=vs.drop at_:=cut_fromK ..
 have cM:∀ v ∈ cutV vs (some (at_:Int)) (some ((at_:Int) + 1)),PrX N4 v:=fun v hv=>hvs5 v (cut_mem hv)
 have lM:(cutV vs (some (at_:Int)) (some ((at_:Int) + 1))).length≤1:=by
  unfold cutV
  rw[show (at_:Int) + 1=((at_ + 1:Nat):Int) by omega,HT.sIx_nat,HT.sIx_nat,List.length_take,List.length_drop]
  omega
 refine⟨_,rfl,_,rfl,_,rfl,t,_,rfl,ht5,fun z1 Y1 Z1 h1=>?_⟩
 rw[cA] at h1
 refine⟨_,rfl,_,rfl,_,_,rfl,rfl,_,rfl,t,_,rfl,Z1 _ _ ht5,fun z2 Y2 Z2 h2=>?_⟩
 rw[cC] at h2
 refine⟨z1,z2,_,_,rfl,rfl,Z2 _ _ h1,h2,line _ _ (by omega) (by omega),fun z3 Y3 Z3 h3=>?_⟩
 have Z13:=Z1.trans (Z2.trans Z3)
 refine⟨_,rfl,_,rfl,_,rfl,_,rfl,_,rfl,_,_,rfl,rfl,_,rfl,t,_,rfl,Z13 _ _ ht5,fun z4 Y4 Z4 h4=>?_⟩
 refine⟨t,z4,_,_,rfl,rfl,Z4 _ _ (Z13 _ _ ht5),h4,line _ _ (by omega) (by omega),fun z5 Y5 Z5 h5'=>?_⟩
 have Z15:=Z13.trans (Z4.trans Z5)
 refine⟨_,rfl,_,rfl,_,rfl,t,_,rfl,Z15 _ _ ht5,fun z6 Y6 Z6 h6=>?_⟩
 rw[cB] at h6
 refine⟨_,rfl,_,rfl,_,rfl,t,_,rfl,Z6 _ _ (Z15 _ _ ht5),fun z7 Y7 Z7 h7=>?_⟩
 rw[cA] at h7
 refine⟨z6,z7,_,_,rfl,rfl,Z7 _ _ h6,h7,line _ _ (by rw[List.length_drop];omega) (by omega),fun z8 Y8 Z8 h8=>?_⟩
 have Z58:=Z6.trans (Z7.trans Z8)
 refine⟨(by show 3≤1000;decide),fun lz Y9 Z9 _ h9=>?_⟩
 have Z19:=Z15.trans (Z58.trans Z9)
 have e3':=Z9 _ _ (Z58 _ _ (Z5 _ _ (Z4 _ _ h3)))
 have e5':=Z9 _ _ (Z58 _ _ h5')
 have e8':=Z9 _ _ h8
 refine⟨_,rfl,_,_,rfl,rfl,?_⟩
 have wc:wy - 8=0∨wy - 8=1∨wy - 8=2:=by omega
 have up9:∀ {v:V},PrX N4 v->PrX Y9 v:=fun h=>h.tk fun x us e=>Z19 _ _ e
 rcases wc with wc | wc | wc
 ·refine⟨lz,_,_,.ref z3,rfl,rfl,SqL.of h9,by rw[wc];rfl,fin Z19 e3' (by rw[List.length_append];omega) fun v hv=>up9 ?_⟩
  rcases List.mem_append.mp hv with z | z
  ·exact inT v z
  ·exact inD v z
 ·refine⟨lz,_,_,.ref z5,rfl,rfl,SqL.of h9,by rw[wc];rfl,fin Z19 e5' (by rw[List.length_append];omega) fun v hv=>up9 ?_⟩
  rcases List.mem_append.mp hv with z | z
  ·exact hvs5 v z
  ·exact cM v z
 ·refine⟨lz,_,_,.ref z8,rfl,rfl,SqL.of h9,by rw[wc];rfl,fin Z19 e8' (by rw[List.length_append,List.length_drop,List.length_take];omega) fun v hv=>up9 ?_⟩
  rcases List.mem_append.mp hv with z | z
  ·exact hvs5 v (List.mem_of_mem_drop z)
  ·exact inT v z
def spLaw (K:PySem.W.Frag):Sp:=fun vs H Q _=>∃ (a:Addr) (ns:List Int),vs=[.ref a]∧SqL K H a (ns.map V.int)∧ns.length≤63∧∀ H',Q (.bl true) H'
theorem ok_law {f:Addr} {fd:FuncData} (T:Bi mg) (F:Fun K "law" "law" s_law f fd) (O__law_pot:Ok P w K mg base 6 "_law_pot" ["script","k"] (spPot K)) (O__law_most:Ok P w K mg base 6 "_law_most" ["pot","k"] spMost) (O__law_take:Ok P w K mg base 6 "_law_take" ["pot","many"] spTake) (O__law_plain:Ok P w K mg base 6 "_law_plain" ["pot","most"] (spPlain52 K))
  (O__law_keep:Ok P w K mg base 6 "_law_keep" ["pot","web"] (spKeep K)) (O__law_tree_keep:Ok P w K mg base 6 "_law_tree_keep" ["web","roots"] (spTKeep K)) (O__law_made:Ok P w K mg base 6 "_law_made" ["pot","web","keep"] (spMade K)) (O__law_spoilt:Ok P w K mg base 6 "_law_spoilt" ["pot","n","paper"] (spSpo K)) (O_more_right:Ok P w K mg base 6 "more_right" ["web","keep","m","paper"] (spMoreA K)) (O__law_due:Ok P w K mg base 6 "_law_due" ["web","keep","m","paper"] (spDue K)) (O__law_truth:Ok P w K mg base 6 "_law_truth" ["found","due"] spTruth):FnOk P w K mg base CX0 7 f fd ["script"] (spLaw K):=by
 refine F.ok (k:=6) sc_law (fun vs H Q E h=>?_) (fun cdv A outer s H vs Q E hr h=>?_)
 ·obtain⟨a,ns,rfl,_⟩:=h
  rfl
 obtain⟨a,ns,rfl,hS,h63,q⟩:=h
 have nd:=sc_law.nd
 have hl:(ns.map V.int).length=ns.length:=List.length_map _
 refine⟨_,(pss_cons (ps_for PassesOwn.never rfl (pi_range1 rfl T.z_range (pa_cons (pe_callB (call_max2 rfl) rfl T.z_max (by decide +kernel) (pa_cons pe_int (pa_cons (pe_callB (call_min2 rfl) rfl T.z_min (by decide +kernel) (pa_cons pe_int (pa_cons (pe_callB call_len_seq rfl T.z_len (by decide +kernel) (pa_cons (pv 0) pa_nil)) pa_nil))) pa_nil))) pa_nil)) (pg_name (i:=1) nd rfl (Or.inl rfl)) (pss_cons (ps_set (i:=2) nd rfl (Or.inl rfl) (pe_callD O__law_pot hr rfl (pa_cons (pv 0) (pa_cons (pv 1) pa_nil)))) (pss_cons (ps_set (i:=3) nd rfl (Or.inl rfl) (pe_callD O__law_plain hr rfl (pa_cons (pv 2) (pa_cons (pe_callD O__law_most hr rfl (pa_cons (pv 2) (pa_cons (pv 1) pa_nil))) pa_nil)))) (pss_one (ps_for PassesOwn.never rfl (pi_list (pe_lstG (pa_cons (pe_callD O__law_keep hr rfl (pa_cons (pv 2) (pa_cons (pv 3) pa_nil))) (pa_cons (pe_callD O__law_tree_keep hr rfl (pa_cons (pv 3) (pa_cons (pe_lstG (pa_cons (pe_callD O__law_take hr rfl (pa_cons (pv 2) (pa_cons (pe_ix ix_tup (pv 3) pe_int (fun _ _=>rfl)) pa_nil))) (pa_cons (pe_callD O__law_take hr rfl (pa_cons (pv 2) (pa_cons (pe_ix ix_tup (pv 3) pe_int (fun _ _=>rfl)) pa_nil))) pa_nil))) pa_nil))) pa_nil)))) (pg_name (i:=4) nd rfl (Or.inl rfl)) (pss_cons (ps_set (i:=5) nd rfl (Or.inl rfl) (pe_callD O__law_made hr rfl (pa_cons (pv 2) (pa_cons (pv 3) (pa_cons (pv 4) pa_nil))))) (pss_one (ps_for PassesOwn.never rfl (pi_range1 rfl T.z_range (pa_cons pe_int pa_nil)) (pg_name (i:=6) nd rfl (Or.inl rfl)) (pss_cons (ps_set (i:=7) nd rfl (Or.inl rfl) (pv 5)) (pss_cons (ps_if (pt_cmpR op_gt (pv 6) pe_int (nomark _)) (pss_one (ps_set (i:=7) nd rfl (Or.inl rfl) (pe_callD O__law_spoilt hr rfl (pa_cons (pv 2) (pa_cons (pe_ix ix_tup (pv 3) pe_int (fun _ _=>rfl)) (pa_cons (pv 5) pa_nil)))))) pss_nil) (pss_one (ps_for PassesOwn.never rfl (pi_list (pe_lstG (pa_cons (pe_callD O__law_take hr rfl (pa_cons (pv 2) (pa_cons pe_int pa_nil))) (pa_cons pe_int pa_nil)))) (pg_name (i:=8) nd rfl (Or.inl rfl)) (pss_one (ps_if (pt_not (pt_val (pe_callD O__law_truth hr rfl (pa_cons (pe_callD O_more_right hr rfl (pa_cons (pv 3) (pa_cons (pv 4) (pa_cons (pv 8) (pa_cons (pv 7) pa_nil))))) (pa_cons (pe_callD O__law_due hr rfl (pa_cons (pv 3) (pa_cons (pv 4) (pa_cons (pv 8) (pa_cons (pv 7) pa_nil))))) pa_nil))))) (pss_one (ps_ret pe_bl)) pss_nil)))))))))))))) (pss_one (ps_ret pe_bl))),?_⟩
 refine⟨_,rfl,a,_,rfl,.inl hS,_,_,rfl,_,_,rfl,_,rfl,?_,?_,?_⟩
 ·split <;> split <;> omega
 ·rw[hl];split <;> split <;> omega
 generalize hj:(if (if (((ns.map V.int).length:Nat):Int) < 5 then (((ns.map V.int).length:Nat):Int) else 5) > 1 then (if (((ns.map V.int).length:Nat):Int) < 5 then (((ns.map V.int).length:Nat):Int) else 5) else 1)=j
 have j12:j≤5:=by rw[← hj];split <;> split <;> omega
 refine for_range (n:=j.toNat) (fun i σ H'=>∃ x1 x2 x3 x4 x5 x6 x7 x8:Option V,σ=[some (.ref a),x1,x2,x3,x4,x5,x6,x7,x8]∧Same H H') ⟨none,none,none,none,none,none,none,none,rfl,Same.refl H⟩ ?turn (fun σ H' _=>q H')
 rintro i σ H0 hi ⟨x1,x2,x3,x4,x5,x6,x7,x8,rfl,s0⟩
 refine⟨_,rfl,_,rfl,a,_,ns,rfl,s0.seq hS,by omega,by omega,fun l H1 s1 fl p1=>?_⟩
 have s01:Same H H1:=s0.trans s1
 have fl0:H l=none:=s0.free fl
 refine⟨_,rfl,_,rfl,_,rfl,l,_,rfl,p1,fun m H1' b2 p2 m1 m24=>⟨l,m,rfl,p2,m1,m24,fun wv H2 n ts b3 p3 ok isw=>?_⟩⟩
 have few60:=ok.few
 have n1:=ok.n1
 have n24:=ok.n24
 have B2:But l H1 H2:=b2.trans b3
 have tkb:∀ {J J':Hp},But l J J'->Pot J l->TupKeep J J':=fun b pp=>by
  obtain⟨xs,e⟩:=pp.lst
  exact fun a ys h=>b _ _ (fun z=>by rw[z,e] at h;cases h) h
 have isB:∀ {J J':Hp},TupKeep J J'->Is K J (webD n (ones ts)) wv->Is K J' (webD n (ones ts)) wv:=fun k h=>Is.tk k _ (tup_web n (ones ts)) h
 obtain⟨g0,g,ws,rfl,hg0,hg,hall,hlw⟩:=web_parts isw
  -- the two keeps
 refine⟨_,rfl,_,rfl,l,n,ones ts,_,rfl,p3,isw,by rw[ones_len];exact few60,fun kv J3 ks b5 q3 ko isk=>?_⟩
 rw[ones_len] at ko
 have tk3:=tkb b5 p3
 obtain⟨kp,rfl,hkp⟩:=keep_parts isk
 rw[← natV_keep] at hkp
 have is3:=isB tk3 isw
 have hg3:=tk3 _ _ hg0
 refine⟨_,rfl,_,rfl,_,rfl,g0,_,_,_,rfl,rfl,SqT.of hg3,rfl,l,n,rfl,q3,by omega,by omega,fun r2 J4 r20 r21 b6 q4=>?_⟩
 have tk4:=tkb b6 q3
 refine⟨_,rfl,_,rfl,g0,_,_,_,rfl,rfl,SqT.of (tk4 _ _ hg3),rfl,l,n,rfl,q4,by omega,by omega,fun r3 J5 r30 r31 b7 q5=>⟨(by show 2≤1000;decide),fun lr J6 S6 f6 e6=>?_⟩⟩
 have tk5:=tkb b7 q4
 have is5:=isB tk5 (isB tk4 is3)
 refine⟨n,ones ts,_,lr,[r2,r3],rfl,Is.same S6 _ is5,ones_ok ok,e6,by simp,(fun r hr=>by
  simp only [List.mem_cons,List.not_mem_nil,or_false] at hr
  rcases hr with rfl | rfl <;> omega),fun v2 J7 S7 kv2=>?_⟩
 rw[ones_len] at kv2
 refine⟨(by show 2≤1000;decide),fun lk J8 S8 f8 e8=>⟨lk,rfl,⟨_,SqL.of e8⟩,?_⟩⟩
 have S58:=S6.trans (S7.trans S8)
 have is8:=Is.same S58 _ is5
 have q8:=q5.same S58
 have tk38:TupKeep J3 J8:=fun a us e=>S58 _ _ (tk5 _ _ (tk4 _ _ e))
 have nlk:lk≠l:=fun z=>by
  obtain⟨xs,e⟩:=(q5.same (S6.trans S7)).lst
  rw[z,e] at f8;cases f8
 have B8:∀ b o,H b=some o->J8 b=some o:=fun b o e=>by
  have nl:=ne_of_none e fl0
  exact S58 _ _ (b7 _ _ nl (b6 _ _ nl (b5 _ _ nl (B2 _ _ nl (s01 _ _ e)))))
 have rows:∀ v ∈ [V.ref kp,v2],KeepV J8 ts.length v:=fun v hv=>by
  simp only [List.mem_cons,List.not_mem_nil,or_false] at hv
  rcases hv with rfl | rfl
  ·exact⟨kp,ks,rfl,tk38 _ _ hkp,ko⟩
  ·exact kv2.tk fun a us e=>S8 _ _ e
 refine for_list (xs:=[V.ref kp,v2]) (fun i' σ J=>∃ y4 y5 y6 y7 y8:Option V,σ=[some (.ref a),some (.int (0 + (i:Int))),some (.ref l),some (.ref g0),y4,y5,y6,y7,y8]∧But l J8 J∧Pot J l) ⟨_,_,_,_,_,rfl,But.refl,q8⟩ (fun i' σ J _ h=>?_) (fun i' x σ J hx h=>?_) (fun σ J h=>?_)
 ·obtain⟨y4,y5,y6,y7,y8,rfl,bt,_⟩:=h
  exact SqL.of (bt _ _ nlk e8)
 ·obtain⟨y4,y5,y6,y7,y8,rfl,bt,pt⟩:=h
  have tkJ:=tkb bt q8
  obtain⟨kq,kk,rfl,hkq,kko⟩:=(rows x (List.mem_of_getElem? hx)).tk tkJ
  have wkJ:WK K J n (ones ts) kk (.ref g0) (.ref kq):=⟨isB tkJ is8,ones_ok ok,is_nkeepL hkq,by rw[ones_len];exact kko⟩
  refine⟨_,rfl,_,rfl,_,rfl,l,n,ones ts,kk,_,_,rfl,pt,wkJ,fun md Ja ba pa mda=>?_⟩
  have tka:=tkb ba pt
  have hka:=tka _ _ hkq
  have wka:WK K Ja n (ones ts) kk (.ref g0) (.ref kq):=⟨isB tka wkJ.1,ones_ok ok,is_nkeepL hka,by rw[ones_len];exact kko⟩
  have gJa:=tka _ _ (tkJ _ _ (tk38 _ _ hg3))
  refine⟨6,rfl,by decide,by decide,?_⟩
  refine for_range (n:=(6:Int).toNat) (lo:=0) (fun i2 σ J'=>∃ y6 y7 y8:Option V,σ=[some (.ref a),some (.int (0 + (i:Int))),some (.ref l),some (.ref g0),some (.ref kq),some (.ref md),y6,y7,y8]∧But l Ja J'∧Pot J' l) ⟨_,_,_,rfl,But.refl,pa⟩ (fun i2 σ J' hi2 h=>?_) (fun σ J' h=>?_)
  ·obtain⟨y6,y7,y8,rfl,bb,pb⟩:=h
   have tkb':=tkb bb pa
   have mdb:=mda.tk tkb'
   refine⟨_,rfl,_,rfl,_,_,rfl,rfl,_,rfl,?_⟩
   apply brT2 (A:=fun (x:Addr) (Jc:Hp)=>But l Ja Jc∧Pot Jc l∧∃ pp,PpV Jc x pp)
   case main =>
    intro tail
    by_cases z:(0:Int) + (i2:Int) > 0
    ·rw[decide_eq_true z]
     refine iteT ⟨_,rfl,_,rfl,g0,_,_,_,rfl,rfl,SqT.of (tkb' _ _ gJa),rfl,_,rfl,l,md,n,rfl,pb,n1,n24,mdb,fun x Jc pp bc pc hpp=>?_⟩
     exact tail x Jc ⟨bb.trans bc,pc,pp,hpp⟩
    ·rw[decide_eq_false z]
     refine iteF ?_
     obtain⟨vs,e1,e2,e3⟩:=mdb
     exact tail md J' ⟨bb,pb,prx_pp e1 (by omega) fun v hv=>by obtain⟨x,h,_⟩:=e3 v hv;exact⟨x,h⟩⟩
   case tail =>
    rintro x Jc ⟨bc,pc,pp,hpp⟩
    have tkc:=tkb bc pa
    have wkc:WK K Jc n (ones ts) kk (.ref g0) (.ref kq):=⟨isB tkc wka.1,ones_ok ok,is_nkeepL (tkc _ _ hka),by rw[ones_len];exact kko⟩
    refine⟨_,rfl,l,9,rfl,pc,by decide,by decide,fun r4 Jd r40 r41 bd pd=>⟨(by show 2≤1000;decide),fun lm Je Se fe ee=>⟨lm,rfl,⟨_,SqL.of ee⟩,?_⟩⟩⟩
    have tkd:TupKeep Jc Je:=fun a us e=>Se _ _ (tkb bd pc _ _ e)
    have wke:WK K Je n (ones ts) kk (.ref g0) (.ref kq):=⟨isB tkd wkc.1,ones_ok ok,is_nkeepL (tkd _ _ (tkc _ _ hka)),by rw[ones_len];exact kko⟩
    have hpe:=hpp.tk tkd
    have pe:=pd.same Se
    refine for_list (xs:=([r4,23]:List Int).map V.int) (fun i3 σ J'=>∃ y8:Option V,σ=[some (.ref a),some (.int (0 + (i:Int))),some (.ref l),some (.ref g0),some (.ref kq),some (.ref md),some (.int (0 + (i2:Int))),some (.ref x),y8]∧Same Je J') ⟨_,rfl,Same.refl _⟩ (fun i3 σ J' _ h=>?_) (fun i3 v σ J' hv h=>?_) (fun σ J' h=>?_)
    ·obtain⟨y8,rfl,sm⟩:=h
     exact SqL.of (sm _ _ ee)
    ·obtain⟨y8,rfl,sm⟩:=h
     rw[List.getElem?_map] at hv
     obtain⟨m,hm,rfl⟩:=Option.map_eq_some_iff.mp hv
     refine⟨_,rfl,_,rfl,_,rfl,_,rfl,n,ts,kk,_,_,m,x,pp,rfl,wke.same sm,hpe.tk fun a us e=>sm _ _ e,fun J9 S9=>?_⟩
     have s9:=sm.trans S9
     refine⟨_,rfl,_,rfl,_,rfl,_,rfl,n,ts,kk,_,_,m,x,pp,rfl,wke.same s9,hpe.tk fun a us e=>s9 _ _ e,fun J10 S10=>⟨_,_,rfl,?_⟩⟩
     rw[decide_eq_true rfl]
     exact⟨_,rfl,iteF ⟨_,rfl,s9.trans S10⟩⟩
    ·obtain⟨y8,rfl,sm⟩:=h
     exact⟨_,_,_,rfl,bc.trans (bd.trans (Same.but (Se.trans sm))),pe.same sm⟩
  ·obtain⟨y6,y7,y8,rfl,bb,pb⟩:=h
   exact⟨_,_,_,_,_,rfl,bt.trans (ba.trans bb),pb⟩
 ·obtain⟨y4,y5,y6,y7,y8,rfl,bt,_⟩:=h
  exact⟨_,_,_,_,_,_,_,_,rfl,fun b o e=>bt _ _ (ne_of_none e fl0) (B8 _ _ e)⟩
end
end Me
namespace Me
open PySem PySem.Spec PyProof.Rows L2 L3
theorem def_mk {K:PySem.W.Frag} {h:Heap} {mg:Str->Option Value} {x:Str} {st:Stmt} {ps:List Str} {f:Addr} {od an:Option Addr} {sl:Array (Option Value)} {oc kV dc pm cd ct:Value} (X:K.In h) (G:h.Ns mainGlobals mg)
  (b:∀ (kV doc pm:Value) (an:Option Addr) (cdv ct:Value) (us:List Value),us.length=ps.length->bindArgs (PySem.W.fnOf x x (defArgs st) (defBody st) (defScope st) .none kV doc pm an cdv ct) ⟨us,[]⟩=pure (ps.zip us))
  (a:PySem.W.nsIn K mainGlobals x=some (some (.ref f))) (l:K.lookup f=some ⟨oc,od,.func (PySem.W.fnOf x x (defArgs st) (defBody st) (defScope st) .none kV dc pm an cd ct),sl⟩) (c:PySem.W.codeIn K cd x=true) (k:PySem.W.keepIn K (.ref f)=true):DefOk K mg x st ps:=by
 have F:=fun_mk (st:=st) l c k
 exact⟨f,_,F,F.binds b,PySem.W.mg_of X G a⟩
theorem dq {p:Program} {K:PySem.W.Frag} {h:Heap} {mg:Str->Option Value} {x:Str} {st:Stmt} {ps:List Str} (f c j u:Nat) (X:K.In h) (G:h.Ns mainGlobals mg)
  (b:∀ (kV doc pm:Value) (an:Option Addr) (cdv ct:Value) (us:List Value),us.length=ps.length->bindArgs (PySem.W.fnOf x x (defArgs st) (defBody st) (defScope st) .none kV doc pm an cdv ct) ⟨us,[]⟩=pure (ps.zip us))
  (a:PySem.W.nsIn K mainGlobals x=some (some (.ref f))) (l:K.lookup f=some ⟨.type "function",none,.func (PySem.W.fnOf x x (defArgs st) (defBody st) (defScope st) .none .none .none (Hx.mdV p ⟨0,0,0,j,u,0⟩) none (.ref c) .none),#[]⟩) (cc:PySem.W.codeIn K (.ref c) x=true) (k:PySem.W.keepIn K (.ref f)=true):DefOk K mg x st ps:=def_mk X G b a l cc k
theorem bd_is_whole (kV doc pm:Value) (an:Option Addr) (cdv ct:Value) (us:List Value) (hl:us.length=(["thing"]:List Str).length):bindArgs (PySem.W.fnOf "is_whole" "is_whole" (defArgs s_is_whole) (defBody s_is_whole) (defScope s_is_whole) .none kV doc pm an cdv ct) ⟨us,[]⟩=pure (List.zip (["thing"]:List Str) us):=match us,hl with | [_],_=>rfl
theorem bd_is_wholes (kV doc pm:Value) (an:Option Addr) (cdv ct:Value) (us:List Value) (hl:us.length=(["thing"]:List Str).length):bindArgs (PySem.W.fnOf "is_wholes" "is_wholes" (defArgs s_is_wholes) (defBody s_is_wholes) (defScope s_is_wholes) .none kV doc pm an cdv ct) ⟨us,[]⟩=pure (List.zip (["thing"]:List Str) us):=match us,hl with | [_],_=>rfl
theorem bd_is_tuple_of (kV doc pm:Value) (an:Option Addr) (cdv ct:Value) (us:List Value) (hl:us.length=(["thing","many"]:List Str).length):bindArgs (PySem.W.fnOf "is_tuple_of" "is_tuple_of" (defArgs s_is_tuple_of) (defBody s_is_tuple_of) (defScope s_is_tuple_of) .none kV doc pm an cdv ct) ⟨us,[]⟩=pure (List.zip (["thing","many"]:List Str) us):=match us,hl with | [_,_],_=>rfl
theorem bd_is_place (kV doc pm:Value) (an:Option Addr) (cdv ct:Value) (us:List Value) (hl:us.length=(["web","thing"]:List Str).length):bindArgs (PySem.W.fnOf "is_place" "is_place" (defArgs s_is_place) (defBody s_is_place) (defScope s_is_place) .none kV doc pm an cdv ct) ⟨us,[]⟩=pure (List.zip (["web","thing"]:List Str) us):=match us,hl with | [_,_],_=>rfl
theorem bd_is_plain (kV doc pm:Value) (an:Option Addr) (cdv ct:Value) (us:List Value) (hl:us.length=(["web"]:List Str).length):bindArgs (PySem.W.fnOf "is_plain" "is_plain" (defArgs s_is_plain) (defBody s_is_plain) (defScope s_is_plain) .none kV doc pm an cdv ct) ⟨us,[]⟩=pure (List.zip (["web"]:List Str) us):=match us,hl with | [_],_=>rfl
theorem bd_whole (kV doc pm:Value) (an:Option Addr) (cdv ct:Value) (us:List Value) (hl:us.length=(["web"]:List Str).length):bindArgs (PySem.W.fnOf "whole" "whole" (defArgs s_whole) (defBody s_whole) (defScope s_whole) .none kV doc pm an cdv ct) ⟨us,[]⟩=pure (List.zip (["web"]:List Str) us):=match us,hl with | [_],_=>rfl
theorem bd_tie_between (kV doc pm:Value) (an:Option Addr) (cdv ct:Value) (us:List Value) (hl:us.length=(["web","a","b"]:List Str).length):bindArgs (PySem.W.fnOf "tie_between" "tie_between" (defArgs s_tie_between) (defBody s_tie_between) (defScope s_tie_between) .none kV doc pm an cdv ct) ⟨us,[]⟩=pure (List.zip (["web","a","b"]:List Str) us):=match us,hl with | [_,_,_],_=>rfl
theorem bd_led_to_root (kV doc pm:Value) (an:Option Addr) (cdv ct:Value) (us:List Value) (hl:us.length=(["web","keep","tree","root","place"]:List Str).length):bindArgs (PySem.W.fnOf "led_to_root" "led_to_root" (defArgs s_led_to_root) (defBody s_led_to_root) (defScope s_led_to_root) .none kV doc pm an cdv ct) ⟨us,[]⟩=pure (List.zip (["web","keep","tree","root","place"]:List Str) us):=match us,hl with | [_,_,_,_,_],_=>rfl
theorem bd_across (kV doc pm:Value) (an:Option Addr) (cdv ct:Value) (us:List Value) (hl:us.length=(["web","tie","heights"]:List Str).length):bindArgs (PySem.W.fnOf "across" "across" (defArgs s_across) (defBody s_across) (defScope s_across) .none kV doc pm an cdv ct) ⟨us,[]⟩=pure (List.zip (["web","tie","heights"]:List Str) us):=match us,hl with | [_,_,_],_=>rfl
theorem bd_heights_hold (kV doc pm:Value) (an:Option Addr) (cdv ct:Value) (us:List Value) (hl:us.length=(["web","keep","heights"]:List Str).length):bindArgs (PySem.W.fnOf "heights_hold" "heights_hold" (defArgs s_heights_hold) (defBody s_heights_hold) (defScope s_heights_hold) .none kV doc pm an cdv ct) ⟨us,[]⟩=pure (List.zip (["web","keep","heights"]:List Str) us):=match us,hl with | [_,_,_],_=>rfl
theorem bd_need_plain (kV doc pm:Value) (an:Option Addr) (cdv ct:Value) (us:List Value) (hl:us.length=(["web"]:List Str).length):bindArgs (PySem.W.fnOf "need_plain" "need_plain" (defArgs s_need_plain) (defBody s_need_plain) (defScope s_need_plain) .none kV doc pm an cdv ct) ⟨us,[]⟩=pure (List.zip (["web"]:List Str) us):=match us,hl with | [_],_=>rfl
theorem bd_is_led (kV doc pm:Value) (an:Option Addr) (cdv ct:Value) (us:List Value) (hl:us.length=(["web","keep","m","u","heights","tree","place"]:List Str).length):bindArgs (PySem.W.fnOf "is_led" "is_led" (defArgs s_is_led) (defBody s_is_led) (defScope s_is_led) .none kV doc pm an cdv ct) ⟨us,[]⟩=pure (List.zip (["web","keep","m","u","heights","tree","place"]:List Str) us):=match us,hl with | [_,_,_,_,_,_,_],_=>rfl
theorem bd_place_right (kV doc pm:Value) (an:Option Addr) (cdv ct:Value) (us:List Value) (hl:us.length=(["web","keep","m","u","heights","tree"]:List Str).length):bindArgs (PySem.W.fnOf "place_right" "place_right" (defArgs s_place_right) (defBody s_place_right) (defScope s_place_right) .none kV doc pm an cdv ct) ⟨us,[]⟩=pure (List.zip (["web","keep","m","u","heights","tree"]:List Str) us):=match us,hl with | [_,_,_,_,_,_],_=>rfl
theorem bd_more_right (kV doc pm:Value) (an:Option Addr) (cdv ct:Value) (us:List Value) (hl:us.length=(["web","keep","m","paper"]:List Str).length):bindArgs (PySem.W.fnOf "more_right" "more_right" (defArgs s_more_right) (defBody s_more_right) (defScope s_more_right) .none kV doc pm an cdv ct) ⟨us,[]⟩=pure (List.zip (["web","keep","m","paper"]:List Str) us):=match us,hl with | [_,_,_,_],_=>rfl
theorem bd__law_pot (kV doc pm:Value) (an:Option Addr) (cdv ct:Value) (us:List Value) (hl:us.length=(["script","k"]:List Str).length):bindArgs (PySem.W.fnOf "_law_pot" "_law_pot" (defArgs s__law_pot) (defBody s__law_pot) (defScope s__law_pot) .none kV doc pm an cdv ct) ⟨us,[]⟩=pure (List.zip (["script","k"]:List Str) us):=match us,hl with | [_,_],_=>rfl
theorem bd__law_take (kV doc pm:Value) (an:Option Addr) (cdv ct:Value) (us:List Value) (hl:us.length=(["pot","many"]:List Str).length):bindArgs (PySem.W.fnOf "_law_take" "_law_take" (defArgs s__law_take) (defBody s__law_take) (defScope s__law_take) .none kV doc pm an cdv ct) ⟨us,[]⟩=pure (List.zip (["pot","many"]:List Str) us):=match us,hl with | [_,_],_=>rfl
theorem bd__law_length (kV doc pm:Value) (an:Option Addr) (cdv ct:Value) (us:List Value) (hl:us.length=(["pot","way"]:List Str).length):bindArgs (PySem.W.fnOf "_law_length" "_law_length" (defArgs s__law_length) (defBody s__law_length) (defScope s__law_length) .none kV doc pm an cdv ct) ⟨us,[]⟩=pure (List.zip (["pot","way"]:List Str) us):=match us,hl with | [_,_],_=>rfl
theorem bd__law_tied (kV doc pm:Value) (an:Option Addr) (cdv ct:Value) (us:List Value) (hl:us.length=(["pot","n","style","a","b"]:List Str).length):bindArgs (PySem.W.fnOf "_law_tied" "_law_tied" (defArgs s__law_tied) (defBody s__law_tied) (defScope s__law_tied) .none kV doc pm an cdv ct) ⟨us,[]⟩=pure (List.zip (["pot","n","style","a","b"]:List Str) us):=match us,hl with | [_,_,_,_,_],_=>rfl
theorem bd__law_order (kV doc pm:Value) (an:Option Addr) (cdv ct:Value) (us:List Value) (hl:us.length=(["pot","many"]:List Str).length):bindArgs (PySem.W.fnOf "_law_order" "_law_order" (defArgs s__law_order) (defBody s__law_order) (defScope s__law_order) .none kV doc pm an cdv ct) ⟨us,[]⟩=pure (List.zip (["pot","many"]:List Str) us):=match us,hl with | [_,_],_=>rfl
theorem bd__law_web (kV doc pm:Value) (an:Option Addr) (cdv ct:Value) (us:List Value) (hl:us.length=(["pot","most"]:List Str).length):bindArgs (PySem.W.fnOf "_law_web" "_law_web" (defArgs s__law_web) (defBody s__law_web) (defScope s__law_web) .none kV doc pm an cdv ct) ⟨us,[]⟩=pure (List.zip (["pot","most"]:List Str) us):=match us,hl with | [_,_],_=>rfl
theorem bd__law_keep (kV doc pm:Value) (an:Option Addr) (cdv ct:Value) (us:List Value) (hl:us.length=(["pot","web"]:List Str).length):bindArgs (PySem.W.fnOf "_law_keep" "_law_keep" (defArgs s__law_keep) (defBody s__law_keep) (defScope s__law_keep) .none kV doc pm an cdv ct) ⟨us,[]⟩=pure (List.zip (["pot","web"]:List Str) us):=match us,hl with | [_,_],_=>rfl
theorem bd__law_beside (kV doc pm:Value) (an:Option Addr) (cdv ct:Value) (us:List Value) (hl:us.length=(["web","keep"]:List Str).length):bindArgs (PySem.W.fnOf "_law_beside" "_law_beside" (defArgs s__law_beside) (defBody s__law_beside) (defScope s__law_beside) .none kV doc pm an cdv ct) ⟨us,[]⟩=pure (List.zip (["web","keep"]:List Str) us):=match us,hl with | [_,_],_=>rfl
theorem bd__law_steps (kV doc pm:Value) (an:Option Addr) (cdv ct:Value) (us:List Value) (hl:us.length=(["web","keep","start"]:List Str).length):bindArgs (PySem.W.fnOf "_law_steps" "_law_steps" (defArgs s__law_steps) (defBody s__law_steps) (defScope s__law_steps) .none kV doc pm an cdv ct) ⟨us,[]⟩=pure (List.zip (["web","keep","start"]:List Str) us):=match us,hl with | [_,_,_],_=>rfl
theorem bd__law_weights (kV doc pm:Value) (an:Option Addr) (cdv ct:Value) (us:List Value) (hl:us.length=(["web"]:List Str).length):bindArgs (PySem.W.fnOf "_law_weights" "_law_weights" (defArgs s__law_weights) (defBody s__law_weights) (defScope s__law_weights) .none kV doc pm an cdv ct) ⟨us,[]⟩=pure (List.zip (["web"]:List Str) us):=match us,hl with | [_],_=>rfl
theorem bd__law_weighed (kV doc pm:Value) (an:Option Addr) (cdv ct:Value) (us:List Value) (hl:us.length=(["web","keep","start"]:List Str).length):bindArgs (PySem.W.fnOf "_law_weighed" "_law_weighed" (defArgs s__law_weighed) (defBody s__law_weighed) (defScope s__law_weighed) .none kV doc pm an cdv ct) ⟨us,[]⟩=pure (List.zip (["web","keep","start"]:List Str) us):=match us,hl with | [_,_,_],_=>rfl
theorem bd__law_tree (kV doc pm:Value) (an:Option Addr) (cdv ct:Value) (us:List Value) (hl:us.length=(["web","keep","root"]:List Str).length):bindArgs (PySem.W.fnOf "_law_tree" "_law_tree" (defArgs s__law_tree) (defBody s__law_tree) (defScope s__law_tree) .none kV doc pm an cdv ct) ⟨us,[]⟩=pure (List.zip (["web","keep","root"]:List Str) us):=match us,hl with | [_,_,_],_=>rfl
theorem bd__law_most (kV doc pm:Value) (an:Option Addr) (cdv ct:Value) (us:List Value) (hl:us.length=(["pot","k"]:List Str).length):bindArgs (PySem.W.fnOf "_law_most" "_law_most" (defArgs s__law_most) (defBody s__law_most) (defScope s__law_most) .none kV doc pm an cdv ct) ⟨us,[]⟩=pure (List.zip (["pot","k"]:List Str) us):=match us,hl with | [_,_],_=>rfl
theorem bd__law_plain (kV doc pm:Value) (an:Option Addr) (cdv ct:Value) (us:List Value) (hl:us.length=(["pot","most"]:List Str).length):bindArgs (PySem.W.fnOf "_law_plain" "_law_plain" (defArgs s__law_plain) (defBody s__law_plain) (defScope s__law_plain) .none kV doc pm an cdv ct) ⟨us,[]⟩=pure (List.zip (["pot","most"]:List Str) us):=match us,hl with | [_,_],_=>rfl
theorem bd__law_tree_keep (kV doc pm:Value) (an:Option Addr) (cdv ct:Value) (us:List Value) (hl:us.length=(["web","roots"]:List Str).length):bindArgs (PySem.W.fnOf "_law_tree_keep" "_law_tree_keep" (defArgs s__law_tree_keep) (defBody s__law_tree_keep) (defScope s__law_tree_keep) .none kV doc pm an cdv ct) ⟨us,[]⟩=pure (List.zip (["web","roots"]:List Str) us):=match us,hl with | [_,_],_=>rfl
theorem bd__law_truth (kV doc pm:Value) (an:Option Addr) (cdv ct:Value) (us:List Value) (hl:us.length=(["found","due"]:List Str).length):bindArgs (PySem.W.fnOf "_law_truth" "_law_truth" (defArgs s__law_truth) (defBody s__law_truth) (defScope s__law_truth) .none kV doc pm an cdv ct) ⟨us,[]⟩=pure (List.zip (["found","due"]:List Str) us):=match us,hl with | [_,_],_=>rfl
theorem bd__law_made (kV doc pm:Value) (an:Option Addr) (cdv ct:Value) (us:List Value) (hl:us.length=(["pot","web","keep"]:List Str).length):bindArgs (PySem.W.fnOf "_law_made" "_law_made" (defArgs s__law_made) (defBody s__law_made) (defScope s__law_made) .none kV doc pm an cdv ct) ⟨us,[]⟩=pure (List.zip (["pot","web","keep"]:List Str) us):=match us,hl with | [_,_,_],_=>rfl
theorem bd__law_spoilt (kV doc pm:Value) (an:Option Addr) (cdv ct:Value) (us:List Value) (hl:us.length=(["pot","n","paper"]:List Str).length):bindArgs (PySem.W.fnOf "_law_spoilt" "_law_spoilt" (defArgs s__law_spoilt) (defBody s__law_spoilt) (defScope s__law_spoilt) .none kV doc pm an cdv ct) ⟨us,[]⟩=pure (List.zip (["pot","n","paper"]:List Str) us):=match us,hl with | [_,_,_],_=>rfl
theorem bd__law_leads (kV doc pm:Value) (an:Option Addr) (cdv ct:Value) (us:List Value) (hl:us.length=(["n","tied","tree","place","u"]:List Str).length):bindArgs (PySem.W.fnOf "_law_leads" "_law_leads" (defArgs s__law_leads) (defBody s__law_leads) (defScope s__law_leads) .none kV doc pm an cdv ct) ⟨us,[]⟩=pure (List.zip (["n","tied","tree","place","u"]:List Str) us):=match us,hl with | [_,_,_,_,_],_=>rfl
theorem bd__law_due (kV doc pm:Value) (an:Option Addr) (cdv ct:Value) (us:List Value) (hl:us.length=(["web","keep","m","paper"]:List Str).length):bindArgs (PySem.W.fnOf "_law_due" "_law_due" (defArgs s__law_due) (defBody s__law_due) (defScope s__law_due) .none kV doc pm an cdv ct) ⟨us,[]⟩=pure (List.zip (["web","keep","m","paper"]:List Str) us):=match us,hl with | [_,_,_,_],_=>rfl
theorem law_all {P:Program} {w:World} {K:PySem.W.Frag} {mg:Str->Option Value} {base:Heap} {f:Addr} {fd:FuncData} (T:Bi mg)
  (D_is_whole:DefOk K mg "is_whole" s_is_whole ["thing"])
  (D_is_wholes:DefOk K mg "is_wholes" s_is_wholes ["thing"])
  (D_is_tuple_of:DefOk K mg "is_tuple_of" s_is_tuple_of ["thing","many"])
  (D_is_place:DefOk K mg "is_place" s_is_place ["web","thing"])
  (D_is_plain:DefOk K mg "is_plain" s_is_plain ["web"])
  (D_whole:DefOk K mg "whole" s_whole ["web"])
  (D_tie_between:DefOk K mg "tie_between" s_tie_between ["web","a","b"])
  (D_led_to_root:DefOk K mg "led_to_root" s_led_to_root ["web","keep","tree","root","place"])
  (D_across:DefOk K mg "across" s_across ["web","tie","heights"])
  (D_heights_hold:DefOk K mg "heights_hold" s_heights_hold ["web","keep","heights"])
  (D_need_plain:DefOk K mg "need_plain" s_need_plain ["web"])
  (D_is_led:DefOk K mg "is_led" s_is_led ["web","keep","m","u","heights","tree","place"])
  (D_place_right:DefOk K mg "place_right" s_place_right ["web","keep","m","u","heights","tree"])
  (D_more_right:DefOk K mg "more_right" s_more_right ["web","keep","m","paper"])
  (D__law_pot:DefOk K mg "_law_pot" s__law_pot ["script","k"])
  (D__law_take:DefOk K mg "_law_take" s__law_take ["pot","many"])
  (D__law_length:DefOk K mg "_law_length" s__law_length ["pot","way"])
  (D__law_tied:DefOk K mg "_law_tied" s__law_tied ["pot","n","style","a","b"])
  (D__law_order:DefOk K mg "_law_order" s__law_order ["pot","many"])
  (D__law_web:DefOk K mg "_law_web" s__law_web ["pot","most"])
  (D__law_keep:DefOk K mg "_law_keep" s__law_keep ["pot","web"])
  (D__law_beside:DefOk K mg "_law_beside" s__law_beside ["web","keep"])
  (D__law_steps:DefOk K mg "_law_steps" s__law_steps ["web","keep","start"])
  (D__law_weights:DefOk K mg "_law_weights" s__law_weights ["web"])
  (D__law_weighed:DefOk K mg "_law_weighed" s__law_weighed ["web","keep","start"])
  (D__law_tree:DefOk K mg "_law_tree" s__law_tree ["web","keep","root"])
  (D__law_most:DefOk K mg "_law_most" s__law_most ["pot","k"])
  (D__law_plain:DefOk K mg "_law_plain" s__law_plain ["pot","most"])
  (D__law_tree_keep:DefOk K mg "_law_tree_keep" s__law_tree_keep ["web","roots"])
  (D__law_truth:DefOk K mg "_law_truth" s__law_truth ["found","due"])
  (D__law_made:DefOk K mg "_law_made" s__law_made ["pot","web","keep"])
  (D__law_spoilt:DefOk K mg "_law_spoilt" s__law_spoilt ["pot","n","paper"])
  (D__law_leads:DefOk K mg "_law_leads" s__law_leads ["n","tied","tree","place","u"])
  (D__law_due:DefOk K mg "_law_due" s__law_due ["web","keep","m","paper"])
  (F:Fun K "law" "law" s_law f fd):FnOk P w K mg base CX0 7 f fd ["script"] (spLaw K):=by
 have O__law_take:=ok__law_take (P:=P) (w:=w) (base:=base) T D__law_take
 have O__law_pot:=ok__law_pot (P:=P) (w:=w) (base:=base) T D__law_pot
 have O__law_length:=ok__law_length T D__law_length O__law_take
 have O__law_tied:=ok__law_tied T D__law_tied O__law_take
 have O__law_order:=ok__law_order T D__law_order O__law_take
 have O__law_web:=ok__law_web T D__law_web (O__law_take.mono (by decide)) O__law_order O__law_tied O__law_length
 have O__law_keep:=ok__law_keep T D__law_keep O__law_take
 have O__law_most:=ok__law_most16 T D__law_most O__law_take
 have O__law_plain:=ok__law_plain T D__law_plain O__law_web
 have O_whole:=ok_whole (P:=P) (w:=w) (base:=base) T D_whole
 have O_is_whole:=ok_is_whole (P:=P) (w:=w) (base:=base) T D_is_whole
 have O_is_wholes:=ok_is_wholes T D_is_wholes O_is_whole
 have O_is_plain:=ok_is_plain (P:=P) (w:=w) (base:=base) T D_is_plain
 have O_need_plain:=ok_need_plain T D_need_plain O_is_plain
 have O_is_tuple_of:=ok_is_tuple_ofN (P:=P) (w:=w) (K:=K) (base:=base) T D_is_tuple_of
 have O_tie_between:=ok_tie_between (P:=P) (w:=w) (base:=base) T D_tie_between
 have O_across:=ok_across (P:=P) (w:=w) (base:=base) T D_across
 have O_heights_hold:=ok_heights_hold T D_heights_hold O_is_wholes (O_across.mono (by decide))
 have O__law_beside:=ok__law_besideE (P:=P) (w:=w) (base:=base) T D__law_beside
 have O__law_steps:=ok__law_stepsE T D__law_steps O__law_beside
 have O__law_weights:=ok__law_weights (P:=P) (w:=w) (base:=base) T D__law_weights
 have O__law_weighed:=ok__law_weighedT T D__law_weighed O__law_weights
 have O__law_tree:=ok__law_treeT T D__law_tree (O__law_weights.mono (by decide)) O__law_weighed
 have O__law_treeW:Ok P w K mg base 3 "_law_tree" ["web","keep","root"] (spLTreeW K):=O__law_tree.imp fun _ _ _ _ h=>treeW_imp h
 have O__law_tree_keep:=ok__law_tree_keep T D__law_tree_keep O__law_treeW
 have O__law_truth:=ok__law_truth (P:=P) (w:=w) (base:=base) T D__law_truth
 have O_is_place:=ok_is_placeI T D_is_place O_is_whole
 have O_led_to_root:=ok_led_to_rootA T D_led_to_root O_is_place (O_tie_between.mono (by decide))
 have O_is_led:=ok_is_ledA T D_is_led O_led_to_root
 have O_place_right:=ok_place_rightA T D_place_right (O_heights_hold.mono (by decide)) (O_whole.mono (by decide)) (O_is_tuple_of.mono (by decide)) O_is_led
 have O_more_right:=ok_more_rightA T D_more_right (O_need_plain.mono (by decide)) (O_is_tuple_of.mono (by decide)) O_place_right
 have O__law_leads:=ok__law_leads54 (P:=P) (w:=w) (K:=K) (base:=base) T D__law_leads
 have O__law_due:=ok__law_due54 T D__law_due O__law_leads
 have O__law_made:=ok__law_made54 T D__law_made (O__law_take.mono (by decide)) (O__law_steps.mono (by decide)) O__law_treeW
 have O__law_spoilt:=ok__law_spoilt54 (K:=K) T D__law_spoilt O__law_take
 exact ok_law T F (O__law_pot.mono (by decide)) (O__law_most.mono (by decide)) (O__law_take.mono (by decide)) (O__law_plain.mono (by decide)) (O__law_keep.mono (by decide)) (O__law_tree_keep.mono (by decide)) (O__law_made.mono (by decide)) (O__law_spoilt.mono (by decide)) O_more_right (O__law_due.mono (by decide)) (O__law_truth.mono (by decide))
theorem walk {l:PySem.W.OpenLaw} {q:Program} {loose:List Str} {XP:(Str->Option Value)->Heap->Prop} {YP:World->Heap->Prop} {d:DefRec} {K:Params->PySem.W.Frag} (hn:l.most=some 63) (hdf:d.params.defaults=[])
  (hY:∀ (w:World) (h:Heap),YP w h->(K w.params).In h)
  (F:∀ (w:World) (mg:Str->Option Value) (fa:Addr) (h:Heap),(K w.params).In h->h.Ns mainGlobals mg->mg d.name=some (.ref fa) ->
   ∃ fd:FuncData,(∀ (s:Shared) (u:Value),BindsTo s fd ⟨[u],[]⟩ [("script",u)])∧∀ base:Heap,(K w.params).In base->base.Ns mainGlobals mg->FnOk l.prog w (K w.params) mg base CX0 7 fa fd ["script"] (spLaw (K w.params))) :
  PySem.W.WalkO q loose XP YP l.row.toRowW d [] (fun f vs=>PySem.call f vs) :=
 L2.walk_of (n:=63) (k:=7) (x:="script") (CX:=fun _=>CX0) (sp:=fun w=>spLaw (K w.params)) hn (by decide) hdf ⟨rfl,by decide,by decide,rfl⟩ hY F (fun _ _ a ns hl _ hS=>⟨a,ns,rfl,hS,hl,fun _=>rfl⟩) fun _ _ _ _ _ z=>z
end Me
namespace Hy
open PySem PySem.W Hx
def cs:List Ch:=[⟨0,15,187,0,187,0⟩,⟨1,15,189,0,187,0⟩,⟨2,28,207,0,187,24⟩,⟨3,40,223,3,223,0⟩,⟨4,40,225,3,223,0⟩,⟨5,47,232,3,223,0⟩,⟨6,52,238,3,223,0⟩,⟨7,59,246,7,246,0⟩,⟨8,59,248,7,246,0⟩,⟨9,66,256,7,246,0⟩,⟨10,71,262,7,246,0⟩,⟨11,78,269,7,246,0⟩,⟨12,85,281,12,281,0⟩,⟨13,85,283,12,281,0⟩,⟨14,92,296,14,296,0⟩,⟨15,92,298,14,296,0⟩,⟨16,99,310,14,296,0⟩,⟨17,104,316,17,316,0⟩,⟨18,104,318,17,316,0⟩,⟨19,111,325,17,316,0⟩,⟨20,118,339,17,316,0⟩,⟨21,123,345,17,316,0⟩,⟨22,128,351,22,351,0⟩,⟨23,128,353,22,351,0⟩,⟨24,135,363,22,351,0⟩,⟨25,142,372,22,351,0⟩,⟨26,149,380,22,351,0⟩,⟨27,156,392,22,351,0⟩,⟨28,163,403,22,351,0⟩,⟨29,170,420,22,351,0⟩,⟨30,175,426,22,351,0⟩,⟨31,180,432,22,351,0⟩,⟨32,185,438,22,351,0⟩,⟨33,192,450,22,351,0⟩,⟨34,199,470,22,351,0⟩,⟨35,206,488,22,351,0⟩,⟨36,213,497,22,351,0⟩,⟨37,218,503,22,351,0⟩,⟨38,223,509,22,351,0⟩,⟨39,230,517,22,351,0⟩,⟨40,235,523,22,351,0⟩,⟨41,240,529,22,351,0⟩,⟨42,247,542,22,351,0⟩,⟨43,252,548,22,351,0⟩]
end Hy
lay_quick Hx.PieceT Hx.PreT Hx.BlockT Hx.LookA Hx.LookB Hx.LookC PySem.Challenge.pw_thinways_k54_papers_of_more_judged
namespace Hy
open PySem PySem.W Hx
theorem pre:PreT PySem.Challenge.pw_thinways_k54_papers_of_more_judged boots boot_drawn boot_heap boot_toks cs ⟨0,15,187⟩:=by
 rw[PySem.W.Fast.te16428918119715843241,PySem.W.Fast.te2460565057016758697];delta PySem.W.Fast.tw16428918119715843241;intro w;kernel_rfl
theorem pc0:PieceT PySem.Challenge.pw_thinways_k54_papers_of_more_judged boots boot_drawn cs ⟨0,15,187⟩ ⟨2,28,207⟩ 196:=by
 rw[PySem.W.Fast.te4643275101561185336,PySem.W.Fast.te2460565057016758697];delta PySem.W.Fast.tw4643275101561185336;intro w;kernel_rfl
theorem pc1:PieceT PySem.Challenge.pw_thinways_k54_papers_of_more_judged boots boot_drawn cs ⟨2,28,207⟩ ⟨10,71,262⟩ 373:=by
 rw[PySem.W.Fast.te4643275101561185336,PySem.W.Fast.te2460565057016758697];delta PySem.W.Fast.tw4643275101561185336;intro w;kernel_rfl
theorem pc2:PieceT PySem.Challenge.pw_thinways_k54_papers_of_more_judged boots boot_drawn cs ⟨10,71,262⟩ ⟨25,142,372⟩ 375:=by
 rw[PySem.W.Fast.te4643275101561185336,PySem.W.Fast.te2460565057016758697];delta PySem.W.Fast.tw4643275101561185336;intro w;kernel_rfl
theorem pc3:PieceT PySem.Challenge.pw_thinways_k54_papers_of_more_judged boots boot_drawn cs ⟨25,142,372⟩ ⟨37,218,503⟩ 388:=by
 rw[PySem.W.Fast.te4643275101561185336,PySem.W.Fast.te2460565057016758697];delta PySem.W.Fast.tw4643275101561185336;intro w;kernel_rfl
theorem pc4:PieceT PySem.Challenge.pw_thinways_k54_papers_of_more_judged boots boot_drawn cs ⟨37,218,503⟩ ⟨44,259,563⟩ 207:=by
 rw[PySem.W.Fast.te4643275101561185336,PySem.W.Fast.te2460565057016758697];delta PySem.W.Fast.tw4643275101561185336;intro w;kernel_rfl
theorem blk:BlockT PySem.Challenge.pw_thinways_k54_papers_of_more_judged :=by
 rw[PySem.W.Fast.te421534021395069552,PySem.W.Fast.te2460565057016758697];delta PySem.W.Fast.tw421534021395069552;intro w s;kernel_rfl
theorem run (w:World) (os:OsState):topRun treeTable PySem.Challenge.pw_thinways_k54_papers_of_more_judged w 11 ann0 (12 + (1 + (196 + (373 + (375 + (388 + (207 + 2))))))) ⟨boot_heap w.params,Array.mk [],boot_drawn,boot_toks,os⟩ (topStub PySem.Challenge.pw_thinways_k54_papers_of_more_judged)=some (stT PySem.Challenge.pw_thinways_k54_papers_of_more_judged boots boot_drawn cs ⟨44,259,563⟩ w os).abs:=run_all pre blk (chain pc0 (by decide) (chain pc1 (by decide) (chain pc2 (by decide) (chain pc3 (by decide) (chain pc4 (by decide) (chain_end (by kernel_rfl)))))))
theorem size (w:World):((boot_heap w.params).isNs mainGlobals && (Array.mk []:Array GenState).size == 0,(boot_heap w.params).objs.size,(boot_heap w.params).nsMap mainGlobals "__annotations__")=(true,11,ann0):=by kernel_rfl
theorem lkA:LookA PySem.Challenge.pw_thinways_k54_papers_of_more_judged boots boot_drawn boot_heap cs ⟨44,259,563⟩:=by
 rw[PySem.W.Fast.te7818774390570169022,PySem.W.Fast.te2460565057016758697];delta PySem.W.Fast.tw7818774390570169022;intro w;kernel_rfl
theorem lkB:LookB PySem.Challenge.pw_thinways_k54_papers_of_more_judged boots boot_drawn cs ⟨44,259,563⟩ [43] (OpenRow.toRowW (PySem.Challenge.rw_thinways_k54_papers_of_more_judged).row).records:=by
 rw[PySem.W.Fast.te13889730532244352606,PySem.W.Fast.te2460565057016758697];delta PySem.W.Fast.tw13889730532244352606;intro w;kernel_rfl
theorem lkC:LookC PySem.Challenge.pw_thinways_k54_papers_of_more_judged boots cs ⟨44,259,563⟩ [3,23,24,36,37,45,46,50,51,57,58,64,65,69,70,76,77,83,84,90,91,97,98,102,103,109,110,116,117,121,122,126,127,133,134,140,141,147,148,154,155,161,162,168,169,173,174,178,179,183,184,190,191,197,198,204,205,211,212,216,217,221,222,228,229,233,234,238,239,245,246,250,251,257,258]:=by
 rw[PySem.W.Fast.te6241646928739474683,PySem.W.Fast.te2460565057016758697];delta PySem.W.Fast.tw6241646928739474683;intro w;kernel_rfl
noncomputable abbrev K:=Kf PySem.Challenge.pw_thinways_k54_papers_of_more_judged boots cs
theorem Kas (P:Params):[3,23,24,36,37,45,46,50,51,57,58,64,65,69,70,76,77,83,84,90,91,97,98,102,103,109,110,116,117,121,122,126,127,133,134,140,141,147,148,154,155,161,162,168,169,173,174,178,179,183,184,190,191,197,198,204,205,211,212,216,217,221,222,228,229,233,234,238,239,245,246,250,251,257,258]=(K P).map (·.1):=by kernel_rfl
noncomputable abbrev H:Hook:=kHook K [3,23,24,36,37,45,46,50,51,57,58,64,65,69,70,76,77,83,84,90,91,97,98,102,103,109,110,116,117,121,122,126,127,133,134,140,141,147,148,154,155,161,162,168,169,173,174,178,179,183,184,190,191,197,198,204,205,211,212,216,217,221,222,228,229,233,234,238,239,245,246,250,251,257,258] Kas
theorem opn:opening PySem.Challenge.pw_thinways_k54_papers_of_more_judged=plainProg (PySem.Challenge.pw_thinways_k54_papers_of_more_judged).main.scope.names:=by kernel_rfl
theorem fnc (s:Shared):fenceModules? PySem.Challenge.pw_thinways_k54_papers_of_more_judged s=some s:=by kernel_rfl
theorem left:LeftO PySem.Challenge.pw_thinways_k54_papers_of_more_judged (qv PySem.Challenge.pw_thinways_k54_papers_of_more_judged [43]) (lz PySem.Challenge.pw_thinways_k54_papers_of_more_judged [43] 44) (fun s=>xlAt (qv PySem.Challenge.pw_thinways_k54_papers_of_more_judged [43]) [] s && recOk (OpenRow.toRowW (PySem.Challenge.rw_thinways_k54_papers_of_more_judged).row).records s) (Hook.obs H) (Hook.val H) 3708 :=
 left_of (p:=PySem.Challenge.pw_thinways_k54_papers_of_more_judged) (cs:=cs) (is:=[43]) (as:=[3,23,24,36,37,45,46,50,51,57,58,64,65,69,70,76,77,83,84,90,91,97,98,102,103,109,110,116,117,121,122,126,127,133,134,140,141,147,148,154,155,161,162,168,169,173,174,178,179,183,184,190,191,197,198,204,205,211,212,216,217,221,222,228,229,233,234,238,239,245,246,250,251,257,258]) (rc:=(OpenRow.toRowW (PySem.Challenge.rw_thinways_k54_papers_of_more_judged).row).records) (c:=⟨44,259,563⟩) (M:=12 + (1 + (196 + (373 + (375 + (388 + (207 + 2))))))) (N:=3708) (e:=Kas) opn (by decide) fnc size run (by decide) lkA lkB lkC
end Hy
namespace Hy
open PySem PySem.W PyProof.Rows L2 L3 Hx Me
theorem all {w:World} {h:Heap} {mg:Str->Option Value} {fa:Addr} (X:(K w.params).In h) (G:h.Ns mainGlobals mg) (hfa:mg "law"=some (.ref fa)) :
  ∃ fd:FuncData,(∀ (s:Shared) (v:Value),BindsTo s fd ⟨[v],[]⟩ [("script",v)])∧∀ base:Heap,(K w.params).In base->base.Ns mainGlobals mg->FnOk (PySem.Challenge.rw_thinways_k54_papers_of_more_judged).prog w (K w.params) mg base CX0 7 fa fd ["script"] (spLaw (K w.params)):=by
 have T:Bi mg:=⟨PySem.W.mg_none_of X G (show PySem.W.nsIn (K w.params) mainGlobals "len"=some none by kernel_rfl),PySem.W.mg_none_of X G (show PySem.W.nsIn (K w.params) mainGlobals "range"=some none by kernel_rfl),PySem.W.mg_none_of X G (show PySem.W.nsIn (K w.params) mainGlobals "zip"=some none by kernel_rfl),PySem.W.mg_none_of X G (show PySem.W.nsIn (K w.params) mainGlobals "all"=some none by kernel_rfl),PySem.W.mg_none_of X G (show PySem.W.nsIn (K w.params) mainGlobals "sorted"=some none by kernel_rfl),PySem.W.mg_none_of X G (show PySem.W.nsIn (K w.params) mainGlobals "isinstance"=some none by kernel_rfl),PySem.W.mg_none_of X G (show PySem.W.nsIn (K w.params) mainGlobals "min"=some none by kernel_rfl),PySem.W.mg_none_of X G (show PySem.W.nsIn (K w.params) mainGlobals "max"=some none by kernel_rfl),PySem.W.mg_none_of X G (show PySem.W.nsIn (K w.params) mainGlobals "tuple"=some none by kernel_rfl),PySem.W.mg_none_of X G (show PySem.W.nsIn (K w.params) mainGlobals "list"=some none by kernel_rfl),PySem.W.mg_none_of X G (show PySem.W.nsIn (K w.params) mainGlobals "int"=some none by kernel_rfl),PySem.W.mg_none_of X G (show PySem.W.nsIn (K w.params) mainGlobals "bool"=some none by kernel_rfl),PySem.W.mg_none_of X G (show PySem.W.nsIn (K w.params) mainGlobals "str"=some none by kernel_rfl),PySem.W.mg_none_of X G (show PySem.W.nsIn (K w.params) mainGlobals "enumerate"=some none by kernel_rfl),PySem.W.mg_none_of X G (show PySem.W.nsIn (K w.params) mainGlobals "sum"=some none by kernel_rfl),PySem.W.mg_none_of X G (show PySem.W.nsIn (K w.params) mainGlobals "abs"=some none by kernel_rfl),PySem.W.mg_none_of X G (show PySem.W.nsIn (K w.params) mainGlobals "set"=some none by kernel_rfl),PySem.W.mg_none_of X G (show PySem.W.nsIn (K w.params) mainGlobals "reversed"=some none by kernel_rfl),PySem.W.mg_none_of X G (show PySem.W.nsIn (K w.params) mainGlobals "any"=some none by kernel_rfl),PySem.W.mg_none_of X G (show PySem.W.nsIn (K w.params) mainGlobals "repr"=some none by kernel_rfl),PySem.W.mg_none_of X G (show PySem.W.nsIn (K w.params) mainGlobals "dict"=some none by kernel_rfl)⟩
 have D_is_whole:=dq (p:=PySem.Challenge.pw_thinways_k54_papers_of_more_judged) (ps:=["thing"]) 46 45 3 223 X G bd_is_whole (by kernel_rfl) (by kernel_rfl) (by kernel_rfl) (by kernel_rfl)
 have D_is_wholes:=dq (p:=PySem.Challenge.pw_thinways_k54_papers_of_more_judged) (ps:=["thing"]) 51 50 3 223 X G bd_is_wholes (by kernel_rfl) (by kernel_rfl) (by kernel_rfl) (by kernel_rfl)
 have D_is_tuple_of:=dq (p:=PySem.Challenge.pw_thinways_k54_papers_of_more_judged) (ps:=["thing","many"]) 58 57 3 223 X G bd_is_tuple_of (by kernel_rfl) (by kernel_rfl) (by kernel_rfl) (by kernel_rfl)
 have D_is_place:=dq (p:=PySem.Challenge.pw_thinways_k54_papers_of_more_judged) (ps:=["web","thing"]) 65 64 7 246 X G bd_is_place (by kernel_rfl) (by kernel_rfl) (by kernel_rfl) (by kernel_rfl)
 have D_is_plain:=dq (p:=PySem.Challenge.pw_thinways_k54_papers_of_more_judged) (ps:=["web"]) 70 69 7 246 X G bd_is_plain (by kernel_rfl) (by kernel_rfl) (by kernel_rfl) (by kernel_rfl)
 have D_whole:=dq (p:=PySem.Challenge.pw_thinways_k54_papers_of_more_judged) (ps:=["web"]) 77 76 7 246 X G bd_whole (by kernel_rfl) (by kernel_rfl) (by kernel_rfl) (by kernel_rfl)
 have D_tie_between:=dq (p:=PySem.Challenge.pw_thinways_k54_papers_of_more_judged) (ps:=["web","a","b"]) 84 83 7 246 X G bd_tie_between (by kernel_rfl) (by kernel_rfl) (by kernel_rfl) (by kernel_rfl)
 have D_led_to_root:=dq (p:=PySem.Challenge.pw_thinways_k54_papers_of_more_judged) (ps:=["web","keep","tree","root","place"]) 91 90 12 281 X G bd_led_to_root (by kernel_rfl) (by kernel_rfl) (by kernel_rfl) (by kernel_rfl)
 have D_across:=dq (p:=PySem.Challenge.pw_thinways_k54_papers_of_more_judged) (ps:=["web","tie","heights"]) 98 97 14 296 X G bd_across (by kernel_rfl) (by kernel_rfl) (by kernel_rfl) (by kernel_rfl)
 have D_heights_hold:=dq (p:=PySem.Challenge.pw_thinways_k54_papers_of_more_judged) (ps:=["web","keep","heights"]) 103 102 14 296 X G bd_heights_hold (by kernel_rfl) (by kernel_rfl) (by kernel_rfl) (by kernel_rfl)
 have D_need_plain:=dq (p:=PySem.Challenge.pw_thinways_k54_papers_of_more_judged) (ps:=["web"]) 110 109 17 316 X G bd_need_plain (by kernel_rfl) (by kernel_rfl) (by kernel_rfl) (by kernel_rfl)
 have D_is_led:=dq (p:=PySem.Challenge.pw_thinways_k54_papers_of_more_judged) (ps:=["web","keep","m","u","heights","tree","place"]) 117 116 17 316 X G bd_is_led (by kernel_rfl) (by kernel_rfl) (by kernel_rfl) (by kernel_rfl)
 have D_place_right:=dq (p:=PySem.Challenge.pw_thinways_k54_papers_of_more_judged) (ps:=["web","keep","m","u","heights","tree"]) 122 121 17 316 X G bd_place_right (by kernel_rfl) (by kernel_rfl) (by kernel_rfl) (by kernel_rfl)
 have D_more_right:=dq (p:=PySem.Challenge.pw_thinways_k54_papers_of_more_judged) (ps:=["web","keep","m","paper"]) 127 126 17 316 X G bd_more_right (by kernel_rfl) (by kernel_rfl) (by kernel_rfl) (by kernel_rfl)
 have D__law_pot:=dq (p:=PySem.Challenge.pw_thinways_k54_papers_of_more_judged) (ps:=["script","k"]) 134 133 22 351 X G bd__law_pot (by kernel_rfl) (by kernel_rfl) (by kernel_rfl) (by kernel_rfl)
 have D__law_take:=dq (p:=PySem.Challenge.pw_thinways_k54_papers_of_more_judged) (ps:=["pot","many"]) 141 140 22 351 X G bd__law_take (by kernel_rfl) (by kernel_rfl) (by kernel_rfl) (by kernel_rfl)
 have D__law_length:=dq (p:=PySem.Challenge.pw_thinways_k54_papers_of_more_judged) (ps:=["pot","way"]) 148 147 22 351 X G bd__law_length (by kernel_rfl) (by kernel_rfl) (by kernel_rfl) (by kernel_rfl)
 have D__law_tied:=dq (p:=PySem.Challenge.pw_thinways_k54_papers_of_more_judged) (ps:=["pot","n","style","a","b"]) 155 154 22 351 X G bd__law_tied (by kernel_rfl) (by kernel_rfl) (by kernel_rfl) (by kernel_rfl)
 have D__law_order:=dq (p:=PySem.Challenge.pw_thinways_k54_papers_of_more_judged) (ps:=["pot","many"]) 162 161 22 351 X G bd__law_order (by kernel_rfl) (by kernel_rfl) (by kernel_rfl) (by kernel_rfl)
 have D__law_web:=dq (p:=PySem.Challenge.pw_thinways_k54_papers_of_more_judged) (ps:=["pot","most"]) 169 168 22 351 X G bd__law_web (by kernel_rfl) (by kernel_rfl) (by kernel_rfl) (by kernel_rfl)
 have D__law_keep:=dq (p:=PySem.Challenge.pw_thinways_k54_papers_of_more_judged) (ps:=["pot","web"]) 174 173 22 351 X G bd__law_keep (by kernel_rfl) (by kernel_rfl) (by kernel_rfl) (by kernel_rfl)
 have D__law_beside:=dq (p:=PySem.Challenge.pw_thinways_k54_papers_of_more_judged) (ps:=["web","keep"]) 179 178 22 351 X G bd__law_beside (by kernel_rfl) (by kernel_rfl) (by kernel_rfl) (by kernel_rfl)
 have D__law_steps:=dq (p:=PySem.Challenge.pw_thinways_k54_papers_of_more_judged) (ps:=["web","keep","start"]) 184 183 22 351 X G bd__law_steps (by kernel_rfl) (by kernel_rfl) (by kernel_rfl) (by kernel_rfl)
 have D__law_weights:=dq (p:=PySem.Challenge.pw_thinways_k54_papers_of_more_judged) (ps:=["web"]) 191 190 22 351 X G bd__law_weights (by kernel_rfl) (by kernel_rfl) (by kernel_rfl) (by kernel_rfl)
 have D__law_weighed:=dq (p:=PySem.Challenge.pw_thinways_k54_papers_of_more_judged) (ps:=["web","keep","start"]) 198 197 22 351 X G bd__law_weighed (by kernel_rfl) (by kernel_rfl) (by kernel_rfl) (by kernel_rfl)
 have D__law_tree:=dq (p:=PySem.Challenge.pw_thinways_k54_papers_of_more_judged) (ps:=["web","keep","root"]) 205 204 22 351 X G bd__law_tree (by kernel_rfl) (by kernel_rfl) (by kernel_rfl) (by kernel_rfl)
 have D__law_most:=dq (p:=PySem.Challenge.pw_thinways_k54_papers_of_more_judged) (ps:=["pot","k"]) 212 211 22 351 X G bd__law_most (by kernel_rfl) (by kernel_rfl) (by kernel_rfl) (by kernel_rfl)
 have D__law_plain:=dq (p:=PySem.Challenge.pw_thinways_k54_papers_of_more_judged) (ps:=["pot","most"]) 217 216 22 351 X G bd__law_plain (by kernel_rfl) (by kernel_rfl) (by kernel_rfl) (by kernel_rfl)
 have D__law_tree_keep:=dq (p:=PySem.Challenge.pw_thinways_k54_papers_of_more_judged) (ps:=["web","roots"]) 222 221 22 351 X G bd__law_tree_keep (by kernel_rfl) (by kernel_rfl) (by kernel_rfl) (by kernel_rfl)
 have D__law_truth:=dq (p:=PySem.Challenge.pw_thinways_k54_papers_of_more_judged) (ps:=["found","due"]) 229 228 22 351 X G bd__law_truth (by kernel_rfl) (by kernel_rfl) (by kernel_rfl) (by kernel_rfl)
 have D__law_made:=dq (p:=PySem.Challenge.pw_thinways_k54_papers_of_more_judged) (ps:=["pot","web","keep"]) 234 233 22 351 X G bd__law_made (by kernel_rfl) (by kernel_rfl) (by kernel_rfl) (by kernel_rfl)
 have D__law_spoilt:=dq (p:=PySem.Challenge.pw_thinways_k54_papers_of_more_judged) (ps:=["pot","n","paper"]) 239 238 22 351 X G bd__law_spoilt (by kernel_rfl) (by kernel_rfl) (by kernel_rfl) (by kernel_rfl)
 have D__law_leads:=dq (p:=PySem.Challenge.pw_thinways_k54_papers_of_more_judged) (ps:=["n","tied","tree","place","u"]) 246 245 22 351 X G bd__law_leads (by kernel_rfl) (by kernel_rfl) (by kernel_rfl) (by kernel_rfl)
 have D__law_due:=dq (p:=PySem.Challenge.pw_thinways_k54_papers_of_more_judged) (ps:=["web","keep","m","paper"]) 251 250 22 351 X G bd__law_due (by kernel_rfl) (by kernel_rfl) (by kernel_rfl) (by kernel_rfl)
 have e:=hfa.symm.trans (PySem.W.mg_of X G (show PySem.W.nsIn (K w.params) mainGlobals "law"=some (some (.ref 258)) by kernel_rfl))
 cases e
 have F:=fun_mk (x:="law") (qual:="law") (st:=s_law) (K:=K w.params) (f:=258) (oc:=.type "function") (od:=none) (an:=none) (osl:=#[]) (kV:=.none) (doc:=.none) (pm:=Hx.mdV PySem.Challenge.pw_thinways_k54_papers_of_more_judged ⟨0,0,0,22,351,0⟩) (cdv:=.ref 257) (ct:=.none) (by kernel_rfl) (by kernel_rfl) (by kernel_rfl)
 exact⟨_,fun s v=>.of_eq rfl,fun base _ _=>law_all (P:=(PySem.Challenge.rw_thinways_k54_papers_of_more_judged).prog) (w:=w) (base:=base) T D_is_whole D_is_wholes D_is_tuple_of D_is_place D_is_plain D_whole D_tie_between D_led_to_root D_across D_heights_hold D_need_plain D_is_led D_place_right D_more_right D__law_pot D__law_take D__law_length D__law_tied D__law_order D__law_web D__law_keep D__law_beside D__law_steps D__law_weights D__law_weighed D__law_tree D__law_most D__law_plain D__law_tree_keep D__law_truth D__law_made D__law_spoilt D__law_leads D__law_due F⟩
end Hy
open PySem PySem.W PyProof.Rows
set_option maxRecDepth 100000 in
set_option maxHeartbeats 0 in
theorem PySem.Challenge.cw_thinways_k54_papers_of_more_judged_holds : PySem.Challenge.rw_thinways_k54_papers_of_more_judged.Holds := by
 w_on;o_law
 refine holds_open (q:=(Hx.qv PySem.Challenge.pw_thinways_k54_papers_of_more_judged [43])) (loose:=Hx.lz PySem.Challenge.pw_thinways_k54_papers_of_more_judged [43] 44) (Xt:=fun s=>xlAt (Hx.qv PySem.Challenge.pw_thinways_k54_papers_of_more_judged [43]) [] s && recOk (OpenRow.toRowW (PySem.Challenge.rw_thinways_k54_papers_of_more_judged).row).records s) (XP:=XL (Hx.qv PySem.Challenge.pw_thinways_k54_papers_of_more_judged [43]) []) (Yf:=Hook.obs Hy.H) (Ya:=Hook.val Hy.H) (YP:=Hook.says Hy.H) (N:=3708) Hy.left (Hook.of Hy.H) (Hook.keeps Hy.H) (fun s e=>xl_of s (Bool.and_eq_true_iff.mp e).1) XL.keeps (by rfl) (by rfl) (by rfl) (fun s e=>recFacts_of (Bool.and_eq_true_iff.mp e).2) (by rfl) (by first | assumption | decide +kernel) (by decide +kernel) ⟨rfl,rfl,rfl,rfl,rfl,by decide +kernel⟩ ?hw ?hc
 case hw=>w_witness2
 case hc =>
  refine Me.walk (l:=PySem.Challenge.rw_thinways_k54_papers_of_more_judged) rfl rfl (fun w h Y=>PySem.W.kIn_of Y) fun w mg fa h KX G hmg=>Hy.all KX G hmg
