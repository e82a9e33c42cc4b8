import PyProof.Rows.All
import Wide.All
import OpenK.AllK
import Wide.FinOn
import Lean
import PyProof.EqAt
import PyProof.EqKinds
import PyProof.TupleCall
import KE.KSortTup
import PyProof.ZipIter
import PyProof.TupleIter
import PyProof.WalksMore
import PyProof.Rows.TupIter
import PyProof.EnumIter
import PyProof.EnumFor
import PyProof.EnumStmt
import PyProof.ReprRoads
import PyProof.Rows.SeqMore
import PyProof.ListMulRoad
import PyProof.FactsAll.tuple_2
import PyProof.FactsAll.tuple_3
import PyProof.Rows.Tup
import PyProof.ListRange
import PyProof.TupleOfSeq
import PyProof.SumAny
import PyProof.ConsumeS
import PyProof.Rows.CallKwBuiltin
import KE.KLam
import KE.KSortKey
import PyProof.AutoSeq1
import KE.KListMore
import PyProof.FactsAll.subtypes_4
import PyProof.SetRoads
import PyProof.Rows.SetFrom
import PyProof.WalkInts
import KE.KIntText
import PyProof.StrLawsChain
import PyProof.Rows.StrNews2
import Wide.Txt
import PyProof.RaisesMany
import PyProof.RulesAs
import PyProof.ExcClass3
import KE.KIsAll
import KE.KTryMore
import PyProof.ExcArgsOwn
import PyProof.ExcBaseAll.ValueError
import PySem.Challenge.RW_thinways_k87_texts_of_no_web
set_option Elab.async false
set_option linter.all false
set_option maxRecDepth 100000
namespace L2
open PySem PySem.Spec PyProof.Rows
/-- a key: an int or a str -/
abbrev Key:=Sum Int Str
def keyIs:Key->Value->Bool
 | .inl k,v=>Value.isInt k v
 | .inr x,v=>Value.isStrOf x v
def keyH (w:World):Key->Int
 | .inl k=>hashInt k
 | .inr x=>hashStr w x
theorem keyIs_shape:∀ {k:Key} {v:Value},keyIs k v=true->(∃ i t,k=Sum.inl i∧v=Value.int i t)∨(∃ x t,k=Sum.inr x∧v=Value.str x t)
 | .inl i,v,h=>by
  obtain⟨t,e⟩:=Value.isInt_shape (k:=i) (v:=v) h
  exact .inl ⟨i,t,rfl,e⟩
 | .inr x,v,h=>by
  obtain⟨t,e⟩:=Value.isStrOf_shape (x:=x) (v:=v) h
  exact .inr ⟨x,t,rfl,e⟩
theorem key_ll (a b:Int):decide ((Sum.inl a:Key)=Sum.inl b)=(a == b):=by
 by_cases e:a=b
 ·subst e;simp
 ·have h:¬ (Sum.inl a:Key)=Sum.inl b:=fun q=>e (Sum.inl.inj q)
  rw[decide_eq_false h]
  exact (beq_eq_false_iff_ne.mpr e).symm
theorem key_rr (a b:Str):decide ((Sum.inr a:Key)=Sum.inr b)=decide (a=b):=by
 by_cases e:a=b
 ·subst e;simp
 ·have h:¬ (Sum.inr a:Key)=Sum.inr b:=fun q=>e (Sum.inr.inj q)
  rw[decide_eq_false h,decide_eq_false e]
theorem key_lr (a:Int) (b:Str):decide ((Sum.inl a:Key)=Sum.inr b)=false:=decide_eq_false (fun q=>nomatch q)
theorem key_rl (a:Str) (b:Int):decide ((Sum.inr a:Key)=Sum.inl b)=false:=decide_eq_false (fun q=>nomatch q)
def mixKind (prog:Program) (w:World):PySem.KeyKind prog w Key where
 is:=keyIs
 hash:=keyH w
 inj:=fun v a b ha hb=>by
  rcases keyIs_shape ha with ⟨i,t,rfl,rfl⟩ | ⟨x,t,rfl,rfl⟩
  ·rcases keyIs_shape hb with ⟨j,u,rfl,e⟩ | ⟨y,u,rfl,e⟩
   ·injection e with e1 _;rw[e1]
   ·exact nomatch e
  ·rcases keyIs_shape hb with ⟨j,u,rfl,e⟩ | ⟨y,u,rfl,e⟩
   ·exact nomatch e
   ·injection e with e1 _;rw[e1]
 byValue:=fun k v h=>by
  rcases keyIs_shape h with ⟨i,t,rfl,rfl⟩ | ⟨x,t,rfl,rfl⟩ <;> rfl
 pyHash:=fun hv h=>by
  rcases keyIs_shape hv with ⟨i,t,rfl,rfl⟩ | ⟨x,t,rfl,rfl⟩
  ·exact wpAny_pyHash_int h
  ·exact wpAny_pyHash_str h
 eqBool:=fun hu hv h=>by
  rcases keyIs_shape hu with ⟨i,t,rfl,rfl⟩ | ⟨x,t,rfl,rfl⟩
  ·rcases keyIs_shape hv with ⟨j,u,rfl,rfl⟩ | ⟨y,u,rfl,rfl⟩
   ·rw[key_ll] at h;exact wpAny_eqBool_int h
   ·rw[key_lr] at h;exact SeqAt.EqAt.int_str i t y u _ _ _ _ h
  ·rcases keyIs_shape hv with ⟨j,u,rfl,rfl⟩ | ⟨y,u,rfl,rfl⟩
   ·rw[key_rl] at h;exact SeqAt.EqAt.str_int x t j u _ _ _ _ h
   ·rw[key_rr] at h;exact wpAny_eqBool_str h
 «strs»:=fun k x t v h=>by
  rcases keyIs_shape h with ⟨i,u,rfl,e⟩ | ⟨y,u,rfl,e⟩
  ·exact nomatch e
  ·injection e with e1 _
   subst e1
   cases v <;> rfl
end L2
namespace L2
open PySem PySem.Spec PyProof.Rows
/-- a value, without the heap -/
inductive V where
 | non | bl (b:Bool) | int (i:Int) | str (x:Str) | byt (b:Array UInt8) | flt (b:UInt64) | ref (a:Addr) | ty (n:String)
 deriving DecidableEq
def RelV:V->Value->Prop
 | .non,u=>u=Value.none
 | .bl b,u=>u=Value.bool b
 | .int i,u=>∃ t,u=Value.int i t
 | .str x,u=>∃ t,u=Value.str x t
 | .byt b,u=>∃ t,u=Value.bytes b t
 | .flt b,u=>∃ t,u=Value.float b t
 | .ref a,u=>u=Value.ref a
 | .ty n,u=>u=Value.type n
abbrev Vals:List V->List Value->Prop:=Paired RelV
theorem Vals.length {xs:List V} {us:List Value} (r:Vals xs us):xs.length=us.length:=Paired.length r
theorem Vals.get:∀ {xs:List V} {us:List Value} {i:Nat} {x:V},Vals xs us->xs[i]?=some x->∃ u,us[i]?=some u∧RelV x u
 | _,_,_,_,.nil,e=>by simp at e
 | _,_,0,_,.cons r _,e=>by simp at e;subst e;exact⟨_,rfl,r⟩
 | _,_,i + 1,x,.cons _ t,e=>by
  obtain⟨u,h1,h2⟩:=Vals.get (i:=i) (x:=x) t (by simpa using e)
  exact⟨u,by simpa using h1,h2⟩
theorem Vals.set {x:V} {u:Value} (r:RelV x u):∀ {xs:List V} {us:List Value} (i:Nat),Vals xs us->Vals (xs.set i x) (us.set i u)
 | _,_,_,.nil=>.nil
 | _,_,0,.cons _ t=>.cons r t
 | _,_,i + 1,.cons q t=>.cons q (Vals.set r i t)
theorem Vals.append:∀ {xs ys:List V} {us ws:List Value},Vals xs us->Vals ys ws->Vals (xs++ys) (us++ws)
 | _,_,_,_,.nil,s=>s
 | _,_,_,_,.cons r t,s=>.cons r (Vals.append t s)
theorem Vals.take:∀ {xs:List V} {us:List Value} (n:Nat),Vals xs us->Vals (xs.take n) (us.take n)
 | _,_,0,_=>.nil
 | _,_,_ + 1,.nil=>.nil
 | _,_,n + 1,.cons r t=>.cons r (Vals.take n t)
theorem Vals.drop:∀ {xs:List V} {us:List Value} (n:Nat),Vals xs us->Vals (xs.drop n) (us.drop n)
 | _,_,0,r=>r
 | _,_,_ + 1,.nil=>.nil
 | _,_,n + 1,.cons _ t=>Vals.drop n t
def RelO:Option V->Option Value->Prop
 | some v,some u=>RelV v u
 | none,none=>True
 | _,_=>False
def KV {κ:Type}:List (κ × V)->List (κ × Value)->Prop:=Paired fun (p:κ × V) (q:κ × Value)=>p.1=q.1∧RelV p.2 q.2
/-- a key of a dict (00_mix): an int or a text -/
def kV:Key->V
 | .inl i=>.int i
 | .inr x=>.str x
/-- what stands at a tracked address -/
inductive HO where
  /-- a list -/
 | lst (xs:List V)
  /-- a tuple (never changes) -/
 | tup (xs:List V)
  /-- a dict whose keys are ints and texts; one whose keys are tuples of ints and texts (the empty one is both) -/
 | dK (kvs:List (Key × V)) | dT (kvs:List (List Key × V))
  /-- a set of ints: its members, its size -/
 | set (S:Int->Bool) (n:Nat)
  /-- an instance of the class at C, its dict at dx, its attributes -/
 | ins (C dx:Addr) (fs:List (Str × V))
  /-- the dict of the instance at x -/
 | own (x:Addr)
  /-- the dict of an exception -/
 | xd (fs:List (Str × V))
  /-- a bound method, f of x -/
 | met (f x:Addr)
  /-- a range object lo, lo + 1, .. below hi -/
 | rng (lo hi:Int)
  /-- a thing that is known to the object (the script; a dict while a loop walks it): read, never written while it is so -/
 | frz (o:Obj) (u:HO)
  /-- a code object's table -/
 | tbl (ps:Array Value)
  /-- any other thing, by what is true of its one object (a def of one's own: SetO a S n := HO.ext fun h => ..) -/
 | ext (φ:Heap->Prop)
abbrev Hp:=Addr->Option HO
def upd (H:Hp) (a:Addr) (o:HO):Hp:=fun b=>if b=a then some o else H b
theorem upd_same {H:Hp} {a:Addr} {o:HO}:upd H a o a=some o:=by unfold upd;rw[if_pos rfl]
theorem upd_ne {H:Hp} {a b:Addr} {o:HO} (h:b≠a):upd H a o b=H b:=by unfold upd;rw[if_neg h]
theorem ne_of_none {H:Hp} {a b:Addr} {o:HO} (h:H a=some o) (h':H b=none):a≠b:=by
 intro e;subst e;rw[h] at h';cases h'
section
variable (P:Program) (w:World)
/-- a tuple with no dict of its own -/
def TupN (h:Heap) (a:Addr) (items:Array Value):Prop:=∃ o,h.get? a=some o∧o.cls=.type "tuple"∧(∃ n,o.data=.seq items n)∧o.dict=none
theorem TupN.tup {h:Heap} {a:Addr} {items:Array Value} (x:TupN h a items):IsTup h a items:=let ⟨o,e,c,d,_⟩:=x;⟨o,e,c,d⟩
theorem TupN.new (h:Heap) (items:Array Value):TupN (h.push { cls:=.type "tuple",data:=.seq items }) h.objs.size items:=⟨_,Heap.get?_push_size _ rfl,rfl,⟨_,rfl⟩,rfl⟩
def ObjOk (H:Hp) (h:Heap) (a:Addr):HO->Prop
 | .lst xs=>xs.length≤sizeLine∧∃ (its:List Value) (n:Nat),Vals xs its∧h.get? a=some { cls:=.type "list",data:=.seq its.toArray n }
 | .tup xs=>xs.length≤sizeLine∧∃ its:List Value,Vals xs its∧TupN h a its.toArray
 | .dK kvs=>kvs.length≤sizeLine∧(a == sysModules)=false∧∃ vs,KV kvs vs∧h.DictOf (mixKind P w) a vs
 | .dT kvs => kvs.length ≤ sizeLine ∧ (a == sysModules) = false ∧ ∃ xs : List (List Key × Addr × Value),
     Paired (fun (p:List Key × V) (q:List Key × Addr × Value)=>p.1=q.1∧H q.2.1=some (.tup (p.1.map kV))∧RelV p.2 q.2.2) kvs xs ∧
     ∃ o es ep,h.get? a=some o∧o.ExactDict∧o.data=.dict es ep∧es.toList=xs.map (entryOfKey (tupleKind (mixKind P w)))∧(xs.map (·.1)).Nodup
 | .set S n=>h.SetOf (intKind P w) a S n
 | .ins C dx fs => H dx = some (.own a) ∧ fs.length ≤ 1000 ∧ dx ≠ a ∧ h.get? a = some (PySem.W.instObj C dx) ∧
     ∃ mA,h.Ns1 dx mA∧(∀ f,RelO (fs.lookup f) (mA f))∧PySem.Within mA (fs.map (·.1))
 | .own _=>∃ o,h.get? a=some o
 | .xd fs=>∃ mA,h.Ns1 a mA∧∀ f,RelO (fs.lookup f) (mA f)
 | .rng lo hi=>∃ t u v,h.get? a=some { cls:=.type "range",data:=.fields #[.int lo t,.int hi u,.int 1 v] }
 | .frz o u=>h.get? a=some o∧ObjOk H h a u
 | .tbl ps=>h.get? a=some { cls:=.none,data:=.fields ps }
 | .met f x=>h.get? a=some (PySem.W.methodObj (.ref f) (.ref x))
 | .ext φ=>φ h∧(∃ o,h.get? a=some o)∧∀ h1 h2:Heap,φ h1->(∀ o,h1.get? a=some o->h2.get? a=some o)->φ h2
/-- the abstract heap is held -/
def HOk (H:Hp) (h:Heap):Prop:=∀ a o,H a=some o->ObjOk P w H h a o
end
section
variable {P:Program} {w:World} {H H':Hp} {h h':Heap} {a:Addr} {o:HO}
theorem ObjOk.lt (x:ObjOk P w H h a o):a < h.objs.size:=by
 cases o with
 | lst xs=>obtain⟨_,_,_,_,e⟩:=x;exact Heap.lt_size e
 | tup xs=>obtain⟨_,_,_,p⟩:=x;exact p.tup.lt
 | dK kvs=>obtain⟨_,_,_,_,o,_,_,e,_⟩:=x;exact Heap.lt_size e
 | dT kvs=>obtain⟨_,_,_,_,o,_,_,e,_⟩:=x;exact Heap.lt_size e
 | set S n=>obtain⟨o,_,_,_,e,_⟩:=x;exact Heap.lt_size e
 | ins C dx fs=>obtain⟨_,_,_,e,_⟩:=x;exact Heap.lt_size e
 | own y=>obtain⟨_,e⟩:=x;exact Heap.lt_size e
 | xd fs=>obtain⟨_,⟨_,_,_,e,_⟩,_⟩:=x;exact Heap.lt_size e
 | rng lo hi=>obtain⟨_,_,_,e⟩:=x;exact Heap.lt_size e
 | frz ob u=>obtain⟨e,_⟩:=x;exact Heap.lt_size e
 | tbl ps=>exact Heap.lt_size (show h.get? a=some _ from x)
 | met f y=>exact Heap.lt_size (show h.get? a=some _ from x)
 | ext φ=>obtain⟨_,⟨_,e⟩,_⟩:=x;exact Heap.lt_size e
theorem Paired.mapP {α β:Type} {F G:α->β->Prop}:∀ {l₁:List α} {l₂:List β},Paired F l₁ l₂->(∀ a b,F a b->G a b)->Paired G l₁ l₂
 | _,_,.nil,_=>.nil
 | _,_,.cons r t,f=>.cons (f _ _ r) (Paired.mapP t f)
/-- what an object's description leans on: its own object, its own dict, the tuples -/
theorem ObjOk.stay (x:ObjOk P w H h a o) (k:∀ b u,(b=a∨H b=some (.own a))->h.get? b=some u->h'.get? b=some u)
  (ho:∀ b,H b=some (.own a)->H' b=some (.own a)) (ht:∀ b xs,H b=some (.tup xs)->H' b=some (.tup xs)):ObjOk P w H' h' a o:=by
 induction o with
 | lst xs=>obtain⟨z,its,n,r,e⟩:=x;exact⟨z,its,n,r,k _ _ (.inl rfl) e⟩
 | tup xs=>obtain⟨z,its,r,ob,e,c⟩:=x;exact⟨z,its,r,ob,k _ _ (.inl rfl) e,c⟩
 | dK kvs=>obtain⟨z,y,vs,r,ob,es,ep,e,c⟩:=x;exact⟨z,y,vs,r,ob,es,ep,k _ _ (.inl rfl) e,c⟩
 | dT kvs =>
  obtain⟨z,y,xs,r,ob,es,ep,e,c⟩:=x
  exact⟨z,y,xs,Paired.mapP r fun p q z=>⟨z.1,ht _ _ z.2.1,z.2.2⟩,ob,es,ep,k _ _ (.inl rfl) e,c⟩
 | set S n=>obtain⟨ob,es,ep,t,e,c⟩:=x;exact⟨ob,es,ep,t,k _ _ (.inl rfl) e,c⟩
 | ins C dx fs =>
  obtain⟨d,z,ne,e,mA,⟨od,es,ep,e2,c⟩,r⟩:=x
  exact⟨ho _ d,z,ne,k _ _ (.inl rfl) e,mA,⟨od,es,ep,k _ _ (.inr d) e2,c⟩,r⟩
 | own y=>obtain⟨ob,e⟩:=x;exact⟨ob,k _ _ (.inl rfl) e⟩
 | xd fs=>obtain⟨mA,⟨od,es,ep,e,c⟩,r⟩:=x;exact⟨mA,⟨od,es,ep,k _ _ (.inl rfl) e,c⟩,r⟩
 | rng lo hi=>obtain⟨t,u,v,e⟩:=x;exact⟨t,u,v,k _ _ (.inl rfl) e⟩
 | frz ob u ih=>obtain⟨e,q⟩:=x;exact⟨k _ _ (.inl rfl) e,ih q⟩
 | tbl ps =>
  have e:h.get? a=some { cls:=.none,data:=.fields ps }:=x
  show h'.get? a=some { cls:=.none,data:=.fields ps }
  exact k a _ (.inl rfl) e
 | met f y =>
  have e:h.get? a=some (PySem.W.methodObj (.ref f) (.ref y)):=x
  show h'.get? a=some (PySem.W.methodObj (.ref f) (.ref y))
  exact k a _ (.inl rfl) e
 | ext φ=>obtain⟨p,⟨o,e⟩,st⟩:=x;exact⟨st _ _ p fun o q=>k _ _ (.inl rfl) q,⟨o,k _ _ (.inl rfl) e⟩,st⟩
theorem HOk.lt (x:HOk P w H h) (e:H a=some o):a < h.objs.size:=(x a o e).lt
theorem HOk.fresh (x:HOk P w H h) (e:h.objs.size≤a):H a=none:=by
 cases q:H a with
 | none=>rfl
 | some u=>exact absurd (Nat.lt_of_lt_of_le (x.lt q) e) (Nat.lt_irrefl _)
/-- every object of the heap is kept -/
theorem HOk.kept (x:HOk P w H h) (k:∀ b u,h.get? b=some u->h'.get? b=some u):HOk P w H h':=fun a o e =>
 (x a o e).stay (fun b u _ q=>k b u q) (fun _ q=>q) fun _ _ q=>q
/-- a new object is laid and tracked -/
theorem HOk.laid (x:HOk P w H h) (k:∀ b u,h.get? b=some u->h'.get? b=some u) (hp:h.objs.size≤a) (new:ObjOk P w (upd H a o) h' a o):HOk P w (upd H a o) h':=fun b u e=>by
 have hn:=x.fresh hp
 by_cases hb:b=a
 ·subst hb;rw[upd_same] at e;cases e;exact new
 ·rw[upd_ne hb] at e
  exact (x b u e).stay (fun c v _ q=>k c v q) (fun c q=>by rw[upd_ne (ne_of_none q hn)];exact q) fun c xs q=>by rw[upd_ne (ne_of_none q hn)];exact q
end
/-- what may be read as u: it is u, or a known u -/
def Rd (H:Hp) (a:Addr) (u:HO):Prop:=H a=some u∨∃ o,H a=some (.frz o u)
theorem Rd.of {H:Hp} {a:Addr} {u:HO} (h:H a=some u):Rd H a u:=.inl h
theorem Rd.ok {P:Program} {w:World} {H:Hp} {h:Heap} {a:Addr} {u:HO} (r:Rd H a u) (x:HOk P w H h):ObjOk P w H h a u:=by
 rcases r with r | ⟨o,r⟩
 ·exact x a u r
 ·obtain⟨_,q⟩:=x a _ r
  exact q
/-- what may be written -/
def Mut:Option HO->Prop
 | some (.lst _)=>True
 | some (.dK _)=>True
 | some (.dT _)=>True
 | some (.set _ _)=>True
 | some (.ins _ _ _)=>True
 | some (.ext _)=>True
 | _=>False
section
variable {P:Program} {w:World} {H:Hp} {h h':Heap} {x e:Addr} {o':HO}
/-- the object at e is changed: x itself, or the dict of the instance x -/
theorem HOk.write (ok:HOk P w H h) (mu:Mut (H x)) (he:e=x∨H e=some (.own x)) (k:∀ b u,b≠e->h.get? b=some u->h'.get? b=some u) (heo:∃ u,h'.get? e=some u)
  (new:ObjOk P w (upd H x o') h' x o'):HOk P w (upd H x o') h':=fun b u q=>by
 have nown:∀ c y,H c=some (.own y)->c≠x:=fun c y r z=>by subst z;rw[r] at mu;exact mu
 have ntup:∀ c xs,H c=some (.tup xs)->c≠x:=fun c xs r z=>by subst z;rw[r] at mu;exact mu
 by_cases hb:b=x
 ·subst hb;rw[upd_same] at q;cases q;exact new
 ·rw[upd_ne hb] at q
  by_cases hbe:b=e
  ·have q':H b=some (.own x):=by
    rcases he with z | z
    ·exact absurd (hbe.trans z) hb
    ·rw[hbe];exact z
   rw[q] at q';cases q'
   obtain⟨v,hv⟩:=heo
   exact⟨v,by rw[hbe];exact hv⟩
  ·refine (ok b u q).stay (fun c v hc r=>k c v ?_ r) (fun c r=>by rw[upd_ne (nown c b r)];exact r) fun c xs r=>by rw[upd_ne (ntup c xs r)];exact r
   rcases hc with rfl | hc
   ·exact hbe
   ·rintro rfl
    rcases he with z | z
    ·exact nown c b hc z
    ·rw[hc] at z;cases z;exact hb rfl
end
structure Un (fs ex:List Addr) (H H':Hp) (h h':Heap):Prop where
 keep:∀ b o,h.get? b=some o->H b=none->b ∉ fs->b ∉ ex->h'.get? b=some o
 slot:∀ b o,h.get? b=some o->H b=none->b ∈ fs->b ∉ ex->∃ sl,h'.get? b=some { o with slots:=sl }
 free:∀ b o,h.get? b=some o->H b=none->b ∉ ex->H' b=none
 there:∀ b o,h.get? b=some o->b ∉ ex->∃ o',h'.get? b=some o'
 tups:∀ b xs,H b=some (.tup xs)->H' b=some (.tup xs)
 frzs:∀ b o u,H b=some (.frz o u)->H' b=some (.frz o u)
 tbls:∀ b ps,H b=some (.tbl ps)->∃ more,H' b=some (.tbl (ps++more))
section
variable {fs fs' ex ex':List Addr} {H H1 H2:Hp} {h h1 h2 h':Heap} {a x e:Addr} {o:HO}
theorem Un.any (u:Un fs ex H H1 h h1) {b:Addr} {ob:Obj} (q:h.get? b=some ob) (n:H b=none) (hx:b ∉ ex):∃ sl,h1.get? b=some { ob with slots:=sl }:=by
 by_cases hb:b ∈ fs
 ·exact u.slot b ob q n hb hx
 ·exact⟨ob.slots,u.keep b ob q n hb hx⟩
theorem Un.trans (a:Un fs ex H H1 h h1) (b:Un fs ex H1 H2 h1 h2):Un fs ex H H2 h h2 where
 keep:=fun c ob q n hc hx=>b.keep c ob (a.keep c ob q n hc hx) (a.free c ob q n hx) hc hx
 slot:=fun c ob q n hc hx=>by
  obtain⟨sl,e1⟩:=a.slot c ob q n hc hx
  obtain⟨sl',e2⟩:=b.slot c _ e1 (a.free c ob q n hx) hc hx
  exact⟨sl',e2⟩
 free:=fun c ob q n hx=>by
  obtain⟨o',e1⟩:=a.there c ob q hx
  exact b.free c o' e1 (a.free c ob q n hx) hx
 there:=fun c ob q hx=>by
  obtain⟨o',e1⟩:=a.there c ob q hx
  exact b.there c o' e1 hx
 tups:=fun c xs q=>b.tups c xs (a.tups c xs q)
 frzs:=fun c ob xs q=>b.frzs c ob xs (a.frzs c ob xs q)
 tbls:=fun c ps q=>by
  obtain⟨m1,e1⟩:=a.tbls c ps q
  obtain⟨m2,e2⟩:=b.tbls c _ e1
  exact⟨m1++m2,by rw[e2,Array.append_assoc]⟩
theorem Un.kept (k:∀ b u,h.get? b=some u->h'.get? b=some u):Un fs ex H H h h' :=
 ⟨fun b ob q _ _ _=>k b ob q,fun b ob q _ _ _=>⟨ob.slots,k b ob q⟩,fun _ _ _ n _=>n,fun b ob q _=>⟨ob,k b ob q⟩,fun _ _ q=>q,fun _ _ _ q=>q,fun _ ps q=>⟨#[],by rw[q];simp⟩⟩
theorem Un.refl:Un fs ex H H h h:=Un.kept fun _ _ q=>q
theorem Un.laid (k:∀ b u,h.get? b=some u->h'.get? b=some u) (hp:h.objs.size≤a) (hn:H a=none):Un fs ex H (upd H a o) h h' where
 keep:=fun b u q _ _ _=>k b u q
 slot:=fun b u q _ _ _=>⟨u.slots,k b u q⟩
 free:=fun b u q n _=>by rw[upd_ne (Nat.ne_of_lt (Nat.lt_of_lt_of_le (Heap.lt_size q) hp))];exact n
 there:=fun b u q _=>⟨u,k b u q⟩
 tups:=fun b xs q=>by rw[upd_ne (ne_of_none q hn)];exact q
 frzs:=fun b u xs q=>by rw[upd_ne (ne_of_none q hn)];exact q
 tbls:=fun b ps q=>⟨#[],by rw[upd_ne (ne_of_none q hn),q];simp⟩
theorem Un.write (mu:Mut (H x)) (he:e=x∨H e=some (.own x)) (k:∀ b u,b≠e->h.get? b=some u->h'.get? b=some u) (heo:∃ u,h'.get? e=some u):Un fs ex H (upd H x o) h h':=by
 have hx:∀ b,H b=none->b≠x:=fun b n z=>by subst z;rw[n] at mu;exact mu
 have hb:∀ b,H b=none->b≠e:=fun b n z=>by
  subst z
  rcases he with r | r
  ·exact hx b n r
  ·rw[n] at r;cases r
 have hm:∀ b u,H b=some u->¬ Mut (some u)->b≠x:=fun b u q nm z=>by subst z;rw[q] at mu;exact nm mu
 refine⟨fun b u q n _ _=>k b u (hb b n) q,fun b u q n _ _=>⟨u.slots,k b u (hb b n) q⟩,fun b u q n _=>by rw[upd_ne (hx b n)];exact n,fun b u q _=>?_,
  fun b xs q=>by rw[upd_ne (hm b _ q fun z=>z)];exact q,fun b u xs q=>by rw[upd_ne (hm b _ q fun z=>z)];exact q,fun b ps q=>⟨#[],by rw[upd_ne (hm b _ q fun z=>z),q];simp⟩⟩
 by_cases hbe:b=e
 ·subst hbe;exact heo
 ·exact⟨u,k b u hbe q⟩
theorem Un.mono (u:Un fs ex H H1 h h1) (hs:∀ b ∈ fs,b ∈ fs') (hx:∀ b ∈ ex,b ∈ ex'):Un fs' ex' H H1 h h1 :=
 ⟨fun b ob q n hb he=>u.keep b ob q n (fun z=>hb (hs b z)) fun z=>he (hx b z),fun _ _ q n _ he=>u.any q n fun z=>he (hx _ z),fun b ob q n he=>u.free b ob q n fun z=>he (hx b z),fun b ob q he=>u.there b ob q fun z=>he (hx b z),u.tups,u.frzs,u.tbls⟩
end
def trk (h:Heap) (H:Hp):List Addr:=(List.range h.objs.size).filter fun a=>(H a).isSome
def hidT (h:Heap) (H:Hp):Heap:=PySem.W.hideAll h (trk h H)
theorem hidT_size (h:Heap) (H:Hp):(hidT h H).objs.size=h.objs.size:=PySem.W.hideAll_size _ _
theorem hidT_get {h:Heap} {H:Hp} {b:Addr} {o:Obj} (e:h.get? b=some o) (n:H b=none):(hidT h H).get? b=some o :=
 PySem.W.hideAll_get _ e fun hm=>by
  have q:(H b).isSome=true:=(List.mem_filter.mp hm).2
  rw[n] at q;simp at q
theorem of_hidT {h:Heap} {H:Hp} {b:Addr} {o:Obj} (e:(hidT h H).get? b=some o):h.get? b=some o∧H b=none:=by
 have e':h.get? b=some o:=PySem.W.of_hideAll (trk h H) e
 refine⟨e',?_⟩
 cases q:H b with
 | none=>rfl
 | some x =>
  have hm:b ∈ trk h H:=List.mem_filter.mpr ⟨List.mem_range.mpr (Heap.lt_size e'),by simp [q]⟩
  have z:(hidT h H).get? b=none:=PySem.W.hideAll_none (trk h H) hm
  rw[z] at e;cases e
def allNews (g h:Heap) (L:Addr):List (Addr × Obj):=(List.range h.objs.size).filterMap fun a=>if a=L∨(g.get? a).isSome=true then none else (h.get? a).map fun o=>(a,o)
def rest (g h:Heap) (L d:Addr):List (Addr × Obj):=(allNews g h L).filter fun p=>decide (p.1≠d)
end L2
namespace L2
open PySem PySem.Spec PyProof.Rows
/-- the module's facts, over the base: the heap at the law's entry without what is tracked there -/
structure Mod (K:PySem.W.Frag) (mg:Str->Option Value) (base:Heap):Prop where
 kin:K.In base
 glob:base.Ns mainGlobals mg
 blt:∃ mb,base.Ns builtinsNs mb∧∀ x:Str,x≠"__name__"->mb x=bootBuiltins x
 nolimit:base.NoLimit
/-- the context: a def's body (or a comprehension's block) running. base: fixed through the whole law; s₀, H₀: the entry; outer: the frames whose slots others may change (a def's callers); stack: all frames that run;
   ex: iterators that were made ahead of the entry and are walked here (a comprehension's); fn: the names whose cells were made at the entry (a def: all; a comprehension's block: its own); calm: not within an except suite; pn: pins that every state bears; xe: what is wanted of an exception that leaves the code -/
structure Cx where
 prog:Program
 w:World
 K:PySem.W.Frag
 mg:Str->Option Value
 base:Heap
 A:Around
 N:List Str
 s₀:Shared
 H₀:Hp
 env:Env
 outer:List Env
 stack:List Env
 ex:List Addr
 fn:Str->Bool
 calm:Bool
 pn:List (Addr × Obj)
 xe:Value->Shared->Prop
/-- the callers' frames -/
def frs (l:List Env):List Addr:=l.filterMap (·.frame)
abbrev Cx.fs (X:Cx):List Addr:=frs X.outer
def Vis (sc:Scope) (x:Str):Prop:=sc.names.lookup x=some .local∨sc.names.lookup x=some .cell∨sc.names.lookup x=some .free
def Loc (sc:Scope) (x:Str):Prop:=sc.names.lookup x=some .local∨sc.names.lookup x=some .cell
def Look (env:Env) (h:Heap) (m:Str->Option Value) (x:Str) (u:Value):Prop :=
 (env.kindOf x=some .local∧m x=some u)∨((env.kindOf x=some .cell∨env.kindOf x=some .free)∧∃ c,env.cells.lookup x=some c∧h.IsCell c (some u))
structure Cx.Ok (X:Cx):Prop where
 mod:Mod X.K X.mg X.base
 kind:X.env.scope.kind=.function
 glob:X.env.globals=mainGlobals
 blt:X.env.builtins=builtinsNs
 above:X.s₀.heap.objs.size≤X.env.locals
 inj:∀ x y c,X.env.cells.lookup x=some c->X.env.cells.lookup y=some c->x=y
 has:∀ x,(X.env.kindOf x=some .cell∨X.env.kindOf x=some .free)->∃ c,X.env.cells.lookup x=some c
 cab:∀ x c,X.fn x=true->X.env.cells.lookup x=some c->X.s₀.heap.objs.size≤c
 hd:X.calm=true->X.A.handled=none
 frames:X.A.frames=some X.stack
 stk:X.stack=X.outer∨(X.stack=X.env::X.outer∧X.env.frame=some X.env.locals)
 exf:∀ b ∈ X.ex,b≠X.env.locals∧∀ x c,X.env.cells.lookup x=some c->c≠b
 bs:∀ b o,X.base.get? b=some o->X.s₀.heap.get? b=some o∧X.H₀ b=none
 bsz:X.base.objs.size≤X.s₀.heap.objs.size
 noex:∀ b o,X.base.get? b=some o->b ∉ X.ex
 exfs:∀ b ∈ X.ex,b ∉ X.fs
 funs:X.s₀.heap.FunFrames X.base X.outer
 frf:∀ b ∈ X.fs,X.H₀ b=none
structure Inv (X:Cx) (pins:List (Addr × Obj)) (σ:List (Option V)) (H:Hp) (s:Shared):Prop where
 ok:X.Ok
 os:s.os=X.s₀.os
 bare:AllBare s.gens
 base:Un X.fs X.ex X.H₀ H X.s₀.heap s.heap
 loc:∃ m,s.heap.Ns X.env.locals m∧∀ (i:Nat) (x:Str) (v:V),X.N[i]?=some x->σ[i]?=some (some v)->Vis X.env.scope x->∃ u,RelV v u∧Look X.env s.heap m x u
 cell:∀ x c,X.env.cells.lookup x=some c->∃ v,s.heap.IsCell c v
 free:H X.env.locals=none
 freeC:∀ x c,X.env.cells.lookup x=some c->H c=none
 pin:∀ p ∈ X.pn++pins,s.heap.get? p.1=some p.2∧H p.1=none∧p.1≠X.env.locals∧p.1 ∉ X.fs∧∀ v,p.2.data≠.cell v
 hok:HOk X.prog X.w H s.heap
 len:σ.length=X.N.length
section
variable {X:Cx} {pins:List (Addr × Obj)} {σ:List (Option V)} {H H':Hp} {s:Shared} {h':Heap}
theorem Cx.Ok.nofr (ok:X.Ok) {b:Addr} {o:Obj} (e:X.base.get? b=some o):b ∉ X.fs:=fun hb=>by
 have:=(ok.funs.mem hb).1
 rw[e] at this;cases this
theorem Inv.bs (I:Inv X pins σ H s):∀ b o,X.base.get? b=some o->s.heap.get? b=some o∧H b=none:=fun b o e =>
 ⟨I.base.keep b o (I.ok.bs b o e).1 (I.ok.bs b o e).2 (I.ok.nofr e) (I.ok.noex b o e),I.base.free b o (I.ok.bs b o e).1 (I.ok.bs b o e).2 (I.ok.noex b o e)⟩
theorem Inv.bk (I:Inv X pins σ H s):∀ b o,X.base.get? b=some o->s.heap.get? b=some o:=fun b o e=>(I.bs b o e).1
theorem Inv.mod (I:Inv X pins σ H s):Mod X.K X.mg X.base:=I.ok.mod
theorem Inv.kIn (I:Inv X pins σ H s):X.K.In s.heap:=I.ok.mod.kin.keeps I.bk
theorem Inv.nolimit (I:Inv X pins σ H s):s.heap.NoLimit:=I.ok.mod.nolimit.keeps I.bk
/-- the frame over the base: for OpenK's rules (K.In X.base is I.mod.kin) -/
theorem Inv.fr (I:Inv X pins σ H s):∃ m,Fr X.base X.env.locals s.heap m :=
 let ⟨m,hn,_⟩:=I.loc
 ⟨m,hn,I.bk,Nat.le_trans I.ok.bsz I.ok.above⟩
theorem Inv.lt (I:Inv X pins σ H s):X.env.locals < s.heap.objs.size:=let ⟨_,hn,_⟩:=I.loc;hn.lt
theorem Inv.sz (I:Inv X pins σ H s):X.s₀.heap.objs.size≤s.heap.objs.size:=Nat.le_trans I.ok.above (Nat.le_of_lt I.lt)
theorem Inv.nofs (I:Inv X pins σ H s) {a:Addr} (h:s.heap.objs.size≤a):a ∉ X.fs:=fun hb=>by
 obtain⟨_,o,ho,_⟩:=I.ok.funs.mem hb
 exact absurd (Nat.lt_of_lt_of_le (Heap.lt_size ho) (Nat.le_trans I.sz h)) (Nat.lt_irrefl _)
theorem Inv.cne (I:Inv X pins σ H s):∀ x c,X.env.cells.lookup x=some c->c≠X.env.locals:=fun x c e z=>by
 obtain⟨v,o,ho,hd⟩:=I.cell x c e
 obtain⟨m,⟨o',es,ep,ho',hd',_⟩,_⟩:=I.loc
 rw[z,ho'] at ho;cases ho;rw[hd'] at hd;cases hd
theorem Inv.funs (I:Inv X pins σ H s):s.heap.FunFrames X.base X.outer:=by
 have all:∀ (l:List Env),(∀ b ∈ frs l,b ∈ X.fs)->X.s₀.heap.FunFrames X.base l->s.heap.FunFrames X.base l:=by
  intro l
  induction l with
  | nil=>intro _ _;trivial
  | cons env r ih =>
   intro hs hl
   obtain⟨hk,⟨L,o,hf,hn,ho,hd⟩,hr⟩:=hl
   have hL:L ∈ X.fs:=hs L (by unfold frs;rw[List.filterMap_cons,hf];exact List.mem_cons_self)
   obtain⟨sl,e⟩:=I.base.slot L o ho (I.ok.frf L hL) hL fun z=>I.ok.exfs L z hL
   exact⟨hk,⟨L,_,hf,hn,e,hd⟩,ih (fun b hb=>hs b (by unfold frs;rw[List.filterMap_cons,hf];exact List.mem_cons_of_mem _ hb)) hr⟩
 exact all X.outer (fun _ hb=>hb) I.ok.funs
/-- the frames that run, for a call -/
theorem Inv.stack (I:Inv X pins σ H s):s.heap.FunFrames X.base X.stack:=by
 rcases I.ok.stk with e | ⟨e,hf⟩
 ·rw[e];exact I.funs
 ·rw[e]
  obtain⟨m,hn,_⟩:=I.loc
  refine .cons (by rw[I.ok.kind];decide) hf hn ?_ I.funs
  exact Heap.get?_none_of_le (Nat.le_trans I.ok.bsz I.ok.above)
theorem Inv.stkSub (I:Inv X pins σ H s):∀ b ∈ frs X.stack,b ∈ X.env.locals::X.fs:=fun b hb=>by
 rcases I.ok.stk with e | ⟨e,hf⟩
 ·rw[e] at hb;exact List.mem_cons_of_mem _ hb
 ·rw[e] at hb
  unfold frs at hb
  rw[List.filterMap_cons,hf] at hb
  exact hb
theorem Inv.stkFree (I:Inv X pins σ H s):∀ b ∈ frs X.stack,H b=none:=fun b hb=>by
 rcases List.mem_cons.mp (I.stkSub b hb) with e | hb
 ·rw[e];exact I.free
 ·obtain⟨_,o,ho,_⟩:=I.ok.funs.mem hb
  exact I.base.free b o ho (I.ok.frf b hb) fun z=>I.ok.exfs b z hb
/-- THE STEP: the untracked objects but the frame and the records at ch are kept (the callers' frames up to slots), the frame's map is kept, the new abstract heap is held -/
theorem Inv.step {g':Array GenState} {t':Nat} {d':Drawn} {ch:List Addr} (I:Inv X pins σ H s)
  (hch:∀ b ∈ ch,(b ∈ X.ex∨X.s₀.heap.objs.size≤b)∧b≠X.env.locals∧(∀ x c,X.env.cells.lookup x=some c->c≠b)∧∀ p ∈ X.pn++pins,p.1≠b)
  (keep:∀ b o,b≠X.env.locals->b ∉ X.fs->b ∉ ch->s.heap.get? b=some o->H b=none->h'.get? b=some o)
  (slot:∀ b o,b≠X.env.locals->b ∈ X.fs->b ∉ ch->s.heap.get? b=some o->H b=none->∃ sl,h'.get? b=some { o with slots:=sl }) (free:∀ b o,b ∉ ch->s.heap.get? b=some o->H b=none->H' b=none)
  (there:∀ b o,b ∉ ch->s.heap.get? b=some o->∃ o',h'.get? b=some o')
  (tups:∀ b xs,H b=some (.tup xs)->H' b=some (.tup xs)) (frzs:∀ b o u,H b=some (.frz o u)->H' b=some (.frz o u)) (tbls:∀ b ps,H b=some (.tbl ps)->∃ more,H' b=some (.tbl (ps++more)))
  (ns:∀ m,s.heap.Ns X.env.locals m->h'.Ns X.env.locals m) (hok:HOk X.prog X.w H' h') (hg:AllBare g') :
  Inv X pins σ H' { s with heap:=h',gens:=g',drawn:=d',toks:=t' }:=by
 have neL:∀ b o,X.s₀.heap.get? b=some o->b≠X.env.locals:=fun b o e=>Nat.ne_of_lt (Nat.lt_of_lt_of_le (Heap.lt_size e) I.ok.above)
 have neC:∀ b o,X.s₀.heap.get? b=some o->b ∉ X.ex->b ∉ ch:=fun b o e hx hb=>by
  rcases (hch b hb).1 with z | z
  ·exact hx z
  ·exact absurd (Nat.lt_of_lt_of_le (Heap.lt_size e) z) (Nat.lt_irrefl _)
 have cellK:∀ x c,X.env.cells.lookup x=some c->∀ v,s.heap.IsCell c v->h'.IsCell c v:=fun x c e v ⟨o,ho,hd⟩=>by
  have nch:c ∉ ch:=fun z=>(hch c z).2.2.1 x c e rfl
  by_cases hc:c ∈ X.fs
  ·obtain⟨sl,q⟩:=slot c o (I.cne x c e) hc nch ho (I.freeC x c e)
   exact⟨_,q,hd⟩
  ·exact⟨o,keep c o (I.cne x c e) hc nch ho (I.freeC x c e),hd⟩
 refine⟨I.ok,I.os,hg,⟨fun b o e n hb hx=>?_,fun b o e n hb hx=>?_,fun b o e n hx=>?_,fun b o e hx=>?_,fun b xs e=>tups b xs (I.base.tups b xs e),fun b o xs e=>frzs b o xs (I.base.frzs b o xs e),fun b ps e=>?_⟩,?_,fun x c e=>?_,?_,fun x c e=>?_,fun p hp=>?_,hok,I.len⟩
 ·exact keep b o (neL b o e) hb (neC b o e hx) (I.base.keep b o e n hb hx) (I.base.free b o e n hx)
 ·obtain⟨sl,e1⟩:=I.base.slot b o e n hb hx
  obtain⟨sl',e2⟩:=slot b _ (neL b o e) hb (neC b o e hx) e1 (I.base.free b o e n hx)
  exact⟨sl',e2⟩
 ·obtain⟨o',e1⟩:=I.base.there b o e hx
  exact free b o' (neC b o e hx) e1 (I.base.free b o e n hx)
 ·obtain⟨o',e1⟩:=I.base.there b o e hx
  exact there b o' (neC b o e hx) e1
 ·obtain⟨m1,e1⟩:=I.base.tbls b ps e
  obtain⟨m2,e2⟩:=tbls b _ e1
  exact⟨m1++m2,by rw[e2,Array.append_assoc]⟩
 ·obtain⟨m,hn,hl⟩:=I.loc
  refine⟨m,ns m hn,fun i x v e1 e2 e3=>?_⟩
  obtain⟨u,r,l⟩:=hl i x v e1 e2 e3
  refine⟨u,r,?_⟩
  rcases l with l | ⟨k,c,e,z⟩
  ·exact .inl l
  ·exact .inr ⟨k,c,e,cellK x c e _ z⟩
 ·obtain⟨v,z⟩:=I.cell x c e
  exact⟨v,cellK x c e v z⟩
 ·obtain⟨m,⟨o,_,_,ho,_⟩,_⟩:=I.loc
  exact free _ o (fun z=>(hch _ z).2.1 rfl) ho I.free
 ·obtain⟨v,o,ho,hd⟩:=I.cell x c e
  exact free c o (fun z=>(hch c z).2.2.1 x c e rfl) ho (I.freeC x c e)
 ·obtain⟨e,n,ne,nf,d⟩:=I.pin p hp
  have nch:p.1 ∉ ch:=fun z=>(hch p.1 z).2.2.2 p hp rfl
  exact⟨keep p.1 p.2 ne nf nch e n,free p.1 p.2 nch e n,ne,nf,d⟩
/-- .. where the frame's own object is kept too -/
theorem Inv.un {t':Nat} (I:Inv X pins σ H s) (u:Un X.fs [] H H' s.heap h') (hok:HOk X.prog X.w H' h'):Inv X pins σ H' { s with heap:=h',toks:=t' }:=by
 obtain⟨m,⟨o,es,ep,ho,r⟩,_⟩:=id I.loc
 obtain⟨sl,hL⟩:=u.any ho I.free (by simp)
 exact I.step (g':=s.gens) (d':=s.drawn) (ch:=[]) (fun _ z=>nomatch z) (fun b o _ hb _ e n=>u.keep b o e n hb (by simp)) (fun b o _ hb _ e n=>u.slot b o e n hb (by simp)) (fun b o _ e n=>u.free b o e n (by simp)) (fun b o _ e=>u.there b o e (by simp)) u.tups u.frzs u.tbls (fun m' hm=>by
  obtain⟨o',es',ep',ho',r'⟩:=hm
  rw[ho] at ho';cases ho'
  exact⟨_,es',ep',hL,r'⟩) hok I.bare
/-- behind a call (or a comprehension's block): the slots of this frame may have changed too, the records at ch may have turned -/
theorem Inv.call {g':Array GenState} {t':Nat} {d':Drawn} {ch:List Addr} (I:Inv X pins σ H s) (u:Un (frs X.stack) ch H H' s.heap h') (hok:HOk X.prog X.w H' h') (hg:AllBare g')
  (hch:∀ b ∈ ch,(b ∈ X.ex∨X.s₀.heap.objs.size≤b)∧b≠X.env.locals∧(∀ x c,X.env.cells.lookup x=some c->c≠b)∧∀ p ∈ X.pn++pins,p.1≠b) :
  Inv X pins σ H' { s with heap:=h',gens:=g',drawn:=d',toks:=t' }:=by
 obtain⟨m,⟨o,es,ep,ho,r⟩,_⟩:=id I.loc
 obtain⟨sl,hL⟩:=u.any ho I.free fun z=>(hch _ z).2.1 rfl
 exact I.step (ch:=ch) hch (fun b o hL hb hc e n=>u.keep b o e n (fun z=>(List.mem_cons.mp (I.stkSub b z)).elim hL hb) hc) (fun b o _ _ hc e n=>u.any e n hc) (fun b o hc e n=>u.free b o e n hc) (fun b o hc e=>u.there b o e hc) u.tups u.frzs u.tbls (fun m' hm=>by
  obtain⟨o',es',ep',ho',r'⟩:=hm
  rw[ho] at ho';cases ho'
  exact⟨_,es',ep',hL,r'⟩) hok hg
/-- an untracked record of ours (an iterator) has turned -/
theorem Inv.turned {t':Nat} {it:Addr} (I:Inv X pins σ H s) (k:∀ b o,b≠it->s.heap.get? b=some o->h'.get? b=some o) (hn:H it=none) (hL:it≠X.env.locals)
  (h1:it ∈ X.ex∨X.s₀.heap.objs.size≤it) (h2:∀ x c,X.env.cells.lookup x=some c->c≠it) (h3:∀ p ∈ X.pn++pins,p.1≠it):Inv X pins σ H { s with heap:=h',toks:=t' }:=by
 have nit:∀ b u,H b=some u->b≠it:=fun b u e z=>by rw[z,hn] at e;cases e
 refine I.step (g':=s.gens) (d':=s.drawn) (ch:=[it]) (fun b hb=>?_) (fun b o _ _ hc e _=>k b o (fun z=>hc (by simp [z])) e) (fun b o _ _ hc e _=>⟨o.slots,k b o (fun z=>hc (by simp [z])) e⟩) (fun _ _ _ _ n=>n)
  (fun b o hc e=>⟨o,k b o (fun z=>hc (by simp [z])) e⟩) (fun _ _ e=>e) (fun _ _ _ e=>e) (fun b ps e=>⟨#[],by rw[e];simp⟩) (fun m hm=>?_) (fun b u e=>?_) I.bare
 ·have e:b=it:=by simpa using hb
  subst e
  exact⟨h1,hL,h2,h3⟩
 ·obtain⟨o,es,ep,ho,r⟩:=hm
  exact⟨o,es,ep,k _ o (Ne.symm hL) ho,r⟩
 ·refine (I.hok b u e).stay (fun c v hc q=>k c v ?_ q) (fun _ q=>q) fun _ _ q=>q
  rcases hc with z | z
  ·rw[z];exact nit b u e
  ·exact nit c _ z
theorem Inv.tok (I:Inv X pins σ H s) (t:Nat):Inv X pins σ H { s with toks:=t }:=I.un (h':=s.heap) (t':=t) Un.refl I.hok
/-- all objects kept -/
theorem Inv.kept {t':Nat} (I:Inv X pins σ H s) (k:∀ b u,s.heap.get? b=some u->h'.get? b=some u):Inv X pins σ H { s with heap:=h',toks:=t' }:=I.un (Un.kept k) (I.hok.kept k)
/-- a new object laid and tracked -/
theorem Inv.laid {a:Addr} {o:HO} {t':Nat} (I:Inv X pins σ H s) (k:∀ b u,s.heap.get? b=some u->h'.get? b=some u) (hp:s.heap.objs.size≤a) (new:ObjOk X.prog X.w (upd H a o) h' a o) :
  Inv X pins σ (upd H a o) { s with heap:=h',toks:=t' }:=I.un (Un.laid k hp (I.hok.fresh hp)) (I.hok.laid k hp new)
/-- an object written -/
theorem Inv.write {x e:Addr} {o:HO} {t':Nat} (I:Inv X pins σ H s) (mu:Mut (H x)) (he:e=x∨H e=some (.own x)) (k:∀ b u,b≠e->s.heap.get? b=some u->h'.get? b=some u) (heo:∃ u,h'.get? e=some u)
  (new:ObjOk X.prog X.w (upd H x o) h' x o):Inv X pins σ (upd H x o) { s with heap:=h',toks:=t' }:=I.un (Un.write mu he k heo) (I.hok.write mu he k heo new)
theorem Inv.pins_of {pins':List (Addr × Obj)} (I:Inv X pins σ H s) (h:∀ p ∈ pins',s.heap.get? p.1=some p.2∧H p.1=none∧p.1≠X.env.locals∧p.1 ∉ X.fs∧∀ v,p.2.data≠.cell v):Inv X pins' σ H s :=
 ⟨I.ok,I.os,I.bare,I.base,I.loc,I.cell,I.free,I.freeC,fun p hp=>(List.mem_append.mp hp).elim (fun z=>I.pin p (List.mem_append_left _ z)) (h p),I.hok,I.len⟩
theorem nodup_ix {N:List Str} (hN:N.Nodup) {i j:Nat} {x:Str} (a:N[i]?=some x) (b:N[j]?=some x):i=j:=by
 obtain⟨h1,e1⟩:=List.getElem?_eq_some_iff.mp a
 obtain⟨h2,e2⟩:=List.getElem?_eq_some_iff.mp b
 exact (List.getElem_inj hN).mp (e1.trans e2.symm)
/-- a name is stored; what changed -/
theorem store_ok2 {M:Model} {A:Around} {E:Value->Shared->Prop} {i:Nat} {x:Str} {v:V} {u:Value} {Q:Unit->Shared->Prop} (I:Inv X pins σ H s) (hN:X.N.Nodup) (hi:X.N[i]?=some x) (hx:Loc X.env.scope x) (r:RelV v u)
  (h:∀ s',Inv X pins (σ.set i (some v)) H s'->(∃ a,Heap.SameBut a s.heap s'.heap∧(a=X.env.locals∨X.env.cells.lookup x=some a))->Q () s') (hf:X.fn x=true∨X.env.scope.names.lookup x=some .local:=by first | exact .inl rfl | exact .inr rfl | assumption):wpAny M A (storeName X.env x u) Q E s:=by
 obtain⟨m,hn,hl⟩:=id I.loc
 have hcls:(X.env.scope.kind == .class || (X.env.scope.kind == .module && X.env.locals != X.env.globals))=false:=by rw[I.ok.kind];rfl
 have hiσ:i < σ.length:=by rw[I.len];exact (List.getElem?_eq_some_iff.mp hi).1
 have cne:=I.cne
 have tracked:∀ {a:Addr} {h':Heap},(∃ o,s.heap.get? a=some o∧H a=none)->Heap.SameBut a s.heap h'->HOk X.prog X.w H h':=fun {a h'} ha hs b ob e=>by
  obtain⟨_,_,hfree⟩:=ha
  refine (I.hok b ob e).stay (fun c w' hc q=>(hs.2 c ?_).trans q) (fun _ q=>q) fun _ _ q=>q
  rintro rfl
  rcases hc with rfl | hc
  ·rw[hfree] at e;cases e
  ·rw[hfree] at hc;cases hc
 rcases hx with hk | hk
 ·refine wpAny_storeName_local hk hn (fun h' hn' hs=>?_) hcls
  obtain⟨oL,_,_,hoL,_⟩:=id hn
  refine h _ ⟨I.ok,I.os,I.bare,⟨fun b o e n hb hx=>?_,fun b o e n hb hx=>?_,I.base.free,fun b o e hx=>?_,I.base.tups,I.base.frzs,I.base.tbls⟩,⟨_,hn',fun j y v' e1 e2 e3=>?_⟩,fun y c e=>?_,I.free,I.freeC,fun p hp=>?_,tracked ⟨oL,hoL,I.free⟩ hs,by simpa using I.len⟩ ⟨_,hs,.inl rfl⟩
  ·exact (hs.2 b (Nat.ne_of_lt (Nat.lt_of_lt_of_le (Heap.lt_size e) I.ok.above))).trans (I.base.keep b o e n hb hx)
  ·obtain⟨sl,e1⟩:=I.base.slot b o e n hb hx
   exact⟨sl,(hs.2 b (Nat.ne_of_lt (Nat.lt_of_lt_of_le (Heap.lt_size e) I.ok.above))).trans e1⟩
  ·obtain⟨o',e1⟩:=I.base.there b o e hx
   exact⟨o',(hs.2 b (Nat.ne_of_lt (Nat.lt_of_lt_of_le (Heap.lt_size e) I.ok.above))).trans e1⟩
  ·by_cases hj:j=i
   ·subst hj
    rw[hi] at e1;cases e1
    rw[List.getElem?_set_self hiσ] at e2
    cases e2
    exact⟨u,r,.inl ⟨hk,by simp⟩⟩
   ·rw[List.getElem?_set_ne (Ne.symm hj)] at e2
    obtain⟨u',r',q⟩:=hl j y v' e1 e2 e3
    refine⟨u',r',?_⟩
    rcases q with ⟨k,e⟩ | ⟨k,c,e,z⟩
    ·refine .inl ⟨k,?_⟩
     have:y≠x:=fun e=>hj (nodup_ix hN e1 (e ▸ hi))
     simp [this,e]
    ·exact .inr ⟨k,c,e,z.sameBut hs (cne y c e)⟩
  ·obtain⟨w',z⟩:=I.cell y c e
   exact⟨w',z.sameBut hs (cne y c e)⟩
  ·obtain⟨e,n,ne,nf,d⟩:=I.pin p hp
   exact⟨(hs.2 p.1 ne).trans e,n,ne,nf,d⟩
 ·have hfn:X.fn x=true:=by
   rcases hf with z | z
   ·exact z
   ·rw[z] at hk;cases hk
  obtain⟨c,hc⟩:=I.ok.has x (.inl hk)
  obtain⟨w',z⟩:=I.cell x c hc
  refine wpAny_storeName_cell I.ok.kind hk hc z (fun h' hc' hs=>?_)
  obtain⟨oc,hoc,hocd⟩:=id z
  refine h { s with heap:=h' } ⟨I.ok,I.os,I.bare,⟨fun b o e n hb hx=>?_,fun b o e n hb hx=>?_,I.base.free,fun b o e hx=>?_,I.base.tups,I.base.frzs,I.base.tbls⟩,⟨m,hn.sameBut hs (Ne.symm (cne x c hc)),fun j y v' e1 e2 e3=>?_⟩,fun y c' e=>?_,I.free,I.freeC,fun p hp=>?_,tracked ⟨oc,hoc,I.freeC x c hc⟩ hs,by simpa using I.len⟩ ⟨c,hs,.inr hc⟩
  ·exact (hs.2 b (Nat.ne_of_lt (Nat.lt_of_lt_of_le (Heap.lt_size e) (I.ok.cab x c hfn hc)))).trans (I.base.keep b o e n hb hx)
  ·obtain⟨sl,e1⟩:=I.base.slot b o e n hb hx
   exact⟨sl,(hs.2 b (Nat.ne_of_lt (Nat.lt_of_lt_of_le (Heap.lt_size e) (I.ok.cab x c hfn hc)))).trans e1⟩
  ·obtain⟨o',e1⟩:=I.base.there b o e hx
   exact⟨o',(hs.2 b (Nat.ne_of_lt (Nat.lt_of_lt_of_le (Heap.lt_size e) (I.ok.cab x c hfn hc)))).trans e1⟩
  ·by_cases hj:j=i
   ·subst hj
    rw[hi] at e1;cases e1
    rw[List.getElem?_set_self hiσ] at e2
    cases e2
    exact⟨u,r,.inr ⟨.inl hk,c,hc,hc'⟩⟩
   ·rw[List.getElem?_set_ne (Ne.symm hj)] at e2
    obtain⟨u',r',q⟩:=hl j y v' e1 e2 e3
    refine⟨u',r',?_⟩
    rcases q with q | ⟨k,c',e,z'⟩
    ·exact .inl q
    ·refine .inr ⟨k,c',e,z'.sameBut hs ?_⟩
     rintro rfl
     exact hj (nodup_ix hN e1 (I.ok.inj _ _ _ e hc ▸ hi))
  ·by_cases hcc:c'=c
   ·subst hcc;exact⟨_,hc'⟩
   ·obtain⟨w2,z2⟩:=I.cell y c' e
    exact⟨w2,z2.sameBut hs hcc⟩
  ·obtain⟨e,n,ne,nf,d⟩:=I.pin p hp
   refine⟨(hs.2 p.1 ?_).trans e,n,ne,nf,d⟩
   intro q
   rw[q,hoc] at e
   have q':oc=p.2:=Option.some.inj e
   exact d w' (by rw[← q'];exact hocd)
theorem store_ok {M:Model} {A:Around} {E:Value->Shared->Prop} {i:Nat} {x:Str} {v:V} {u:Value} {Q:Unit->Shared->Prop} (I:Inv X pins σ H s) (hN:X.N.Nodup) (hi:X.N[i]?=some x) (hx:Loc X.env.scope x) (r:RelV v u)
  (h:∀ s',Inv X pins (σ.set i (some v)) H s'->Q () s') (hf:X.fn x=true∨X.env.scope.names.lookup x=some .local:=by first | exact .inl rfl | exact .inr rfl | assumption):wpAny M A (storeName X.env x u) Q E s :=
 store_ok2 I hN hi hx r (fun s' I' _=>h s' I') hf
/-- behind a call or a block, the state as it is -/
theorem Inv.call' {s':Shared} {ch:List Addr} (I:Inv X pins σ H s) (ho:s'.os=s.os) (u:Un (frs X.stack) ch H H' s.heap s'.heap) (hok:HOk X.prog X.w H' s'.heap) (hg:AllBare s'.gens)
  (hch:∀ b ∈ ch,(b ∈ X.ex∨X.s₀.heap.objs.size≤b)∧b≠X.env.locals∧(∀ x c,X.env.cells.lookup x=some c->c≠b)∧∀ p ∈ X.pn++pins,p.1≠b):Inv X pins σ H' s':=by
 obtain⟨h',g',d',t',o'⟩:=s'
 have e:o'=s.os:=ho
 subst e
 exact I.call (g':=g') (t':=t') (d':=d') u hok hg hch
end
/-- an exception: its class, its own dict's address (where it has one), the abstract heap behind it -/
abbrev XK:=Value->Option Addr->Hp->Prop
abbrev St:=List (Option V)
abbrev VK:=V->Hp->Prop
/-- an expression's reading; a test's; an argument list's -/
abbrev TE:=St->Hp->VK->Prop
abbrev TT:=St->Hp->(Bool->Hp->Prop)->Prop
abbrev TA:=St->Hp->(List V->Hp->Prop)->Prop
/-- what is wanted behind a statement -/
structure Ends where
 nx:St->Hp->Prop
 rt:VK
 bk:St->Hp->Prop:=fun _ _=>False
 ct:St->Hp->Prop:=fun _ _=>False
abbrev TS:=Ends->St->Hp->Prop
def EP (X:Cx) (pins:List (Addr × Obj)) (σ:St) (Q:VK) (u:Value) (s':Shared):Prop:=∃ v H',Inv X pins σ H' s'∧RelV v u∧Q v H'
def TP (X:Cx) (pins:List (Addr × Obj)) (σ:St) (Q:Bool->Hp->Prop) (b:Bool) (s':Shared):Prop:=∃ H',Inv X pins σ H' s'∧Q b H'
def AP (X:Cx) (pins:List (Addr × Obj)) (σ:St) (Q:List V->Hp->Prop) (us:List Value) (s':Shared):Prop:=∃ vs H',Inv X pins σ H' s'∧Vals vs us∧Q vs H'
def SP (X:Cx) (pins:List (Addr × Obj)) (D:Ends) (f:Flow) (s':Shared):Prop :=
 match f with
 | .next=>∃ σ' H',Inv X pins σ' H' s'∧D.nx σ' H'
 | .brk=>∃ σ' H',Inv X pins σ' H' s'∧D.bk σ' H'
 | .cont=>∃ σ' H',Inv X pins σ' H' s'∧D.ct σ' H'
 | .ret u=>∃ v σ' H',Inv X pins σ' H' s'∧RelV v u∧D.rt v H'
def PE (X:Cx) (e:Expr) (t:TE):Prop :=
 ∀ (pins:List (Addr × Obj)) (s:Shared) (σ:St) (H:Hp) (Q:VK),Inv X pins σ H s->t σ H Q->wpAny (model X.prog X.w) X.A (eval e X.env) (EP X pins σ Q) X.xe s
def PT (X:Cx) (e:Expr) (t:TT):Prop :=
 ∀ (pins:List (Addr × Obj)) (s:Shared) (σ:St) (H:Hp) (Q:Bool->Hp->Prop),Inv X pins σ H s->t σ H Q->wpAny (model X.prog X.w) X.A (isTrue e X.env (eval e X.env)) (TP X pins σ Q) X.xe s
/-- a test whatever its 'whole' is (and, or) -/
def PW (X:Cx) (e:Expr) (t:TT):Prop :=
 ∀ (whole:Sem Value) (pins:List (Addr × Obj)) (s:Shared) (σ:St) (H:Hp) (Q:Bool->Hp->Prop),Inv X pins σ H s->t σ H Q->wpAny (model X.prog X.w) X.A (isTrue e X.env whole) (TP X pins σ Q) X.xe s
theorem PW.pt {X:Cx} {e:Expr} {t:TT} (h:PW X e t):PT X e t:=h _
/-- an argument list (no star), from the left -/
def PA (X:Cx) (es:List Expr) (t:TA):Prop :=
 ∀ (pos:Pos) (pins:List (Addr × Obj)) (s:Shared) (σ:St) (H:Hp) (Q:List V->Hp->Prop),Inv X pins σ H s->t σ H Q->wpAny (model X.prog X.w) X.A (spliced (backTo pos (starEach es X.env))) (AP X pins σ Q) X.xe s
def PS (X:Cx) (st:Stmt) (t:TS):Prop :=
 ∀ (pins:List (Addr × Obj)) (s:Shared) (σ:St) (H:Hp) (D:Ends),Inv X pins σ H s->t D σ H->wpAny (model X.prog X.w) X.A (exec st X.env) (SP X pins D) X.xe s
def PSs (X:Cx) (st:List Stmt) (t:TS):Prop :=
 ∀ (pins:List (Addr × Obj)) (s:Shared) (σ:St) (H:Hp) (D:Ends),Inv X pins σ H s->t D σ H->wpAny (model X.prog X.w) X.A (execs st X.env) (SP X pins D) X.xe s
/-- weaken the end -/
theorem thn {α:Type} {t:Sem α} {Q Q':α->Shared->Prop} {M:Model} {A:Around} {E:Value->Shared->Prop} {s:Shared} (h:wpAny M A t Q E s) (hQ:∀ a s,Q a s->Q' a s):wpAny M A t Q' E s:=wpAny_mono h hQ fun _ _ x=>x
end L2
namespace L2
open PySem PySem.Spec PyProof.Rows
section
variable {X:Cx}
def tVar (i:Nat):TE:=fun σ H Q=>∃ v,σ[i]?=some (some v)∧Q v H
def tC (v:V):TE:=fun _ H Q=>Q v H
theorem pe_var {i:Nat} {x:Str} {pos:Pos} (hN:X.N[i]?=some x) (hv:Vis X.env.scope x) (hd:(x == ("__debug__":Str))=false:=by decide) (hcd:(x == ("__classdict__":Str))=false:=by decide):PE X (.Name x pos) (tVar i):=by
 intro pins s σ H Q I h
 obtain⟨v,e,h⟩:=h
 obtain⟨m,hn,hl⟩:=I.loc
 obtain⟨u,r,l⟩:=hl i x v hN e hv
 have fin:EP X pins σ Q u s:=⟨v,H,I,r,h⟩
 rcases l with ⟨hk,hm⟩ | ⟨hk,c,hc,hcell⟩
 ·exact wpAny_Name (wpAny_loadName_local I.ok.kind hk hn hm fin) hd
 ·rcases hk with hk | hk
  ·exact wpAny_Name (wpAny_loadName_cell I.ok.kind hk hc hcell fin) hd
  ·exact wpAny_Name (wpAny_loadName_free I.ok.kind hk hc hcell fin hcd) hd
theorem pe_int {i j pos}:PE X (.Constant (.int i) j pos) (tC (.int i)):=fun _ _ _ H _ I h=>wpAny_Constant_int ⟨.int i,H,I.tok _,⟨_,rfl⟩,h⟩
theorem pe_bl {b j pos}:PE X (.Constant (.bool b) j pos) (tC (.bl b)):=fun _ _ _ H _ I h=>Constant_bool ⟨.bl b,H,I,rfl,h⟩
theorem pe_non {j pos}:PE X (.Constant .none j pos) (tC .non):=fun _ _ _ H _ I h=>Constant_none ⟨.non,H,I,rfl,h⟩
theorem pe_str {x j pos}:PE X (.Constant (.str x) j pos) (tC (.str x)):=fun _ _ _ H _ I h=>Calls.Constant_str ⟨.str x,H,I.tok _,⟨_,rfl⟩,h⟩
/-- a global name of the def -/
def Gl (X:Cx) (x:Str):Prop:=X.env.kindOf x=some .globalImplicit
theorem ld_glob {E:Value->Shared->Prop} {pins:List (Addr × Obj)} {s:Shared} {σ:St} {H:Hp} {x:Str} {u:Value} {pos:Pos} {Q:Value->Shared->Prop} (I:Inv X pins σ H s) (hg:Gl X x) (hm:X.mg x=some u) (h:Q u s)
  (hd:(x == ("__debug__":Str))=false:=by decide):wpAny (model X.prog X.w) X.A (eval (.Name x pos) X.env) Q E s :=
 Calls.Name_function_global I.ok.kind hg (Calls.loadGlobal_global (by rw[I.ok.glob];exact I.mod.glob.keeps I.bk) hm h) hd
theorem ld_blt {E:Value->Shared->Prop} {pins:List (Addr × Obj)} {s:Shared} {σ:St} {H:Hp} {x:Str} {u:Value} {pos:Pos} {Q:Value->Shared->Prop} (I:Inv X pins σ H s) (hg:Gl X x) (hm:X.mg x=none) (hv:bootBuiltins x=some u) (h:Q u s)
  (hn:x≠"__name__":=by decide) (hd:(x == ("__debug__":Str))=false:=by decide):wpAny (model X.prog X.w) X.A (eval (.Name x pos) X.env) Q E s:=by
 obtain⟨mb,h1,h2⟩:=I.mod.blt
 exact Calls.Name_function_global I.ok.kind hg (Calls.loadGlobal_builtin (by rw[I.ok.glob];exact I.mod.glob.keeps I.bk) hm (by rw[I.ok.blt];exact h1.keeps I.bk) ((h2 x hn).trans hv) h) hd
/-- a module's constant, a class, a function, as a value -/
theorem pe_glob {x:Str} {v:V} {u:Value} {pos:Pos} (hg:Gl X x) (hm:X.mg x=some u) (r:RelV v u) (hd:(x == ("__debug__":Str))=false:=by decide):PE X (.Name x pos) (tC v) :=
 fun _ _ _ H _ I h=>ld_glob I hg hm ⟨v,H,I,r,h⟩ hd
theorem pe_bltn {x:Str} {v:V} {u:Value} {pos:Pos} (hg:Gl X x) (hm:X.mg x=none) (hv:bootBuiltins x=some u) (r:RelV v u) (hn:x≠"__name__":=by decide) (hd:(x == ("__debug__":Str))=false:=by decide):PE X (.Name x pos) (tC v) :=
 fun _ _ _ H _ I h=>ld_blt I hg hm hv ⟨v,H,I,r,h⟩ hn hd
variable {a b:Expr} {ta tb:TE} {pos:Pos}
/-- a comparison as a value, as a test -/
def tB (t:TE):TT:=fun σ H Q=>t σ H fun x H1=>∃ c,x=.bl c∧Q c H1
/-- an expression whose value is a bool, as a test -/
theorem pt_val {e:Expr} {t:TE} (h:PE X e t) (he:∀ whole,isTrue e X.env whole=(do let v ← whole;standAt e.pos;holding [v] (truthy v)):=by intro _;rfl):PT X e (tB t):=by
 intro pins s σ H Q I hw
 refine isTrue_plain (thn (h pins s σ H _ I hw) fun v s1 ⟨x,H1,I1,r1,q1⟩=>?_) (he _)
 obtain⟨d,rfl,q⟩:=q1
 cases r1
 exact wpAny_truthy_bool ⟨H1,I1,q⟩
variable {tA tB':TT} {rest:List Expr}
def tAnd (t u:TT):TT:=fun σ H Q=>t σ H fun c H1=>if c=true then u σ H1 Q else Q false H1
def tOr (t u:TT):TT:=fun σ H Q=>t σ H fun c H1=>if c=true then Q true H1 else u σ H1 Q
def tNot (t:TT):TT:=fun σ H Q=>t σ H fun c H1=>Q (!c) H1
theorem pw_and1 (ha:PT X a tA):PW X (.BoolOp .And [a] pos) tA:=by
 intro wh pins s σ H Q I h
 refine isTrue_and (thn (ha pins s σ H Q I h) fun c s1 e=>?_)
 cases c with
 | true=>exact isTrue_and_nil e
 | false=>exact e
theorem pw_or1 (ha:PT X a tA):PW X (.BoolOp .Or [a] pos) tA:=by
 intro wh pins s σ H Q I h
 refine isTrue_or (thn (ha pins s σ H Q I h) fun c s1 e=>?_)
 cases c with
 | false=>exact isTrue_or_nil e
 | true=>exact e
theorem pw_and (ha:PT X a tA) (hb:PW X (.BoolOp .And (b::rest) pos) tB'):PW X (.BoolOp .And (a::b::rest) pos) (tAnd tA tB'):=by
 intro wh pins s σ H Q I h
 refine isTrue_and (thn (ha pins s σ H _ I h) fun c s1 ⟨H1,I1,q1⟩=>?_)
 cases c with
 | true=>exact hb wh pins s1 σ H1 Q I1 q1
 | false=>exact⟨H1,I1,q1⟩
theorem pw_or (ha:PT X a tA) (hb:PW X (.BoolOp .Or (b::rest) pos) tB'):PW X (.BoolOp .Or (a::b::rest) pos) (tOr tA tB'):=by
 intro wh pins s σ H Q I h
 refine isTrue_or (thn (ha pins s σ H _ I h) fun c s1 ⟨H1,I1,q1⟩=>?_)
 cases c with
 | true=>exact⟨H1,I1,q1⟩
 | false=>exact hb wh pins s1 σ H1 Q I1 q1
theorem pt_not (ha:PT X a tA):PT X (.UnaryOp .Not a pos) (tNot tA):=by
 intro pins s σ H Q I h
 exact isTrue_not (ha pins s σ H (fun c H1=>Q (!c) H1) I h)
/-- .. as values (bools) -/
def tAndV (ta tb:TE):TE:=fun σ H Q=>ta σ H fun x H1=>∃ c,x=.bl c∧if c=true then tb σ H1 Q else Q (.bl false) H1
def tOrV (ta tb:TE):TE:=fun σ H Q=>ta σ H fun x H1=>∃ c,x=.bl c∧if c=true then Q (.bl true) H1 else tb σ H1 Q
def tNotV (ta:TE):TE:=fun σ H Q=>ta σ H fun x H1=>∃ c,x=.bl c∧Q (.bl (!c)) H1
theorem pe_one {op} {t:TE} (h:PE X a t):PE X (.BoolOp op [a] pos) t:=fun pins s σ H Q I hw=>BoolOp_one (h pins s σ H Q I hw)
theorem pe_and (ha:PE X a ta) (hb:PE X (.BoolOp .And (b::rest) pos) tb):PE X (.BoolOp .And (a::b::rest) pos) (tAndV ta tb):=by
 intro pins s σ H Q I h
 refine BoolOp_and (thn (ha pins s σ H _ I h) fun v s1 ⟨x,H1,I1,r1,q1⟩=>?_)
 obtain⟨c,rfl,q1⟩:=q1
 cases r1
 refine wpAny_truthy_bool ?_
 cases c with
 | true=>exact hb pins s1 σ H1 Q I1 q1
 | false=>exact⟨.bl false,H1,I1,rfl,q1⟩
theorem pe_or (ha:PE X a ta) (hb:PE X (.BoolOp .Or (b::rest) pos) tb):PE X (.BoolOp .Or (a::b::rest) pos) (tOrV ta tb):=by
 intro pins s σ H Q I h
 refine BoolOp_or (thn (ha pins s σ H _ I h) fun v s1 ⟨x,H1,I1,r1,q1⟩=>?_)
 obtain⟨c,rfl,q1⟩:=q1
 cases r1
 refine wpAny_truthy_bool ?_
 cases c with
 | false=>exact hb pins s1 σ H1 Q I1 q1
 | true=>exact⟨.bl true,H1,I1,rfl,q1⟩
theorem pe_not (ha:PE X a ta):PE X (.UnaryOp .Not a pos) (tNotV ta):=by
 intro pins s σ H Q I h
 refine UnaryOp_ (thn (ha pins s σ H _ I h) fun v s1 ⟨x,H1,I1,r1,q1⟩=>?_)
 obtain⟨c,rfl,q1⟩:=q1
 cases r1
 exact not_of (wpAny_truthy_bool ⟨.bl (!c),H1,I1,rfl,q1⟩)
end
end L2
namespace L2
open PySem PySem.Spec PyProof.Rows
def SqL (K:PySem.W.Frag) (H:Hp) (a:Addr) (xs:List V):Prop :=
 Rd H a (.lst xs) ∨
  ∃ (o:Obj) (its:Array Value) (n:Nat),K.lookup a=some o∧o.cls=.type "list"∧o.dict=none∧o.data=.seq its n∧its.size≤sizeLine∧Vals xs its.toList
def SqT (K:PySem.W.Frag) (H:Hp) (a:Addr) (xs:List V):Prop :=
 Rd H a (.tup xs) ∨
  ∃ (o:Obj) (its:Array Value) (n:Nat),K.lookup a=some o∧o.cls=.type "tuple"∧o.data=.seq its n∧its.size≤sizeLine∧Vals xs its.toList
def absV:Value->Option V
 | .none=>some .non
 | .bool b=>some (.bl b)
 | .int i _=>some (.int i)
 | .str x _=>some (.str x)
 | .bytes b _=>some (.byt b)
 | .float b _=>some (.flt b)
 | .ref a=>some (.ref a)
 | .type n=>some (.ty n)
 | _=>none
theorem RelV.abs {x:V} {u:Value} (r:RelV x u):absV u=some x:=by
 cases x with
 | non=>cases r;rfl
 | bl _=>cases r;rfl
 | int _=>obtain⟨t,rfl⟩:=r;rfl
 | str _=>obtain⟨t,rfl⟩:=r;rfl
 | byt _=>obtain⟨t,rfl⟩:=r;rfl
 | flt _=>obtain⟨t,rfl⟩:=r;rfl
 | ref _=>cases r;rfl
 | ty _=>cases r;rfl
theorem RelV.inj {x y:V} {u:Value} (r:RelV x u) (q:RelV y u):x=y:=Option.some.inj (r.abs.symm.trans q.abs)
theorem Vals.inj:∀ {xs ys:List V} {us:List Value},Vals xs us->Vals ys us->xs=ys
 | _,_,_,.nil,.nil=>rfl
 | _,_,_,.cons r t,.cons r' t'=>by rw[r.inj r',Vals.inj t t']
section
variable {X:Cx} {pins:List (Addr × Obj)} {σ:St} {H:Hp} {s:Shared} {a:Addr} {xs ys:List V}
theorem SqL.of {K:PySem.W.Frag} (h:H a=some (.lst xs)):SqL K H a xs:=.inl (.inl h)
theorem SqT.of {K:PySem.W.Frag} (h:H a=some (.tup xs)):SqT K H a xs:=.inl (.inl h)
theorem Inv.list (I:Inv X pins σ H s) (h:SqL X.K H a xs):∃ its:List Value,Vals xs its∧PlainL s.heap a its.toArray∧xs.length≤sizeLine:=by
 rcases h with h | ⟨o,its,n,hk,hc,hd,hs,hz,r⟩
 ·obtain⟨z,its,n,r,e⟩:=h.ok I.hok
  exact⟨its,r,⟨_,n,e,rfl,rfl,rfl⟩,z⟩
 ·refine⟨its.toList,r,⟨o,n,I.kIn a o hk,hc,hd,by simpa using hs⟩,?_⟩
  have e:=r.length
  simp only [Array.length_toList] at e
  omega
theorem Inv.tuple (I:Inv X pins σ H s) (h:SqT X.K H a xs):∃ its:List Value,Vals xs its∧IsTup s.heap a its.toArray∧xs.length≤sizeLine:=by
 rcases h with h | ⟨o,its,n,hk,hc,hs,hz,r⟩
 ·obtain⟨z,its,r,p⟩:=h.ok I.hok
  exact⟨its,r,p.tup,z⟩
 ·refine⟨its.toList,r,⟨o,I.kIn a o hk,hc,n,by simpa using hs⟩,?_⟩
  have e:=r.length
  simp only [Array.length_toList] at e
  omega
theorem Inv.list_inj (I:Inv X pins σ H s) (h:SqL X.K H a xs) (h':SqL X.K H a ys):xs=ys:=by
 obtain⟨its,r,⟨o,n,e,_,_,d⟩,_⟩:=I.list h
 obtain⟨its',r',⟨o',n',e',_,_,d'⟩,_⟩:=I.list h'
 rw[e] at e';cases e'
 rw[d] at d'
 injection d' with d1 _
 have:its=its':=by simpa using congrArg Array.toList d1
 subst this
 exact r.inj r'
theorem Inv.tuple_inj (I:Inv X pins σ H s) (h:SqT X.K H a xs) (h':SqT X.K H a ys):xs=ys:=by
 obtain⟨its,r,⟨o,e,_,n,d⟩,_⟩:=I.tuple h
 obtain⟨its',r',⟨o',e',_,n',d'⟩,_⟩:=I.tuple h'
 rw[e] at e';cases e'
 rw[d] at d'
 injection d' with d1 _
 have:its=its':=by simpa using congrArg Array.toList d1
 subst this
 exact r.inj r'
end
abbrev Cx.wish (X:Cx) (E:Value->Shared->Prop):Cx:={ X with xe:=E }
/-- no exception leaves -/
abbrev Cx.nox (X:Cx):Cx:=X.wish fun _ _=>False
theorem Cx.Ok.wish {X:Cx} (ok:X.Ok) (E:Value->Shared->Prop):(X.wish E).Ok :=
 ⟨ok.mod,ok.kind,ok.glob,ok.blt,ok.above,ok.inj,ok.has,ok.cab,ok.hd,ok.frames,ok.stk,ok.exf,ok.bs,ok.bsz,ok.noex,ok.exfs,ok.funs,ok.frf⟩
theorem Cx.Ok.unwish {X:Cx} {E:Value->Shared->Prop} (ok:(X.wish E).Ok):X.Ok :=
 ⟨ok.mod,ok.kind,ok.glob,ok.blt,ok.above,ok.inj,ok.has,ok.cab,ok.hd,ok.frames,ok.stk,ok.exf,ok.bs,ok.bsz,ok.noex,ok.exfs,ok.funs,ok.frf⟩
section
variable {X:Cx} {pins:List (Addr × Obj)} {σ:St} {H:Hp} {s:Shared} {E:Value->Shared->Prop}
theorem Inv.wish (I:Inv X pins σ H s) (E:Value->Shared->Prop):Inv (X.wish E) pins σ H s:=⟨I.ok.wish E,I.os,I.bare,I.base,I.loc,I.cell,I.free,I.freeC,I.pin,I.hok,I.len⟩
theorem Inv.unwish (I:Inv (X.wish E) pins σ H s):Inv X pins σ H s:=⟨I.ok.unwish,I.os,I.bare,I.base,I.loc,I.cell,I.free,I.freeC,I.pin,I.hok,I.len⟩
theorem SP.unwish {D:Ends} {f:Flow} {s':Shared} (h:SP (X.wish E) pins D f s'):SP X pins D f s':=by
 cases f with
 | next=>obtain⟨σ',H',I,q⟩:=h;exact⟨σ',H',I.unwish,q⟩
 | brk=>obtain⟨σ',H',I,q⟩:=h;exact⟨σ',H',I.unwish,q⟩
 | cont=>obtain⟨σ',H',I,q⟩:=h;exact⟨σ',H',I.unwish,q⟩
 | ret u=>obtain⟨v,σ',H',I,r,q⟩:=h;exact⟨v,σ',H',I.unwish,r,q⟩
theorem PE.nox {e:Expr} {t:TE} (h:PE X.nox e t):PE X e t:=fun pins s σ H Q I hw =>
 wpAny_mono (h pins s σ H Q (I.wish _) hw) (fun _ _ ⟨v,H',I',r,q⟩=>⟨v,H',I'.unwish,r,q⟩) fun _ _ z=>False.elim z
theorem PT.nox {e:Expr} {t:TT} (h:PT X.nox e t):PT X e t:=fun pins s σ H Q I hw =>
 wpAny_mono (h pins s σ H Q (I.wish _) hw) (fun _ _ ⟨H',I',q⟩=>⟨H',I'.unwish,q⟩) fun _ _ z=>False.elim z
theorem PSs.nox {st:List Stmt} {t:TS} (h:PSs X.nox st t):PSs X st t:=fun pins s σ H D I hw =>
 wpAny_mono (h pins s σ H D (I.wish _) hw) (fun _ _ q=>q.unwish) fun _ _ z=>False.elim z
end
section
variable {X:Cx} {st:Stmt} {rest:List Stmt} {t u:TS} {e:Expr} {te:TE} {pos:Pos}
def tNext:TS:=fun D σ H=>D.nx σ H
def tSeq (t u:TS):TS:=fun D σ H=>t { D with nx:=u D } σ H
theorem pss_nil:PSs X [] tNext:=fun _ _ σ H _ I h=>wpAny_execs_nil ⟨σ,H,I,h⟩
theorem pss_cons (h1:PS X st t) (h2:PSs X rest u):PSs X (st::rest) (tSeq t u):=by
 intro pins s σ H D I h
 refine wpAny_execs_cons (thn (h1 pins s σ H { D with nx:=u D } I h) fun f s1 q=>?_)
 cases f with
 | next =>
  obtain⟨σ',H',I',q⟩:=q
  exact h2 pins s1 σ' H' D I' q
 | ret v=>exact q
 | brk=>exact q
 | cont=>exact q
theorem pss_one (h1:PS X st t):PSs X [st] t:=by
 intro pins s σ H D I h
 refine wpAny_execs_cons (thn (h1 pins s σ H D I h) fun f s1 q=>?_)
 cases f with
 | next=>exact wpAny_execs_nil q
 | ret v=>exact q
 | brk=>exact q
 | cont=>exact q
/-- in a def's body nothing is shown -/
theorem Inv.quiet {pins:List (Addr × Obj)} {σ:St} {H:Hp} {s:Shared} (I:Inv X pins σ H s):interactive X.env=false:=by simp [interactive,I.ok.kind]
/-- an expression whose value is dropped -/
def tDrop (te:TE):TS:=fun D σ H=>te σ H fun _ H1=>D.nx σ H1
theorem ps_expr (he:PE X e te) (hs:swapsWith e none pos.line X.env=pure false:=by rfl):PS X (.Expr e pos) (tDrop te):=by
 intro pins s σ H D I h
 exact wpAny_Expr_any (thn (he pins s σ H _ I h) fun v s1 ⟨x,H1,I1,r1,q1⟩=>⟨σ,H1,I1,q1⟩) I.quiet hs
def tRet (te:TE):TS:=fun D σ H=>te σ H D.rt
theorem ps_ret (he:PE X e te):PS X (.Return (some e) pos) (tRet te):=by
 intro pins s σ H D I h
 exact wpAny_Return_some (thn (he pins s σ H _ I h) fun v s1 ⟨x,H1,I1,r1,q1⟩=>⟨x,σ,H1,I1,r1,q1⟩)
def tIfS (c:TT) (t u:TS):TS:=fun D σ H=>c σ H fun b H1=>if b=true then t D σ H1 else u D σ H1
theorem ps_if {c:Expr} {a b:List Stmt} {tc:TT} (hc:PT X c tc) (ha:PSs X a t) (hb:PSs X b u):PS X (.If c a b pos) (tIfS tc t u):=by
 intro pins s σ H D I h
 refine wpAny_If (thn (hc pins s σ H _ I h) fun d s1 ⟨H1,I1,q1⟩=>?_)
 cases d with
 | true=>exact ha pins s1 σ H1 D I1 q1
 | false=>exact hb pins s1 σ H1 D I1 q1
end
abbrev TG:=V->St->Hp->(St->Hp->Prop)->Prop
abbrev TGs:=List V->St->Hp->(St->Hp->Prop)->Prop
def PG (X:Cx) (target:Expr) (t:TG):Prop :=
 ∀ (pins:List (Addr × Obj)) (s:Shared) (σ:St) (H:Hp) (v:V) (u:Value) (Q:St->Hp->Prop),Inv X pins σ H s->RelV v u->t v σ H Q ->
  wpAny (model X.prog X.w) X.A (assign target X.env u) (fun _ s'=>∃ σ' H',Inv X pins σ' H' s'∧Q σ' H') X.xe s
/-- several targets, one after another -/
def PGs (X:Cx) (ts:List Expr) (t:TGs):Prop :=
 ∀ (pins:List (Addr × Obj)) (s:Shared) (σ:St) (H:Hp) (vs:List V) (us:List Value) (Q:St->Hp->Prop),Inv X pins σ H s->Vals vs us->t vs σ H Q ->
  wpAny (model X.prog X.w) X.A (assignInOrder ((assignEach ts X.env).map (·.2)) us) (fun _ s'=>∃ σ' H',Inv X pins σ' H' s'∧Q σ' H') X.xe s
/-- o[i] = v, by values -/
abbrev TSet:=V->V->V->Hp->(Hp->Prop)->Prop
def PSet (X:Cx) (t:TSet):Prop :=
 ∀ (pins:List (Addr × Obj)) (s:Shared) (σ:St) (H:Hp) (o i v:V) (ov iv u:Value) (Q:Hp->Prop),Inv X pins σ H s->RelV o ov->RelV i iv->RelV v u->t o i v H Q ->
  wpAny (model X.prog X.w) X.A (setItem ov iv u) (fun _ s'=>∃ H',Inv X pins σ H' s'∧Q H') X.xe s
section
variable {X:Cx} {pos:Pos}
def gName (i:Nat):TG:=fun v σ H Q=>Q (σ.set i (some v)) H
theorem pg_name {i:Nat} {x:Str} (hN:X.N.Nodup) (hi:X.N[i]?=some x) (hx:Loc X.env.scope x) (hf:X.fn x=true∨X.env.scope.names.lookup x=some .local:=by first | exact .inl rfl | exact .inr rfl | assumption):PG X (.Name x pos) (gName i):=by
 intro pins s σ H v u Q I r h
 exact wpAny_assign_Name (store_ok I hN hi hx r (fun s' I'=>⟨_,H,I',h⟩) hf)
def gNil:TGs:=fun vs σ H Q=>vs=[]∧Q σ H
def gCons (t:TG) (u:TGs):TGs:=fun vs σ H Q=>∃ v r,vs=v::r∧t v σ H fun σ' H'=>u r σ' H' Q
theorem pgs_nil:PGs X [] gNil:=by
 intro pins s σ H vs us Q I r h
 obtain⟨e,h⟩:=h
 subst e
 cases r
 exact assignInOrder_nil ⟨σ,H,I,h⟩
theorem pgs_cons {e:Expr} {es:List Expr} {t:TG} {u:TGs} (h1:PG X e t) (h2:PGs X es u)
  (hs:(assignEach (e::es) X.env).map (·.2)=assign e X.env::(assignEach es X.env).map (·.2):=by rfl):PGs X (e::es) (gCons t u):=by
 intro pins s σ H vs us Q I r h
 obtain⟨v,vr,e1,h⟩:=h
 subst e1
 cases r with
 | cons r rr =>
  rw[hs]
  refine assignInOrder_cons (thn (h1 pins s σ H _ _ _ I r h) fun _ s1 ⟨σ1,H1,I1,q1⟩=>?_)
  exact h2 pins s1 σ1 H1 _ _ Q I1 rr q1
/-- (a, b, ..) = a tuple of that length -/
def gTup (K:PySem.W.Frag) (n:Nat) (t:TGs):TG:=fun v σ H Q=>∃ a xs,v=.ref a∧SqT K H a xs∧xs.length=n∧t xs σ H Q
theorem pg_tup {es:List Expr} {k:Nat} {t:TGs} {n:Nat} (hc:X.calm=true) (h:PGs X es t)
  (hn:(assignEach es X.env).length=n:=by rfl) (hst:(assignEach es X.env).findIdx? (·.1)=none:=by rfl):PG X (.Tuple es k pos) (gTup X.K n t):=by
 intro pins s σ H v u Q I r hw
 obtain⟨a,xs,e1,hq,hl,hw⟩:=hw
 subst e1
 cases r
 obtain⟨its,rv,ht,hz⟩:=I.tuple hq
 refine assign_Tuple_tuple (I.ok.hd hc) ht (by simp [hn,← hl,rv.length]) hst fun h' hx=>?_
 have I1:Inv X pins σ H { s with heap:=h' }:=I.kept (t':=s.toks) fun b o e=>hx b o (Nat.ne_of_lt (Heap.lt_size e)) e
 exact h pins _ σ H xs _ Q I1 (by simpa using rv) hw
/-- o[i] = .. -/
def gSub (to ti:TE) (t:TSet):TG:=fun v σ H Q=>to σ H fun o H1=>ti σ H1 fun i H2=>t o i v H2 fun H3=>Q σ H3
theorem pg_sub {o i:Expr} {to ti:TE} {t:TSet} (ho:PE X o to) (hi:PE X i ti) (hs:PSet X t)
  (ha:∀ v,assign (.Subscript o i pos) X.env v=(do
   let ov ← holding [v] (eval o X.env)
   let iv ← holding [v,ov] (eval i X.env)
   standAt pos
   holding [v,ov,iv] (setItem ov iv v)
   release [v,ov,iv] []):=by intro _;rfl):PG X (.Subscript o i pos) (gSub to ti t):=by
 intro pins s σ H v u Q I r h
 rw[ha]
 refine wpAny_bind (wpAny_holding (thn (ho pins s σ H _ I h) fun ov s1 ⟨x,H1,I1,r1,q1⟩=>?_))
 refine wpAny_bind (wpAny_holding (thn (hi pins s1 σ H1 _ I1 q1) fun iv s2 ⟨y,H2,I2,r2,q2⟩=>?_))
 refine wpAny_bind (wpAny_standAt (wpAny_bind (wpAny_holding (thn (hs pins s2 σ H2 x y v ov iv u _ I2 r1 r2 r q2) fun _ s3 ⟨H3,I3,q3⟩=>?_))))
 exact wpAny_release ⟨σ,H3,I3,q3⟩
/-- target = value -/
def tAsg (te:TE) (g:TG):TS:=fun D σ H=>te σ H fun x H1=>g x σ H1 D.nx
theorem ps_asg {tg e:Expr} {te:TE} {g:TG} (he:PE X e te) (hg:PG X tg g) (hs:swapsWithSole [tg] e pos.line X.env=pure false:=by rfl) (hw:swappedStores [tg] e X.env=pure none:=by rfl)
  (h1:(assignEach [tg] X.env).map (·.2)=[assign tg X.env]:=by rfl):PS X (.Assign [tg] e pos) (tAsg te g):=by
 intro pins s σ H D I h
 refine wpAny_Assign_stores (thn (he pins s σ H _ I h) fun v s1 ⟨x,H1,I1,r1,q1⟩=>?_) hs hw
 rw[h1]
 exact thn (hg pins s1 σ H1 x v _ I1 r1 q1) fun _ s2 q=>q
/-- name = value -/
theorem ps_set {i:Nat} {x:Str} {e:Expr} {te:TE} {pos':Pos} (hN:X.N.Nodup) (hi:X.N[i]?=some x) (hx:Loc X.env.scope x) (he:PE X e te) (hs:swapsWith e (some (.Name x pos')) pos.line X.env=pure false:=by rfl) (hf:X.fn x=true∨X.env.scope.names.lookup x=some .local:=by first | exact .inl rfl | exact .inr rfl | assumption) :
  PS X (.Assign [.Name x pos'] e pos) (tAsg te (gName i)):=by
 intro pins s σ H D I h
 refine wpAny_Assign_Name (thn (he pins s σ H _ I h) fun v s1 ⟨y,H1,I1,r1,q1⟩=>?_) hs
 exact store_ok I1 hN hi hx r1 (fun s2 I2=>⟨_,H1,I2,q1⟩) hf
end
section
variable {X:Cx} {pos:Pos}
end
/-- at turn i: it yields x (the heap may grow), or it stops -/
structure It where
 go:Nat->Hp->Prop
 yld:Nat->Hp->V->Hp->Prop
 stop:Nat->Hp->Prop
/-- the iterator's own objects may turn: they are not the frame's, not pinned, younger than the entry (or a comprehension's own) -/
def FpOk (X:Cx) (pins:List (Addr × Obj)) (H:Hp) (b:Addr):Prop :=
 H b=none∧b≠X.env.locals∧b ∉ X.fs∧(b ∈ X.ex∨X.s₀.heap.objs.size≤b)∧(∀ x c,X.env.cells.lookup x=some c->c≠b)∧∀ p ∈ X.pn++pins,p.1≠b
theorem Inv.fpOk {X:Cx} {pins:List (Addr × Obj)} {σ:St} {H H':Hp} {s:Shared} {b:Addr} (I:Inv X pins σ H s) (hb:s.heap.objs.size≤b) (hn:H' b=none):FpOk X pins H' b:=by
 refine⟨hn,Nat.ne_of_gt (Nat.lt_of_lt_of_le I.lt hb),I.nofs hb,.inr (Nat.le_trans I.sz hb),fun x c e z=>?_,fun p hp z=>?_⟩
 ·obtain⟨v,q⟩:=I.cell x c e
  exact absurd (Nat.lt_of_lt_of_le q.lt (by rw[z];exact hb)) (Nat.lt_irrefl _)
 ·exact absurd (Nat.lt_of_lt_of_le (Heap.lt_size (I.pin p hp).1) (by rw[z];exact hb)) (Nat.lt_irrefl _)
structure Turn (P:Program) (w:World) (K:PySem.W.Frag) (tg:Expr) (J:It) (fp:List Addr) (it:Addr) (tn:Nat->Heap->Prop):Prop where
 mem:it ∈ fp
 obj:∀ i h,tn i h->∀ b ∈ fp,∃ o,h.get? b=some o∧∀ v,o.data≠.cell v
 keep:∀ i h h',tn i h->(∀ b ∈ fp,∀ o,h.get? b=some o->h'.get? b=some o)->tn i h'
 item:∀ (X:Cx),X.prog=P->X.w=w->X.K=K->X.calm=true->∀ (i:Nat) (pins:List (Addr × Obj)) (s:Shared) (σ:St) (H:Hp) (E:Value->Shared->Prop),Inv X pins σ H s->(∀ b ∈ fp,FpOk X pins H b)->tn i s.heap->J.go i H ->
  wpAny (model P w) X.A (pyNext (.ref it)) (fun r s1=>∃ u,r=some u ∧
   wpAny (model P w) X.A (letOwnedTupleGo tg (.ref it) u) (fun _ s2=>∃ x H',Inv X pins σ H' s2∧RelV x u∧J.yld i H x H'∧tn (i + 1) s2.heap∧∀ b ∈ fp,H' b=none) E s1) E s
 done:∀ (X:Cx),X.prog=P->X.w=w->X.K=K->X.calm=true->∀ (i:Nat) (pins:List (Addr × Obj)) (s:Shared) (σ:St) (H:Hp) (E:Value->Shared->Prop),Inv X pins σ H s->(∀ b ∈ fp,FpOk X pins H b)->tn i s.heap->J.stop i H ->
  wpAny (model P w) X.A (pyNext (.ref it)) (fun r s1=>r=none∧Inv X pins σ H s1) E s
 self:∀ (A:Around) (i:Nat) (s:Shared) (Q:Value->Shared->Prop) (E:Value->Shared->Prop),tn i s.heap->Q (.ref it) s->wpAny (model P w) A (pyIter (.ref it)) Q E s
abbrev TI:=St->Hp->(It->Hp->Prop)->Prop
/-- an iterator has come -/
def PIE (X:Cx) (pins:List (Addr × Obj)) (σ:St) (tg:Expr) (R:It->Hp->Prop) (itv:Value) (s2:Shared):Prop :=
 ∃ (it:Addr) (fp:List Addr) (tn:Nat->Heap->Prop) (J:It) (H':Hp),itv=.ref it∧Inv X pins σ H' s2∧Turn X.prog X.w X.K tg J fp it tn∧tn 0 s2.heap∧(∀ b ∈ fp,FpOk X pins H' b)∧R J H'
def PI (X:Cx) (tg iter:Expr) (wi:TI):Prop :=
 ∀ (pins:List (Addr × Obj)) (s:Shared) (σ:St) (H:Hp) (R:It->Hp->Prop),Inv X pins σ H s->wi σ H R ->
  wpAny (model X.prog X.w) X.A (eval iter X.env) (fun v s1=>wpAny (model X.prog X.w) X.A (pyIter v) (PIE X pins σ tg R) X.xe s1) X.xe s
/-- the step ahead of the store is nothing for an iterator that keeps no tuple -/
theorem go_of {M:Model} {A:Around} {E:Value->Shared->Prop} {s:Shared} {tg:Expr} {it:Addr} {u:Value} {o:Obj} {n:String} {vs:Array Value} {Q:Unit->Shared->Prop} (ho:s.heap.get? it=some o) (hc:o.cls=.type n) (hd:o.data=.fields vs)
  (hn:["enumerate","zip","dict_itemiterator","dict_reverseitemiterator","odict_iterator","itertools.zip_longest","itertools.pairwise"].contains n=false) (hQ:Q () s):wpAny M A (letOwnedTupleGo tg (.ref it) u) Q E s:=by
 unfold letOwnedTupleGo
 cases tg <;> first
  | exact wpAny_pure hQ
  | (cases u <;> first
      | exact wpAny_pure hQ
      | (refine wpAny_bind (wpAny_load ho ?_)
         rw[hc,hd]
         show wpAny M A (if (["enumerate","zip","dict_itemiterator","dict_reverseitemiterator","odict_iterator","itertools.zip_longest","itertools.pairwise"].contains n && vs[0]? == some (rawInt _))=true then _ else _) Q E s
         rw[if_neg (by intro h;rw[hn,Bool.false_and] at h;cases h)]
         exact wpAny_pure hQ))
/-- the list at a, as it stands at each turn (a loop may append to it) -/
def Itl (K:PySem.W.Frag) (a:Addr):It :=
 ⟨fun i H=>∃ xs x,SqL K H a xs∧xs[i]?=some x,fun i H x H'=>H'=H∧∀ xs,SqL K H a xs->xs[i]?=some x,fun i H=>∃ xs,SqL K H a xs∧xs.length≤i⟩
def Itt (K:PySem.W.Frag) (a:Addr):It :=
 ⟨fun i H=>∃ xs x,SqT K H a xs∧xs[i]?=some x,fun i H x H'=>H'=H∧∀ xs,SqT K H a xs->xs[i]?=some x,fun i H=>∃ xs,SqT K H a xs∧xs.length≤i⟩
/-- lo, lo + 1, .. (n of them) -/
def Itr (lo:Int) (n:Nat):It:=⟨fun i _=>i < n,fun i H x H'=>H'=H∧x=.int (lo + i),fun i _=>n≤i⟩
theorem turn_list {P:Program} {w:World} {K:PySem.W.Frag} {tg:Expr} (a it:Addr):Turn P w K tg (Itl K a) [it] it (fun i h=>h.IsListIter it a i) where
 mem:=by simp
 obj:=fun i h st b hb=>by
  have e:b=it:=by simpa using hb
  subst e
  obtain⟨o,e,c,d⟩:=st
  exact⟨o,e,fun v z=>by rw[d] at z;cases z⟩
 keep:=fun i h h' st k=>st.at fun o e=>k it (by simp) o e
 item:=by
  intro X hP hw hK hc i pins s σ H E I hf st hg
  subst hP hw hK
  obtain⟨xs,x,hq,hx⟩:=hg
  obtain⟨its,rv,p,hz⟩:=I.list hq
  obtain⟨u,hu,ru⟩:=rv.get hx
  obtain⟨f0,f1,f2,f3,f4,f5⟩:=hf it (by simp)
  refine wpAny_pyNext_list_item st p.isList (x:=u) (by simpa using hu) fun h' st' sb=>?_
  have I1:Inv X pins σ H { s with heap:=h' }:=I.turned (t':=s.toks) (fun b o hb e=>(sb.2 b hb).trans e) f0 f1 f3 f4 f5
  obtain⟨o,e,c,d⟩:=id st'
  exact⟨u,rfl,go_of (s:={ s with heap:=h' }) e c d (by decide) ⟨x,H,I1,ru,⟨rfl,fun ys hy=>by rw[I.list_inj hy hq];exact hx⟩,st',fun b hb=>(hf b hb).1⟩⟩
 done:=by
  intro X hP hw hK hc i pins s σ H E I hf st hg
  subst hP hw hK
  obtain⟨xs,hq,hx⟩:=hg
  obtain⟨its,rv,p,hz⟩:=I.list hq
  obtain⟨f0,f1,f2,f3,f4,f5⟩:=hf it (by simp)
  have hl:=rv.length
  exact wpAny_pyNext_list_end (I.ok.hd hc) st p.isList (by simp;omega) fun h' eb=>⟨rfl,I.turned (t':=s.toks) (fun b o hb e=>eb b o hb e) f0 f1 f3 f4 f5⟩
 self:=fun _ _ _ _ _ st h=>wpAny_pyIter_listiter st h
theorem turn_tuple {P:Program} {w:World} {K:PySem.W.Frag} {tg:Expr} (a it:Addr):Turn P w K tg (Itt K a) [it] it (fun i h=>h.IsTupleIter it a i) where
 mem:=by simp
 obj:=fun i h st b hb=>by
  have e:b=it:=by simpa using hb
  subst e
  obtain⟨o,e,c,d⟩:=st
  exact⟨o,e,fun v z=>by rw[d] at z;cases z⟩
 keep:=fun i h h' st k=>st.at fun o e=>k it (by simp) o e
 item:=by
  intro X hP hw hK hc i pins s σ H E I hf st hg
  subst hP hw hK
  obtain⟨xs,x,hq,hx⟩:=hg
  obtain⟨its,rv,p,hz⟩:=I.tuple hq
  obtain⟨u,hu,ru⟩:=rv.get hx
  obtain⟨f0,f1,f2,f3,f4,f5⟩:=hf it (by simp)
  refine wpAny_pyNext_tuple_item st (show s.heap.IsTuple a its.toArray from p) (x:=u) (by simpa using hu) fun h' st' sb=>?_
  have I1:Inv X pins σ H { s with heap:=h' }:=I.turned (t':=s.toks) (fun b o hb e=>(sb.2 b hb).trans e) f0 f1 f3 f4 f5
  obtain⟨o,e,c,d⟩:=id st'
  exact⟨u,rfl,go_of (s:={ s with heap:=h' }) e c d (by decide) ⟨x,H,I1,ru,⟨rfl,fun ys hy=>by rw[I.tuple_inj hy hq];exact hx⟩,st',fun b hb=>(hf b hb).1⟩⟩
 done:=by
  intro X hP hw hK hc i pins s σ H E I hf st hg
  subst hP hw hK
  obtain⟨xs,hq,hx⟩:=hg
  obtain⟨its,rv,p,hz⟩:=I.tuple hq
  obtain⟨f0,f1,f2,f3,f4,f5⟩:=hf it (by simp)
  have hl:=rv.length
  exact wpAny_pyNext_tuple_end (I.ok.hd hc) st (show s.heap.IsTuple a its.toArray from p) (by simp;omega) fun h' eb=>⟨rfl,I.turned (t':=s.toks) (fun b o hb e=>eb b o hb e) f0 f1 f3 f4 f5⟩
 self:=fun _ _ _ _ _ st h=>wpAny_pyIter_tupleiter st h
theorem turn_range {P:Program} {w:World} {K:PySem.W.Frag} {tg:Expr} (it:Addr) (lo:Int) (n:Nat):Turn P w K tg (Itr lo n) [it] it (fun i h=>IsRangeIter h it (lo + (i:Nat) * 1) ((n:Int) - (i:Nat)) 1) where
 mem:=by simp
 obj:=fun i h st b hb=>by
  have e:b=it:=by simpa using hb
  subst e
  exact⟨_,st,fun v z=>by
   have z':Data.fields _=Data.cell v:=z
   cases z'⟩
 keep:=fun i h h' st k=>k it (by simp) _ st
 item:=by
  intro X hP hw hK hc i pins s σ H E I hf st hg
  subst hP hw hK
  obtain⟨f0,f1,f2,f3,f4,f5⟩:=hf it (by simp)
  have W:=Walks.range (prog:=X.prog) (w:=X.w) (I.ok.hd hc) it lo 1 n
  refine W.item i s _ _ hg st fun v h' tk hv st' kk=>?_
  obtain⟨t,rfl⟩:=hv
  have I1:Inv X pins σ H { s with heap:=h',toks:=tk }:=I.turned (fun b o hb e=>kk b o (by simpa using hb) e) f0 f1 f3 f4 f5
  refine⟨_,rfl,go_of (s:={ s with heap:=h',toks:=tk }) (n:="range_iterator") st' rfl rfl (by decide) ⟨.int (lo + i),H,I1,⟨t,?_⟩,⟨rfl,rfl⟩,st',fun b hb=>(hf b hb).1⟩⟩
  rw[Int.mul_one]
 done:=by
  intro X hP hw hK hc i pins s σ H E I hf st hg
  subst hP hw hK
  obtain⟨f0,f1,f2,f3,f4,f5⟩:=hf it (by simp)
  exact wpAny_pyNext_range_end (I.ok.hd hc) st (by have:n≤i:=hg;omega) fun h' eb=>⟨rfl,I.turned (t':=s.toks) (fun b o hb e=>eb b o hb e) f0 f1 f3 f4 f5⟩
 self:=fun _ _ _ _ _ st h=>wpAny_pyIter_rangeiter st h
end L2
namespace L2
open PySem PySem.Spec PyProof.Rows
section
variable {X:Cx} {tg:Expr}
def iList (K:PySem.W.Frag) (tl:TE):TI:=fun σ H R=>tl σ H fun x H1=>∃ a,x=.ref a∧(∃ xs,SqL K H1 a xs)∧R (Itl K a) H1
def iTup (K:PySem.W.Frag) (tl:TE):TI:=fun σ H R=>tl σ H fun x H1=>∃ a,x=.ref a∧(∃ xs,SqT K H1 a xs)∧R (Itt K a) H1
theorem pi_list {l:Expr} {tl:TE} (hl:PE X l tl):PI X tg l (iList X.K tl):=by
 intro pins s σ H R I h
 refine thn (hl pins s σ H _ I h) fun v s1 ⟨x,H1,I1,r1,q1⟩=>?_
 obtain⟨a,e,⟨xs,hq⟩,q⟩:=q1
 subst e
 cases r1
 obtain⟨its,rv,p,hz⟩:=I1.list hq
 refine wpAny_pyIter_list p.isList ?_
 refine⟨s1.heap.objs.size,[s1.heap.objs.size],_,_,H1,rfl,I1.kept (t':=s1.toks) fun b o e=>Heap.get?_push_of_some _ e,turn_list a _,⟨_,Heap.get?_push_size _ rfl,rfl,rfl⟩,fun b hb=>?_,q⟩
 have e:b=s1.heap.objs.size:=by simpa using hb
 subst e
 exact I1.fpOk (Nat.le_refl _) (I1.hok.fresh (Nat.le_refl _))
theorem pi_tup {l:Expr} {tl:TE} (hl:PE X l tl):PI X tg l (iTup X.K tl):=by
 intro pins s σ H R I h
 refine thn (hl pins s σ H _ I h) fun v s1 ⟨x,H1,I1,r1,q1⟩=>?_
 obtain⟨a,e,⟨xs,hq⟩,q⟩:=q1
 subst e
 cases r1
 obtain⟨its,rv,p,hz⟩:=I1.tuple hq
 refine wpAny_pyIter_tuple (show s1.heap.IsTuple a its.toArray from p) ?_
 refine⟨s1.heap.objs.size,[s1.heap.objs.size],_,_,H1,rfl,I1.kept (t':=s1.toks) fun b o e=>Heap.get?_push_of_some _ e,turn_tuple a _,⟨_,Heap.get?_push_size _ rfl,rfl,rfl⟩,fun b hb=>?_,q⟩
 have e:b=s1.heap.objs.size:=by simpa using hb
 subst e
 exact I1.fpOk (Nat.le_refl _) (I1.hok.fresh (Nat.le_refl _))
/-- a range object just made, walked -/
theorem range_it {pins:List (Addr × Obj)} {σ:St} {H:Hp} {s:Shared} {R:It->Hp->Prop} {E:Value->Shared->Prop} {lo hi:Int} {t u v:Tok} {tk:Nat} (I:Inv X pins σ H s) (h1:-(2 ^ 62)≤lo) (h2:lo < 2 ^ 62) (h3:-(2 ^ 62)≤hi) (h4:hi < 2 ^ 62)
  (q:R (Itr lo (hi - lo).toNat) H):wpAny (model X.prog X.w) X.A (pyIter (.ref s.heap.objs.size)) (PIE X pins σ tg R) E { s with heap:=s.heap.push { cls:=.type "range",data:=.fields #[.int lo t,.int hi u,.int 1 v] },toks:=tk }:=by
 refine wpAny_pyIter_range (IsRange.new ..) (small_one h1 h2 h3 h4) ?_
 have I1:Inv X pins σ H { s with heap:=s.heap.push { cls:=.type "range",data:=.fields #[.int lo t,.int hi u,.int 1 v] },toks:=tk }:=I.kept fun b o e=>Heap.get?_push_of_some _ e
 refine⟨(s.heap.push { cls:=.type "range",data:=.fields #[.int lo t,.int hi u,.int 1 v] }).objs.size,[(s.heap.push { cls:=.type "range",data:=.fields #[.int lo t,.int hi u,.int 1 v] }).objs.size],_,_,H,rfl,
  I1.kept (t':=tk) fun b o e=>Heap.get?_push_of_some _ e,turn_range _ lo (hi - lo).toNat,?_,fun b hb=>?_,q⟩
 ·have e1:lo + ((0:Nat):Int) * 1=lo:=by simp
  have e2:(((hi - lo).toNat:Nat):Int) - ((0:Nat):Int)=Builtin.Range.rangeSize lo hi 1:=by rw[rangeSize_one];split <;> omega
  show IsRangeIter _ _ (lo + ((0:Nat):Int) * 1) ((((hi - lo).toNat:Nat):Int) - ((0:Nat):Int)) 1
  rw[e1,e2]
  exact Heap.get?_push_size _ rfl
 ·have e:b=(s.heap.push { cls:=.type "range",data:=.fields #[.int lo t,.int hi u,.int 1 v] }).objs.size:=by simpa using hb
  subst e
  exact I1.fpOk (Nat.le_refl _) (I1.hok.fresh (Nat.le_refl _))
def iRng1 (ta:TA):TI:=fun σ H R=>ta σ H fun vs H1=>∃ j:Int,vs=[.int j]∧-(2 ^ 62)≤j∧j < 2 ^ 62∧R (Itr 0 j.toNat) H1
theorem pi_range1 {a:Expr} {ta:TA} {p pos:Pos} (hg:Gl X "range") (hm:X.mg "range"=none) (ha:PA X [a] ta) (hs:starEach [a] X.env=[(false,eval a X.env)]:=by rfl):PI X tg (.Call (.Name "range" p) [a] [] pos) (iRng1 ta):=by
 intro pins s σ H R I h
 refine Call_ (ld_blt I hg hm boot_range (PyProof.Rows.callWith_type1 (thn (ha pos pins s σ H _ I h) fun us s1 ⟨vs,H1,I1,r1,q1⟩=>?_) hs rfl))
 obtain⟨j,e,q1,q2,q⟩:=q1
 subst e
 cases r1 with
 | cons r rr =>
  cases rr
  obtain⟨t,rfl⟩:=r
  exact call_range_1 (range_it I1 (by omega) (by omega) q1 q2 (by simpa using q))
/-- W: the invariant by the turn and a measure; N: what the body is to reach -/
def tFor (wi:TI) (g:TG) (tb:TS):TS:=fun D σ H=>wi σ H fun J H1=>∃ W:Nat->Nat->St->Hp->Prop,(∃ m,W 0 m σ H1)∧∀ i m σ H,W i m σ H ->
 (J.stop i H∧D.nx σ H)∨(J.go i H∧∃ N:St->Hp->Prop,(∀ σ' H',N σ' H'->∃ m',m' < m∧W (i + 1) m' σ' H')∧∀ x H',J.yld i H x H'->g x σ H' fun σ2 H2=>tb { D with nx:=N,ct:=N,bk:=D.nx } σ2 H2)
/-- the records at fp as they stand -/
def pinsAt (fp:List Addr) (h:Heap):List (Addr × Obj):=fp.filterMap fun b=>(h.get? b).map fun o=>(b,o)
theorem mem_pinsAt {fp:List Addr} {h:Heap} {b:Addr} {o:Obj} (hb:b ∈ fp) (e:h.get? b=some o):(b,o) ∈ pinsAt fp h:=List.mem_filterMap.mpr ⟨b,hb,by rw[e];rfl⟩
theorem of_pinsAt {fp:List Addr} {h:Heap} {p:Addr × Obj} (hp:p ∈ pinsAt fp h):p.1 ∈ fp∧h.get? p.1=some p.2:=by
 obtain⟨b,hb,e⟩:=List.mem_filterMap.mp hp
 cases q:h.get? b with
 | none=>rw[q] at e;cases e
 | some o =>
  rw[q] at e
  have e':(b,o)=p:=Option.some.inj e
  subst e'
  exact⟨hb,q⟩
theorem Inv.pinned {pins:List (Addr × Obj)} {σ:St} {H:Hp} {s:Shared} {fp:List Addr} (I:Inv X pins σ H s) (hf:∀ b ∈ fp,FpOk X pins H b) (ho:∀ b ∈ fp,∃ o,s.heap.get? b=some o∧∀ v,o.data≠.cell v):Inv X (pins++pinsAt fp s.heap) σ H s :=
 I.pins_of fun p hp=>(List.mem_append.mp hp).elim (fun z=>I.pin p (List.mem_append_right _ z)) fun z=>by
  obtain⟨hb,e⟩:=of_pinsAt z
  obtain⟨f0,f1,f2,_⟩:=hf p.1 hb
  obtain⟨o,e',d⟩:=ho p.1 hb
  rw[e] at e';cases e'
  exact⟨e,f0,f1,f2,d⟩
theorem Inv.unpinned {pins pl:List (Addr × Obj)} {σ:St} {H:Hp} {s:Shared} (I:Inv X (pins++pl) σ H s):Inv X pins σ H s:=I.pins_of fun p hp=>I.pin p (List.mem_append_right _ (List.mem_append_left _ hp))
theorem ps_for {iter:Expr} {body:List Stmt} {wi:TI} {g:TG} {tb:TS} {pos:Pos} (hp:PassesOwn (model X.prog X.w) X.A X.env X.xe) (hc:X.calm=true) (hi:PI X tg iter wi) (hg:PG X tg g) (hb:PSs X body tb)
  (hs:∀ x,foldedSetIterable iter X.env x=pure x:=by intro _;rfl):PS X (.For tg iter body [] pos) (tFor wi g tb):=by
 intro pins s σ H D I h
 refine wpAny_For (thn (hi pins s σ H _ I h) fun v s1 h1=>thn h1 fun itv s2 h2=>?_) hs
 obtain⟨it,fp,tn,J,H2,e,I2,T,st2,f2,W,⟨m0,w0⟩,turn⟩:=h2
 subst e
  -- what stays true of the iterator's objects through the loop
 have stat:∀ {H':Hp},(∀ b ∈ fp,H' b=none)->∀ b ∈ fp,FpOk X pins H' b:=fun hn b hb=>⟨hn b hb,(f2 b hb).2⟩
 refine codeAny_forLoop_any (fun n s'=>∃ i σ' H',Inv X pins σ' H' s'∧tn i s'.heap∧(∀ b ∈ fp,H' b=none)∧W i n σ' H') ?_ m0 ⟨0,σ,H2,I2,st2,fun b hb=>(f2 b hb).1,w0⟩
 rintro n s3 ⟨i,σ3,H3,I3,st3,fr3,w3⟩
 rcases turn i n σ3 H3 w3 with ⟨stop,qn⟩ | ⟨go,N,hN,step⟩
 ·refine wpAny_passesOwn hp (thn (T.done X rfl rfl rfl hc i pins s3 σ3 H3 X.xe I3 (stat fr3) st3 stop) fun r s4 ⟨hr,I4⟩=>?_)
  subst hr
  exact wpAny_execs_nil ⟨σ3,H3,I4,qn⟩
 ·refine wpAny_passesOwn hp (thn (T.item X rfl rfl rfl hc i pins s3 σ3 H3 X.xe I3 (stat fr3) st3 go) fun r s4 ⟨u,hr,h4⟩=>?_)
  subst hr
  refine wpAny_passesOwn hp (thn h4 fun _ s5 ⟨x,H5,I5,r5,y5,st5,fr5⟩=>?_)
  have I5':=I5.pinned (stat fr5) (T.obj _ _ st5)
  refine wpAny_passesOwn hp (thn (hg _ s5 σ3 H5 x u _ I5' r5 (step x H5 y5)) fun _ s6 ⟨σ6,H6,I6,q6⟩=>?_)
  refine wpAny_passesOwn hp (thn (hb _ s6 σ6 H6 _ I6 q6) fun f s7 q7=>?_)
  have again:∀ {σ7:St} {H7:Hp},Inv X (pins++pinsAt fp s5.heap) σ7 H7 s7->N σ7 H7->∃ m,m < n∧∃ i σ' H',Inv X pins σ' H' s7∧tn i s7.heap∧(∀ b ∈ fp,H' b=none)∧W i m σ' H':=fun {σ7 H7} I7 n7=>by
   obtain⟨m',hm,w7⟩:=hN σ7 H7 n7
   refine⟨m',hm,i + 1,σ7,H7,I7.unpinned,T.keep _ _ _ st5 fun b hb o e=>(I7.pin (b,o) (List.mem_append_right _ (List.mem_append_right _ (mem_pinsAt hb e)))).1,fun b hb=>?_,w7⟩
   obtain⟨o,e,d⟩:=T.obj _ _ st5 b hb
   exact (I7.pin (b,o) (List.mem_append_right _ (List.mem_append_right _ (mem_pinsAt hb e)))).2.1
  cases f with
  | next=>obtain⟨σ7,H7,I7,n7⟩:=q7;exact again I7 n7
  | cont=>obtain⟨σ7,H7,I7,n7⟩:=q7;exact again I7 n7
  | brk=>obtain⟨σ7,H7,I7,q7⟩:=q7;exact⟨σ7,H7,I7.unpinned,q7⟩
  | ret v=>obtain⟨x7,σ7,H7,I7,r7,q7⟩:=q7;exact⟨x7,σ7,H7,I7.unpinned,r7,q7⟩
end
/-- over a list that the body leaves as it is -/
theorem for_list {K:PySem.W.Frag} {a:Addr} {xs:List V} {g:TG} {tb:TS} {D:Ends} {σ:St} {H:Hp} (Pv:Nat->St->Hp->Prop) (h0:Pv 0 σ H) (hl:∀ i σ H,i≤xs.length->Pv i σ H->SqL K H a xs)
  (hs:∀ i x σ H,xs[i]?=some x->Pv i σ H->g x σ H fun σ2 H2=>tb { D with nx:=Pv (i + 1),ct:=Pv (i + 1),bk:=D.nx } σ2 H2) (hd:∀ σ H,Pv xs.length σ H->D.nx σ H) :
  ∃ W:Nat->Nat->St->Hp->Prop,(∃ m,W 0 m σ H)∧∀ i m σ H,W i m σ H ->
   ((Itl K a).stop i H∧D.nx σ H)∨((Itl K a).go i H∧∃ N:St->Hp->Prop,(∀ σ' H',N σ' H'->∃ m',m' < m∧W (i + 1) m' σ' H')∧∀ x H',(Itl K a).yld i H x H'->g x σ H' fun σ2 H2=>tb { D with nx:=N,ct:=N,bk:=D.nx } σ2 H2):=by
 refine⟨fun i m σ H=>m=xs.length - i∧i≤xs.length∧Pv i σ H,⟨xs.length,by simp,Nat.zero_le _,h0⟩,?_⟩
 rintro i m σ H ⟨rfl,hi,p⟩
 have q:=hl i σ H hi p
 by_cases hlt:i < xs.length
 ·refine .inr ⟨⟨xs,xs[i],q,by simp [hlt]⟩,Pv (i + 1),fun σ' H' p'=>⟨xs.length - (i + 1),by omega,rfl,hlt,p'⟩,fun x H' y=>?_⟩
  obtain⟨e,y⟩:=y
  subst e
  exact hs i x σ _ (y xs q) p
 ·have e:i=xs.length:=by omega
  subst e
  exact .inl ⟨⟨xs,q,Nat.le_refl _⟩,hd σ H p⟩
theorem for_tup {K:PySem.W.Frag} {a:Addr} {xs:List V} {g:TG} {tb:TS} {D:Ends} {σ:St} {H:Hp} (Pv:Nat->St->Hp->Prop) (h0:Pv 0 σ H) (hl:∀ i σ H,i≤xs.length->Pv i σ H->SqT K H a xs)
  (hs:∀ i x σ H,xs[i]?=some x->Pv i σ H->g x σ H fun σ2 H2=>tb { D with nx:=Pv (i + 1),ct:=Pv (i + 1),bk:=D.nx } σ2 H2) (hd:∀ σ H,Pv xs.length σ H->D.nx σ H) :
  ∃ W:Nat->Nat->St->Hp->Prop,(∃ m,W 0 m σ H)∧∀ i m σ H,W i m σ H ->
   ((Itt K a).stop i H∧D.nx σ H)∨((Itt K a).go i H∧∃ N:St->Hp->Prop,(∀ σ' H',N σ' H'->∃ m',m' < m∧W (i + 1) m' σ' H')∧∀ x H',(Itt K a).yld i H x H'->g x σ H' fun σ2 H2=>tb { D with nx:=N,ct:=N,bk:=D.nx } σ2 H2):=by
 refine⟨fun i m σ H=>m=xs.length - i∧i≤xs.length∧Pv i σ H,⟨xs.length,by simp,Nat.zero_le _,h0⟩,?_⟩
 rintro i m σ H ⟨rfl,hi,p⟩
 have q:=hl i σ H hi p
 by_cases hlt:i < xs.length
 ·refine .inr ⟨⟨xs,xs[i],q,by simp [hlt]⟩,Pv (i + 1),fun σ' H' p'=>⟨xs.length - (i + 1),by omega,rfl,hlt,p'⟩,fun x H' y=>?_⟩
  obtain⟨e,y⟩:=y
  subst e
  exact hs i x σ _ (y xs q) p
 ·have e:i=xs.length:=by omega
  subst e
  exact .inl ⟨⟨xs,q,Nat.le_refl _⟩,hd σ H p⟩
theorem for_range {lo:Int} {n:Nat} {g:TG} {tb:TS} {D:Ends} {σ:St} {H:Hp} (Pv:Nat->St->Hp->Prop) (h0:Pv 0 σ H)
  (hs:∀ i σ H,i < n->Pv i σ H->g (.int (lo + i)) σ H fun σ2 H2=>tb { D with nx:=Pv (i + 1),ct:=Pv (i + 1),bk:=D.nx } σ2 H2) (hd:∀ σ H,Pv n σ H->D.nx σ H) :
  ∃ W:Nat->Nat->St->Hp->Prop,(∃ m,W 0 m σ H)∧∀ i m σ H,W i m σ H ->
   ((Itr lo n).stop i H∧D.nx σ H)∨((Itr lo n).go i H∧∃ N:St->Hp->Prop,(∀ σ' H',N σ' H'->∃ m',m' < m∧W (i + 1) m' σ' H')∧∀ x H',(Itr lo n).yld i H x H'->g x σ H' fun σ2 H2=>tb { D with nx:=N,ct:=N,bk:=D.nx } σ2 H2):=by
 refine⟨fun i m σ H=>m=n - i∧i≤n∧Pv i σ H,⟨n,by simp,Nat.zero_le _,h0⟩,?_⟩
 rintro i m σ H ⟨rfl,hi,p⟩
 by_cases hlt:i < n
 ·refine .inr ⟨hlt,Pv (i + 1),fun σ' H' p'=>⟨n - (i + 1),by omega,rfl,hlt,p'⟩,fun x H' y=>?_⟩
  obtain⟨e,y⟩:=y
  subst e y
  exact hs i σ _ hlt p
 ·have e:i=n:=by omega
  subst e
  exact .inl ⟨Nat.le_refl _,hd σ H p⟩
end L2
namespace L2
open PySem PySem.Spec PyProof.Rows
abbrev R2:=V->V->Hp->VK->Prop
/-- a two-place operation on values: f is binaryOp op, inplaceOp op or compareOp op -/
def OpR (X:Cx) (f:Value->Value->Sem Value) (r:R2):Prop :=
 ∀ (pins:List (Addr × Obj)) (s:Shared) (σ:St) (H:Hp) (x y:V) (v u:Value) (Q:VK),Inv X pins σ H s->RelV x v->RelV y u->r x y H Q ->
  wpAny (model X.prog X.w) X.A (f v u) (EP X pins σ Q) X.xe s
/-- a one-place operation -/
def UnR (X:Cx) (f:Value->Sem Value) (r:V->Hp->VK->Prop):Prop :=
 ∀ (pins:List (Addr × Obj)) (s:Shared) (σ:St) (H:Hp) (x:V) (v:Value) (Q:VK),Inv X pins σ H s->RelV x v->r x H Q ->
  wpAny (model X.prog X.w) X.A (f v) (EP X pins σ Q) X.xe s
/-- a call of a value that is known (a builtin, a type) with values -/
def CallR (X:Cx) (f:Value) (r:List V->Hp->VK->Prop):Prop :=
 ∀ (pins:List (Addr × Obj)) (s:Shared) (σ:St) (H:Hp) (xs:List V) (us:List Value) (Q:VK),Inv X pins σ H s->Vals xs us->r xs H Q ->
  wpAny (model X.prog X.w) X.A (call f us) (EP X pins σ Q) X.xe s
def tOp (r:R2) (ta tb:TE):TE:=fun σ H Q=>ta σ H fun x H1=>tb σ H1 fun y H2=>r x y H2 Q
def tUn (r:V->Hp->VK->Prop) (ta:TE):TE:=fun σ H Q=>ta σ H fun x H1=>r x H1 Q
/-- ints in, under C, and a value out -/
def rI (C:Int->Int->Prop) (g:Int->Int->V):R2:=fun x y H Q=>∃ i j,x=.int i∧y=.int j∧C i j∧Q (g i j) H
def rI0 (g:Int->Int->V):R2:=fun x y H Q=>∃ i j,x=.int i∧y=.int j∧Q (g i j) H
def rU (g:Int->V):V->Hp->VK->Prop:=fun x H Q=>∃ i,x=.int i∧Q (g i) H
section
variable {X:Cx} {a b c:Expr} {ta tb tc:TE} {pos:Pos}
theorem binT (ha:PE X a ta) (hb:PE X b tb) {pins:List (Addr × Obj)} {s:Shared} {σ:St} {H:Hp} {R:V->V->Hp->Prop} (I:Inv X pins σ H s)
  (h:ta σ H fun x H1=>tb σ H1 fun y H2=>R x y H2) {Q:Value->Shared->Prop} {f:Value->Value->Sem Value}
  (hf:∀ v u s2 x y H2,Inv X pins σ H2 s2->RelV x v->RelV y u->R x y H2->wpAny (model X.prog X.w) X.A (f v u) Q X.xe s2) :
  wpAny (model X.prog X.w) X.A (eval a X.env) (fun v s₁=>wpAny (model X.prog X.w) X.A (eval b X.env) (fun u s₂=>wpAny (model X.prog X.w) X.A (f v u) Q X.xe s₂) X.xe s₁) X.xe s:=by
 refine thn (ha pins s σ H _ I h) fun v s1 ⟨x,H1,I1,r1,q1⟩=>?_
 refine thn (hb pins s1 σ H1 _ I1 q1) fun u s2 ⟨y,H2,I2,r2,q2⟩=>?_
 exact hf v u s2 x y H2 I2 r1 r2 q2
theorem pe_op {op:Operator} {r:R2} (ho:OpR X (binaryOp op) r) (ha:PE X a ta) (hb:PE X b tb):PE X (.BinOp a op b pos) (tOp r ta tb):=by
 intro pins s σ H Q I h
 exact wpAny_BinOp (binT ha hb I h fun v u s2 x y H2 I2 rx ry q=>ho pins s2 σ H2 x y v u Q I2 rx ry q)
theorem pe_un {op:UnaryOp} {r:V->Hp->VK->Prop} (ho:UnR X (unaryOp op) r) (ha:PE X a ta):PE X (.UnaryOp op a pos) (tUn r ta):=by
 intro pins s σ H Q I h
 exact UnaryOp_ (thn (ha pins s σ H _ I h) fun v s1 ⟨x,H1,I1,r1,q1⟩=>ho pins s1 σ H1 x v Q I1 r1 q1)
theorem opI {f:Value->Value->Sem Value} {C:Int->Int->Prop} {g:Int->Int->Int}
  (rule:∀ (i j:Int) (t u:Tok) (s:Shared) (Q:Value->Shared->Prop) (E:Value->Shared->Prop),C i j->Q (.int (g i j) s.toks) { s with toks:=s.toks + 1 }->wpAny (model X.prog X.w) X.A (f (.int i t) (.int j u)) Q E s) :
  OpR X f (rI C fun i j=>.int (g i j)):=by
 intro pins s σ H x y v u Q I rx ry h
 obtain⟨i,j,rfl,rfl,hc,q⟩:=h
 obtain⟨t,rfl⟩:=rx
 obtain⟨t',rfl⟩:=ry
 exact rule i j t t' s _ _ hc ⟨.int (g i j),H,I.tok _,⟨_,rfl⟩,q⟩
theorem opI0 {f:Value->Value->Sem Value} {g:Int->Int->Int}
  (rule:∀ (i j:Int) (t u:Tok) (s:Shared) (Q:Value->Shared->Prop) (E:Value->Shared->Prop),Q (.int (g i j) s.toks) { s with toks:=s.toks + 1 }->wpAny (model X.prog X.w) X.A (f (.int i t) (.int j u)) Q E s) :
  OpR X f (rI0 fun i j=>.int (g i j)):=by
 intro pins s σ H x y v u Q I rx ry h
 obtain⟨i,j,rfl,rfl,q⟩:=h
 obtain⟨t,rfl⟩:=rx
 obtain⟨t',rfl⟩:=ry
 exact rule i j t t' s _ _ ⟨.int (g i j),H,I.tok _,⟨_,rfl⟩,q⟩
theorem opB0 {f:Value->Value->Sem Value} {g:Int->Int->Bool}
  (rule:∀ (i j:Int) (t u:Tok) (s:Shared) (Q:Value->Shared->Prop) (E:Value->Shared->Prop),Q (.bool (g i j)) s->wpAny (model X.prog X.w) X.A (f (.int i t) (.int j u)) Q E s) :
  OpR X f (rI0 fun i j=>.bl (g i j)):=by
 intro pins s σ H x y v u Q I rx ry h
 obtain⟨i,j,rfl,rfl,q⟩:=h
 obtain⟨t,rfl⟩:=rx
 obtain⟨t',rfl⟩:=ry
 exact rule i j t t' s _ _ ⟨.bl (g i j),H,I,rfl,q⟩
def CDiv (i j:Int):Prop:=0 < j∧j < 1073741824
def CPow (i j:Int):Prop:=0≤j∧j≤1000000∧i.natAbs < 2 ^ 64
def CMul (i j:Int):Prop:=(-(2 ^ 64) < i∧i < 2 ^ 64)∨(-(2 ^ 64) < j∧j < 2 ^ 64)
theorem CMul.ok {i j:Int} (h:CMul i j):IntMulOk i j:=by
 rcases h with ⟨h1,h2⟩ | ⟨h1,h2⟩
 ·exact .of_left (intBits_le_64 h1 h2)
 ·exact .of_right (intBits_le_64 h1 h2)
theorem op_add:OpR X (binaryOp .Add) (rI0 fun i j=>.int (i + j)):=opI0 fun _ _ _ _ _ _ _ q=>add_int q
theorem op_sub:OpR X (binaryOp .Sub) (rI0 fun i j=>.int (i - j)):=opI0 fun _ _ _ _ _ _ _ q=>sub_int q
theorem op_mul:OpR X (binaryOp .Mult) (rI CMul fun i j=>.int (i * j)):=opI fun _ _ _ _ _ _ _ hc q=>mul_int q hc.ok
/-- // by a positive divisor -/
theorem op_fdiv:OpR X (binaryOp .FloorDiv) (rI CDiv fun i j=>.int (i / j)):=opI fun i j _ _ _ _ _ hc q=>by
 have h1:(0:Int) < j:=hc.1
 have h2:j < 1073741824:=hc.2
 exact floordiv_int (by omega) (by rw[Int.fdiv_eq_ediv_of_nonneg i (by omega)];exact q) (.inl (PyProof.noPylong_small (by omega)))
/-- % by a positive divisor of any size -/
theorem op_mod:OpR X (binaryOp .Mod) (rI (fun _ j=>0 < j) fun i j=>.int (i % j)):=opI fun i j _ _ _ _ _ hc q=>by
 have h1:(0:Int) < j:=hc
 exact mod_int' (by omega) (by rw[Int.fmod_eq_emod_of_nonneg i (by omega)];exact q)
theorem op_pow:OpR X (binaryOp .Pow) (rI CPow fun i j=>.int (i ^ j.toNat)):=opI fun _ _ _ _ _ _ _ hc q=>pow_int_small hc.1 hc.2.1 hc.2.2 q
theorem unI {f:Value->Sem Value} {g:Int->Int}
  (rule:∀ (i:Int) (t:Tok) (s:Shared) (Q:Value->Shared->Prop) (E:Value->Shared->Prop),Q (.int (g i) s.toks) { s with toks:=s.toks + 1 }->wpAny (model X.prog X.w) X.A (f (.int i t)) Q E s) :
  UnR X f (rU fun i=>.int (g i)):=by
 intro pins s σ H x v Q I rx h
 obtain⟨i,rfl,q⟩:=h
 obtain⟨t,rfl⟩:=rx
 exact rule i t s _ _ ⟨.int (g i),H,I.tok _,⟨_,rfl⟩,q⟩
theorem un_neg:UnR X (unaryOp .USub) (rU fun i=>.int (-i)):=unI fun _ _ _ _ _ q=>neg_int q
end
/-- the scalars that == tells apart as data does -/
def scal:V->V->Bool
 | .non,.non=>true | .non,.int _=>true | .int _,.non=>true | .non,.bl _=>true | .bl _,.non=>true | .non,.str _=>true | .str _,.non=>true
 | .int _,.int _=>true | .bl _,.bl _=>true | .str _,.str _=>true | .byt _,.byt _=>true
 | .int _,.str _=>true | .str _,.int _=>true | .bl _,.str _=>true | .str _,.bl _=>true
 | _,_=>false
def rEq:R2:=fun x y H Q=>scal x y=true∧Q (.bl (decide (x=y))) H
def rNe:R2:=fun x y H Q=>scal x y=true∧Q (.bl (!decide (x=y))) H
theorem dec_int {i j:Int}:decide (V.int i=V.int j)=(i == j):=by
 rw[Bool.eq_iff_iff]
 simp
theorem dec_bl {i j:Bool}:decide (V.bl i=V.bl j)=(i == j):=by
 rw[Bool.eq_iff_iff]
 simp
theorem dec_str {i j:Str}:decide (V.str i=V.str j)=(i == j):=by
 rw[Bool.eq_iff_iff]
 simp
theorem dec_byt {i j:Array UInt8}:decide (V.byt i=V.byt j)=(i.toList == j.toList):=by
 rw[Bool.eq_iff_iff]
 cases i
 cases j
 simp
section
variable {X:Cx} {a b c:Expr} {ta tb tc:TE} {pos:Pos}
theorem fin_bl {pins:List (Addr × Obj)} {σ:St} {H:Hp} {s:Shared} {Q:VK} {k k':Bool} (I:Inv X pins σ H s) (q:Q (.bl k) H) (e:k=k'):EP X pins σ Q (.bool k') s:=by
 subst e
 exact⟨.bl k,H,I,rfl,q⟩
theorem op_eq:OpR X (compareOp .Eq) rEq:=by
 intro pins s σ H x y v u Q I rx ry h
 obtain⟨hs,q⟩:=h
 cases x with
 | non =>
  cases rx
  cases y with
  | non=>cases ry;exact PySem.EqNone.eq_none_none (fin_bl I q (by simp))
  | bl j=>cases ry;exact PySem.EqNone.eq_none_bool (fin_bl I q (by simp))
  | int j=>obtain⟨t',rfl⟩:=ry;exact PySem.EqNone.eq_none_int (fin_bl I q (by simp))
  | str j=>obtain⟨t',rfl⟩:=ry;exact PySem.EqNone.eq_none_str (fin_bl I q (by simp))
  | _=>exact absurd (show false=true from hs) Bool.false_ne_true
 | bl i =>
  cases rx
  cases y with
  | non=>cases ry;exact PySem.EqNone.eq_bool_none (fin_bl I q (by simp))
  | bl j=>cases ry;exact eq_bool (fin_bl I q dec_bl)
  | str j=>obtain⟨t',rfl⟩:=ry;exact PySem.EqMixed.eq_bool_str (fin_bl I q (by simp))
  | _=>exact absurd (show false=true from hs) Bool.false_ne_true
 | int i =>
  obtain⟨t,rfl⟩:=rx
  cases y with
  | non=>cases ry;exact PySem.EqNone.eq_int_none (fin_bl I q (by simp))
  | int j=>obtain⟨t',rfl⟩:=ry;exact eq_int (fin_bl I q dec_int)
  | str j=>obtain⟨t',rfl⟩:=ry;exact PySem.EqMixed.eq_int_str (fin_bl I q (by simp))
  | _=>exact absurd (show false=true from hs) Bool.false_ne_true
 | str i =>
  obtain⟨t,rfl⟩:=rx
  cases y with
  | non=>cases ry;exact PySem.EqNone.eq_str_none (fin_bl I q (by simp))
  | bl j=>cases ry;exact PySem.EqMixed.eq_str_bool (fin_bl I q (by simp))
  | int j=>obtain⟨t',rfl⟩:=ry;exact PySem.EqMixed.eq_str_int (fin_bl I q (by simp))
  | str j=>obtain⟨t',rfl⟩:=ry;exact eq_str (fin_bl I q dec_str)
  | _=>exact absurd (show false=true from hs) Bool.false_ne_true
 | byt i =>
  obtain⟨t,rfl⟩:=rx
  cases y with
  | byt j=>obtain⟨t',rfl⟩:=ry;exact PySem.W.eq_bytes (fin_bl I q dec_byt)
  | _=>exact absurd (show false=true from hs) Bool.false_ne_true
 | _=>cases y <;> exact absurd (show false=true from hs) Bool.false_ne_true
theorem op_ne:OpR X (compareOp .NotEq) rNe:=by
 intro pins s σ H x y v u Q I rx ry h
 obtain⟨hs,q⟩:=h
 cases x with
 | non =>
  cases rx
  cases y with
  | non=>cases ry;exact PySem.EqNone.ne_none_none (fin_bl I q (by simp))
  | bl j=>cases ry;exact PySem.EqNone.ne_none_bool (fin_bl I q (by simp))
  | int j=>obtain⟨t',rfl⟩:=ry;exact PySem.EqNone.ne_none_int (fin_bl I q (by simp))
  | str j=>obtain⟨t',rfl⟩:=ry;exact PySem.EqNone.ne_none_str (fin_bl I q (by simp))
  | _=>exact absurd (show false=true from hs) Bool.false_ne_true
 | bl i =>
  cases rx
  cases y with
  | non=>cases ry;exact PySem.EqNone.ne_bool_none (fin_bl I q (by simp))
  | bl j=>cases ry;exact ne_bool (fin_bl I q (congrArg not dec_bl))
  | str j=>obtain⟨t',rfl⟩:=ry;exact PySem.EqMixed.ne_bool_str (fin_bl I q (by simp))
  | _=>exact absurd (show false=true from hs) Bool.false_ne_true
 | int i =>
  obtain⟨t,rfl⟩:=rx
  cases y with
  | non=>cases ry;exact PySem.EqNone.ne_int_none (fin_bl I q (by simp))
  | int j=>obtain⟨t',rfl⟩:=ry;exact ne_int (fin_bl I q (congrArg not dec_int))
  | str j=>obtain⟨t',rfl⟩:=ry;exact PySem.EqMixed.ne_int_str (fin_bl I q (by simp))
  | _=>exact absurd (show false=true from hs) Bool.false_ne_true
 | str i =>
  obtain⟨t,rfl⟩:=rx
  cases y with
  | non=>cases ry;exact PySem.EqNone.ne_str_none (fin_bl I q (by simp))
  | bl j=>cases ry;exact PySem.EqMixed.ne_str_bool (fin_bl I q (by simp))
  | int j=>obtain⟨t',rfl⟩:=ry;exact PySem.EqMixed.ne_str_int (fin_bl I q (by simp))
  | str j=>obtain⟨t',rfl⟩:=ry;exact ne_str (fin_bl I q (congrArg not dec_str))
  | _=>exact absurd (show false=true from hs) Bool.false_ne_true
 | byt i =>
  obtain⟨t,rfl⟩:=rx
  cases y with
  | byt j=>obtain⟨t',rfl⟩:=ry;exact PySem.W.ne_bytes (fin_bl I q (congrArg not dec_byt))
  | _=>exact absurd (show false=true from hs) Bool.false_ne_true
 | _=>cases y <;> exact absurd (show false=true from hs) Bool.false_ne_true
theorem op_lt:OpR X (compareOp .Lt) (rI0 fun i j=>.bl (decide (i < j))):=opB0 fun _ _ _ _ _ _ _ q=>lt_int q
theorem op_le:OpR X (compareOp .LtE) (rI0 fun i j=>.bl (decide (i≤j))):=opB0 fun _ _ _ _ _ _ _ q=>le_int q
theorem op_gt:OpR X (compareOp .Gt) (rI0 fun i j=>.bl (decide (j < i))):=opB0 fun _ _ _ _ _ _ _ q=>gt_int q
/-- the one string within the other -/
theorem op_in_str:OpR X (compareOp .In) (fun x y H Q=>∃ i j,x=.str i∧y=.str j∧Q (.bl (!(Builtin.Str.occurrences j i 0 j.length 1).isEmpty)) H):=by
 intro pins s σ H x y v u Q I rx ry h
 obtain⟨i,j,rfl,rfl,q⟩:=h
 obtain⟨t,rfl⟩:=rx
 obtain⟨t',rfl⟩:=ry
 exact in_str (fin_bl I q rfl)
/-- is None, is not None: the right side a value none -/
theorem op_isN:OpR X (compareOp .Is) (fun x y H Q=>y=.non∧Q (.bl (decide (x=.non))) H):=by
 intro pins s σ H x y v u Q I rx ry h
 obtain⟨rfl,q⟩:=h
 cases ry
 refine is_none_gen (fin_bl I q ?_)
 cases x <;> first
  | (cases rx;rfl)
  | (obtain⟨t,rfl⟩:=rx;rfl)
theorem op_notN:OpR X (compareOp .IsNot) (fun x y H Q=>y=.non∧Q (.bl (!decide (x=.non))) H):=by
 intro pins s σ H x y v u Q I rx ry h
 obtain⟨rfl,q⟩:=h
 cases ry
 refine isnot_none_gen (fin_bl I q ?_)
 cases x <;> first
  | (cases rx;rfl)
  | (obtain⟨t,rfl⟩:=rx;rfl)
/-- is, is not of two objects that are tracked lists or instances -/
def isObj:HO->Bool
 | .lst _=>true
 | .ins _ _ _=>true
 | _=>false
theorem obj_there {pins:List (Addr × Obj)} {s:Shared} {σ:St} {H:Hp} {a:Addr} {o:HO} (I:Inv X pins σ H s) (h:H a=some o) (p:isObj o=true):∃ ob,s.heap.get? a=some ob∧ob.cls≠.type "tuple":=by
 cases o with
 | lst xs =>
  obtain⟨_,its,n,_,e⟩:xs.length≤sizeLine∧∃ (its:List Value) (n:Nat),Vals xs its∧s.heap.get? a=some { cls:=.type "list",data:=.seq its.toArray n }:=I.hok a _ h
  exact⟨_,e,(by show Value.type "list"≠.type "tuple";decide +kernel)⟩
 | ins C dx fs =>
  have x:=I.hok a _ h
  obtain⟨_,_,_,e,_⟩:=x
  exact⟨_,e,(by show Value.ref C≠.type "tuple";exact fun z=>by cases z)⟩
 | _=>exact absurd (show false=true from p) Bool.false_ne_true
/-- two rules for one operation: by cases -/
theorem OpR.or {f:Value->Value->Sem Value} {r r':R2} (h:OpR X f r) (h':OpR X f r'):OpR X f (fun x y H Q=>r x y H Q∨r' x y H Q):=by
 intro pins s σ H x y v u Q I rx ry q
 rcases q with q | q
 ·exact h pins s σ H x y v u Q I rx ry q
 ·exact h' pins s σ H x y v u Q I rx ry q
theorem nomark (b:Expr) {op:CmpOp} (h:op≠.In:=by decide) (h2:op≠.NotIn:=by decide):behindInMarks op b=false:=by
 have e1:(op == CmpOp.In)=false:=by cases op <;> first | rfl | exact absurd rfl h
 have e2:(op == CmpOp.NotIn)=false:=by cases op <;> first | rfl | exact absurd rfl h2
 cases b <;> simp [behindInMarks,e1,e2]
/-- a comparison as a value; hm: nomark b, or (for in, not in) by with_unfolding_all rfl -/
theorem pe_cmpR {op:CmpOp} {r:R2} (ho:OpR X (compareOp op) r) (ha:PE X a ta) (hb:PE X b tb) (hm:behindInMarks op b=false):PE X (.Compare a [op] [b] pos) (tOp r ta tb):=by
 intro pins s σ H Q I h
 exact wpAny_Compare1 (binT ha hb I h fun v u s2 x y H2 I2 rx ry q=>ho pins s2 σ H2 x y v u Q I2 rx ry q) hm
/-- a reading of a value as a test -/
def tTest (t:TE):TT:=fun σ H Q=>t σ H fun x H'=>∃ k,x=.bl k∧Q k H'
theorem pt_cmpR {op:CmpOp} {r:R2} (ho:OpR X (compareOp op) r) (ha:PE X a ta) (hb:PE X b tb) (hm:behindInMarks op b=false):PT X (.Compare a [op] [b] pos) (tTest (tOp r ta tb)):=by
 intro pins s σ H Q I h
 refine wpAny_isTrue_Compare1 (thn (ha pins s σ H _ I h) fun v s1 ⟨x,H1,I1,r1,q1⟩=>thn (hb pins s1 σ H1 _ I1 q1) fun u s2 ⟨y,H2,I2,r2,q2⟩ =>
  thn (ho pins s2 σ H2 x y v u _ I2 r1 r2 q2) fun c s3 ⟨z,H3,I3,r3,k,e,q3⟩=>?_) hm
 subst e
 cases r3
 exact wpAny_truthy_bool ⟨H3,I3,q3⟩
/-- a op1 b op2 c -/
def tChain (r r':R2) (ta tb tc:TE):TE:=fun σ H Q=>ta σ H fun x H1=>tb σ H1 fun y H2=>r x y H2 fun z H3=>∃ k,z=.bl k ∧
 (if k=true then tc σ H3 fun w' H4=>r' y w' H4 Q else Q (.bl false) H3)
theorem pe_chain {op op':CmpOp} {r r':R2} (ho:OpR X (compareOp op) r) (ho':OpR X (compareOp op') r') (ha:PE X a ta) (hb:PE X b tb) (hc:PE X c tc)
  (hm:lastMarks [op,op'] [b,c]=false:=by with_unfolding_all rfl):PE X (.Compare a [op,op'] [b,c] pos) (tChain r r' ta tb tc):=by
 intro pins s σ H Q I h
 refine Compare_chain (thn (ha pins s σ H _ I h) fun v s1 ⟨x,H1,I1,r1,q1⟩=>chain_link (thn (hb pins s1 σ H1 _ I1 q1) fun u s2 ⟨y,H2,I2,r2,q2⟩ =>
  thn (ho pins s2 σ H2 x y v u _ I2 r1 r2 q2) fun d s3 ⟨z,H3,I3,r3,k,e,q3⟩=>?_)) hm
 subst e
 cases r3
 refine wpAny_truthy_bool ?_
 cases k with
 | false=>exact ite_ff ⟨.bl false,H3,I3,rfl,q3⟩
 | true=>exact ite_tt (chain_last (thn (hc pins s3 σ H3 _ I3 q3) fun w' s4 ⟨z',H4,I4,r4,q4⟩=>ho' pins s4 σ H4 y z' u w' Q I4 r2 r4 q4))
theorem pt_chain {op op':CmpOp} {r r':R2} (ho:OpR X (compareOp op) r) (ho':OpR X (compareOp op') r') (ha:PE X a ta) (hb:PE X b tb) (hc:PE X c tc)
  (hm:lastMarks [op,op'] [b,c]=false:=by with_unfolding_all rfl):PT X (.Compare a [op,op'] [b,c] pos) (tTest (tChain r r' ta tb tc)):=by
 intro pins s σ H Q I h
 refine isTrue_chain (thn (ha pins s σ H _ I h) fun v s1 ⟨x,H1,I1,r1,q1⟩=>test_link (thn (hb pins s1 σ H1 _ I1 q1) fun u s2 ⟨y,H2,I2,r2,q2⟩ =>
  thn (ho pins s2 σ H2 x y v u _ I2 r1 r2 q2) fun d s3 ⟨z,H3,I3,r3,k,e,q3⟩=>?_)) hm
 subst e
 cases r3
 refine wpAny_truthy_bool ?_
 cases k with
 | false =>
  obtain⟨k',e',q'⟩:=q3
  cases e'
  exact ite_ff ⟨H3,I3,q'⟩
 | true =>
  refine ite_tt (test_last (thn (hc pins s3 σ H3 _ I3 q3) fun w' s4 ⟨z',H4,I4,r4,q4⟩=>thn (ho' pins s4 σ H4 y z' u w' _ I4 r2 r4 q4) fun d' s5 ⟨z2,H5,I5,r5,k2,e2,q5⟩=>?_))
  subst e2
  cases r5
  exact wpAny_truthy_bool ⟨H5,I5,q5⟩
theorem line63:(sizeLine:Nat) < 2 ^ 63:=by rw[sizeLine_eq];decide
theorem op_add_str:OpR X (binaryOp .Add) (fun x y H Q=>∃ i j,x=.str i∧y=.str j∧i.length + j.length≤sizeLine∧Q (.str (i++j)) H):=by
 intro pins s σ H x y v u Q I rx ry h
 obtain⟨i,j,rfl,rfl,hz,q⟩:=h
 obtain⟨t,rfl⟩:=rx
 obtain⟨t',rfl⟩:=ry
 exact add_str (fun t' tk=>⟨.str (i++j),H,I.tok _,⟨_,rfl⟩,q⟩) hz
theorem vals1 {x:V} {us:List Value} (r:Vals [x] us):∃ u,us=[u]∧RelV x u:=by
 cases r with
 | cons r1 r2=>cases r2;exact⟨_,rfl,r1⟩
theorem vals2 {x y:V} {us:List Value} (r:Vals [x,y] us):∃ u w',us=[u,w']∧RelV x u∧RelV y w':=by
 cases r with
 | cons r1 r2 =>
  cases r2 with
  | cons r3 r4=>cases r4;exact⟨_,_,rfl,r1,r3⟩
theorem call_max2 (hc:X.calm=true):CallR X (.builtin "max") (fun xs H Q=>∃ i j,xs=[.int i,.int j]∧Q (.int (if j > i then j else i)) H):=by
 intro pins s σ H xs us Q I r h
 obtain⟨i,j,rfl,q⟩:=h
 obtain⟨u,w',rfl,⟨t,rfl⟩,⟨t',rfl⟩⟩:=vals2 r
 refine max_two_ints (I.ok.hd hc) fun h' tk k=>⟨_,H,I.kept k,?_,q⟩
 by_cases hj:j > i
 ·rw[if_pos hj,if_pos hj];exact⟨_,rfl⟩
 ·rw[if_neg hj,if_neg hj];exact⟨_,rfl⟩
theorem call_min2 (hc:X.calm=true):CallR X (.builtin "min") (fun xs H Q=>∃ i j,xs=[.int i,.int j]∧Q (.int (if j < i then j else i)) H):=by
 intro pins s σ H xs us Q I r h
 obtain⟨i,j,rfl,q⟩:=h
 obtain⟨u,w',rfl,⟨t,rfl⟩,⟨t',rfl⟩⟩:=vals2 r
 refine min_two_ints (I.ok.hd hc) fun h' tk k=>⟨_,H,I.kept k,?_,q⟩
 by_cases hj:j < i
 ·rw[if_pos hj,if_pos hj];exact⟨_,rfl⟩
 ·rw[if_neg hj,if_neg hj];exact⟨_,rfl⟩
theorem call_str_int:CallR X (.type "str") (fun xs H Q=>∃ i,xs=[.int i]∧i.natAbs.log2 < 1920∧Q (.str (toString i)) H):=by
 intro pins s σ H xs us Q I r h
 obtain⟨i,rfl,hz,q⟩:=h
 obtain⟨u,rfl,t,rfl⟩:=vals1 r
 exact PySem.P.str_of_int hz ⟨.str _,H,I.tok _,⟨_,rfl⟩,q⟩
end
end L2
namespace L2
open PySem PySem.Spec PyProof.Rows
structure ObjM (h:Heap) (x dx C:Addr) (mA:Str->Option Value):Prop where
 obj:h.get? x=some (PySem.W.instObj C dx)
 ns:h.Ns1 dx mA
 ne:dx≠x
theorem lookIn_ns {h:Heap} {dx:Addr} {mA:Str->Option Value} (n:h.Ns1 dx mA):∃ od,h.get? dx=some od∧∀ name,PySem.W.lookIn name od=some (mA name):=by
 obtain⟨o,es,ep,ho,hd,hk,_,hm⟩:=n
 refine⟨o,ho,fun name=>?_⟩
 have e:=hm name
 unfold nsFind findBy at e
 rw[← Array.find?_toList] at e
 unfold PySem.W.lookIn
 rw[hd]
 dsimp only
 split
 ·rename_i y q
  rw[q] at e
  exact congrArg some e
 ·rename_i q
  rw[q] at e
  have a:es.toList.any (·.refKey)=false:=by
   rw[List.any_eq_false]
   intro y hy
   obtain⟨z,t,hkey⟩:=hk y (Array.mem_toList_iff.mp hy)
   simp [DictEntry.refKey,hkey]
  have a':¬ es.toList.any (·.refKey)=true:=by rw[a];exact Bool.false_ne_true
  rw[if_neg a']
  exact congrArg some e
theorem ObjM.look {h:Heap} {x dx C:Addr} {mA:Str->Option Value} (I:ObjM h x dx C mA):∃ od,PySem.W.InstAt h x (PySem.W.instObj C dx) C (some od)∧∀ name,PySem.W.lookIn name od=some (mA name) :=
 let ⟨od,ho,hl⟩:=lookIn_ns I.ns
 ⟨od,⟨I.obj,rfl,rfl,ho⟩,hl⟩
section
variable {prog:Program} {w:World} {A:Around} {E:Value->Shared->Prop} {s:Shared} {K:PySem.W.Frag} {x dx C f:Addr} {mA:Str->Option Value} {name:Str} {v:Value}
end
section
variable {P:Program} {w:World} {H H':Hp} {h h':Heap} {a C dx:Addr} {fs fs':List (Str × V)}
theorem ins_get (hok:HOk P w H h) (e:H a=some (.ins C dx fs)):∃ mA,ObjM h a dx C mA∧(∀ f,RelO (fs.lookup f) (mA f))∧PySem.Within mA (fs.map (·.1))∧fs.length≤1000∧H dx=some (.own a):=by
 obtain⟨d,z,ne,ob,mA,n,r,q⟩:=(show ObjOk P w H h a (.ins C dx fs) from hok a _ e)
 exact⟨mA,⟨ob,n,ne⟩,r,q,z,d⟩
end
structure Cls (K:PySem.W.Frag) (C:Addr):Prop where
 pg:PySem.W.plainGet K C Str.empty=true
 hd:PySem.W.hasDictIn K C=true
 po:PySem.W.plainOver K C=true
 sa:PySem.W.findIn K (.ref C) "__setattr__"=some (some (.builtin "object.__setattr__"))
theorem Cls.get {K:PySem.W.Frag} {C:Addr} (c:Cls K C) (f:Str):PySem.W.plainGet K C f=true:=c.pg
/-- a constant of the class -/
structure Con (K:PySem.W.Frag) (C:Addr) (f:Str) (v:V) (u:Value):Prop where
 at_:PySem.W.findIn K (.ref C) f=some (some u)
 rel:RelV v u
 get:PySem.W.specialIn K u "__get__"=some none
 cp:PySem.W.copiedNames.contains f=false
section
variable {X:Cx} {pins:List (Addr × Obj)} {σ:St} {H:Hp} {s:Shared} {a C dx:Addr} {fs:List (Str × V)} {f:Str} {v:V} {A:Around} {E:Value->Shared->Prop}
/-- a new instance, tracked, without attributes -/
theorem Inv.made (I:Inv X pins σ H s):Inv X pins σ (upd (upd H s.heap.objs.size (.own (s.heap.objs.size + 1))) (s.heap.objs.size + 1) (.ins C s.heap.objs.size []))
  { s with heap:=(s.heap.push PySem.W.emptyDict).push (PySem.W.instObj C s.heap.objs.size) }:=by
 have e1:(s.heap.push PySem.W.emptyDict).get? s.heap.objs.size=some PySem.W.emptyDict:=Heap.get?_push_size s.heap rfl
 have e2:((s.heap.push PySem.W.emptyDict).push (PySem.W.instObj C s.heap.objs.size)).get? (s.heap.objs.size + 1)=some (PySem.W.instObj C s.heap.objs.size):=by
  have:=Heap.get?_push_size (s.heap.push PySem.W.emptyDict) (o:=PySem.W.instObj C s.heap.objs.size) rfl
  rwa [Heap.size_push] at this
 have e3:(s.heap.push PySem.W.emptyDict).Ns s.heap.objs.size (fun _=>none):=⟨PySem.W.emptyDict,#[],_,e1,rfl,(fun e he=>absurd he (by simp)),fun _=>rfl⟩
 have I1:=I.laid (a:=s.heap.objs.size) (o:=.own (s.heap.objs.size + 1)) (h':=s.heap.push PySem.W.emptyDict) (t':=s.toks) (fun b u q=>Heap.get?_push_of_some _ q) (Nat.le_refl _) ⟨_,e1⟩
 refine I1.laid (a:=s.heap.objs.size + 1) (o:=.ins C s.heap.objs.size []) (t':=s.toks) (fun b u q=>Heap.get?_push_of_some _ q) (Nat.le_of_eq (Heap.size_push _ _)) ?_
 have ne:s.heap.objs.size≠s.heap.objs.size + 1:=Nat.ne_of_lt (Nat.lt_succ_self _)
 refine⟨by rw[upd_ne ne,upd_same],Nat.zero_le _,ne,e2,fun _=>none,(Heap.Ns1.of_empty e3).at fun o q=>Heap.get?_push_of_some _ q,fun _=>True.intro,fun y hy=>absurd rfl hy⟩
end
section
variable {X:Cx} {o e value:Expr} {f:Str} {pos pos' tpos:Pos} {ta tv:TE}
end
section
variable {X:Cx} {pins:List (Addr × Obj)} {σ:St} {H:Hp} {s:Shared} {A:Around} {E:Value->Shared->Prop} {Q:Value->Shared->Prop} {c:Value} {b:Bool}
/-- the type of a value, as the fragment's deciders take it; for an instance its class -/
inductive TyOf (K:PySem.W.Frag) (H:Hp):V->Value->Prop where
 | non:TyOf K H .non (.type "NoneType")
 | bl (x:Bool):TyOf K H (.bl x) (.type "bool")
 | int (i:Int):TyOf K H (.int i) (.type "int")
 | str (x:Str):TyOf K H (.str x) (.type "str")
 | flt (x:UInt64):TyOf K H (.flt x) (.type "float")
 | lst {a:Addr} {xs:List V} (e:H a=some (.lst xs)):TyOf K H (.ref a) (.type "list")
 | frz {a:Addr} {o:Obj} {xs:List V} (e:H a=some (.frz o (.lst xs))):TyOf K H (.ref a) (.type "list")
 | tup {a:Addr} {xs:List V} (e:H a=some (.tup xs)):TyOf K H (.ref a) (.type "tuple")
 | dK {a:Addr} {kvs:List (Key × V)} (e:H a=some (.dK kvs)):TyOf K H (.ref a) (.type "dict")
 | dT {a:Addr} {kvs:List (List Key × V)} (e:H a=some (.dT kvs)):TyOf K H (.ref a) (.type "dict")
 | ins {a C dx : Addr} {fs : List (Str × V)} (e : H a = some (.ins C dx fs)) (cl : Cls K C) (ha : PySem.W.findIn K (.ref C) "__class__" = some (some (.builtin "object.__class__")))
     (hn:PySem.W.specialIn K (.builtin "object.__class__") "__get__"=some (some (.builtin "getset_descriptor.__get__"))) (htk:PySem.W.takesIn K (.builtin "object.__class__")=some true)
     (hm:PySem.W.mroIn K C (.type "object")=some true):TyOf K H (.ref a) (.ref C)
/-- isinstance(x, c) for one class c, a built-in or an own one: kitOne's answer -/
theorem isinst_ok {x:V} {u t:Value} (I:Inv X pins σ H s) (rx:RelV x u) (ty:TyOf X.K H x t) (e:PySem.W.kitOne X.K t c=some b) (h:∀ tk,Q (.bool b) { s with toks:=tk }) :
  wpAny (model X.prog X.w) A (call (.builtin "isinstance") [u,c]) Q E s:=by
 cases ty with
 | non=>cases (show u=Value.none from rx);exact PySem.W.kia_one PySem.W.kitx_none I.kIn True.intro e (fun z=>nomatch z) h
 | bl y=>cases (show u=Value.bool y from rx);exact PySem.W.kia_one PySem.W.kitx_bool I.kIn True.intro e (fun z=>nomatch z) h
 | int i=>obtain⟨t,q⟩:=(show ∃ t,u=Value.int i t from rx);cases q;exact PySem.W.kia_one PySem.W.kitx_int I.kIn True.intro e (fun z=>nomatch z) h
 | str y=>obtain⟨t,q⟩:=(show ∃ t,u=Value.str y t from rx);cases q;exact PySem.W.kia_one PySem.W.kitx_str I.kIn True.intro e (fun z=>nomatch z) h
 | flt y=>obtain⟨t,q⟩:=(show ∃ t,u=Value.float y t from rx);cases q;exact PySem.W.kia_one PySem.W.kitx_float I.kIn True.intro e (fun z=>nomatch z) h
 | @lst a xs ea =>
  cases (show u=Value.ref a from rx)
  obtain⟨_,_,n,_,h1⟩:=(show ObjOk X.prog X.w H s.heap a (.lst xs) from I.hok a _ ea)
  exact PySem.W.kia_one PySem.W.kitx_list I.kIn ⟨_,h1,rfl⟩ e (fun z=>nomatch z) h
 | @frz a ob xs ea =>
  cases (show u=Value.ref a from rx)
  obtain⟨_,_,_,n,_,h1⟩:=(show ObjOk X.prog X.w H s.heap a (.frz ob (.lst xs)) from I.hok a _ ea)
  exact PySem.W.kia_one PySem.W.kitx_list I.kIn ⟨_,h1,rfl⟩ e (fun z=>nomatch z) h
 | @tup a xs ea =>
  cases (show u=Value.ref a from rx)
  obtain⟨_,_,_,p⟩:=(show ObjOk X.prog X.w H s.heap a (.tup xs) from I.hok a _ ea)
  obtain⟨o,h1,h2,_⟩:=p
  exact PySem.W.kia_one PySem.W.kitx_tuple I.kIn ⟨o,h1,h2⟩ e (fun z=>nomatch z) h
 | @dK a kvs ea =>
  cases (show u=Value.ref a from rx)
  obtain⟨_,_,vs,_,p⟩:=(show ObjOk X.prog X.w H s.heap a (.dK kvs) from I.hok a _ ea)
  obtain⟨o,es,ep,h1,h2,_⟩:=p
  exact PySem.W.kia_one PySem.W.kitx_dict I.kIn ⟨o,h1,h2.1⟩ e (fun z=>nomatch z) h
 | @dT a kvs ea =>
  cases (show u=Value.ref a from rx)
  obtain⟨_,_,xs,_,o,es,ep,h1,h2,_⟩:=(show ObjOk X.prog X.w H s.heap a (.dT kvs) from I.hok a _ ea)
  exact PySem.W.kia_one PySem.W.kitx_dict I.kIn ⟨o,h1,h2.1⟩ e (fun z=>nomatch z) h
 | @ins a C dx fs ea cl ha hn htk hm =>
  cases (show u=Value.ref a from rx)
  obtain⟨mA,O,_⟩:=ins_get I.hok ea
  obtain⟨od,J,_⟩:=O.look
  exact PySem.W.kia_one (PySem.W.kitx_own (cl.get _) cl.hd ha hn htk hm) I.kIn J e (fun z=>nomatch z) h
end
end L2
namespace L2
open PySem PySem.Spec PyProof.Rows
structure Room (k:Nat) (A:Around):Prop where
 hd:A.handled=none
 dp:A.depth + 3 * k + 5 < recursionLimit
 un:A.units + 16 * k + 200 < cLine
 gd:A.guards=some []
theorem Room.mono {j k:Nat} {A:Around} (r:Room k A) (h:j≤k):Room j A:=⟨r.hd,by have:=r.dp;omega,by have:=r.un;omega,r.gd⟩
theorem Room.deeper {k:Nat} {A:Around} (r:Room (k + 1) A) (env:Env):Room k (A.deeper env) :=
 ⟨r.hd,by have:=r.dp;show A.depth + 1 + 3 * k + 5 < _;omega,by have:=r.un;show A.units + 3 + 16 * k + 200 < _;omega,r.gd⟩
theorem Room.in1 {k:Nat} {A:Around} (r:Room (k + 1) A):Room k A.in1 :=
 ⟨r.hd,by have:=r.dp;show A.depth + 3 * k + 5 < _;omega,by have:=r.un;show A.units + 1 + 16 * k + 200 < _;omega,r.gd⟩
theorem Room.depth {k:Nat} {A:Around} (r:Room k A):A.depth < recursionLimit:=by have:=r.dp;omega
theorem Room.units {k:Nat} {A:Around} (r:Room k A):A.units + 64 < cLine:=by have:=r.un;omega
theorem Room.units0 {k:Nat} {A:Around} (r:Room k A):A.units < cLine:=by have:=r.un;omega
def tNil:TA:=fun _ H Q=>Q [] H
def tCons (ta:TE) (tr:TA):TA:=fun σ H Q=>ta σ H fun x H1=>tr σ H1 fun xs H2=>Q (x::xs) H2
section
variable {X:Cx} {e:Expr} {es:List Expr} {te:TE} {t:TA} {pos:Pos}
theorem pa_nil:PA X [] tNil:=fun _ _ _ _ H Q I h=>Calls.spliced_nil ⟨[],H,I,.nil,h⟩
theorem pa_cons (ha:PE X e te) (hr:PA X es t) (hs:starEach (e::es) X.env=(false,eval e X.env)::starEach es X.env:=by rfl):PA X (e::es) (tCons te t):=by
 intro pos pins s σ H Q I h
 rw[hs]
 show wpAny _ _ (spliced ((false,eval e X.env)::backTo pos (starEach es X.env))) _ _ s
 refine Calls.spliced_cons (thn (ha pins s σ H _ I h) fun u s1 ⟨x,H1,I1,r1,q1⟩=>?_)
 exact thn (hr pos pins s1 σ H1 _ I1 q1) fun us s2 ⟨xs,H2,I2,r2,q2⟩=>⟨x::xs,H2,I2,.cons r1 r2,q2⟩
/-- a tuple, a list of written items -/
def tTup (t:TA):TE:=fun σ H Q=>t σ H fun xs H1=>xs.length≤sizeLine∧∀ p,H1 p=none->Q (.ref p) (upd H1 p (.tup xs))
def tLst (t:TA):TE:=fun σ H Q=>t σ H fun xs H1=>xs.length≤sizeLine∧∀ p,H1 p=none->Q (.ref p) (upd H1 p (.lst xs))
theorem pe_tup {x1} (h:PA X es t):PE X (.Tuple es x1 pos) (tTup t):=by
 intro pins s σ H Q I hq
 refine wpAny_Tuple_spliced (thn (h pos pins s σ H _ I hq) fun us s1 ⟨xs,H1,I1,r,z,q⟩=>⟨by rw[← r.length];exact z,?_⟩)
 have hf:H1 s1.heap.objs.size=none:=I1.hok.fresh (Nat.le_refl _)
 refine⟨.ref s1.heap.objs.size,upd H1 s1.heap.objs.size (.tup xs),I1.laid (t':=s1.toks) (fun b u e=>Heap.get?_push_of_some _ e) (Nat.le_refl _) ?_,rfl,q _ hf⟩
 exact⟨z,us,r,⟨_,Heap.get?_push_size _ rfl,rfl,⟨_,rfl⟩,rfl⟩⟩
theorem pe_lst (h:PA X es t):PE X (.List es pos) (tLst t):=by
 intro pins s σ H Q I hq
 refine wpAny_List_spliced (thn (h pos pins s σ H _ I hq) fun us s1 ⟨xs,H1,I1,r,z,q⟩=>⟨by rw[← r.length];exact z,?_⟩)
 have hf:H1 s1.heap.objs.size=none:=I1.hok.fresh (Nat.le_refl _)
 refine⟨.ref s1.heap.objs.size,upd H1 s1.heap.objs.size (.lst xs),I1.laid (t':=s1.toks) (fun b u e=>Heap.get?_push_of_some _ e) (Nat.le_refl _) ?_,rfl,q _ hf⟩
 exact⟨z,us,0,r,Heap.get?_push_size _ rfl⟩
end
/-- a def's promise: the bound arguments in the parameters' order, the heap, the wanted end, the wanted exception -/
abbrev Sp:=List V->Hp->VK->XK->Prop
/-- how an exception lies behind a call (file 08 gives it): the callers' frames, abstract heap and state ahead of the call, the wish, the exception, the state -/
abbrev CXT:=List Env->Hp->Shared->XK->Value->Shared->Prop
/-- the state at a call -/
structure Env0 (P:Program) (w:World) (K:PySem.W.Frag) (mg:Str->Option Value) (base:Heap) (A:Around) (outer:List Env) (s:Shared) (H:Hp):Prop where
 frames:A.frames=some outer
 mod:Mod K mg base
 bs:∀ b o,base.get? b=some o->s.heap.get? b=some o∧H b=none
 bsz:base.objs.size≤s.heap.objs.size
 funs:s.heap.FunFrames base outer
 frf:∀ b ∈ frs outer,H b=none
 hok:HOk P w H s.heap
 bare:AllBare s.gens
/-- a call's end -/
def CE (outer:List Env) (P:Program) (w:World) (H:Hp) (s:Shared) (Q:VK) (u:Value) (s':Shared):Prop :=
 ∃ v H',s'.os=s.os∧AllBare s'.gens∧Un (frs outer) [] H H' s.heap s'.heap∧HOk P w H' s'.heap∧RelV v u∧Q v H'
def CR (CX:CXT) (outer:List Env) (P:Program) (w:World) (H:Hp) (s:Shared) (Q:VK) (E:XK) (r:Result) (s':Shared):Prop :=
 match r with
 | .ok (.ret u)=>CE outer P w H s Q u s'
 | .ok _=>False
 | .error e=>CX outer H s E e s'
structure FnOk (P:Program) (w:World) (K:PySem.W.Frag) (mg:Str->Option Value) (base:Heap) (CX:CXT) (k:Nat) (f:Addr) (fd:FuncData) (ps:List Str) (sp:Sp):Prop where
 len:∀ vs H Q E,sp vs H Q E->vs.length=ps.length
 run:∀ (A:Around) (outer:List Env) (s:Shared) (H:Hp) (args:Args) (us:List Value) (vs:List V) (Q:VK) (E:XK),Room k A->Env0 P w K mg base A outer s H->BindsTo s fd args (ps.zip us)->Vals vs us->sp vs H Q E ->
  codeAny (model P w) A (.call (.ref f) args) (CR CX outer P w H s Q E) s
theorem FnOk.mono {P:Program} {w:World} {K:PySem.W.Frag} {mg:Str->Option Value} {base:Heap} {CX:CXT} {j k:Nat} {f:Addr} {fd:FuncData} {ps:List Str} {sp:Sp} (F:FnOk P w K mg base CX j f fd ps sp) (h:j≤k) :
  FnOk P w K mg base CX k f fd ps sp:=⟨F.len,fun A outer s H args us vs Q E hr=>F.run A outer s H args us vs Q E (hr.mono h)⟩
/-- a weaker promise -/
theorem FnOk.imp {P:Program} {w:World} {K:PySem.W.Frag} {mg:Str->Option Value} {base:Heap} {CX:CXT} {k:Nat} {f:Addr} {fd:FuncData} {ps:List Str} {sp sp':Sp} (F:FnOk P w K mg base CX k f fd ps sp)
  (h:∀ vs H Q E,sp' vs H Q E->sp vs H Q E):FnOk P w K mg base CX k f fd ps sp' :=
 ⟨fun vs H Q E q=>F.len vs H Q E (h _ _ _ _ q),fun A outer s H args us vs Q E hr he hb hv hs=>F.run A outer s H args us vs Q E hr he hb hv (h _ _ _ _ hs)⟩
theorem Env0.in1 {P:Program} {w:World} {K:PySem.W.Frag} {mg:Str->Option Value} {base:Heap} {A:Around} {outer:List Env} {s:Shared} {H:Hp} (e:Env0 P w K mg base A outer s H) :
  Env0 P w K mg base A.in1 outer s H:=⟨e.frames,e.mod,e.bs,e.bsz,e.funs,e.frf,e.hok,e.bare⟩
section
variable {X:Cx} {pins:List (Addr × Obj)} {σ:St} {H:Hp} {s s':Shared}
/-- from a body: what a callee wants -/
theorem Inv.env0 (I:Inv X pins σ H s):Env0 X.prog X.w X.K X.mg X.base X.A X.stack s H :=
 ⟨I.ok.frames,I.ok.mod,I.bs,Nat.le_trans I.ok.bsz I.sz,I.stack,I.stkFree,I.hok,I.bare⟩
/-- behind a call -/
theorem Inv.after {Q:VK} {u:Value} (I:Inv X pins σ H s) (h:CE X.stack X.prog X.w H s Q u s'):EP X pins σ Q u s':=by
 obtain⟨v,H',os,bare,un,hok,r,q⟩:=h
 obtain⟨hh,g,d,t,os'⟩:=s'
 obtain rfl:os'=s.os:=os
 exact⟨v,H',I.call (h':=hh) (g':=g) (d':=d) (t':=t) (ch:=[]) un hok bare (fun b z=>absurd z (by simp)),r,q⟩
end
/-- f(..): the written arguments, then the defaults dvs; E: what is wanted of an exception -/
def tCall (sp:Sp) (dvs:List V) (E:XK) (t:TA):TE:=fun σ H Q=>t σ H fun vs H1=>sp (vs++dvs) H1 Q E
/-- how the parameters are bound: us the positional arguments, kw the keywords' values by name, ds the defaults that fill up -/
def Binds (K:PySem.W.Frag) (fd:FuncData) (ps:List Str) (ds:List Value):Prop :=
 ∀ (s:Shared) (us:List Value),K.In s.heap->(us++ds).length=ps.length->BindsTo s fd ⟨us,[]⟩ (ps.zip (us++ds))
/-- every parameter is given -/
theorem Binds.all {K:PySem.W.Frag} {fd:FuncData} {ps:List Str} (h:∀ us:List Value,us.length=ps.length->bindArgs fd ⟨us,[]⟩=pure (ps.zip us)):Binds K fd ps []:=fun s us _ hl=>by
 rw[List.append_nil] at hl ⊢
 exact .of_eq (h us hl)
/-- an exception of a callee reaches what this body wants of exceptions -/
def Passes (CX:CXT) (X:Cx) (E:XK):Prop:=∀ (pins:List (Addr × Obj)) (σ:St) (H:Hp) (s:Shared) (e:Value) (s':Shared),Inv X pins σ H s->CX X.stack H s E e s'->X.xe e s'
section
variable {X:Cx} {CX:CXT} {k:Nat} {f C:Addr} {fd:FuncData} {ps:List Str} {sp:Sp} {dvs:List V} {ds:List Value} {E:XK} {x m:Str} {p pos apos:Pos} {e o:Expr} {es:List Expr} {ta:TE} {t:TA}
/-- the callee runs -/
theorem run_fn {pins:List (Addr × Obj)} {σ:St} {H:Hp} {s:Shared} {Q:VK} {us:List Value} {vs:List V} (F:FnOk X.prog X.w X.K X.mg X.base CX k f fd ps sp) (hr:Room k X.A) (hb:Binds X.K fd ps ds) (hd:Vals dvs ds) (hx:Passes CX X E)
  (I:Inv X pins σ H s) (r:Vals vs us) (h:sp (vs++dvs) H Q E):wpAny (model X.prog X.w) X.A (call (.ref f) us) (EP X pins σ Q) X.xe s:=by
 have r2:Vals (vs++dvs) (us++ds):=r.append hd
 have hl:(us++ds).length=ps.length:=by rw[← r2.length];exact F.len _ _ _ _ h
 refine wpAny_call (codeAny_mono (F.run X.A X.stack s H ⟨us,[]⟩ (us++ds) (vs++dvs) Q E hr I.env0 (hb s us I.kIn hl) r2 h) fun r s' hq=>?_)
 cases r with
 | error e=>exact hx pins σ H s e s' I hq
 | ok fl =>
  cases fl with
  | ret u=>exact I.after hq
  | next=>exact False.elim hq
  | brk=>exact False.elim hq
  | cont=>exact False.elim hq
theorem pe_call (F:FnOk X.prog X.w X.K X.mg X.base CX k f fd ps sp) (hr:Room k X.A) (hg:Gl X x) (hm:X.mg x=some (.ref f)) (hk:PySem.W.keepIn X.K (.ref f)=true) (hb:Binds X.K fd ps ds) (hd:Vals dvs ds) (hx:Passes CX X E)
  (ha:PA X (e::es) t) (hdb:(x == ("__debug__":Str))=false:=by decide) (he:starEach (e::es) X.env=(false,eval e X.env)::starEach es X.env:=by rfl) (hpl:(backTo pos (starEach es X.env)).any (·.1)=false:=by rfl) :
  PE X (.Call (.Name x p) (e::es) [] pos) (tCall sp dvs E t):=by
 intro pins s σ H Q I h
 refine wpAny_Call_Name_kw (ld_glob I hg hm ?_ hdb)
 refine PySem.W.callWith_K (h₀:=X.base) I.ok.mod.kin hk (thn (ha pos pins s σ H _ I h) fun us s1 ⟨vs,H1,I1,r,q⟩=>⟨I1.kIn,?_⟩) he hpl
 exact run_fn F hr hb hd hx I1 r q
theorem pe_call0 (F:FnOk X.prog X.w X.K X.mg X.base CX k f fd ps sp) (hr:Room k X.A) (hg:Gl X x) (hm:X.mg x=some (.ref f)) (hk:PySem.W.keepIn X.K (.ref f)=true) (hb:Binds X.K fd ps ds) (hd:Vals dvs ds) (hx:Passes CX X E)
  (hdb:(x == ("__debug__":Str))=false:=by decide):PE X (.Call (.Name x p) [] [] pos) (tCall sp dvs E tNil):=by
 intro pins s σ H Q I h
 refine wpAny_Call_Name_kw (ld_glob I hg hm ?_ hdb)
 exact PySem.W.callWith_K0 I.kIn hk (run_fn (us:=[]) F hr hb hd hx I .nil h)
end
section
variable {X:Cx} {CX:CXT} {k:Nat} {f C:Addr} {fd:FuncData} {ps ks:List Str} {sp:Sp} {E:XK} {x m:Str} {p pos apos kpos:Pos} {e o:Expr} {es:List Expr} {kws:List Keyword} {te ta:TE} {t tk:TA} {nm:Option Str}
variable {g:List Value->List Value->List Value} {gV:List V->List V->List V}
end
/-- names: the parameters first -/
structure FnScope (N P:List Str) (sc:Scope):Prop where
 kind:sc.kind=.function
 co:sc.isCoroutine=false
 gen:sc.isGenerator=false
 nd:N.Nodup
 pre:N.take P.length=P
 par:∀ x ∈ P,sc.names.lookup x=some .local∨sc.names.lookup x=some .cell
 nofree:∀ y ∈ sc.names,y.2≠.free
theorem bindL_out {kindOf:Str->Option NameKind} {x:Str}:∀ {binds:List (Str × Value)} {m:Str->Option Value},(∀ v,(x,v) ∉ binds)->bindL kindOf binds m x=m x
 | [],_,_=>rfl
 | (n,v)::r,m,h=>by
  unfold bindL
  rw[bindL_out fun w hw=>h w (List.mem_cons_of_mem _ hw)]
  split
  ·have:x≠n:=by rintro rfl;exact h v List.mem_cons_self
   simp [this]
  ·rfl
theorem bindC_out {kindOf:Str->Option NameKind} {x:Str}:∀ {binds:List (Str × Value)} {m:Str->Option Value},(∀ v,(x,v) ∉ binds)->bindC kindOf binds m x=m x
 | [],_,_=>rfl
 | (n,v)::r,m,h=>by
  unfold bindC
  rw[bindC_out fun w hw=>h w (List.mem_cons_of_mem _ hw)]
  split
  ·rfl
  ·have:x≠n:=by rintro rfl;exact h v List.mem_cons_self
   simp [this]
theorem bindL_get {kindOf:Str->Option NameKind} {x:Str} {v:Value}:∀ {P:List Str} {vs:List Value} {i:Nat} {m:Str->Option Value},P.Nodup->P[i]?=some x->vs[i]?=some v->kindOf x=some .local ->
  bindL kindOf (P.zip vs) m x=some v
 | [],_,_,_,_,h,_,_=>by simp at h
 | _::_,[],_,_,_,_,h,_=>by simp at h
 | p::P,w::vs,0,m,nd,h1,h2,hk=>by
  simp at h1 h2;subst h1;subst h2
  show bindL kindOf ((p,w)::P.zip vs) m p=_
  unfold bindL
  rw[bindL_out fun v hv=>(List.nodup_cons.mp nd).1 (List.of_mem_zip hv).1,if_pos hk]
  simp
 | p::P,w::vs,i + 1,m,nd,h1,h2,hk=>by
  show bindL kindOf ((p,w)::P.zip vs) m x=_
  unfold bindL
  exact bindL_get (i:=i) (List.nodup_cons.mp nd).2 (by simpa using h1) (by simpa using h2) hk
theorem bindC_get {kindOf:Str->Option NameKind} {x:Str} {v:Value}:∀ {P:List Str} {vs:List Value} {i:Nat} {m:Str->Option Value},P.Nodup->P[i]?=some x->vs[i]?=some v->kindOf x≠some .local ->
  bindC kindOf (P.zip vs) m x=some v
 | [],_,_,_,_,h,_,_=>by simp at h
 | _::_,[],_,_,_,_,h,_=>by simp at h
 | p::P,w::vs,0,m,nd,h1,h2,hk=>by
  simp at h1 h2;subst h1;subst h2
  show bindC kindOf ((p,w)::P.zip vs) m p=_
  unfold bindC
  rw[bindC_out fun v hv=>(List.nodup_cons.mp nd).1 (List.of_mem_zip hv).1,if_neg hk]
  simp
 | p::P,w::vs,i + 1,m,nd,h1,h2,hk=>by
  show bindC kindOf ((p,w)::P.zip vs) m x=_
  unfold bindC
  exact bindC_get (i:=i) (List.nodup_cons.mp nd).2 (by simpa using h1) (by simpa using h2) hk
/-- the names' values at the entry -/
def start (N:List Str) (vs:List V):St:=vs.map some++List.replicate (N.length - vs.length) none
/-- the context of a def's body, at its entry; an exception leaves the frame, then lies as CX says -/
def cxOf (CX:CXT) (P:Program) (w:World) (K:PySem.W.Frag) (mg:Str->Option Value) (base:Heap) (N:List Str) (qual:Str) (scope:Scope) (f:Addr) (cd:Value) (A:Around) (outer:List Env) (s:Shared) (H:Hp) (E:XK):Cx where
 prog:=P
 w:=w
 K:=K
 mg:=mg
 base:=base
 A:=A.deeper (envOfC qual scope s.heap.objs.size f cd)
 N:=N
 s₀:=s
 H₀:=H
 env:=envOfC qual scope s.heap.objs.size f cd
 outer:=outer
 stack:=envOfC qual scope s.heap.objs.size f cd::outer
 ex:=[]
 calm:=true
 fn:=fun _=>true
 pn:=[]
 xe:=fun e s'=>wpAny (model P w) (A.deeper (envOfC qual scope s.heap.objs.size f cd)) (leaving (envOfC qual scope s.heap.objs.size f cd) e) (fun _ s''=>CX outer H s E e s'') (fun e' s''=>CX outer H s E e' s'') s'
theorem cell_has {sc:Scope} {n:Nat} {x:Str} (h:sc.names.lookup x=some .cell):∃ c,(cellsFrom n sc.names []).lookup x=some c:=by
 have q:=PySem.W.cellsFrom_some sc.names n [] (.inl h)
 exact Option.isSome_iff_exists.mp q
theorem inv_start {CX:CXT} {P:Program} {w:World} {K:PySem.W.Frag} {mg:Str->Option Value} {base:Heap} {N ps:List Str} {qual:Str} {scope:Scope} {f:Addr} {cd:Value} {A:Around} {outer:List Env} {s s1:Shared} {H:Hp} {E:XK} {us:List Value} {vs:List V}
  (S:FnScope N ps scope) (hd:A.handled=none) (e0:Env0 P w K mg base A outer s H) (hl:vs.length=ps.length) (r:Vals vs us)
  (x:InCallC s s.heap.objs.size (bindL (envOfC qual scope s.heap.objs.size f cd).kindOf (ps.zip us) fun _=>none) (cellsFrom (s.heap.objs.size + 1) scope.names []) (bindC (envOfC qual scope s.heap.objs.size f cd).kindOf (ps.zip us) fun _=>none) s1) :
  Inv (cxOf CX P w K mg base N qual scope f cd A outer s H E) [] (start N vs) H s1:=by
 have hpl:ps.length≤N.length:=by have:=congrArg List.length S.pre;rw[List.length_take] at this;omega
 obtain⟨h1,tk,rfl,hk⟩:=x.done
 have noA:∀ b:Addr,b ∉ (cxOf CX P w K mg base N qual scope f cd A outer s H E).ex:=fun b z=>absurd (show b ∈ ([]:List Addr) from z) (by simp)
 refine⟨⟨e0.mod,S.kind,rfl,rfl,Nat.le_refl _,fun y z c h1 h2=>?_,fun y hy=>?_,fun y c _ h=>?_,fun _=>hd,Around.frames_deeper e0.frames,.inr ⟨rfl,rfl⟩,fun b z=>absurd z (noA b),e0.bs,e0.bsz,fun b _ _=>noA b,fun b z=>absurd z (noA b),e0.funs,e0.frf⟩,
  rfl,e0.bare,Un.kept hk,⟨_,x.toInCall.ns,fun i y v h1 h2 h3=>?_⟩,fun y c h=>⟨_,x.cell y c h⟩,e0.hok.fresh (Nat.le_refl _),fun y c h=>?_,fun p hp=>absurd (show p ∈ ([]:List (Addr × Obj)) from hp) (by simp),e0.hok.kept hk,?_⟩
 ·exact name_of_addr x.apart (PySem.mem_of_lookup h1) (PySem.mem_of_lookup h2)
 ·have hy:scope.names.lookup y=some .cell∨scope.names.lookup y=some .free:=hy
  rcases hy with hy | hy
  ·exact cell_has hy
  ·exact absurd rfl (S.nofree _ (PySem.mem_of_lookup hy))
 ·exact Nat.le_of_lt (x.above y c (PySem.mem_of_lookup h))
 ·have hi:i < vs.length:=by
   unfold start at h2
   by_cases hi:i < vs.length
   ·exact hi
   ·rw[List.getElem?_append_right (by simpa using hi)] at h2
    rw[List.getElem?_replicate] at h2
    split at h2 <;> cases h2
  have ha:vs[i]?=some v:=by
   unfold start at h2
   rw[List.getElem?_append_left (by simpa using hi),List.getElem?_map] at h2
   cases e:vs[i]? with
   | none=>rw[e] at h2;cases h2
   | some a=>rw[e] at h2;cases h2;rfl
  obtain⟨u,hu,rv⟩:=r.get ha
  have hp:ps[i]?=some y:=by
   rw[← S.pre,List.getElem?_take_of_lt (by omega)];exact h1
  have ndP:ps.Nodup:=by rw[← S.pre];exact S.nd.sublist (List.take_sublist _ _)
  refine⟨u,rv,?_⟩
  rcases S.par y (List.mem_of_getElem? hp) with k | k
  ·exact .inl ⟨k,bindL_get ndP hp hu k⟩
  ·obtain⟨c,e⟩:=cell_has (n:=s.heap.objs.size + 1) k
   refine .inr ⟨.inl k,c,e,?_⟩
   have q:=x.cell y c e
   rw[bindC_get ndP hp hu (by show scope.names.lookup y≠_;rw[k];decide)] at q
   exact q
 ·exact e0.hok.fresh (Nat.le_of_lt (x.above y c (PySem.mem_of_lookup h)))
 ·unfold start
  show _=N.length
  rw[List.length_append,List.length_map,List.length_replicate]
  omega
/-- THE RULE: a def (or a method) of the text, by its body. The body's reading t is chosen for each entry; it is run at the parameters' values -/
theorem fn_of {CX:CXT} {P:Program} {w:World} {K:PySem.W.Frag} {mg:Str->Option Value} {base:Heap} {k:Nat} {f:Addr} {name qual:Str} {params:Arguments} {body:List Stmt} {scope:Scope} {dV kV doc pm cdv ct oc:Value} {an od:Option Addr}
  {osl:Array (Option Value)} {N ps:List Str} {sp:Sp} (lk:K.lookup f=some ⟨oc,od,.func (PySem.W.fnOf name qual params body scope dV kV doc pm an cdv ct),osl⟩) (hcd:PySem.W.codeIn K cdv qual=true) (S:FnScope N ps scope)
  (len:∀ vs H Q E,sp vs H Q E->vs.length=ps.length)
  (hbody:∀ (A:Around) (outer:List Env) (s:Shared) (H:Hp) (vs:List V) (Q:VK) (E:XK),Room k (A.deeper (envOfC qual scope s.heap.objs.size f cdv))->sp vs H Q E ->
   ∃ t,PSs (cxOf CX P w K mg base N qual scope f cdv A outer s H E) body t∧t { nx:=fun _ H'=>Q .non H',rt:=Q } (start N vs) H) :
  FnOk P w K mg base CX (k + 1) f (PySem.W.fnOf name qual params body scope dV kV doc pm an cdv ct) ps sp:=by
 refine⟨len,fun A outer s H args us vs Q E hr e0 hb r hsp=>?_⟩
 have hl:=len _ _ _ _ hsp
 have KX:K.In s.heap:=e0.mod.kin.keeps fun b o e=>(e0.bs b o e).1
 have lim:s.heap.NoLimit:=e0.mod.nolimit.keeps fun b o e=>(e0.bs b o e).1
 have hkind:∀ y ∈ ps.zip us,scope.names.lookup y.1=some .local∨(scope.names.lookup y.1=some .cell∧((cellsFrom (s.heap.objs.size + 1) scope.names []).lookup y.1).isSome=true):=fun ⟨n,v⟩ hy=>by
  rcases S.par n (List.of_mem_zip hy).1 with q | q
  ·exact .inl q
  ·exact .inr ⟨q,PySem.W.cellsFrom_some _ _ _ (.inl q)⟩
 refine codeAny_call_function hr.depth (KX _ _ lk) rfl S.co S.gen rfl (PySem.W.codeRec_of KX hcd) (hb _ _ _ _ ?_)
 refine wpAny_newFunctionEnv_cells S.kind hkind fun env he s1 x=>?_
 subst he
 refine⟨lim.keeps x.toInCall.keep,codeAny_func ?_⟩
 obtain⟨t,ht,hq⟩:=hbody A outer s H vs Q E (hr.deeper _) hsp
 have I:Inv (cxOf CX P w K mg base N qual scope f cdv A outer s H E) [] (start N vs) H s1:=inv_start S hr.hd e0 hl r x
 refine wpAny_mono (ht [] s1 (start N vs) H _ I hq) (fun fl s' hs=>?_) fun e s' hs=>hs
 have fin:∀ {σ':St} {H':Hp} {v:V} {u:Value},Inv (cxOf CX P w K mg base N qual scope f cdv A outer s H E) [] σ' H' s'->RelV v u->Q v H'->CE outer P w H s Q u s' :=
  fun {σ' H' v u} J rv q=>⟨v,H',J.os,J.bare,J.base,J.hok,rv,q⟩
 cases fl with
 | ret u =>
  obtain⟨v,σ',H',J,rv,q⟩:=hs
  exact fin J rv q
 | next =>
  obtain⟨σ',H',J,q⟩:=hs
  exact fin (v:=V.non) (u:=Value.none) J rfl q
 | brk =>
  obtain⟨_,_,_,q⟩:=hs
  exact False.elim q
 | cont =>
  obtain⟨_,_,_,q⟩:=hs
  exact False.elim q
end L2
namespace L2
open PySem PySem.Spec PyProof.Rows
section
variable {X:Cx} {x:Str} {p pos:Pos} {e:Expr} {es:List Expr} {t:TA} {id T:String} {r:List V->Hp->VK->Prop}
def tCB (r:List V->Hp->VK->Prop) (t:TA):TE:=fun σ H Q=>t σ H fun vs H1=>r vs H1 Q
/-- f(e, ..), f a built-in function -/
theorem pe_callB (hc:CallR X (.builtin id) r) (hg:Gl X x) (hm:X.mg x=none) (hv:bootBuiltins x=some (.builtin id)) (ha:PA X (e::es) t) (hn:x≠"__name__":=by decide) (hdb:(x == ("__debug__":Str))=false:=by decide)
  (he:starEach (e::es) X.env=(false,eval e X.env)::starEach es X.env:=by rfl) (hpl:(backTo pos (starEach es X.env)).any (·.1)=false:=by rfl):PE X (.Call (.Name x p) (e::es) [] pos) (tCB r t):=by
 intro pins s σ H Q I h
 refine wpAny_Call_Name_kw (ld_blt I hg hm hv ?_ hn hdb)
 exact PyProof.Rows.callWith_builtin1 (thn (ha pos pins s σ H _ I h) fun us s1 ⟨vs,H1,I1,r1,q1⟩=>hc pins s1 σ H1 vs us Q I1 r1 q1) he hpl
/-- T(e, ..), T a built-in type -/
theorem pe_callTy (hc:CallR X (.type T) r) (hg:Gl X x) (hm:X.mg x=none) (hv:bootBuiltins x=some (.type T)) (ha:PA X (e::es) t) (hn:x≠"__name__":=by decide) (hdb:(x == ("__debug__":Str))=false:=by decide)
  (he:starEach (e::es) X.env=(false,eval e X.env)::starEach es X.env:=by rfl) (hpl:(backTo pos (starEach es X.env)).any (·.1)=false:=by rfl):PE X (.Call (.Name x p) (e::es) [] pos) (tCB r t):=by
 intro pins s σ H Q I h
 refine wpAny_Call_Name_kw (ld_blt I hg hm hv ?_ hn hdb)
 exact PyProof.Rows.callWith_type1 (thn (ha pos pins s σ H _ I h) fun us s1 ⟨vs,H1,I1,r1,q1⟩=>hc pins s1 σ H1 vs us Q I1 r1 q1) he hpl
end
end L2
namespace HT
open PySem PyProof.Rows
/-- t < u of tuples of ints -/
def lexLt:List Int->List Int->Bool
 | [],[]=>false
 | [],_::_=>true
 | _::_,[]=>false
 | x::xs,y::ys=>if x=y then lexLt xs ys else decide (x < y)
theorem lexLt_cons (x y:Int) (xs ys:List Int):lexLt (x::xs) (y::ys)=if x=y then lexLt xs ys else decide (x < y):=rfl
theorem lexLt_nil_nil:lexLt [] []=false:=rfl
theorem lexLt_nil_cons (y:Int) (ys:List Int):lexLt [] (y::ys)=true:=rfl
theorem lexLt_cons_nil (x:Int) (xs:List Int):lexLt (x::xs) []=false:=rfl
theorem eqAt_int (A:Around) (s:Shared) (a:Int) (t:Tok) (c:Int) (u:Tok):∃ e,SeqAt.EqAt A s (.int a t) (.int c u) e∧(e=true↔a=c) :=
 ⟨(a == c),SeqAt.EqAt.int_int a t c u,by simp⟩
theorem rcLt_int (A:Around) (s:Shared) (a:Int) (t:Tok) (c:Int) (u:Tok) (prog:Program) (w:World) (E:Value->Shared->Prop) (Q:Value->Shared->Prop) (h:Q (.bool (decide (a < c))) s) :
  wpAny (model prog w) A (richCompare .Lt (.int a t) (.int c u)) Q E s :=
 (PyProof.Rows.lt_int h:wpAny (model prog w) A (compareOp .Lt (.int a t) (.int c u)) Q E s)
section
open PySem.SeqAt
open PySem.AutoSeq1 (wpAny_loadPart')
open PySem.MeetsSeq PySem.MeetsSeq2 PySem.MeetsSeq3
theorem tuple_lt_ints (l b:Addr) (items items2:Array Value) (n n2:Nat) (dd dd2:Option Addr) (sl sl2:Array (Option Value)) (ns ms:List Int) (hi:IntsAre items.toList ns) (hj:IntsAre items2.toList ms) :
  Meets (Builtin.«tuple.__lt__» ⟨[.ref l,.ref b],[]⟩)
   (fun _ R s=>s.heap.get? l=some { cls:=.type "tuple",dict:=dd,data:=.seq items n,slots:=sl }∧s.heap.get? b=some { cls:=.type "tuple",dict:=dd2,data:=.seq items2 n2,slots:=sl2 } ∧
    R (.ok (.ret (.bool (lexLt ns ms)))) s) :=
 .of_wp fun prog w A R s h=>by
  obtain⟨hp,g,d,tk,os⟩:=s;obtain⟨hl,hb,h⟩:=h
  have f2:=AutoSeq1.sub_tuple_tuple
  have z1:items.size=ns.length:=by rw[← hi.length];simp
  have z2:items2.size=ms.length:=by rw[← hj.length];simp
  wp_walk using wpAny_loadPart' hl,wpAny_loadPart' hb,wpAny_forIn_list _ (fun rest b s'=>b.1=none∧s'=⟨hp,g,d,tk,os⟩∧∃ (vs ws:List Value) (ns' ms':List Int),rest=vs.zip ws ∧
   IntsAre vs ns'∧IntsAre ws ms'∧ns'.length + items2.size=ms'.length + items.size∧R (.ok (.ret (.bool (lexLt ns' ms')))) ⟨hp,g,d,tk,os⟩) _
  case turn =>
   rintro ⟨y,x⟩ rest b s' ⟨hb',rfl,vs,ws,ns',ms',hz,hvi,hwi,hlen,hR⟩
   cases hvi with
   | nil=>rw[List.zip_nil_left] at hz;cases hz
   | cons a t hvi' =>
    cases hwi with
    | nil=>rw[List.zip_nil_right] at hz;cases hz
    | cons c u hwi' =>
     rw[List.zip_cons_cons] at hz
     injection hz with hyx hrest
     injection hyx with hy hx
     subst hy hx
     rw[lexLt_cons] at hR
     simp only [List.length_cons] at hlen
     obtain⟨e,he,hiff⟩:=eqAt_int A.in1 ⟨hp,g,d,tk,os⟩ a t c u
     refine wpAny_bind (he prog w _ _ ?_)
     cases e with
     | true =>
      rw[if_pos (hiff.mp rfl)] at hR
      wp_walk
      exact⟨rfl,rfl,_,_,_,_,hrest,hvi',hwi',by omega,hR⟩
     | false =>
      rw[if_neg (fun q=>absurd (hiff.mpr q) Bool.false_ne_true)] at hR
      have hri:=rcLt_int A.in1 ⟨hp,g,d,tk,os⟩ a t c u prog w
      wp_walk using hri
      exact⟨_,rfl,by simpa using hR⟩
  case fin =>
   rintro ⟨b1,b2⟩ s' ⟨hb',rfl,vs,ws,ns',ms',hz,hvi,hwi,hlen,hR⟩
   simp only at hb'
   subst hb'
   have hv:lexLt ns' ms'=decide (items.size < items2.size):=by
    cases hvi with
    | nil =>
     cases hwi with
     | nil =>
      simp only [List.length_nil] at hlen
      rw[lexLt_nil_nil]
      exact (decide_eq_false (by omega)).symm
     | cons c u hw =>
      simp only [List.length_nil,List.length_cons] at hlen
      rw[lexLt_nil_cons]
      exact (decide_eq_true (by omega)).symm
    | cons a t hv =>
     cases hwi with
     | nil =>
      simp only [List.length_nil,List.length_cons] at hlen
      rw[lexLt_cons_nil]
      exact (decide_eq_false (by omega)).symm
     | cons c u hw =>
      rw[List.zip_cons_cons] at hz
      cases hz
   rw[hv] at hR
   wp_walk
   exact⟨_,rfl,by simpa [Builtin.Tuple.tupleCompareSizes] using hR⟩
  case h =>
   exact⟨rfl,rfl,items.toList,items2.toList,ns,ms,rfl,hi,hj,by omega,h⟩
end
section
variable {prog:Program} {w:World} {A:Around} {E:Value->Shared->Prop} {s:Shared}
theorem lt_tupInts {l b:Addr} {items items2:Array Value} {ns ms:List Int} {Q:Value->Shared->Prop} (hl:IsTup s.heap l items) (hb:IsTup s.heap b items2) (hi:IntsAre items.toList ns) (hj:IntsAre items2.toList ms)
  (hu:A.units < cLine) (h:Q (.bool (lexLt ns ms)) s):wpAny (model prog w) A (compareOp .Lt (.ref l) (.ref b)) Q E s:=by
 obtain⟨⟨cls,dd,data,sl⟩,ho,hc,n,hd⟩:=id hl
 obtain⟨⟨cls2,dd2,data2,sl2⟩,ho2,hc2,n2,hd2⟩:=id hb
 simp only at hc hd hc2 hd2
 subst hc hd hc2 hd2
 exact richCompare_meets_room (op:=.Lt) ⟨_,ho,rfl⟩ ⟨_,ho2,rfl⟩ PySem.F.slot_tuple_lt PySem.F.entry_tuple_lt (PySem.F.args_tuple_lt_2 _ _) (tuple_lt_ints l b items items2 n n2 dd dd2 sl sl2 ns ms hi hj)
  ⟨ho,ho2,show Value.bool (lexLt ns ms)≠Value.notImplemented∧Q (.bool (lexLt ns ms)) s from ⟨(fun x=>nomatch x),h⟩⟩ hu
/-- a slice's bound as a place among n (d where it is left out) -/
def sIx (n d:Nat):Option Int->Nat
 | none=>d
 | some v=>if v < 0 then (v + (n:Int)).toNat else min v.toNat n
theorem sIx_none (n d:Nat):sIx n d none=d:=rfl
theorem sIx_nat (n d k:Nat):sIx n d (some (k:Int))=min k n:=by
 show (if (k:Int) < 0 then ((k:Int) + (n:Int)).toNat else min (k:Int).toNat n)=min k n
 rw[if_neg (by omega),Int.toNat_natCast]
theorem sIx_le (n d:Nat) (hd:d≤n) (o:Option Int):sIx n d o≤n:=by
 cases o with
 | none=>exact hd
 | some v =>
  show (if v < 0 then (v + (n:Int)).toNat else min v.toNat n)≤n
  by_cases hv:v < 0
  ·rw[if_pos hv];omega
  ·rw[if_neg hv];exact Nat.min_le_right _ _
theorem clip_eq (v:Int) (n d:Nat):(if v < 0 then max (v + (n:Int)) 0 else min v (n:Int))=((sIx n d (some v):Nat):Int):=by
 show (if v < 0 then max (v + (n:Int)) 0 else min v (n:Int))=(((if v < 0 then (v + (n:Int)).toNat else min v.toNat n):Nat):Int)
 by_cases hv:v < 0
 ·simp only [if_pos hv];omega
 ·simp only [if_neg hv];omega
theorem adjust_gen (lo hi:Option Int) (n:Nat):Builtin.Slice.sliceAdjust lo hi 1 (n:Int)=(((sIx n 0 lo:Nat):Int),((sIx n n hi:Nat):Int)):=by
 have h1:¬ ((1:Int) < 0):=by omega
 unfold Builtin.Slice.sliceAdjust
 simp only [h1,if_false]
 refine Prod.ext ?_ ?_
 ·cases lo with
  | none=>rfl
  | some v=>exact clip_eq v n 0
 ·cases hi with
  | none=>rfl
  | some v=>exact clip_eq v n n
theorem places_gen (i j:Nat):Builtin.Slice.slicePlaces (i:Int) (j:Int) 1=j - i:=by
 unfold Builtin.Slice.slicePlaces
 have h1:(1:Int) > 0:=by omega
 simp only [h1,if_true,Int.ediv_one]
 split <;> omega
theorem slicePart_ {v:Value} {o:Option Int} {Q:Option Int->Shared->Prop} (p:IsPart v o) (h:Q o s):wpAny (model prog w) A (Builtin.Slice.slicePartIndex v) Q E s:=by
 cases p with
 | none=>exact slicePart_none h
 | int i t=>exact slicePart_int h
theorem sliceApplied_gen {sl:Addr} {vl vu:Value} {lo hi:Option Int} {n:Nat} {Q:Int × Int × Nat->Shared->Prop} (hs:s.heap.IsSliceOf sl vl vu .none) (pl:IsPart vl lo) (pu:IsPart vu hi)
  (h:Q (((sIx n 0 lo:Nat):Int),1,sIx n n hi - sIx n 0 lo) s):wpAny (model prog w) A (Builtin.Slice.sliceApplied (.ref sl) (pure (n:Int))) Q E s:=by
 obtain⟨os,hos,hcs,hds⟩:=id hs
 unfold Builtin.Slice.sliceApplied Builtin.Slice.sliceFields
 refine wpAny_bind (wpAny_bind (wpAny_field hos hds (x:=vl) rfl (wpAny_bind (wpAny_field hos hds (x:=vu) rfl (wpAny_bind (wpAny_field hos hds (x:=.none) rfl (wpAny_pure ?_)))))))
 refine wpAny_bind (slicePart_none ?_)
 show wpAny _ _ (if ((1:Int) == 0)=true then _ else _) _ _ s
 rw[if_neg (by decide)]
 refine wpAny_bind (slicePart_ pl (wpAny_bind (slicePart_ pu (wpAny_bind (wpAny_pure ?_)))))
 show wpAny _ _ (match Builtin.Slice.sliceAdjust lo hi 1 (n:Int) with | (lo,hi)=>pure (lo,(1:Int),Builtin.Slice.slicePlaces lo hi 1)) _ _ s
 rw[adjust_gen lo hi n]
 show wpAny _ _ (pure (((sIx n 0 lo:Nat):Int),(1:Int),Builtin.Slice.slicePlaces ((sIx n 0 lo:Nat):Int) ((sIx n n hi:Nat):Int) 1)) _ _ s
 rw[places_gen]
 exact wpAny_pure h
theorem pick_gen (xs:Array Value) (i k:Nat):((List.range k).filterMap fun (m:Nat)=>xs[((i:Int) + (m:Int) * 1).toNat]?).toArray=((xs.toList.drop i).take k).toArray:=by
 have e:(fun (m:Nat)=>xs[((i:Int) + (m:Int) * 1).toNat]?)=fun m=>xs[i + m]?:=by
  funext m
  have:((i:Int) + (m:Int) * 1).toNat=i + m:=by omega
  rw[this]
 rw[e]
 have:=pick_run xs i k
 rw[List.filterMap_map] at this
 have e2:((fun x=>xs[x]?) ∘ fun x=>i + x)=fun m=>xs[i + m]?:=rfl
 rw[e2] at this
 rw[this]
theorem getItem_tuple_cut {t sl:Addr} {items:Array Value} {vl vu:Value} {lo hi:Option Int} {Q:Value->Shared->Prop} (ht:IsTup s.heap t items) (hs:s.heap.IsSliceOf sl vl vu .none) (pl:IsPart vl lo) (pu:IsPart vu hi)
  (hw:¬ (sIx items.size 0 lo=0∧sIx items.size items.size hi=items.size))
  (h:Q (.ref s.heap.objs.size) { s with heap:=s.heap.push { cls:=.type "tuple",data:=.seq ((items.toList.drop (sIx items.size 0 lo)).take (sIx items.size items.size hi - sIx items.size 0 lo)).toArray } })
  (hsz:items.size≤sizeLine):wpAny (model prog w) A (getItem (.ref t) (.ref sl)) Q E s:=by
 have htake:sizeOk (.seq ((items.toList.drop (sIx items.size 0 lo)).take (sIx items.size items.size hi - sIx items.size 0 lo)).toArray):=by
  show ((items.toList.drop (sIx items.size 0 lo)).take (sIx items.size items.size hi - sIx items.size 0 lo)).toArray.size≤sizeLine
  rw[List.size_toArray,List.length_take,List.length_drop,Array.length_toList]
  omega
 have hj:sIx items.size items.size hi≤items.size:=sIx_le _ _ (Nat.le_refl _) hi
 obtain⟨os,hos,hcs,hds⟩:=id hs
 have hTs:s.TypeIs (.ref sl) "slice":=⟨os,hos,hcs⟩
 unfold getItem
 try with_reducible refine wpAny_holding ?_
 first | refine wpAny_bind (wpAny_pure ?_) | skip
 refine wpAny_bind (wpAny_sequenceKey ht.typeIs (by decide) ?_)
 refine wpAny_bind (wpAny_callSpecial?_slot (name:=Str.ofString "__getitem__") ht.typeIs PyProof.Rows.slot_tuple_getitem
  (wpAny_call_entry PyProof.Rows.slot_tuple_getitem ht.typeIs entry_tuple_getitem ?_ (args_tuple_getitem _ _)))
 show wpAny _ _ (Builtin.Tuple.tupleItemsOf (.ref t) >>= _) _ _ s
 refine wpAny_bind (tupleItemsOf_ ht ?_)
 refine wpAny_bind (wpAny_typeOf hTs ?_)
 rw[if_pos (by decide)]
 refine wpAny_bind (sliceApplied_gen hs pl pu ?_)
 have hno:¬ ((((sIx items.size 0 lo:Nat):Int) == 0 && (1:Int) == 1 && (sIx items.size items.size hi - sIx items.size 0 lo) == items.size)=true):=by
  intro q
  rw[Bool.and_eq_true,Bool.and_eq_true] at q
  have q1:((sIx items.size 0 lo:Nat):Int)=0:=eq_of_beq q.1.1
  have q2:sIx items.size items.size hi - sIx items.size 0 lo=items.size:=eq_of_beq q.2
  exact hw ⟨by omega,by omega⟩
 show wpAny _ _ (if (((sIx items.size 0 lo:Nat):Int) == 0 && (1:Int) == 1 && (sIx items.size items.size hi - sIx items.size 0 lo) == items.size)=true then _ else _) _ _ s
 rw[if_neg hno,pick_gen]
 first
  | exact wpAny_bind (m:=Builtin.Tuple.tupleExact _) (wpAny_newObj_type (wpAny_pure ⟨_,rfl,wpAny_pure h⟩) htake)
  | exact wpAny_bind (m:=Builtin.Tuple.tupleExact _) (wpAny_newObj_type (wpAny_bind (wpAny_pure (wpAny_pure ⟨_,rfl,wpAny_pure h⟩))) htake)
  | exact wpAny_bind (wpAny_bind (m:=Builtin.Tuple.tupleExact _) (wpAny_newObj_type (wpAny_pure (wpAny_pure ⟨_,rfl,wpAny_pure h⟩)) htake))
  | exact wpAny_bind (wpAny_bind (m:=Builtin.Tuple.tupleExact _) (wpAny_newObj_type (wpAny_pure ⟨_,rfl,wpAny_pure h⟩) htake))
end
end HT
namespace L2
open PySem PySem.Spec PyProof.Rows
abbrev TO:=St->Hp->(Option Int->Hp->Prop)->Prop
/-- a slice's part (left out, or an int) -/
def PO (X:Cx) (e:Option Expr) (t:TO):Prop :=
 ∀ (pins:List (Addr × Obj)) (s:Shared) (σ:St) (H:Hp) (Q:Option Int->Hp->Prop),Inv X pins σ H s->t σ H Q ->
  wpAny (model X.prog X.w) X.A (evalPart e X.env) (fun u s'=>∃ o H',Inv X pins σ H' s'∧IsPart u o∧Q o H') X.xe s
def tNoPart:TO:=fun _ H Q=>Q none H
def tPart (t:TE):TO:=fun σ H Q=>t σ H fun x H1=>∃ i,x=.int i∧Q (some i) H1
theorem intsAre_of {ns:List Int}:∀ {us:List Value},Vals (ns.map V.int) us->IntsAre us ns:=by
 induction ns with
 | nil=>intro us r;rw[List.map_nil] at r;cases r;exact .nil
 | cons n ns ih =>
  intro us r
  rw[List.map_cons] at r
  cases r with
  | cons r1 r2 =>
   obtain⟨t,e⟩:=r1
   subst e
   exact .cons n t (ih r2)
section
variable {X:Cx} {e:Expr} {te:TE} {lo hi:Option Expr} {tl th:TO} {pos p2:Pos}
theorem po_none:PO X none tNoPart:=by
 intro pins s σ H Q I h
 rw[evalPart_none]
 exact wpAny_pure ⟨none,H,I,.none,h⟩
theorem po_some (h:PE X e te):PO X (some e) (tPart te):=by
 intro pins s σ H Q I hw
 rw[evalPart_some]
 refine thn (h pins s σ H _ I hw) fun u s1 ⟨x,H1,I1,r1,q1⟩=>?_
 obtain⟨i,rfl,q⟩:=q1
 obtain⟨t,rfl⟩:=r1
 exact⟨some i,H1,I1,.int i t,q⟩
/-- what a slice of a value is, by values: the slice object stands at sl -/
def SlR (X:Cx) (r:V->Option Int->Option Int->Hp->VK->Prop):Prop :=
 ∀ (pins:List (Addr × Obj)) (s:Shared) (σ:St) (H:Hp) (x:V) (v vl vu:Value) (lo hi:Option Int) (sl:Addr) (Q:VK),Inv X pins σ H s->RelV x v->s.heap.IsSliceOf sl vl vu .none->IsPart vl lo->IsPart vu hi->r x lo hi H Q ->
  ∃ T id,typeLookup (.type T) "__getitem__"=pure (some (.builtin id))∧s.TypeIs v T∧wpAny (model X.prog X.w) X.A (getItem v (.ref sl)) (EP X pins σ Q) X.xe s
theorem SlR.or {r r':V->Option Int->Option Int->Hp->VK->Prop} (h:SlR X r) (h':SlR X r'):SlR X (fun x lo hi H Q=>r x lo hi H Q∨r' x lo hi H Q):=by
 intro pins s σ H x v vl vu lo hi sl Q I rx hs pl pu q
 rcases q with q | q
 ·exact h pins s σ H x v vl vu lo hi sl Q I rx hs pl pu q
 ·exact h' pins s σ H x v vl vu lo hi sl Q I rx hs pl pu q
def tSl (r:V->Option Int->Option Int->Hp->VK->Prop) (te:TE) (tl th:TO):TE:=fun σ H Q=>te σ H fun x H1=>tl σ H1 fun l H2=>th σ H2 fun u H3=>r x l u H3 Q
/-- a[lo:hi], any a -/
theorem pe_slice {r:V->Option Int->Option Int->Hp->VK->Prop} (hr:SlR X r) (he:PE X e te) (hl:PO X lo tl) (hu:PO X hi th):PE X (.Subscript e (.Slice lo hi none p2) pos) (tSl r te tl th):=by
 intro pins s σ H Q I h
 refine Subscript_ (thn (he pins s σ H _ I h) fun v s1 ⟨x,H1,I1,r1,q1⟩=>?_)
 refine wpAny_Slice (thn (hl pins s1 σ H1 _ I1 q1) fun vl s2 ⟨l,H2,I2,pl,q2⟩=>thn (hu pins s2 σ H2 _ I2 q2) fun vu s3 ⟨u,H3,I3,pu,q3⟩=>?_)
 rw[evalPart_none]
 refine wpAny_pure ?_
 have I4:Inv X pins σ H3 { s3 with heap:=s3.heap.push { cls:=.type "slice",data:=.fields #[vl,vu,.none] } }:=I3.kept (t':=s3.toks) fun b ob q=>Heap.get?_push_of_some _ q
 obtain⟨T,id,hT,ht,hg⟩:=hr pins { s3 with heap:=s3.heap.push { cls:=.type "slice",data:=.fields #[vl,vu,.none] } } σ H3 x v vl vu l u s3.heap.objs.size Q I4 r1 (Heap.IsSliceOf.new ..) pl pu q3
 show wpAny (model X.prog X.w) X.A (subscriptTail e (.Slice lo hi none p2) v (.ref s3.heap.objs.size)) (EP X pins σ Q) X.xe { s3 with heap:=s3.heap.push { cls:=.type "slice",data:=.fields #[vl,vu,.none] } }
 exact tail_any (ops:=[.ref s3.heap.objs.size,v]) ht hT hg (by with_unfolding_all rfl)
/-- the items of xs[lo:hi] -/
def cutV (xs:List V) (lo hi:Option Int):List V:=(xs.drop (HT.sIx xs.length 0 lo)).take (HT.sIx xs.length xs.length hi - HT.sIx xs.length 0 lo)
theorem cutV_length (xs:List V) (lo hi:Option Int):(cutV xs lo hi).length≤xs.length:=by
 unfold cutV
 rw[List.length_take,List.length_drop]
 omega
/-- t[lo:hi], not the whole of it (the whole would be t itself) -/
def rSlT (K:PySem.W.Frag):V->Option Int->Option Int->Hp->VK->Prop:=fun x lo hi H Q=>∃ a xs,x=.ref a∧SqT K H a xs ∧
 ¬ (HT.sIx xs.length 0 lo=0∧HT.sIx xs.length xs.length hi=xs.length)∧∀ p,H p=none->Q (.ref p) (upd H p (.tup (cutV xs lo hi)))
theorem sl_tup:SlR X (rSlT X.K):=by
 intro pins s σ H x v vl vu lo hi sl Q I rx hs pl pu h
 obtain⟨a,xs,rfl,hx,hw,q⟩:=h
 cases rx
 obtain⟨its,r,ht,hz⟩:=I.tuple hx
 have hlen:its.toArray.size=xs.length:=by rw[List.size_toArray];exact r.length.symm
 refine⟨"tuple",_,PyProof.Rows.slot_tuple_getitem.lookup,ht.typeIs,?_⟩
 refine HT.getItem_tuple_cut ht hs pl pu (by rw[hlen];exact hw) ?_ (by rw[hlen];exact hz)
 rw[hlen]
 refine⟨.ref s.heap.objs.size,_,I.laid (t':=s.toks) (o:=.tup (cutV xs lo hi)) (fun b ob q=>Heap.get?_push_of_some _ q) (Nat.le_refl _) ?_,rfl,q _ (I.hok.fresh (Nat.le_refl _))⟩
 exact⟨Nat.le_trans (cutV_length xs lo hi) hz,_,(r.drop (HT.sIx xs.length 0 lo)).take (HT.sIx xs.length xs.length hi - HT.sIx xs.length 0 lo),TupN.new _ _⟩
def rLtT (K:PySem.W.Frag):R2:=fun x y H Q=>∃ a b ns ms,x=.ref a∧y=.ref b∧SqT K H a (ns.map V.int)∧SqT K H b (ms.map V.int)∧Q (.bl (HT.lexLt ns ms)) H
theorem op_ltT (hu:X.A.units < cLine):OpR X (compareOp .Lt) (rLtT X.K):=by
 intro pins s σ H x y v u Q I rx ry h
 obtain⟨a,b,ns,ms,rfl,rfl,ha,hb,q⟩:=h
 cases rx
 cases ry
 obtain⟨its,r1,p1,_⟩:=I.tuple ha
 obtain⟨its2,r2,p2,_⟩:=I.tuple hb
 have i1:IntsAre its.toArray.toList ns:=intsAre_of r1
 have i2:IntsAre its2.toArray.toList ms:=intsAre_of r2
 exact HT.lt_tupInts p1 p2 i1 i2 hu ⟨.bl (HT.lexLt ns ms),H,I,rfl,q⟩
end
end L2
namespace L2
open PySem PySem.Spec PyProof.Rows
/-- the place that an index of any sign means -/
def ixN (n:Nat) (i:Int):Option Nat:=if 0≤i then (if i < n then some i.toNat else none) else if -(n:Int)≤i then some (i + n).toNat else none
def atI {α:Type} (xs:List α) (i:Int):Option α:=(ixN xs.length i).bind fun j=>xs[j]?
theorem ixN_seq {n:Nat} {i:Int} {j:Nat} (h:ixN n i=some j):seqIndex? i n=some j∧j < n∧-(n:Int)≤i∧i < n:=by
 unfold ixN at h
 by_cases h0:0≤i
 ·rw[if_pos h0] at h
  by_cases h1:i < n
  ·rw[if_pos h1] at h
   have e:i.toNat=j:=Option.some.inj h
   exact⟨by rw[seqIndex_of h0 h1,e],by omega,by omega,h1⟩
  ·rw[if_neg h1] at h;cases h
 ·rw[if_neg h0] at h
  by_cases h1:-(n:Int)≤i
  ·rw[if_pos h1] at h
   have e:(i + n).toNat=j:=Option.some.inj h
   exact⟨by rw[seqIndex_neg (by omega) h1,e],by omega,h1,by omega⟩
  ·rw[if_neg h1] at h;cases h
theorem atI_get {α:Type} {xs:List α} {i:Int} {v:α} (h:atI xs i=some v):∃ j,seqIndex? i xs.length=some j∧xs[j]?=some v∧j < xs.length∧-(xs.length:Int)≤i∧i < xs.length:=by
 unfold atI at h
 cases e:ixN xs.length i with
 | none=>rw[e] at h;cases h
 | some j =>
  rw[e] at h
  obtain⟨h1,h2,h3,h4⟩:=ixN_seq e
  exact⟨j,h1,h,h2,h3,h4⟩
theorem atI_nat {α:Type} {xs:List α} {j:Nat} {v:α} (h:xs[j]?=some v):atI xs (j:Int)=some v:=by
 have hj:j < xs.length:=(List.getElem?_eq_some_iff.mp h).1
 have e:ixN xs.length (j:Int)=some j:=by
  unfold ixN
  rw[if_pos (by omega),if_pos (by omega)];simp
 unfold atI;rw[e];exact h
/-- what stands as an index of a plain subscript -/
def PlainIx (b:Expr):Prop:=∀ o i,subscripted b false o i=operate [o,i] (getItem o i)
/-- a subscript by values -/
def IxR (X:Cx) (r:R2):Prop :=
 ∀ (value slice:Expr) (pins:List (Addr × Obj)) (s:Shared) (σ:St) (H:Hp) (x y:V) (v u:Value) (Q:VK),Inv X pins σ H s->RelV x v->RelV y u->r x y H Q ->
  subscripted slice false v u=operate [v,u] (getItem v u)->wpAny (model X.prog X.w) X.A (subscriptTail value slice v u) (EP X pins σ Q) X.xe s
/-- a call of a builtin's method by values: the receiver, the arguments -/
def MtR (X:Cx) (id:String) (r:V->List V->Hp->VK->Prop):Prop :=
 ∀ (pins:List (Addr × Obj)) (s:Shared) (σ:St) (H:Hp) (x:V) (xs:List V) (v:Value) (us:List Value) (Q:VK),Inv X pins σ H s->RelV x v->Vals xs us->r x xs H Q ->
  wpAny (model X.prog X.w) X.A (call (.builtin id) (v::us)) (EP X pins σ Q) X.xe s
section
variable {X:Cx} {a b:Expr} {ta tb:TE} {pos:Pos}
theorem IxR.or {r r':R2} (h:IxR X r) (h':IxR X r'):IxR X (fun x y H Q=>r x y H Q∨r' x y H Q):=by
 intro value slice pins s σ H x y v u Q I rx ry q hs
 rcases q with q | q
 ·exact h value slice pins s σ H x y v u Q I rx ry q hs
 ·exact h' value slice pins s σ H x y v u Q I rx ry q hs
theorem MtR.or {id:String} {r r':V->List V->Hp->VK->Prop} (h:MtR X id r) (h':MtR X id r'):MtR X id (fun x xs H Q=>r x xs H Q∨r' x xs H Q):=by
 intro pins s σ H x xs v us Q I rx rs q
 rcases q with q | q
 ·exact h pins s σ H x xs v us Q I rx rs q
 ·exact h' pins s σ H x xs v us Q I rx rs q
/-- a[b] -/
theorem pe_ix {r:R2} (hr:IxR X r) (ha:PE X a ta) (hb:PE X b tb) (hs:PlainIx b):PE X (.Subscript a b pos) (tOp r ta tb):=by
 intro pins s σ H Q I h
 exact Subscript_ (binT ha hb I h fun v u s2 x y H2 I2 rx ry q=>hr a b pins s2 σ H2 x y v u Q I2 rx ry q (hs _ _))
def rIxL (K:PySem.W.Frag):R2:=fun x y H Q=>∃ p xs i v,x=.ref p∧y=.int i∧SqL K H p xs∧atI xs i=some v∧Q v H
def rIxT (K:PySem.W.Frag):R2:=fun x y H Q=>∃ p xs i v,x=.ref p∧y=.int i∧SqT K H p xs∧atI xs i=some v∧Q v H
def rIxS:R2:=fun x y H Q=>∃ z i c,x=.str z∧y=.int i∧z.length≤sizeLine∧atI z.cps.toList i=some c∧Q (.str ⟨#[c]⟩) H
theorem ix_list:IxR X (rIxL X.K):=by
 intro value slice pins s σ H x y v u Q I rx ry h hs
 obtain⟨p,xs,i,z,rfl,rfl,hq,he,q⟩:=h
 cases rx
 obtain⟨t,rfl⟩:=ry
 obtain⟨its,r,pl,hz⟩:=I.list hq
 obtain⟨j,h1,h2,h3,h4,h5⟩:=atI_get he
 obtain⟨w,ew,rw'⟩:=r.get h2
 have hl:=r.length
 have hn:=line63
 have fin:EP X pins σ Q w s:=⟨z,H,I,rw',q⟩
 by_cases h0:0≤i
 ·have hj:i.toNat=j:=by
   rw[seqIndex_of h0 h5] at h1
   exact Option.some.inj h1
  exact item_listR pl.isList h0 (by omega) (by rw[hj];simpa using ew) fin hs
 ·have hj:(i + (its.toArray.size:Int)).toNat=j:=by
   rw[seqIndex_neg (by omega) h4] at h1
   rw[List.size_toArray,← hl]
   exact Option.some.inj h1
  exact subscriptTail_builtinR (x:=w) pl.isList.typeIs slot_list_getitem.lookup
   (wpAny_getItem_list_neg (Q:=fun r s'=>r=w∧EP X pins σ Q r s') pl.isList (by omega) (by rw[List.size_toArray] <;> omega) (by omega) (by rw[hj];simpa using ew) ⟨rfl,fin⟩) hs
theorem ix_tup:IxR X (rIxT X.K):=by
 intro value slice pins s σ H x y v u Q I rx ry h hs
 obtain⟨p,xs,i,z,rfl,rfl,hq,he,q⟩:=h
 cases rx
 obtain⟨t,rfl⟩:=ry
 obtain⟨its,r,pl,hz⟩:=I.tuple hq
 obtain⟨j,h1,h2,h3,h4,h5⟩:=atI_get he
 obtain⟨w,ew,rw'⟩:=r.get h2
 have hl:=r.length
 have hn:=line63
 have fin:EP X pins σ Q w s:=⟨z,H,I,rw',q⟩
 exact subscriptTail_builtinR (x:=w) pl.typeIs slot_tuple_getitem.lookup
  (getItem_tuple (j:=j) (Q:=fun r s'=>r=w∧EP X pins σ Q r s') pl (by omega) (by omega) (by rw[List.size_toArray,← hl];exact h1) (by simpa using ew) ⟨rfl,fin⟩) hs
theorem ix_str:IxR X rIxS:=by
 intro value slice pins s σ H x y v u Q I rx ry h hs
 obtain⟨z,i,c,rfl,rfl,hz,he,q⟩:=h
 obtain⟨t,rfl⟩:=rx
 obtain⟨t',rfl⟩:=ry
 obtain⟨j,h1,h2,h3,h4,h5⟩:=atI_get he
 have hl:z.cps.toList.length=z.length:=by simp [Str.length]
 rw[hl] at h1 h4 h5
 have hn:=line63
 exact tail_any (typeIs_str s z t) slot_str_getitem.lookup (getItem_str (c:=c) (by
  have e1:decide (i < -(2 ^ 63:Int))=false:=decide_eq_false (by omega)
  have e2:decide (i ≥ 2 ^ 63)=false:=decide_eq_false (by omega)
  rw[e1,e2,Bool.or_false]) (by rw[h1];simpa using h2) ⟨.str ⟨#[c]⟩,H,I.tok _,⟨_,rfl⟩,q⟩) hs
/-- the list's object behind a store -/
theorem mapSeq_set (its:List Value) (n j:Nat) (u:Value):Obj.mapSeq (·.setIfInBounds j u) { cls:=.type "list",data:=.seq its.toArray n }={ cls:=.type "list",data:=.seq (its.set j u).toArray n }:=by
 simp [Obj.mapSeq]
theorem Inv.lst {pins:List (Addr × Obj)} {σ:St} {H:Hp} {s:Shared} {p:Addr} {xs:List V} (I:Inv X pins σ H s) (h:H p=some (.lst xs)) :
  ∃ (its:List Value) (n:Nat),Vals xs its∧s.heap.get? p=some { cls:=.type "list",data:=.seq its.toArray n }∧xs.length≤sizeLine:=by
 obtain⟨z,its,n,r,e⟩:=I.hok p _ h
 exact⟨its,n,r,e,z⟩
/-- the list at p is written by an update of its object -/
theorem Inv.lstUpd {pins:List (Addr × Obj)} {σ:St} {H:Hp} {s:Shared} {p:Addr} {xs ys:List V} {its its':List Value} {n n':Nat} {f:Obj->Obj} (I:Inv X pins σ H s) (h:H p=some (.lst xs))
  (ho:s.heap.get? p=some { cls:=.type "list",data:=.seq its.toArray n }) (hf:f { cls:=.type "list",data:=.seq its.toArray n }={ cls:=.type "list",data:=.seq its'.toArray n' }) (r:Vals ys its') (hz:ys.length≤sizeLine) (t:Nat) :
  Inv X pins σ (upd H p (.lst ys)) { s with heap:=s.heap.update p f,toks:=t }:=by
 have e:(s.heap.update p f).get? p=some { cls:=.type "list",data:=.seq its'.toArray n' }:=by
  rw[Heap.get?_update_self f ho (by rw[hf] <;> rfl),hf]
 refine I.write (x:=p) (e:=p) (by rw[h];trivial) (.inl rfl) (fun b u hb q=>(Heap.get?_update_other _ _ (Ne.symm hb)).trans q) ⟨_,e⟩ ?_
 exact⟨hz,its',n',r,e⟩
def rSetL:V->V->V->Hp->(Hp->Prop)->Prop:=fun o i v H Q=>∃ p xs k j,o=.ref p∧i=.int k∧H p=some (.lst xs)∧ixN xs.length k=some j∧Q (upd H p (.lst (xs.set j v)))
theorem set_list:PSet X rSetL:=by
 intro pins s σ H o i v ov iv u Q I ro ri rv h
 obtain⟨p,xs,k,j,rfl,rfl,hp,hj,q⟩:=h
 cases ro
 obtain⟨t,rfl⟩:=ri
 obtain⟨its,n,r,ho,hz⟩:=I.lst hp
 obtain⟨h1,h2,h3,h4⟩:=ixN_seq hj
 have hl:=r.length
 have hn:=line63
 have I':Inv X pins σ (upd H p (.lst (xs.set j v))) { s with heap:=s.heap.update p (Obj.mapSeq (·.setIfInBounds j u)) } :=
  I.lstUpd hp ho (mapSeq_set its n j u) (r.set rv j) (by rw[List.length_set];exact hz) s.toks
 by_cases h0:0≤k
 ·have hk:k.toNat=j:=by
   rw[seqIndex_of h0 h4] at h1
   exact Option.some.inj h1
  exact PySem.W.ki_setAt ho h0 (by omega) (by rw[List.size_toArray,← hl];exact h4) (by rw[hk];exact⟨_,I',q⟩)
 ·have hk:(k + (its.toArray.size:Int)).toNat=j:=by
   rw[seqIndex_neg (by omega) h3] at h1
   rw[List.size_toArray,← hl]
   exact Option.some.inj h1
  exact PySem.W.ki_setBack ho (by omega) (by rw[List.size_toArray,← hl];exact h3) (by omega) (by rw[hk];exact⟨_,I',q⟩)
theorem slice_bounds (lo hi:Option Int) (n:Nat):(sliceBounds lo hi none n).1=((HT.sIx n 0 lo:Nat):Int)∧(sliceBounds lo hi none n).2.1=((HT.sIx n n hi:Nat):Int)∧(sliceBounds lo hi none n).2.2=1:=by
 refine⟨?_,?_,rfl⟩
 ·cases lo with
  | none=>simp [sliceBounds,HT.sIx]
  | some i =>
   simp only [sliceBounds,HT.sIx,Option.getD_none,show (1:Int) > 0 by decide,if_true]
   by_cases h:i < 0
   ·simp only [h,if_true] <;> omega
   ·simp only [h,if_false] <;> omega
 ·cases hi with
  | none=>simp [sliceBounds,HT.sIx]
  | some i =>
   simp only [sliceBounds,HT.sIx,Option.getD_none,show (1:Int) > 0 by decide,if_true]
   by_cases h:i < 0
   ·simp only [h,if_true] <;> omega
   ·simp only [h,if_false] <;> omega
theorem slicePick_cut (its:List Value) (lo hi:Option Int):slicePick its.toArray lo hi none=((its.drop (HT.sIx its.length 0 lo)).take (HT.sIx its.length its.length hi - HT.sIx its.length 0 lo)).toArray:=by
 obtain⟨h1,h2,h3⟩:=slice_bounds lo hi its.toArray.size
 unfold slicePick
 rw[h1,h2,h3]
 simp only [sliceRange_one,pick_run,List.size_toArray] <;> rfl
/-- xs[lo:hi] of a list: a new list -/
def rSlL (K:PySem.W.Frag):V->Option Int->Option Int->Hp->VK->Prop:=fun x lo hi H Q=>∃ a xs,x=.ref a∧SqL K H a xs∧∀ p,H p=none->Q (.ref p) (upd H p (.lst (cutV xs lo hi)))
theorem sl_list:SlR X (rSlL X.K):=by
 intro pins s σ H x v vl vu lo hi sl Q I rx hs pl pu h
 obtain⟨a,xs,rfl,hx,q⟩:=h
 cases rx
 obtain⟨its,r,ht,hz⟩:=I.list hx
 have hlen:=r.length
 refine⟨"list",_,slot_list_getitem.lookup,ht.isList.typeIs,?_⟩
 refine wpAny_getItem_list_slice ht.isList hs pl pu .none (by simp) ?_ (by rw[List.size_toArray] <;> omega)
 rw[slicePick_cut,← hlen]
 refine⟨.ref s.heap.objs.size,_,I.laid (t':=s.toks) (o:=.lst (cutV xs lo hi)) (fun b ob q=>Heap.get?_push_of_some _ q) (Nat.le_refl _) ?_,rfl,q _ (I.hok.fresh (Nat.le_refl _))⟩
 exact⟨Nat.le_trans (cutV_length xs lo hi) hz,_,0,(r.drop (HT.sIx xs.length 0 lo)).take (HT.sIx xs.length xs.length hi - HT.sIx xs.length 0 lo),Heap.get?_push_size _ rfl⟩
theorem op_notIn_str:OpR X (compareOp .NotIn) (fun x y H Q=>∃ i j,x=.str i∧y=.str j∧Q (.bl (!(!(Builtin.Str.occurrences j i 0 j.length 1).isEmpty))) H):=by
 intro pins s σ H x y v u Q I rx ry h
 obtain⟨i,j,rfl,rfl,q⟩:=h
 obtain⟨t,rfl⟩:=rx
 obtain⟨t',rfl⟩:=ry
 exact notIn_str ⟨.bl _,H,I,rfl,q⟩
theorem call_len_seq:CallR X (.builtin "len") (fun xs H Q=>∃ p ys,xs=[.ref p]∧(SqL X.K H p ys∨SqT X.K H p ys)∧Q (.int ys.length) H):=by
 intro pins s σ H xs us Q I r h
 obtain⟨p,ys,rfl,hq,q⟩:=h
 obtain⟨u,rfl,rx⟩:=vals1 r
 cases rx
 have hn:=line63
 rcases hq with hq | hq
 ·obtain⟨its,r',pl,hz⟩:=I.list hq
  have hlen:=r'.length
  exact Calls.call_len_list pl.isList (by simp only [List.size_toArray] <;> omega) ⟨.int ys.length,H,I.tok _,⟨s.toks + 1,by rw[List.size_toArray,hlen]⟩,q⟩
 ·obtain⟨its,r',pl,hz⟩:=I.tuple hq
  have hlen:=r'.length
  exact len_tuple pl (by simp only [List.size_toArray] <;> omega) ⟨.int ys.length,H,I.tok _,⟨s.toks + 1,by rw[List.size_toArray,hlen]⟩,q⟩
theorem call_len_str:CallR X (.builtin "len") (fun xs H Q=>∃ z,xs=[.str z]∧z.length≤sizeLine∧Q (.int z.length) H):=by
 intro pins s σ H xs us Q I r h
 obtain⟨z,rfl,hz,q⟩:=h
 obtain⟨u,rfl,t,rfl⟩:=vals1 r
 have hn:=line63
 exact len_str (by omega) ⟨.int z.length,H,I.tok _,⟨_,rfl⟩,q⟩
theorem CallR.or {f:Value} {r r':List V->Hp->VK->Prop} (h:CallR X f r) (h':CallR X f r'):CallR X f (fun xs H Q=>r xs H Q∨r' xs H Q):=by
 intro pins s σ H xs us Q I rs q
 rcases q with q | q
 ·exact h pins s σ H xs us Q I rs q
 ·exact h' pins s σ H xs us Q I rs q
theorem call_tuple_of:CallR X (.type "tuple") (fun xs H Q=>∃ p ys,xs=[.ref p]∧((SqL X.K H p ys∧∀ l,H l=none->Q (.ref l) (upd H l (.tup ys)))∨(SqT X.K H p ys∧Q (.ref p) H))):=by
 intro pins s σ H xs us Q I r h
 obtain⟨p,ys,rfl,h⟩:=h
 obtain⟨u,rfl,rx⟩:=vals1 r
 cases rx
 rcases h with ⟨hq,q⟩ | ⟨hq,q⟩
 ·obtain⟨its,r',pl,hz⟩:=I.list hq
  have hlen:=r'.length
  refine call_tuple_list pl.isList (fun h' kp=>?_) (by simp only [List.size_toArray] <;> omega)
  have I1:Inv X pins σ H { s with heap:=h' }:=I.kept (t':=s.toks) kp
  have I2:Inv X pins σ (upd H h'.objs.size (.tup ys)) { s with heap:=h'.push { cls:=.type "tuple",data:=.seq its.toArray } } :=
   I1.laid (t':=s.toks) (fun b o e=>Heap.get?_push_of_some _ e) (Nat.le_refl _) (show ObjOk X.prog X.w _ _ _ (.tup ys) from ⟨hz,its,r',TupN.new _ _⟩)
  exact⟨.ref h'.objs.size,_,I2,rfl,q _ (I1.hok.fresh (Nat.le_refl _))⟩
 ·obtain⟨its,r',pl,hz⟩:=I.tuple hq
  exact call_tuple_same pl ⟨.ref p,H,I,rfl,q⟩
/-- the value is of that builtin type -/
def tyV (K:PySem.W.Frag) (T:String) (x:V) (H:Hp):Prop:=match x with
 | .str _=>T="str"
 | .int _=>T="int"
 | .ref p => (T = "list" ∧ ∃ xs, SqL K H p xs) ∨ (T = "tuple" ∧ ∃ o, K.lookup p = some o ∧ o.cls = .type "tuple" ∧ o.dict = none) ∨
     (T="dict"∧((∃ kvs,H p=some (.dK kvs))∨∃ kvs,H p=some (.dT kvs)))∨(T="set"∧∃ S n,H p=some (.set S n))
 | _=>False
theorem tyV_is {pins:List (Addr × Obj)} {σ:St} {H:Hp} {s:Shared} {T:String} {x:V} {v:Value} (I:Inv X pins σ H s) (r:RelV x v) (ty:tyV X.K T x H) :
  s.TypeIs v T∧∀ a,v=.ref a->∃ ob,s.heap.get? a=some ob∧ob.dict=none:=by
 cases x with
 | str z =>
  obtain⟨t,rfl⟩:=r
  cases (show T="str" from ty)
  exact⟨typeIs_str s z t,fun _ e=>nomatch e⟩
 | int i =>
  obtain⟨t,rfl⟩:=r
  cases (show T="int" from ty)
  exact⟨typeIs_int s i t,fun _ e=>nomatch e⟩
 | ref p =>
  cases r
  rcases ty with ⟨rfl,xs,hq⟩ | ⟨rfl,o,hk,hc,hd⟩ | ⟨rfl,hk⟩ | ⟨rfl,S,n,hk⟩
  ·obtain⟨its,_,pl,_⟩:=I.list hq
   refine⟨pl.isList.typeIs,fun a e=>?_⟩
   cases e
   obtain⟨o,n,e,c,hd,_⟩:=pl
   exact⟨o,e,hd⟩
  ·refine⟨⟨o,I.kIn p o hk,hc⟩,fun a e=>?_⟩
   cases e
   exact⟨o,I.kIn _ o hk,hd⟩
  ·have z:∃ o,s.heap.get? p=some o∧o.ExactDict:=by
    rcases hk with ⟨kvs,hk⟩ | ⟨kvs,hk⟩
    ·obtain⟨_,_,_,_,o,_,_,e,ex,_⟩:=I.hok p _ hk
     exact⟨o,e,ex⟩
    ·obtain⟨_,_,_,_,o,_,_,e,ex,_⟩:=I.hok p _ hk
     exact⟨o,e,ex⟩
   obtain⟨o,e,ex⟩:=z
   refine⟨⟨o,e,ex.1⟩,fun a e2=>?_⟩
   cases e2
   exact⟨o,e,ex.2.1⟩
  ·obtain⟨o,_,_,_,e,ex,_⟩:=I.hok p _ hk
   refine⟨⟨o,e,ex.1⟩,fun a e2=>?_⟩
   cases e2
   exact⟨o,e,ex.2.1⟩
 | _=>exact False.elim ty
def tBM (K:PySem.W.Frag) (T:String) (r:V->List V->Hp->VK->Prop) (to:TE) (t:TA):TE:=fun σ H Q=>to σ H fun x H1=>tyV K T x H1∧t σ H1 fun xs H2=>r x xs H2 Q
variable {o e:Expr} {es:List Expr} {to:TE} {t:TA} {name:Str} {apos cpos:Pos} {T id:String} {r:V->List V->Hp->VK->Prop}
theorem pe_bm (pa:PlainAttrs T) (slot:Slot T name id) (hty:typeOf (.builtin id)=pure (.type "method_descriptor")) (hm:MtR X id r) (ho:PE X o to) (ha:PA X (e::es) t)
  (hbase:attributeBase o name X.env (eval o X.env)=eval o X.env:=by rfl)
  (hfew:((backTo cpos (starEach (e::es) X.env)).all (fun x=>!x.1) && (backToKw cpos (keywordEach [] X.env)).all (fun x=>x.1.isSome)
   && decide ((e::es).length + ([]:List Keyword).length + (if ([]:List Keyword).isEmpty then 0 else 1) < 30))=true:=by rfl)
  (hline:(apos.endLine == cpos.line)=true:=by rfl) (hs:starEach (e::es) X.env=(false,eval e X.env)::starEach es X.env:=by rfl) (hplain:(backTo cpos (starEach es X.env)).any (·.1)=false:=by rfl) :
  PE X (.Call (.Attribute o name apos) (e::es) [] cpos) (tBM X.K T r to t):=by
 intro pins s σ H Q I h
 refine wpAny_Call_method_late hbase hfew hline rfl (thn (ho pins s σ H _ I h) fun v s1 ⟨x,H1,I1,r1,ty,q1⟩=>?_)
 obtain⟨h1,h2⟩:=tyV_is I1 r1 ty
 refine⟨T,id,pa,slot,hty,h1,h2,?_⟩
 have hA:=ha cpos pins s1 σ H1 _ I1 q1
 rw[hs] at hA ⊢
 refine Calls.callWith_builtin (by show (false || (backTo cpos (starEach es X.env)).any (·.1))=false;rw[hplain] <;> rfl) (Calls.evalArgs_plain ?_)
 exact thn hA fun us s2 ⟨vs,H2,I2,r2,q2⟩=>hm pins s2 σ H2 x vs v us Q I2 r1 r2 q2
end
end L2
namespace L2
open PySem PySem.Spec PyProof.Rows
def MtM (X:Cx) (id:String) (r:V->List V->Hp->VK->Prop):Prop :=
 ∀ (pins:List (Addr × Obj)) (s:Shared) (σ:St) (H:Hp) (x:V) (xs:List V) (v:Value) (us:List Value) (Q:VK),Inv X pins σ H s->RelV x v->Vals xs us->r x xs H Q ->
  wpAny (model X.prog X.w) X.A (call (.builtin id) (v::us)) (EP X pins σ Q) X.xe s
theorem Vals.one:∀ {x:V} {us:List Value},Vals [x] us->∃ u,us=[u]∧RelV x u
 | _,_,.cons r .nil=>⟨_,rfl,r⟩
theorem Vals.two:∀ {x y:V} {us:List Value},Vals [x,y] us->∃ u v,us=[u,v]∧RelV x u∧RelV y v
 | _,_,_,.cons r (.cons q .nil)=>⟨_,_,rfl,r,q⟩
theorem Vals.zero:∀ {us:List Value},Vals [] us->us=[]
 | _,.nil=>rfl
theorem Vals.dropLast {xs:List V} {us:List Value} (h:Vals xs us):Vals xs.dropLast us.dropLast:=by
 induction h with
 | nil=>exact .nil
 | cons r t ih =>
  cases t with
  | nil=>exact .nil
  | cons q t'=>exact .cons r ih
theorem Vals.eraseIdx:∀ {xs:List V} {us:List Value} (i:Nat),Vals xs us->Vals (xs.eraseIdx i) (us.eraseIdx i)
 | _,_,_,.nil=>.nil
 | _,_,0,.cons _ t=>t
 | _,_,i + 1,.cons r t=>.cons r (Vals.eraseIdx i t)
theorem Vals.reverse {xs:List V} {us:List Value} (h:Vals xs us):Vals xs.reverse us.reverse:=by
 induction h with
 | nil=>exact .nil
 | cons r t ih=>rw[List.reverse_cons,List.reverse_cons];exact Vals.append ih (.cons r .nil)
theorem len_erase {α:Type}:∀ (l:List α) (i:Nat),(l.eraseIdx i).length≤l.length
 | [],_=>Nat.le_refl _
 | _::_,0=>Nat.le_succ _
 | _::r,i + 1=>Nat.succ_le_succ (len_erase r i)
section
variable {X:Cx} {pins:List (Addr × Obj)} {σ:St} {H:Hp} {s:Shared} {l b:Addr} {xs ys zs:List V}
theorem Inv.lset {its its':List Value} {n:Nat} {f:Array Value->Array Value} {t':Nat} (I:Inv X pins σ H s) (hH:H l=some (.lst xs))
  (e:s.heap.get? l=some { cls:=.type "list",data:=.seq its.toArray n }) (hf:f its.toArray=its'.toArray) (hv:Vals ys its') (hz:ys.length≤sizeLine) :
  Inv X pins σ (upd H l (.lst ys)) { s with heap:=s.heap.update l (Obj.mapSeq f),toks:=t' }:=by
 have q:=PySem.IsL.update e f
 rw[hf] at q
 refine I.write (x:=l) (e:=l) (by rw[hH];exact trivial) (.inl rfl) (fun b' u hb hu=>(Heap.get?_update_other s.heap (Obj.mapSeq f) (Ne.symm hb)).trans hu) ⟨_,q⟩ ?_
 exact⟨hz,its',_,hv,q⟩
theorem Inv.lnew {its:List Value} {t':Nat} (I:Inv X pins σ H s) (hv:Vals ys its) (hz:ys.length≤sizeLine) :
  Inv X pins σ (upd H s.heap.objs.size (.lst ys)) { s with heap:=s.heap.push { cls:=.type "list",data:=.seq its.toArray },toks:=t' } :=
 I.laid (fun _ _ q=>Heap.get?_push_of_some _ q) (Nat.le_refl _) ⟨hz,its,0,hv,Heap.get?_push_size _ rfl⟩
theorem Inv.fresh (I:Inv X pins σ H s):H s.heap.objs.size=none:=I.hok.fresh (Nat.le_refl _)
theorem Inv.lstM (I:Inv X pins σ H s) (hH:H l=some (.lst xs)):xs.length≤sizeLine∧∃ (its:List Value) (n:Nat),Vals xs its∧xs.length=its.length∧s.heap.get? l=some { cls:=.type "list",data:=.seq its.toArray n }:=by
 obtain⟨z,its,n,r,e⟩:=I.hok l _ hH
 exact⟨z,its,n,r,r.length,e⟩
theorem notLongL {n:Nat} (h:n≤sizeLine):Builtin.List.listTooLong n=false:=by
 unfold Builtin.List.listTooLong
 exact decide_eq_false (by omega)
end
section
variable {X:Cx}
def rAppend:V->List V->Hp->VK->Prop:=fun x vs H Q=>∃ l xs y,x=.ref l∧vs=[y]∧H l=some (.lst xs)∧xs.length < sizeLine∧Q .non (upd H l (.lst (xs++[y])))
theorem mt_append:MtM X "list.append" rAppend:=by
 intro pins s σ H x vs v us Q I rx rv h
 obtain⟨l,xs,y,rfl,rfl,hH,hz,q⟩:=h
 cases rx
 obtain⟨u,rfl,ru⟩:=rv.one
 obtain⟨z,its,n,r,hl,e⟩:=I.lstM hH
 refine call_meets F.slot_list_append ⟨_,e,rfl⟩ F.entry_list_append (F.args_list_append_2 _ _) (PySem.list_append l its.toArray n u (by rw[List.size_toArray];omega)) ⟨e,?_⟩
 refine⟨.non,_,I.lset (its':=its++[u]) hH e (by simp) (r.append (.cons ru .nil)) ?_,rfl,q⟩
 rw[List.length_append,List.length_singleton]
 omega
def rExtend:V->List V->Hp->VK->Prop:=fun x vs H Q=>∃ l b xs zs,x=.ref l∧vs=[.ref b]∧H l=some (.lst xs)∧H b=some (.lst zs)∧xs.length + zs.length≤sizeLine∧Q .non (upd H l (.lst (xs++zs)))
theorem mt_extend:MtM X "list.extend" rExtend:=by
 intro pins s σ H x vs v us Q I rx rv h
 obtain⟨l,b,xs,zs,rfl,rfl,hH,hB,hz,q⟩:=h
 cases rx
 obtain⟨u,rfl,ru⟩:=rv.one
 cases ru
 obtain⟨z,its,n,r,hl,e⟩:=I.lstM hH
 obtain⟨z2,its2,n2,r2,hl2,e2⟩:=I.lstM hB
 have hsz:its.toArray.size + its2.toArray.size≤sizeLine:=by rw[List.size_toArray,List.size_toArray];omega
 have hlong:¬ (!its.toArray.isEmpty && Builtin.List.listTooLong (its.toArray.size + its2.toArray.size))=true:=by
  rw[notLongL hsz,Bool.and_false]
  exact Bool.false_ne_true
 refine call_meets F.slot_list_extend ⟨_,e,rfl⟩ F.entry_list_extend (F.args_list_extend_2 _ _)
  (AutoSeq1.list_extend_list_list_0 l its.toArray n b its2.toArray n2 hlong (by rw[List.size_toArray];omega) (by omega)) ⟨e,e2,?_⟩
 refine⟨.non,_,I.lset (its':=its++its2) hH e (by simp) (r.append r2) ?_,rfl,q⟩
 rw[List.length_append]
 omega
def rPopAt:V->List V->Hp->VK->Prop:=fun x vs H Q=>∃ l xs i k y,x=.ref l∧vs=[.int i]∧H l=some (.lst xs)∧-(2 ^ 63)≤i∧i < 2 ^ 63∧seqIndex? i xs.length=some k∧xs[k]?=some y∧Q y (upd H l (.lst (xs.eraseIdx k)))
theorem mt_popAt:MtM X "list.pop" rPopAt:=by
 intro pins s σ H x vs v us Q I rx rv h
 obtain⟨l,xs,i,k,y,rfl,rfl,hH,h1,h2,hk,hy,q⟩:=h
 cases rx
 obtain⟨u,rfl,ru⟩:=rv.one
 obtain⟨t,rfl⟩:=ru
 obtain⟨z,its,n,r,hl,e⟩:=I.lstM hH
 obtain⟨w,hw,rw'⟩:=r.get hy
 refine call_meets F.slot_list_pop ⟨_,e,rfl⟩ F.entry_list_pop (F.args_list_pop_2 _ _)
  (MeetsSeq.list_pop_at l its.toArray n i t k w (fitsIndex_both h1 h2) (by rw[List.size_toArray,← hl];exact hk) (by rw[← Array.getElem?_toList];exact hw) (by rw[List.size_toArray];omega)) ⟨e,?_⟩
 refine⟨y,_,I.lset (its':=its.eraseIdx k) hH e ?_ (r.eraseIdx k) ?_,rw',q⟩
 ·show its.toArray.eraseIdxIfInBounds k=(its.eraseIdx k).toArray
  rw[List.eraseIdxIfInBounds_toArray]
 ·have:=len_erase xs k
  omega
end
section
variable {prog:Program} {w:World} {A:Around} {E:Value->Shared->Prop} {s:Shared}
end
section
variable {X:Cx}
end
end L2
namespace Att
open PySem PySem.W PySem.Calls PyProof.Rows
theorem ints_of_wellAll {P:Params} {h:Heap}:∀ (ns:List Int) (vs:List Value),WellAll P h vs (ns.map WData.int)->IntsAre vs ns:=by
 intro ns
 induction ns with
 | nil =>
  intro vs w
  rw[List.map_nil] at w
  cases w
  exact .nil
 | cons n ns ih =>
  intro vs w
  rw[List.map_cons] at w
  cases w with
  | cons a b =>
   cases a
   exact .cons _ _ (ih _ b)
theorem script_of {l:OpenLaw} {n:Nat} (hn:l.most=some n) {P:Params} {h:Heap} {args:List WData} {vals:List Value}
  (hpre:l.row.toRowW.claim.pre args=true) (hwl:WellAll P h vals args) :
  ∃ a vs ns,vals=[Value.ref a]∧args=[WData.list (ns.map WData.int)]∧h.get? a=some { cls:=.type "list",data:=.seq vs.toArray }∧IntsAre vs ns∧ns.length≤n:=by
 have hsh:WShape.hasAll [] args [.list .int]=true:=(pre_splitW hpre).1
 have hc:l.pre.holds [] { args:=args }=true:=(pre_splitW hpre).2
 obtain⟨d,r,rfl,h1,h2⟩:=hasAllW_cons hsh
 obtain rfl:=hasAllW_nil h2
 obtain⟨xs,rfl,h3⟩:=hasW_list h1
 obtain⟨ns,rfl⟩:=items_int h3
 have hlen:ns.length≤n:=by
  unfold OpenLaw.pre at hc
  have h4:(WTm.not (.lt (.lit (.int (n:Int))) (.len (.arg 0)))).holds [] { args:=[.list (ns.map .int)] }=true:=by
   have h4:=(holds_andW hc).1
   rw[hn] at h4
   exact h4
  have h5:=condW_of h4 (w_not (w_lt w_lit (w_len_list (w_arg rfl))))
  rw[List.length_map] at h5
  refine Nat.le_of_not_lt fun q=>?_
  have q':(n:Int) < ((ns.length:Nat):Int):=by omega
  first
   | (rw[decide_eq_true q'] at h5;exact absurd h5 (by decide))
   | (simp at h5;omega)
 cases hwl with
 | cons w1 w2 =>
  cases w2
  cases w1 with
  | list ho hall=>exact⟨_,_,ns,rfl,rfl,ho,ints_of_wellAll ns _ hall,hlen⟩
theorem post_true (l:OpenLaw) (args:List WData):l.row.toRowW.claim.post args (.bool true) args=true :=
 postW_of (r:=l.row.toRowW) (X:=(true == true))
  (show WShape.has [] (.bool true) .bool=true by first | rfl | decide | simp [WShape.has,WShape.arms,WShape.armsAll])
  (show (WTm.eq .res (.lit (.bool true))).value [] { args:=args,res:=some (.bool true),after:=args }=some (.bool (true == true)) from w_eq_bool (w_res rfl) w_lit) rfl
/-- the same from a codeAny of the CALL (for a layer whose function contracts speak of calls) -/
theorem attach_call {l:OpenLaw} {n:Nat} {q:Program} {loose:List Str} {XP:(Str->Option Value)->Heap->Prop} {YP:World->Heap->Prop} {d:DefRec}
  (hn:l.most=some n) (hdf:d.params.defaults=[])
  (call:∀ (w:World) (s₀ s₁:Shared) (mg mb:Str->Option Value) (fa:Addr) (o:Obj) (pm cd doc:Value) (a:Addr) (vs:List Value) (ns:List Int),
   Ground q loose [] XP w s₀ mg mb s₁.heap->YP w s₁.heap ->
   s₁.heap.get? fa=some o->o.data=.func (docDef d.name d.params d.body d.scope pm cd doc)->s₁.heap.CodeRec cd d.name->mg d.name=some (.ref fa) ->
   s₁.heap.get? a=some { cls:=.type "list",data:=.seq vs.toArray }->IntsAre vs ns->ns.length≤n->s₁.gens=#[] ->
   codeAny (model l.prog w) callerA (.call (.ref fa) ⟨[.ref a],[]⟩) (fun r s'=>r=.ok (.ret (.bool true))∧OldK s₁.heap s'.heap∧s'.os=s₁.os∧AllBare s'.gens) s₁) :
  WalkO q loose XP YP l.row.toRowW d [] (fun f vs=>PySem.call f vs):=by
 intro w s₀ s₁ mg mb G Y fa o pm cd doc dV kV ho hd hcd hD hmg hg args vals as hpre hlay hrd hwl hlo
 obtain rfl:dV=.none:=Dflts.none hD hdf
 obtain rfl:kV=.none:=Dflts.noKw hD
 obtain⟨a,vs,ns,rfl,rfl,hobj,hints,hlen⟩:=script_of hn hpre hwl
 refine enter_call (codeAny_mono (call w s₀ s₁ mg mb fa o pm cd doc a vs ns G Y ho (fd_plain hd) hcd hmg hobj hints hlen hg) fun r s' hq=>?_)
 obtain⟨rfl,h2,h3,h4⟩:=hq
 exact⟨.inl ⟨.bool true,.bool true,[],rfl,fun _=>rfl,.bool true,post_true l _,fun _=>⟨List.Pairwise.nil,fun _ hm=>(nomatch hm)⟩⟩,h2,h3,h4⟩
section
variable {prog:Program} {w:World} {A:Around} {E:Value->Shared->Prop} {s:Shared} {K:Frag}
end
end Att
namespace L2
open PySem PySem.Spec PyProof.Rows
theorem vals_ints:∀ {vs:List Value} {ns:List Int},IntsAre vs ns->Vals (ns.map V.int) vs
 | _,_,.nil=>.nil
 | _,_,.cons n t h=>.cons ⟨t,rfl⟩ (vals_ints h)
/-- nothing is tracked but the script, known to the object (or it is an object of the module) -/
def Only (H:Hp):Prop:=∀ b,H b=none∨∃ o xs,H b=some (.frz o (.lst xs))
/-- THE HEAD: the law's promise, at the heap behind the top. F, the promise of the law's def, may use that base is part of the heap (so K.In base, base.Ns mainGlobals mg stand in Mod) -/
theorem law_call {P:Program} {w:World} {K:PySem.W.Frag} {mg mb:Str->Option Value} {CX:CXT} {k:Nat} {fa a:Addr} {fd:FuncData} {x:Str} {sp:Sp} {s₁:Shared} {vs:List Value} {ns:List Int}
  (KX:K.In s₁.heap) (hns:s₁.heap.Ns mainGlobals mg) (hb:s₁.heap.Ns builtinsNs mb) (hbb:∀ x:Str,x≠"__name__"->mb x=bootBuiltins x) (hlim:s₁.heap.NoLimit) (hg:s₁.gens=#[])
  (ha:s₁.heap.get? a=some { cls:=.type "list",data:=.seq vs.toArray }) (hi:IntsAre vs ns) (hl:ns.length≤sizeLine) (hr:Room k callerA)
  (F:∀ base:Heap,K.In base->base.Ns mainGlobals mg->FnOk P w K mg base CX k fa fd [x] sp) (hbind:∀ (s:Shared) (u:Value),BindsTo s fd ⟨[u],[]⟩ [(x,u)])
  (hsp:∀ H:Hp,Only H->SqL K H a (ns.map V.int)->sp [.ref a] H (fun v _=>v=.bl true) fun _ _ _=>False)
  (hCX:∀ H e s',CX [] H s₁ (fun _ _ _=>False) e s'->False) :
  codeAny (model P w) callerA (.call (.ref fa) ⟨[.ref a],[]⟩) (fun r s'=>r=.ok (.ret (.bool true))∧OldK s₁.heap s'.heap∧s'.os=s₁.os∧AllBare s'.gens) s₁:=by
 have rv:=vals_ints hi
 have lenV:=hi.length
  -- from an abstract heap in which nothing but the script may be tracked
 have core : ∀ H : Hp, Only H → SqL K H a (ns.map V.int) → HOk P w H s₁.heap → (∀ b, H b ≠ none → b = a) → (H a ≠ none → K.lookup a = none) →
     codeAny (model P w) callerA (.call (.ref fa) ⟨[.ref a],[]⟩) (fun r s'=>r=.ok (.ret (.bool true))∧OldK s₁.heap s'.heap∧s'.os=s₁.os∧AllBare s'.gens) s₁:=by
  intro H hO hS hok hA hK
  have base_of:∀ {b:Addr} {o:Obj},s₁.heap.get? b=some o->H b=none->(hidT s₁.heap H).get? b=some o:=fun e n=>hidT_get e n
  have noA:∀ {b:Addr} {o:Obj} {es:Array DictEntry} {ep:Nat},s₁.heap.get? b=some o->o.data=.dict es ep->H b=none:=fun {b o es ep} e d=>by
   cases q:H b with
   | none=>rfl
   | some u =>
    have e':b=a:=hA b (by rw[q];simp)
    subst e'
    rw[ha] at e;cases e
    have d':Data.seq vs.toArray _=Data.dict es ep:=d
    cases d'
  have nsK:∀ {b:Addr} {m:Str->Option Value},s₁.heap.Ns b m->(hidT s₁.heap H).Ns b m:=fun {b m} ⟨o,es,ep,e,d,r⟩=>⟨o,es,ep,base_of e (noA e d),d,r⟩
  have hKb:K.In (hidT s₁.heap H):=fun b o e=>base_of (KX b o e) (by
   cases q:H b with
   | none=>rfl
   | some u =>
    have e':b=a:=hA b (by rw[q];simp)
    subst e'
    rw[hK (by rw[q];simp)] at e;cases e)
  have hM:Mod K mg (hidT s₁.heap H):=⟨hKb,nsK hns,⟨mb,nsK hb,hbb⟩,let ⟨mc,h1,h2⟩:=hlim;⟨mc,nsK h1,h2⟩⟩
  have e0:Env0 P w K mg (hidT s₁.heap H) callerA [] s₁ H:=⟨rfl,hM,fun b o e=>of_hidT e,Nat.le_of_eq (hidT_size _ _),trivial,fun b hb=>absurd (show b ∈ ([]:List Addr) from hb) (by simp),hok,.of_eq hg⟩
  refine codeAny_mono ((F _ hKb (nsK hns)).run callerA [] s₁ H ⟨[.ref a],[]⟩ [.ref a] [.ref a] _ _ hr e0 (hbind s₁ (.ref a)) (.cons rfl .nil) (hsp H hO hS)) fun r s' h=>?_
  cases r with
  | error e=>exact (hCX H e s' h).elim
  | ok fl =>
   cases fl with
   | next=>exact False.elim h
   | brk=>exact False.elim h
   | cont=>exact False.elim h
   | ret u =>
    obtain⟨v,H',os,bare,un,hok',r',q⟩:=h
    have q':v=.bl true:=q
    subst q'
    obtain rfl:u=Value.bool true:=r'
    refine⟨rfl,OldK.of_keep fun b o e=>?_,os,bare⟩
    cases q:H b with
    | none=>exact un.keep b o e q (by intro z;exact absurd (show b ∈ ([]:List Addr) from z) (by simp)) (by simp)
    | some u =>
     rcases hO b with z | ⟨ob,xs,z⟩
     ·rw[q] at z;cases z
     ·have z2:=un.frzs b ob _ z
      obtain⟨e1,_⟩:=hok b _ z
      obtain⟨e2,_⟩:=hok' b _ z2
      rw[e] at e1;cases e1
      exact e2
 cases hk:K.lookup a with
 | some o =>
    -- the script is one of the module's own objects
  have e:=KX a o hk
  rw[ha] at e
  cases e
  refine core (fun _=>none) (fun _=>.inl rfl) (.inr ⟨_,vs.toArray,_,hk,rfl,rfl,rfl,by rw[List.size_toArray,lenV];exact hl,by simpa using rv⟩) (fun b u z=>by have z':(none:Option HO)=some u:=z;cases z') (fun b z=>absurd rfl z) fun z=>absurd rfl z
 | none =>
  refine core (fun b=>if b=a then some (.frz { cls:=.type "list",data:=.seq vs.toArray } (.lst (ns.map V.int))) else none) (fun b=>?_) (.inl (.inr ⟨{ cls:=.type "list",data:=.seq vs.toArray },if_pos rfl⟩)) (fun b u z=>?_) (fun b z=>?_) fun _=>hk
  ·by_cases hb:b=a
   ·exact .inr ⟨_,_,if_pos hb⟩
   ·exact .inl (if_neg hb)
  ·by_cases hb:b=a
   ·have z':=(if_pos hb).symm.trans z
    cases z'
    subst hb
    exact⟨ha,by rw[List.length_map];exact hl,vs,_,rv,ha⟩
   ·have z':=(if_neg hb).symm.trans z
    cases z'
  ·by_cases hb:b=a
   ·exact hb
   ·exact absurd (if_neg hb) z
end L2
namespace L2
open PySem PySem.Spec PyProof.Rows
/-- the goal that k_head leaves (case hc), from the law's promise. F gives the function object fd (K's own) once, then the promise over every base -/
theorem walk_of {l:PySem.W.OpenLaw} {n k:Nat} {q:Program} {loose:List Str} {XP:(Str->Option Value)->Heap->Prop} {YP:World->Heap->Prop} {d:DefRec} {K:Params->PySem.W.Frag} {CX:World->CXT} {sp:World->Sp} {x:Str}
  (hn:l.most=some n) (hn2:n≤sizeLine) (hdf:d.params.defaults=[]) (hr:Room k callerA)
  (hY:∀ (w:World) (h:Heap),YP w h->(K w.params).In h)
  (F:∀ (w:World) (mg:Str->Option Value) (fa:Addr) (h:Heap),(K w.params).In h->h.Ns mainGlobals mg->mg d.name=some (.ref fa) ->
   ∃ fd:FuncData,(∀ (s:Shared) (u:Value),BindsTo s fd ⟨[u],[]⟩ [(x,u)]) ∧
    ∀ base:Heap,(K w.params).In base->base.Ns mainGlobals mg->FnOk l.prog w (K w.params) mg base (CX w) k fa fd [x] (sp w))
  (hsp:∀ (w:World) (H:Hp) (a:Addr) (ns:List Int),ns.length≤n->Only H->SqL (K w.params) H a (ns.map V.int)->sp w [.ref a] H (fun v _=>v=.bl true) fun _ _ _=>False)
  (hCX:∀ (w:World) (H:Hp) (s:Shared) (e:Value) (s':Shared),CX w [] H s (fun _ _ _=>False) e s'->False) :
  PySem.W.WalkO q loose XP YP l.row.toRowW d [] (fun f vs=>PySem.call f vs):=by
 refine Att.attach_call hn hdf fun w s₀ s₁ mg mb fa o pm cd doc a vs ns G Y ho hd hcd hmg hobj hints hlen hg=>?_
 have KX:=hY w _ Y
 obtain⟨fd,hb,hF⟩:=F w mg fa _ KX G.T.g hmg
 exact law_call KX G.T.g G.T.b G.T.builtins G.T.nolimit hg hobj hints (Nat.le_trans hlen hn2) hr hF hb (fun H hO hS=>hsp w H a ns hlen hO hS) fun H e s'=>hCX w H s₁ e s'
end L2
namespace L2
open PySem PySem.Spec PyProof.Rows
def defArgs (s:Stmt):Arguments:=match s with
 | .FunctionDef _ a _ _ _ _ _ _ _ _=>a
 | _=>{ posonlyargs:=[],args:=[],vararg:=none,kwonlyargs:=[],kw_defaults:=[],kwarg:=none,defaults:=[] }
def defBody (s:Stmt):List Stmt:=match s with
 | .FunctionDef _ _ b _ _ _ _ _ _ _=>b
 | _=>[]
def defScope (s:Stmt):Scope:=match s with
 | .FunctionDef _ _ _ _ _ _ sc _ _ _=>sc
 | _=>{ kind:=.function,names:=[],isGenerator:=false,isCoroutine:=false }
abbrev CX0:CXT:=fun _ _ _ _ _ _=>False
abbrev E0:XK:=fun _ _ _=>False
theorem pass0 {X:Cx}:Passes CX0 X E0:=fun _ _ _ _ _ _ _ h=>h.elim
structure Fun (K:PySem.W.Frag) (x qual:Str) (st:Stmt) (f:Addr) (fd:FuncData):Prop where
 ex:∃ (oc:Value) (od:Option Addr) (kV doc pm:Value) (an:Option Addr) (cdv ct:Value) (osl:Array (Option Value)),
  fd=PySem.W.fnOf x qual (defArgs st) (defBody st) (defScope st) .none kV doc pm an cdv ct∧K.lookup f=some ⟨oc,od,.func fd,osl⟩∧PySem.W.codeIn K cdv qual=true
 kp:PySem.W.keepIn K (.ref f)=true
section
variable {P:Program} {w:World} {K:PySem.W.Frag} {mg:Str->Option Value} {base:Heap}
/-- THE RULE for a def: its body as a term of rules, and the reading of that term -/
theorem Fun.ok {x qual:Str} {st:Stmt} {f:Addr} {fd:FuncData} {N ps:List Str} {k:Nat} {sp:Sp} (F:Fun K x qual st f fd) (S:FnScope N ps (defScope st)) (len:∀ vs H Q E,sp vs H Q E->vs.length=ps.length)
  (hbody:∀ (cdv:Value) (A:Around) (outer:List Env) (s:Shared) (H:Hp) (vs:List V) (Q:VK) (E:XK),Room k (A.deeper (envOfC qual (defScope st) s.heap.objs.size f cdv))->sp vs H Q E ->
   ∃ t,PSs (cxOf CX0 P w K mg base N qual (defScope st) f cdv A outer s H E).nox (defBody st) t∧t { nx:=fun _ H'=>Q .non H',rt:=Q } (start N vs) H):FnOk P w K mg base CX0 (k + 1) f fd ps sp:=by
 obtain⟨oc,od,kV,doc,pm,an,cdv,ct,osl,rfl,lk,hcd⟩:=F.ex
 refine fn_of lk hcd S len fun A outer s H vs Q E hr hsp=>?_
 obtain⟨t,h,q⟩:=hbody cdv A outer s H vs Q E hr hsp
 exact⟨t,h.nox,q⟩
/-- how its arguments bind (no defaults): h is «fun _ _ _ _ _ _ us hl => match us, hl with | [_, _], _ => rfl», one _ a parameter -/
theorem Fun.binds {x qual:Str} {st:Stmt} {f:Addr} {fd:FuncData} {ps:List Str} (F:Fun K x qual st f fd)
  (h:∀ (kV doc pm:Value) (an:Option Addr) (cdv ct:Value) (us:List Value),us.length=ps.length->bindArgs (PySem.W.fnOf x qual (defArgs st) (defBody st) (defScope st) .none kV doc pm an cdv ct) ⟨us,[]⟩=pure (ps.zip us)):Binds K fd ps []:=by
 obtain⟨oc,od,kV,doc,pm,an,cdv,ct,osl,rfl,lk,hcd⟩:=F.ex
 exact .all (h kV doc pm an cdv ct)
theorem fun_mk {x qual:Str} {st:Stmt} {f:Addr} {oc:Value} {od an:Option Addr} {osl:Array (Option Value)} {kV doc pm cdv ct:Value} (l:K.lookup f=some ⟨oc,od,.func (PySem.W.fnOf x qual (defArgs st) (defBody st) (defScope st) .none kV doc pm an cdv ct),osl⟩)
  (c:PySem.W.codeIn K cdv qual=true) (k:PySem.W.keepIn K (.ref f)=true):Fun K x qual st f (PySem.W.fnOf x qual (defArgs st) (defBody st) (defScope st) .none kV doc pm an cdv ct):=⟨⟨oc,od,kV,doc,pm,an,cdv,ct,osl,rfl,l,c⟩,k⟩
end
section
variable {X:Cx}
theorem pv (i:Nat) {x:Str} {pos:Pos} (hN:X.N[i]?=some x:=by rfl) (hv:Vis X.env.scope x:=by first | exact Or.inl rfl | exact Or.inr (Or.inl rfl) | exact Or.inr (Or.inr rfl)) (hd:(x == ("__debug__":Str))=false:=by decide)
  (hcd:(x == ("__classdict__":Str))=false:=by decide):PE X (.Name x pos) (tVar i):=pe_var hN hv hd hcd
end
theorem iteF {A B:Prop} (h:B):if false=true then A else B:=by
 rw[if_neg Bool.false_ne_true]
 exact h
theorem iteT {A B:Prop} (h:A):if true=true then A else B:=by
 rw[if_pos rfl]
 exact h
theorem ite2 {c A B:Prop} [Decidable c] (h1:c->A) (h2:¬ c->B):if c then A else B:=by
 by_cases h:c
 ·rw[if_pos h]
  exact h1 h
 ·rw[if_neg h]
  exact h2 h
theorem iteNS {c A B:Prop} [Decidable c] (hc:c) (h:B):if (!decide c)=true then A else B:=by
 rw[decide_eq_true hc]
 exact iteF h
/-- all that was tracked is as it was -/
def Same (H H':Hp):Prop:=∀ b o,H b=some o->H' b=some o
theorem Same.refl (H:Hp):Same H H:=fun _ _ h=>h
theorem Same.trans {H H1 H2:Hp} (a:Same H H1) (b:Same H1 H2):Same H H2:=fun c o h=>b c o (a c o h)
theorem Same.free {H H':Hp} (e:Same H H') {l:Addr} (h:H' l=Option.none):H l=Option.none:=by
 cases q:H l with
 | none=>rfl
 | some o =>
  rw[e l o q] at h
  cases h
theorem Same.seq {K:PySem.W.Frag} {H H':Hp} {a:Addr} {xs:List V} (e:Same H H') (h:SqL K H a xs):SqL K H' a xs:=by
 rcases h with (h | ⟨o,h⟩) | h
 ·exact .inl (.inl (e _ _ h))
 ·exact .inl (.inr ⟨o,e _ _ h⟩)
 ·exact .inr h
end L2
set_option maxHeartbeats 4000000
namespace Srt
open PySem PySem.W PyProof.Rows
section
variable {N:Nat} {r:Nat->Int} {cmp:Nat->Nat->(Bool->Shared->Prop)->Shared->Prop} {s:Shared}
def ky (r:Nat->Int) (p:Array Nat) (m:Nat):Int:=r (p.getD m 0)
def Up (r:Nat->Int) (p:Array Nat) (n:Nat):Prop:=∀ i j,i≤j->j < n->ky r p i≤ky r p j
def Dn (r:Nat->Int) (p:Array Nat) (n:Nat):Prop:=∀ i j,i≤j->j < n->ky r p j≤ky r p i
def Ask (N:Nat) (r:Nat->Int) (cmp:Nat->Nat->(Bool->Shared->Prop)->Shared->Prop) (s:Shared):Prop :=
 ∀ i j C,i < N->j < N->C (decide (r i < r j)) s->cmp i j C s
def Gd (N:Nat) (p:Array Nat):Prop:=p.Perm (List.toArray (List.range N))
theorem Gd.sz {p:Array Nat} (g:Gd N p):p.size=N:=by
 have:=g.size_eq
 simpa using this
theorem Gd.lt {p:Array Nat} (g:Gd N p) (h:0 < N) (m:Nat):p.getD m 0 < N:=by
 by_cases hm:m < p.size
 ·have e:p.getD m 0=p[m]:=by simp [Array.getD,hm]
  rw[e]
  have h1:p[m] ∈ p:=Array.getElem_mem hm
  have h2:p[m] ∈ List.toArray (List.range N):=g.mem_iff.mp h1
  simpa using h2
 ·have e:p.getD m 0=0:=by simp [Array.getD,hm]
  omega
theorem ky_of {p q:Array Nat} {i j:Nat} (h:p[i]?=q[j]?):ky r p i=ky r q j:=by
 have e:∀ (a:Array Nat) (k:Nat),a.getD k 0=(a[k]?).getD 0:=fun a k=>by
  by_cases hk:k < a.size <;> simp [Array.getD,hk]
 unfold ky
 rw[e,e,h]
theorem ky_rev {p:Array Nat} {i j:Nat} (hj:j≤p.size) (k:Nat):ky r (kas_rev p i j) k=if i≤k∧k < j then ky r p (i + j - 1 - k) else ky r p k:=by
 have e:=getElem?_mirror_all (i:=i) hj k
 by_cases h:i≤k∧k < j
 ·rw[if_pos h] at e ⊢
  exact ky_of e
 ·rw[if_neg h] at e ⊢
  exact ky_of e
theorem ky_bub {p:Array Nat} {k d:Nat} (hs:k < p.size) (hd:d≤k) (m:Nat) :
  ky r (bubble p k d) m=if m=k - d then ky r p k else if k - d < m∧m≤k then ky r p (m - 1) else ky r p m:=by
 have e:=getElem?_bubble hs d hd m
 by_cases h1:m=k - d
 ·rw[if_pos h1] at e ⊢
  exact ky_of e
 ·rw[if_neg h1] at e ⊢
  by_cases h2:k - d < m∧m≤k
  ·rw[if_pos h2] at e ⊢
   exact ky_of e
  ·rw[if_neg h2] at e ⊢
   exact ky_of e
theorem Gd.rev {p:Array Nat} (g:Gd N p) (i j:Nat):Gd N (kas_rev p i j):=(mirror_perm p i j _).trans g
theorem Gd.bub {p:Array Nat} (g:Gd N p) (i j:Nat):Gd N (bubble p i j):=(bubble_perm p i j).trans g
theorem asc_wp (h:Ask N r cmp s) (hN:0 < N) {p:Array Nat} (g:Gd N p) {Q:Nat->Shared->Prop}:∀ f n,1≤n->Up r p n ->
  (∀ m,n≤m->m≤n + f->Up r p m->(m < n + f->ky r p m < ky r p (m - 1))->Q m s)->(kas_asc p f n).kasWp cmp Q s
 | 0,n,_,hu,q=>q n (Nat.le_refl _) (Nat.le_refl _) hu (fun z=>absurd z (Nat.lt_irrefl _))
 | f + 1,n,h1,hu,q=>by
  refine h _ _ _ (g.lt hN _) (g.lt hN _) ?_
  by_cases c:r (p.getD n 0) < r (p.getD (n - 1) 0)
  ·rw[decide_eq_true c]
   exact q n (Nat.le_refl _) (by omega) hu (fun _=>c)
  ·rw[decide_eq_false c]
   refine asc_wp h hN g f (n + 1) (by omega) (fun i j hij hj=>?_) (fun m a b u d=>q m (by omega) (by omega) u (fun z=>d (by omega)))
   have c':ky r p (n - 1)≤ky r p n:=by unfold ky;omega
   by_cases e:j=n
   ·subst e
    by_cases e2:i=j
    ·subst e2;exact Int.le_refl _
    ·exact Int.le_trans (hu i (j - 1) (by omega) (by omega)) c'
   ·exact hu i j hij (by omega)
theorem ky_rev_eq {p:Array Nat} {i j:Nat} (hj:j≤p.size) (v:Int) (he:∀ k,i≤k->k < j->ky r p k=v) (k:Nat):ky r (kas_rev p i j) k=ky r p k:=by
 rw[ky_rev hj]
 split
 ·rename_i c
  rw[he _ (by omega) (by omega),he k c.1 c.2]
 ·rfl
theorem desc_wp (h:Ask N r cmp s) (hN:0 < N) {Q:Array Nat × Nat × Nat->Shared->Prop}:∀ f p n q,Gd N p->1≤n->n + f≤N->Dn r p n->q + 1≤n->(∀ i,n - (q + 1)≤i->i < n->ky r p i=ky r p (n - 1)) ->
  (∀ p' n' q',Gd N p'->n≤n'->n'≤n + f->Dn r p' n'->q' + 1≤n'->(∀ i,n' - (q' + 1)≤i->i < n'->ky r p' i=ky r p' (n' - 1))->Q (p',n',q') s)->(kas_desc f p n q).kasWp cmp Q s
 | 0,p,n,q,g,_,_,hd,hq,he,z=>z p n q g (Nat.le_refl _) (Nat.le_refl _) hd hq he
 | f + 1,p,n,q,g,h1,hf,hd,hq,he,z=>by
  refine h _ _ _ (g.lt hN _) (g.lt hN _) ?_
  by_cases c:r (p.getD n 0) < r (p.getD (n - 1) 0)
  ·rw[decide_eq_true c]
   have c':ky r p n < ky r p (n - 1):=c
   have dn:∀ {p':Array Nat},(∀ k,ky r p' k=ky r p k)->Dn r p' (n + 1):=fun e i j hij hj=>by
    rw[e,e]
    by_cases ej:j=n
    ·subst ej
     by_cases ei:i=j
     ·subst ei;exact Int.le_refl _
     ·exact Int.le_trans (Int.le_of_lt c') (hd i (j - 1) (by omega) (by omega))
    ·exact hd i j hij (by omega)
   show KasT.kasWp cmp (if q > 0 then kas_desc f (kas_rev p (n - (q + 1)) n) (n + 1) 0 else kas_desc f p (n + 1) 0) Q s
   by_cases hq0:q > 0
   ·rw[if_pos hq0]
    have e:=ky_rev_eq (r:=r) (p:=p) (i:=n - (q + 1)) (j:=n) (by rw[g.sz];omega) (ky r p (n - 1)) he
    exact desc_wp h hN f _ (n + 1) 0 (g.rev _ _) (by omega) (by omega) (dn e) (by omega) (fun i a b=>by congr 1;omega)
     (fun p' n' q' g' a b d e1 e2=>z p' n' q' g' (by omega) (by omega) d e1 e2)
   ·rw[if_neg hq0]
    exact desc_wp h hN f _ (n + 1) 0 g (by omega) (by omega) (dn fun _=>rfl) (by omega) (fun i a b=>by congr 1;omega)
     (fun p' n' q' g' a b d e1 e2=>z p' n' q' g' (by omega) (by omega) d e1 e2)
  ·rw[decide_eq_false c]
   refine h _ _ _ (g.lt hN _) (g.lt hN _) ?_
   by_cases d:r (p.getD (n - 1) 0) < r (p.getD n 0)
   ·rw[decide_eq_true d]
    exact z p n q g (Nat.le_refl _) (by omega) hd hq he
   ·rw[decide_eq_false d]
    have e:ky r p n=ky r p (n - 1):=by unfold ky;omega
    refine desc_wp h hN f p (n + 1) (q + 1) g (by omega) (by omega) (fun i j hij hj=>?_) (by omega) (fun i a b=>?_)
     (fun p' n' q' g' a b d e1 e2=>z p' n' q' g' (by omega) (by omega) d e1 e2)
    ·by_cases ej:j=n
     ·subst ej
      by_cases ei:i=j
      ·subst ei;exact Int.le_refl _
      ·rw[e];exact hd i (j - 1) (by omega) (by omega)
     ·exact hd i j hij (by omega)
    ·rw[show n + 1 - 1=n by omega]
     by_cases ei:i=n
     ·rw[ei]
     ·rw[e];exact he i (by omega) (by omega)
theorem tail3_wp (h:Ask N r cmp s) (hN:0 < N) {Q:Nat × Array Nat->Shared->Prop} {p:Array Nat} {n:Nat} (g:Gd N p) (h1:1≤n) (hn:n≤N) (hd:Dn r p n)
  (z:∀ m p',Gd N p'->1≤m->m≤N->Up r p' m->Q (m,p') s):(kas_tail3 n N p).kasWp cmp Q s:=by
 unfold kas_tail3
 rw[KasT.kasWp_bind]
 refine asc_wp h hN (g.rev 0 n) _ n h1 (fun i j hij hj=>?_) (fun m a b u _=>z m _ (g.rev 0 n) (by omega) (by omega) u)
 rw[ky_rev (by rw[g.sz];omega),ky_rev (by rw[g.sz];omega),if_pos (by omega),if_pos (by omega)]
 exact hd _ _ (by omega) (by omega)
theorem descPart_wp (h:Ask N r cmp s) (hN:0 < N) {Q:Nat × Array Nat->Shared->Prop} {p:Array Nat} {n:Nat} (g:Gd N p) (h1:1≤n) (hn:n + 1≤N) (hd:Dn r p (n + 1))
  (z:∀ m p',Gd N p'->1≤m->m≤N->Up r p' m->Q (m,p') s):(kas_descPart n N p).kasWp cmp Q s:=by
 unfold kas_descPart
 rw[KasT.kasWp_bind]
 refine desc_wp h hN _ p (n + 1) 0 g (by omega) (by omega) hd (by omega) (fun i a b=>by congr 1;omega) (fun p' n' q' g' a b d e1 e2=>?_)
 show KasT.kasWp cmp (if q' > 0 then kas_tail3 n' N (kas_rev p' (n' - (q' + 1)) n') else kas_tail3 n' N p') Q s
 by_cases hq:q' > 0
 ·rw[if_pos hq]
  have e:=ky_rev_eq (r:=r) (p:=p') (i:=n' - (q' + 1)) (j:=n') (by rw[g'.sz];omega) (ky r p' (n' - 1)) e2
  exact tail3_wp h hN (g'.rev _ _) (by omega) (by omega) (fun i j hij hj=>by rw[e,e];exact d i j hij hj) z
 ·rw[if_neg hq]
  exact tail3_wp h hN g' (by omega) (by omega) d z
theorem count_wp (h:Ask N r cmp s) (hN:0 < N) {Q:Nat × Array Nat->Shared->Prop} {p:Array Nat} (g:Gd N p)
  (z:∀ m p',Gd N p'->1≤m->m≤N->Up r p' m->Q (m,p') s):(kas_count N p).kasWp cmp Q s:=by
 unfold kas_count
 rw[KasT.kasWp_bind]
 refine asc_wp h hN g _ 1 (Nat.le_refl _) (fun i j hij hj=>?_) (fun m a b u d=>?_)
 ·have:i=j:=by omega
  subst this;exact Int.le_refl _
 show KasT.kasWp cmp (if (m == N)=true then .ret (m,p) else if m > 1 then .ask (p.getD 0 0) (p.getD (m - 1) 0) fun c=>if c=true then .ret (m,p) else kas_descPart m N (kas_rev p 0 m) else kas_descPart m N p) Q s
 by_cases hm:m=N
 ·rw[if_pos (by simpa using hm)]
  exact z m p g a (by omega) u
 ·rw[if_neg (by simpa using hm)]
  have d':=d (by omega)
  by_cases h1:m > 1
  ·rw[if_pos h1]
   refine h _ _ _ (g.lt hN _) (g.lt hN _) ?_
   by_cases c:r (p.getD 0 0) < r (p.getD (m - 1) 0)
   ·rw[decide_eq_true c]
    exact z m p g a (by omega) u
   ·rw[decide_eq_false c]
    have c':ky r p (m - 1)≤ky r p 0:=by unfold ky;omega
    have eq:∀ k,0≤k->k < m->ky r p k=ky r p 0:=fun k _ hk=>by
     have a1:=u 0 k (by omega) hk
     have a2:=u k (m - 1) (by omega) (by omega)
     omega
    have e:=ky_rev_eq (r:=r) (p:=p) (i:=0) (j:=m) (by rw[g.sz];omega) (ky r p 0) eq
    refine descPart_wp h hN (g.rev 0 m) (by omega) (by omega) (fun i j hij hj=>?_) z
    rw[e,e]
    by_cases ej:j=m
    ·subst ej
     by_cases ei:i=j
     ·subst ei;exact Int.le_refl _
     ·rw[eq i (by omega) (by omega)]
      have:=eq (j - 1) (by omega) (by omega)
      omega
    ·rw[eq i (by omega) (by omega),eq j (by omega) (by omega)]
     exact Int.le_refl _
  ·rw[if_neg h1]
   have e1:m=1:=by omega
   subst e1
   refine descPart_wp h hN g (by omega) (by omega) (fun i j hij hj=>?_) z
   by_cases ej:j=1
   ·subst ej
    by_cases ei:i=1
    ·subst ei;exact Int.le_refl _
    ·have:i=0:=by omega
     subst this
     exact Int.le_of_lt d'
   ·have:i=j:=by omega
    subst this;exact Int.le_refl _
theorem place_wp (h:Ask N r cmp s) (hN:0 < N) {Q:Nat->Shared->Prop} {p:Array Nat} {k:Nat} (g:Gd N p) (hu:Up r p k):∀ f l rr,l≤rr->rr≤k->rr - l≤f->(∀ i,i < l->ky r p i≤ky r p k)->(∀ i,rr≤i->i < k->ky r p k < ky r p i) ->
  (∀ l',l'≤k->(∀ i,i < l'->ky r p i≤ky r p k)->(∀ i,l'≤i->i < k->ky r p k < ky r p i)->Q l' s)->(kas_place p k f l rr).kasWp cmp Q s
 | 0,l,rr,h1,h2,h3,a,b,z=>z l (by omega) a (fun i x y=>b i (by omega) y)
 | f + 1,l,rr,h1,h2,h3,a,b,z=>by
  unfold kas_place
  by_cases hl:l ≥ rr
  ·rw[if_pos hl]
   exact z l (by omega) a (fun i x y=>b i (by omega) y)
  ·rw[if_neg hl]
   refine h _ _ _ (g.lt hN _) (g.lt hN _) ?_
   by_cases c:r (p.getD k 0) < r (p.getD ((l + rr) / 2) 0)
   ·rw[decide_eq_true c]
    have c':ky r p k < ky r p ((l + rr) / 2):=c
    exact place_wp h hN g hu f l ((l + rr) / 2) (by omega) (by omega) (by omega) a (fun i x y=>Int.lt_of_lt_of_le c' (hu _ _ x y)) z
   ·rw[decide_eq_false c]
    have c':ky r p ((l + rr) / 2)≤ky r p k:=by unfold ky;omega
    exact place_wp h hN g hu f ((l + rr) / 2 + 1) rr (by omega) (by omega) (by omega) (fun i x=>Int.le_trans (hu i ((l + rr) / 2) (by omega) (by omega)) c') b z
theorem bin_wp (h:Ask N r cmp s) (hN:0 < N) {Q:Array Nat->Shared->Prop}:∀ f p k,Gd N p->k + f≤N->Up r p k->(∀ p',Gd N p'->Up r p' (k + f)->Q p' s)->(kas_bin f p k).kasWp cmp Q s
 | 0,p,k,g,_,hu,z=>z p g hu
 | f + 1,p,k,g,hk,hu,z=>by
  unfold kas_bin
  rw[KasT.kasWp_bind]
  refine place_wp h hN g hu k 0 k (by omega) (Nat.le_refl _) (by omega) (fun i x=>absurd x (Nat.not_lt_zero _)) (fun i x y=>absurd (Nat.lt_of_le_of_lt x y) (Nat.lt_irrefl _)) (fun l hl a b=>?_)
  have e:=fun m=>ky_bub (r:=r) (p:=p) (k:=k) (d:=k - l) (by rw[g.sz];omega) (by omega) m
  refine bin_wp h hN f _ (k + 1) (g.bub _ _) (by omega) (fun i j hij hj=>?_) (fun p' g' u'=>z p' g' (by rw[show k + (f + 1)=k + 1 + f by omega];exact u'))
  rw[e,e]
  have ekl:k - (k - l)=l:=by omega
  rw[ekl]
  by_cases i1:i=l
  ·rw[if_pos i1]
   by_cases j1:j=l
   ·rw[if_pos j1];exact Int.le_refl _
   ·rw[if_neg j1,if_pos (by omega)]
    exact Int.le_of_lt (b _ (by omega) (by omega))
  ·rw[if_neg i1]
   by_cases i2:l < i∧i≤k
   ·rw[if_pos i2,if_neg (by omega),if_pos (by omega)]
    exact hu _ _ (by omega) (by omega)
   ·rw[if_neg i2]
    by_cases j1:j=l
    ·rw[if_pos j1];exact a _ (by omega)
    ·rw[if_neg j1]
     by_cases j2:l < j∧j≤k
     ·rw[if_pos j2];exact hu _ _ (by omega) (by omega)
     ·rw[if_neg j2];exact hu _ _ hij (by omega)
/-- the sort's tree, asked by ranks, ends at an order of the places by which the ranks rise -/
theorem sort_wp (h:Ask N r cmp s) (hN:0 < N) {Q:Array Nat->Shared->Prop} (z:∀ p,Gd N p->Up r p N->Q p s):(kas_sort N).kasWp cmp Q s:=by
 unfold kas_sort
 rw[KasT.kasWp_bind]
 refine count_wp h hN (Array.Perm.refl _) (fun m p g h1 hm u=>?_)
 show KasT.kasWp cmp (if m < N then kas_bin (N - max m 1) p (max m 1) else .ret p) Q s
 by_cases c:m < N
 ·rw[if_pos c,Nat.max_eq_left h1]
  exact bin_wp h hN _ p m g (by omega) u (fun p' g' u'=>z p' g' (by rw[show m + (N - m)=N by omega] at u';exact u'))
 ·rw[if_neg c]
  have:m=N:=by omega
  subst this
  exact z p g u
end
end Srt
namespace Srt
open PySem PySem.W PyProof.Rows
section
variable {n:Nat} {lt:Nat->Nat->Bool}
def rank (n:Nat) (lt:Nat->Nat->Bool) (i:Nat):Int:=(((List.range n).countP fun k=>lt k i:Nat):Int)
theorem countP_lt {α:Type} {p q:α->Bool}:∀ {l:List α} {x:α},(∀ y ∈ l,p y=true->q y=true)->x ∈ l->p x=false->q x=true->l.countP p < l.countP q
 | [],_,_,hx,_,_=>by cases hx
 | a::r,x,h,hx,hp,hq=>by
  have hr:∀ y ∈ r,p y=true->q y=true:=fun y hy=>h y (List.mem_cons_of_mem _ hy)
  have mono:r.countP p≤r.countP q:=List.countP_mono_left hr
  rw[List.countP_cons,List.countP_cons]
  rcases List.mem_cons.mp hx with e | hx
  ·subst e
   simp only [hp,hq,Bool.false_eq_true,if_false,if_true]
   omega
  ·have ih:=countP_lt hr hx hp hq
   cases hpa:p a with
   | false=>simp only [Bool.false_eq_true,if_false];split <;> omega
   | true =>
    have:=h a List.mem_cons_self hpa
    simp only [this,if_true]
    omega
theorem rank_lt (hi:∀ i,lt i i=false) (ht:∀ i j k,i < n->j < n->k < n->lt i j=true->lt j k=true->lt i k=true) (hn:∀ i j k,i < n->j < n->k < n->lt i k=true->lt i j=true∨lt j k=true)
  {i j:Nat} (h1:i < n) (h2:j < n):decide (rank n lt i < rank n lt j)=lt i j:=by
 unfold rank
 cases e:lt i j with
 | true =>
  refine decide_eq_true ?_
  have:=countP_lt (p:=fun k=>lt k i) (q:=fun k=>lt k j) (l:=List.range n) (x:=i) (fun k hk q=>ht k i j (List.mem_range.mp hk) h1 h2 q e) (List.mem_range.mpr h1) (hi i) e
  omega
 | false =>
  refine decide_eq_false ?_
  have:(List.range n).countP (fun k=>lt k j)≤(List.range n).countP (fun k=>lt k i):=List.countP_mono_left fun k hk q=>by
   rcases hn k i j (List.mem_range.mp hk) h1 h2 q with z | z
   ·exact z
   ·rw[e] at z;cases z
  omega
end
section
variable {prog:Program} {w:World} {A:Around} {E:Value->Shared->Prop} {s:Shared}
abbrev Stay (a:Addr) (h h':Heap):Prop:=∀ b o,b≠a->h.get? b=some o->h'.get? b=some o
def outOf (vs:List Value) (p:Array Nat):List Value:=p.toList.map fun i=>vs.getD i Value.none
theorem out_range (vs:List Value):outOf vs (List.toArray (List.range vs.length))=vs:=by
 unfold outOf
 refine List.ext_getElem (by simp) fun i h1 h2=>?_
 simp
 rw[List.getElem?_eq_getElem h2]
 rfl
theorem gd_len {vs:List Value} {p:Array Nat} (g:Gd vs.length p):(outOf vs p).length=vs.length:=by
 unfold outOf
 rw[List.length_map,Array.length_toList,g.sz]
/-- list.sort of a list whose items are told apart by ranks; nothing is written by a comparison -/
theorem lsort {a:Addr} {vs:List Value} {n:Nat} {P:PySem.Fin->Shared->Prop} {r:Nat->Int} {κ:SortKind} (ho:s.heap.get? a=some (seqObj "list" vs.toArray n)) (h64:vs.length < 64)
  (hk:2≤vs.length->∀ (s':Shared) (Q:SortKind->Shared->Prop),Stay a s.heap s'.heap->Q κ s'->wpAny (model prog w) A (keyKind' vs.toArray) Q (fun _ _=>False) s')
  (hc:∀ (s':Shared) (i j:Nat) (C:Bool->Shared->Prop),Stay a s.heap s'.heap->i < vs.length->j < vs.length->C (decide (r i < r j)) s'->kas_ask prog w A κ vs i j C s')
  (h:∀ (p:Array Nat) (h':Heap) (c:Nat),Gd vs.length p->Up r p vs.length->Stay a s.heap h'->h'.get? a=some (seqObj "list" (outOf vs p).toArray c)->P (.done (.ret .none)) { s with heap:=h' }) :
  wpAny (model prog w) A (Builtin.«list.sort» ⟨[.ref a],[]⟩) P E s:=by
 rw[list_sort_plain]
 have ha:a < s.heap.objs.size:=Heap.lt_size ho
 have line:(64:Nat)≤sizeLine:=by rw[sizeLine_eq];decide
 refine wpAny_bind (listItems_at ho rfl (wpAny_bind (listUpdate_at ho rfl ?_ (by rw[List.size_toArray];omega) (Nat.zero_le _))))
 have e1:=get?_update_seq ho fun _=>(#[]:Array Value)
 generalize (if ((fun _=>(#[]:Array Value)) vs.toArray).size == vs.toArray.size then n else n + 1)=n1 at e1
 have k1:Stay a s.heap (s.heap.update a (Obj.mapSeq fun _=>(#[]:Array Value))):=fun b o hb q=>(Heap.get?_update_other s.heap _ (Ne.symm hb)).trans q
 refine wpAny_bind (seqEpoch_at e1 rfl (wpAny_bind (wpAny_newTuple ?_ (by show vs.length≤_;omega))))
 refine wpAny_bind (wpAny_newList ?_ (Nat.zero_le _))
 refine wpAny_holding ?_
 show wpAny (model prog w) A _ P E { s with heap:=(((s.heap.update a (Obj.mapSeq fun _=>(#[]:Array Value))).push (seqObj "tuple" vs.toArray 0)).push (seqObj "list" #[] 0):Heap) }
 generalize hg:((s.heap.update a (Obj.mapSeq fun _=>(#[]:Array Value))).push (seqObj "tuple" vs.toArray 0)).push (seqObj "list" #[] 0)=g
 have e2:g.get? a=some (seqObj "list" #[] n1):=by rw[← hg];exact Heap.get?_push_of_some _ (Heap.get?_push_of_some _ e1)
 have k2:Stay a s.heap g:=fun b o hb q=>by rw[← hg];exact Heap.get?_push_of_some _ (Heap.get?_push_of_some _ (k1 b o hb q))
 have fin:∀ (p:Array Nat),Gd vs.length p->Up r p vs.length->P (.done (.ret .none)) { s with heap:=g.update a (Obj.mapSeq fun _=>(outOf vs p).toArray) }:=fun p g1 u1 =>
  h p _ _ g1 u1 (fun b o hb q=>(Heap.get?_update_other g _ (Ne.symm hb)).trans (k2 b o hb q)) (get?_update_seq e2 fun _=>(outOf vs p).toArray)
 by_cases h2:vs.length < 2
 ·have h2':vs.toArray.size < 2:=by rw[List.size_toArray];exact h2
  simp only [if_pos h2']
  refine wpAny_bind (wpAny_pure ?_)
  rw[StateT.run_pure]
  refine wpAny_bind (wpAny_pure ?_)
  have eo:((arrOf (SortSt.mk' general' (vs.toArray.zip vs.toArray) #[] 7 none)).map (·.2))=vs.toArray:=by
   apply Array.toList_inj.mp
   show ((vs.toArray.zip vs.toArray).map (·.2)).toList=_
   rw[Array.toList_map]
   simp only [Array.toList_zip,List.toList_toArray]
   exact List.map_snd_zip (Nat.le_refl _)
  dsimp only
  refine wpAny_bind (seqEpoch_at e2 rfl ?_)
  rw[eo]
  refine wpAny_bind (listUpdate_at e2 rfl ?_ (Nat.zero_le _) (by rw[List.size_toArray];omega))
  simp only [bne_self_eq_false,Bool.false_eq_true,if_false]
  have f:=fin (List.toArray (List.range vs.length)) (Array.Perm.refl _) (fun i j hij hj=>by
   have:i=j:=by omega
   subst this;exact Int.le_refl _)
  rw[out_range] at f
  exact wpAny_pure f
 ·have h2':¬ vs.toArray.size < 2:=by rw[List.size_toArray];exact h2
  simp only [if_neg h2']
  refine wpAny_bind (wpAny_mono (hk (by omega) { s with heap:=g } (fun κ' s'=>κ'=κ∧s'={ s with heap:=g }) k2 ⟨rfl,rfl⟩) (fun κ' s' hq=>?_) fun _ _ x=>x.elim)
  obtain⟨rfl,rfl⟩:=hq
  refine wpAny_bind (wpAny_mono (kat_run (ks:=vs) (Q:=fun st' s'=>∃ p:Array Nat,arrOf st'=p.map (kas_item (vs.toArray.zip vs.toArray))∧failedOf st'=none∧s'={ s with heap:=g }∧Gd vs.length p∧Up r p vs.length)
   (G:=fun p s'=>s'={ s with heap:=g }∧Gd vs.length p∧Up r p vs.length) rfl (by omega) h64 (fun p st' s' _ b2 b3 b4=>⟨p,b2,b3,b4.1,b4.2.1,b4.2.2⟩)
   (sort_wp (r:=r) (fun i j C hi hj q=>hc _ i j C k2 hi hj q) (by omega) fun p g1 u1=>⟨rfl,g1,u1⟩)) ?_ fun _ _ e=>e)
  rintro ⟨⟨⟩,st'⟩ s' ⟨p,har,hf,rfl,g1,u1⟩
  have hout:=kat_snds (ks:=vs) (vs:=vs) rfl har
  have ol:(outOf vs p).length=vs.length:=gd_len g1
  dsimp only
  rw[hout]
  refine wpAny_bind (seqEpoch_at e2 rfl ?_)
  refine wpAny_bind (listUpdate_at e2 rfl ?_ (Nat.zero_le _) (by show (outOf vs p).toArray.size≤_;rw[List.size_toArray];omega))
  rw[hf]
  simp only [bne_self_eq_false,Bool.false_eq_true,if_false]
  exact wpAny_pure (fin p g1 u1)
/-- sorted(l) -/
theorem sorted_by {l:Addr} {vs:List Value} {Q:Value->Shared->Prop} {r:Nat->Int} {κ:SortKind} (hl:s.heap.IsList l vs.toArray) (h64:vs.length < 64)
  (hk:2≤vs.length->∀ (A':Around) (s':Shared) (Q:SortKind->Shared->Prop),(∀ b o,s.heap.get? b=some o->s'.heap.get? b=some o)->Q κ s'->wpAny (model prog w) A' (keyKind' vs.toArray) Q (fun _ _=>False) s')
  (hc:∀ (A':Around) (s':Shared) (i j:Nat) (C:Bool->Shared->Prop),(∀ b o,s.heap.get? b=some o->s'.heap.get? b=some o)->i < vs.length->j < vs.length->C (decide (r i < r j)) s'->kas_ask prog w A' κ vs i j C s')
  (h:∀ (p:Array Nat) (h':Heap) (c:Nat),Gd vs.length p->Up r p vs.length->(∀ b o,s.heap.get? b=some o->h'.get? b=some o)->h'.get? (s.heap.objs.size + 1)=some (seqObj "list" (outOf vs p).toArray c)->Q (.ref (s.heap.objs.size + 1)) { s with heap:=h' }) :
  wpAny (model prog w) A (call (.builtin "sorted") [.ref l]) Q E s:=by
 have line:(64:Nat)≤sizeLine:=by rw[sizeLine_eq];decide
 refine Calls.call_function_entry kind_sorted plain_sorted entry_sorted (args_sorted1 _) ?_
 unfold Builtin.«sorted»
 refine wpAny_bind (m:=checkCount "sorted" 1 1 _) (wpAny_pure (wpAny_bind (collect_list hl (wpAny_bind (wpAny_newList ?_ (by omega))) (by omega))))
 generalize hg:(s.heap.push (seqObj "list" #[] 0)).update s.heap.objs.size (Obj.mapSeq (·++vs.toArray))=g
 have sz:g.objs.size=s.heap.objs.size + 1:=by rw[← hg,Heap.size_update,size_push']
 have k1:∀ b o,s.heap.get? b=some o->g.get? b=some o:=fun b o q=>by
  rw[← hg]
  exact (Heap.get?_update_other _ _ (Ne.symm (Nat.ne_of_lt (Heap.lt_size q)))).trans (Heap.get?_push_of_some _ q)
 have hoL:(g.push { cls:=.type "list",data:=.seq vs.toArray }).get? (s.heap.objs.size + 1)=some (seqObj "list" vs.toArray 0):=by rw[← sz];exact Heap.get?_push_size _ rfl
 have k2:∀ b o,s.heap.get? b=some o->(g.push { cls:=.type "list",data:=.seq vs.toArray }).get? b=some o:=fun b o q=>Heap.get?_push_of_some _ (k1 b o q)
 have ne:∀ b o,s.heap.get? b=some o->b≠s.heap.objs.size + 1:=fun b o q=>Nat.ne_of_lt (Nat.lt_succ_of_lt (Heap.lt_size q))
 show wpAny _ _ _ _ _ { s with heap:=g.push { cls:=.type "list",data:=.seq vs.toArray } }
 rw[sz]
 refine wpAny_bind (wpAny_holding (wpAny_call_entry slot_list_sort ⟨_,hoL,rfl⟩ entry_list_sort ?_ (args_list_sort _)))
 refine lsort (s:={ s with heap:=g.push { cls:=.type "list",data:=.seq vs.toArray } }) (r:=r) (κ:=κ) hoL h64 (fun h2 s' Q' st q=>hk h2 _ s' Q' (fun b o e=>st b o (ne b o e) (k2 b o e)) q)
  (fun s' i j C st hi hj q=>hc _ s' i j C (fun b o e=>st b o (ne b o e) (k2 b o e)) hi hj q) fun p h' c g1 u1 st e=>⟨_,rfl,?_⟩
 exact wpAny_pure ⟨_,rfl,h p h' c g1 u1 (fun b o e=>st b o (ne b o e) (k2 b o e)) e⟩
def lexI:List Int->List Int->Bool
 | [],[]=>false
 | [],_::_=>true
 | _::_,[]=>false
 | x::xs,y::ys=>if x=y then lexI xs ys else decide (x < y)
theorem lexI_irr:∀ xs,lexI xs xs=false
 | []=>rfl
 | x::xs=>by show (if x=x then lexI xs xs else _)=false;rw[if_pos rfl];exact lexI_irr xs
theorem lexI_trans:∀ xs ys zs,lexI xs ys=true->lexI ys zs=true->lexI xs zs=true
 | [],[],_,h,_=>by cases h
 | [],_::_,[],_,h=>by cases h
 | [],_::_,_::_,_,_=>rfl
 | _::_,[],_,h,_=>by cases h
 | _::_,_::_,[],_,h=>by cases h
 | x::xs,y::ys,z::zs,h1,h2=>by
  simp only [lexI] at h1 h2 ⊢
  by_cases e1:x=y
  ·subst e1
   rw[if_pos rfl] at h1
   by_cases e2:x=z
   ·rw[if_pos e2] at h2 ⊢;exact lexI_trans xs ys zs h1 h2
   ·rw[if_neg e2] at h2 ⊢;exact h2
  ·rw[if_neg e1] at h1
   have l1:x < y:=of_decide_eq_true h1
   by_cases e2:y=z
   ·subst e2
    rw[if_neg e1];exact h1
   ·rw[if_neg e2] at h2
    have l2:y < z:=of_decide_eq_true h2
    rw[if_neg (by omega)]
    exact decide_eq_true (by omega)
theorem lexI_neg:∀ xs ys zs,lexI xs zs=true->lexI xs ys=true∨lexI ys zs=true
 | [],[],_,h=>.inr h
 | [],_::_,_,_=>.inl rfl
 | _::_,_,[],h=>by cases h
 | _::_,[],_::_,_=>.inr rfl
 | x::xs,y::ys,z::zs,h=>by
  simp only [lexI] at h ⊢
  by_cases e:x=z
  ·subst e
   rw[if_pos rfl] at h
   by_cases e1:x=y
   ·subst e1
    rw[if_pos rfl,if_pos rfl];exact lexI_neg xs ys zs h
   ·rw[if_neg e1,if_neg (Ne.symm e1)]
    by_cases l:x < y
    ·exact .inl (decide_eq_true l)
    ·exact .inr (decide_eq_true (by omega))
  ·rw[if_neg e] at h
   have l:x < z:=of_decide_eq_true h
   by_cases e1:x=y
   ·subst e1
    rw[if_neg e];exact .inr h
   ·by_cases e2:y=z
    ·subst e2
     rw[if_neg e1];exact .inl h
    ·rw[if_neg e1,if_neg e2]
     by_cases l1:x < y
     ·exact .inl (decide_eq_true l1)
     ·exact .inr (decide_eq_true (by omega))
/-- the values of a list that are tuples of ints -/
def TupI (h:Heap) (v:Value) (k:List Int):Prop:=∃ a o its n,v=.ref a∧h.get? a=some o∧o.cls=.type "tuple"∧o.data=.seq its n∧IntsAre its.toList k
theorem TupI.to {h h':Heap} {v:Value} {k:List Int} (t:TupI h v k) (e:∀ b o,h.get? b=some o->h'.get? b=some o):TupI h' v k :=
 let ⟨a,o,its,n,q1,q2,q3⟩:=t
 ⟨a,o,its,n,q1,e _ _ q2,q3⟩
theorem katI {C:Bool->Shared->Prop}:∀ {xs ys:List Value} {k k':List Int} (i:Nat),IntsAre xs k->IntsAre ys k'->C (lexI k k') s->KatLex prog w A true (decide (k.length < k'.length)) C (xs.zip ys) i s
 | _,_,_,_,i,.nil,.nil,h=>h
 | _,_,_,_,i,.nil,.cons c u h',h=>by
  rw[List.zip_nil_left]
  refine kat_nil ?_
  rw[decide_eq_true (by simp)]
  exact h
 | _,_,_,_,i,.cons a t h',.nil,h=>by
  rw[List.zip_nil_right]
  refine kat_nil ?_
  rw[decide_eq_false (by simp)]
  exact h
 | _,_,_,_,i,.cons a t (vs:=xs) (ns:=k) h1,.cons c u (vs:=ys) (ns:=k') h2,h=>by
  rw[List.zip_cons_cons]
  refine kat_cons (wpAny_eqBool_int ?_)
  have ef:decide ((a::k).length < (c::k').length)=decide (k.length < k'.length):=by simp
  have hh:C (if a=c then lexI k k' else decide (a < c)) s:=h
  rw[ef]
  by_cases e:a=c
  ·rw[if_pos e] at hh
   rw[show (a == c)=true by simpa using e]
   exact kat_yes (katI (i + 1) h1 h2 hh)
  ·rw[if_neg e] at hh
   rw[show (a == c)=false by simpa using e]
   refine kat_no ?_
   cases hi:(true && i == 0) with
   | true=>exact oneLt_int hh
   | false=>exact kat_one _ _ (lt_int hh)
theorem tup_ask {vs:List Value} {ks:List (List Int)} (hk:Paired (TupI s.heap) vs ks) {i j:Nat} {C:Bool->Shared->Prop} (hi:i < vs.length) (hj:j < vs.length) (h:C (lexI (ks.getD i []) (ks.getD j [])) s):kas_ask prog w A (tuples' true) vs i j C s:=by
 have at_:∀ {vs:List Value} {ks:List (List Int)} (i:Nat),Paired (TupI s.heap) vs ks->i < vs.length->TupI s.heap (vs.getD i Value.none) (ks.getD i []):=by
  intro vs ks i p
  induction p generalizing i with
  | nil=>intro h;exact absurd h (by simp)
  | cons r t ih =>
   intro h
   cases i with
   | zero=>exact r
   | succ i=>exact ih i (by simpa using h)
 obtain⟨a,o,its,n,e1,q1,q2,q3,q4⟩:=at_ i hk hi
 obtain⟨a',o',its',n',e1',q1',q2',q3',q4'⟩:=at_ j hk hj
 unfold kas_ask
 rw[e1,e1']
 refine kat_lt q1 q3 q1' q3' ?_
 have l1:its.size=(ks.getD i []).length:=by have:=q4.length;simpa using this
 have l2:its'.size=(ks.getD j []).length:=by have:=q4'.length;simpa using this
 rw[l1,l2]
 exact katI 0 q4 q4' h
theorem tup_kind {vs:List Value} {ks:List (List Int)} (hk:Paired (TupI s.heap) vs ks) (hne:∀ k ∈ ks,k≠[]) (h2:2≤vs.length) {Q:SortKind->Shared->Prop} (h:Q (tuples' true) s):wpAny (model prog w) A (keyKind' vs.toArray) Q E s:=by
 have mk:∀ {vs:List Value} {ks:List (List Int)},Paired (TupI s.heap) vs ks->(∀ k ∈ ks,k≠[])->∃ fs:List Value,KatTups s.heap vs fs∧fs.length=vs.length∧∀ f ∈ fs,∃ n t,f=.int n t:=by
  intro vs ks p
  induction p with
  | nil=>exact fun _=>⟨[],.nil,rfl,fun f hf=>nomatch hf⟩
  | cons r t ih =>
   intro hn
   obtain⟨fs,g1,g2,g3⟩:=ih fun k hk=>hn k (List.mem_cons_of_mem _ hk)
   obtain⟨a,o,its,n,e1,q1,q2,q3,q4⟩:=r
   have hne:=hn _ List.mem_cons_self
   subst e1
   cases hz:its.toList with
   | nil=>rw[hz] at q4;cases q4;exact absurd rfl hne
   | cons v r =>
    rw[hz] at q4
    obtain⟨m,tk,ev⟩:=q4.all v List.mem_cons_self
    refine⟨v::fs,.cons q1 q2 q3 ?_ g1,by simp [g2],fun f hf=>?_⟩
    ·rw[← Array.getElem?_toList,hz];rfl
    ·rcases List.mem_cons.mp hf with e | hf
     ·exact⟨m,tk,e.trans ev⟩
     ·exact g3 f hf
 obtain⟨fs,g1,g2,g3⟩:=mk hk hne
 refine kat_kind (T:=.type "int") g1 (by omega) (fun v hv=>?_) (by decide +kernel) h
 obtain⟨m,tk,rfl⟩:=g3 v hv
 exact Looks.of_pure rfl
theorem int_ask {vs:List Value} {ns:List Int} (hk:IntsAre vs ns) {i j:Nat} {C:Bool->Shared->Prop} (hi:i < vs.length) (hj:j < vs.length) (h:C (decide (ns.getD i 0 < ns.getD j 0)) s):kas_ask prog w A oneType' vs i j C s:=by
 have at_:∀ {vs:List Value} {ns:List Int} (i:Nat),IntsAre vs ns->i < vs.length->∃ t,vs.getD i Value.none=.int (ns.getD i 0) t:=by
  intro vs ns i p
  induction p generalizing i with
  | nil=>intro h;exact absurd h (by simp)
  | cons n t r ih =>
   intro h
   cases i with
   | zero=>exact⟨t,rfl⟩
   | succ i=>exact ih i (by simpa using h)
 obtain⟨t,e1⟩:=at_ i hk hi
 obtain⟨u,e2⟩:=at_ j hk hj
 unfold kas_ask
 rw[e1,e2]
 exact kat_lt_int h
theorem int_kind {vs:List Value} {ns:List Int} (hk:IntsAre vs ns) (h2:2≤vs.length) {Q:SortKind->Shared->Prop} (h:Q oneType' s):wpAny (model prog w) A (keyKind' vs.toArray) Q E s:=by
 refine kas_kind (T:=.type "int") h2 (fun v hv=>?_) (by decide +kernel) (by decide +kernel) h
 obtain⟨m,tk,rfl⟩:=hk.all v hv
 exact Looks.of_pure rfl
end
end Srt
namespace Z3
open PySem
section
variable {prog:Program} {w:World} {A:Around} {E:Value->Shared->Prop} {s:Shared}
/-- a sequence (t: a tuple, else a list) and an iterator over it -/
def SqAt (t:Bool) (h:Heap) (l:Addr) (xs:Array Value):Prop:=if t=true then h.IsTuple l xs else h.IsList l xs
def ItAt (t:Bool) (h:Heap) (it l:Addr) (i:Nat):Prop:=if t=true then h.IsTupleIter it l i else h.IsListIter it l i
def itObj (t:Bool) (l:Addr):Obj:=if t=true then { cls:=.type "tuple_iterator",data:=.fields #[.ref l,.int 0 0] } else { cls:=.type "list_iterator",data:=.fields #[.ref l,.int 0 0] }
theorem SqAt.to {t:Bool} {h h':Heap} {l:Addr} {xs:Array Value} (x:SqAt t h l xs) (e:∀ o,h.get? l=some o->h'.get? l=some o):SqAt t h' l xs:=by
 cases t with
 | true=>exact Heap.IsTuple.at (show h.IsTuple l xs from x) e
 | false=>exact Heap.IsList.at (show h.IsList l xs from x) e
theorem ItAt.to {t:Bool} {h h':Heap} {it l:Addr} {i:Nat} (x:ItAt t h it l i) (e:∀ o,h.get? it=some o->h'.get? it=some o):ItAt t h' it l i:=by
 cases t with
 | true=>exact Heap.IsTupleIter.at (show h.IsTupleIter it l i from x) e
 | false=>exact Heap.IsListIter.at (show h.IsListIter it l i from x) e
theorem ItAt.obj {t:Bool} {h:Heap} {it l:Addr} {i:Nat} (x:ItAt t h it l i):∃ o n,h.get? it=some o∧o.cls=.type n∧o.data=.fields #[.ref l,.int i 0]:=by
 cases t with
 | true=>obtain⟨o,a,b,c⟩:=(show h.IsTupleIter it l i from x);exact⟨o,_,a,b,c⟩
 | false=>obtain⟨o,a,b,c⟩:=(show h.IsListIter it l i from x);exact⟨o,_,a,b,c⟩
theorem ItAt.new {t:Bool} {h:Heap} {l:Addr}:ItAt t (h.push (itObj t l)) h.objs.size l 0:=by
 cases t with
 | true=>exact⟨_,Heap.get?_push_size _ rfl,rfl,rfl⟩
 | false=>exact⟨_,Heap.get?_push_size _ rfl,rfl,rfl⟩
theorem iter_at {t:Bool} {l:Addr} {xs:Array Value} {Q:Value->Shared->Prop} (hl:SqAt t s.heap l xs) (h:Q (.ref s.heap.objs.size) { s with heap:=s.heap.push (itObj t l) }):wpAny (model prog w) A (pyIter (.ref l)) Q E s:=by
 cases t with
 | true=>exact wpAny_pyIter_tuple hl h
 | false=>exact wpAny_pyIter_list hl h
theorem draw_tup {it l:Addr} {i:Nat} {xs:Array Value} {x:Value} {Q:Value->Shared->Prop} (hi:s.heap.IsTupleIter it l i) (hl:s.heap.IsTuple l xs) (hx:xs[i]?=some x)
  (h:∀ h',h'.IsTupleIter it l (i + 1)->Heap.SameBut it s.heap h'->Q x { s with heap:=h' }):wpAny (model prog w) A (Builtin.SmallTypes.nextOf (.ref it)) Q E s:=by
 obtain⟨o1,q1,q2,q3⟩:=id hi
 obtain⟨o2,q4,_,n2,q5⟩:=hl
 unfold Builtin.SmallTypes.nextOf
 refine wpAny_bind (wpAny_callSpecial?_slot (name:=Str.ofString "__next__") hi.typeIs F.slot_tuple_iterator_next (wpAny_call_entry F.slot_tuple_iterator_next hi.typeIs F.entry_tuple_iterator_next ?_ (F.args_tuple_iterator_next_1 _)))
 show wpAny _ _ (field (.ref it) 0 >>= _) _ _ s
 refine wpAny_bind (wpAny_field q1 q3 (x:=.ref l) rfl ?_)
 show wpAny _ _ (if (Value.ref l == Value.none)=true then _ else _) _ _ s
 rw[if_neg (show ¬ ((Value.ref l == Value.none)=true) from Bool.false_ne_true)]
 show wpAny _ _ (field (.ref it) 1 >>= _) _ _ s
 refine wpAny_bind (wpAny_field q1 q3 (x:=.int i 0) rfl ?_)
 show wpAny _ _ (seqItems? (.ref l) >>= _) _ _ s
 refine wpAny_bind (wpAny_seqItems q4 q5 ?_)
 simp only [Int.toNat_natCast,hx]
 refine wpAny_bind (wpAny_setField q1 q3 (by simp) (wpAny_pure ⟨x,rfl,wpAny_pure (h _ ?_ (Heap.SameBut.update ..))⟩))
 exact⟨_,Heap.get?_update_self _ q1 (Obj.isFreed_of_fields (Obj.data_mapFields q3 _)),(Obj.cls_mapFields ..).trans q2,by rw[Obj.data_mapFields q3];simp [rawInt]⟩
theorem stop_tup {it l:Addr} {i:Nat} {xs:Array Value} {Q:Value->Shared->Prop} (hh:A.handled=none) (hi:s.heap.IsTupleIter it l i) (hl:s.heap.IsTuple l xs) (hx:xs[i]?=none)
  (h:∀ h' e,Heap.ExtBut it s.heap h'->(∃ o,h'.get? e=some o∧o.cls=.type "StopIteration")->E (.ref e) { s with heap:=h' }):wpAny (model prog w) A (Builtin.SmallTypes.nextOf (.ref it)) Q E s:=by
 obtain⟨o1,q1,q2,q3⟩:=id hi
 obtain⟨o2,q4,_,n2,q5⟩:=hl
 unfold Builtin.SmallTypes.nextOf
 refine wpAny_bind (wpAny_callSpecial?_slot (name:=Str.ofString "__next__") hi.typeIs F.slot_tuple_iterator_next (wpAny_call_entry F.slot_tuple_iterator_next hi.typeIs F.entry_tuple_iterator_next ?_ (F.args_tuple_iterator_next_1 _)))
 show wpAny _ _ (field (.ref it) 0 >>= _) _ _ s
 refine wpAny_bind (wpAny_field q1 q3 (x:=.ref l) rfl ?_)
 show wpAny _ _ (if (Value.ref l == Value.none)=true then _ else _) _ _ s
 rw[if_neg (show ¬ ((Value.ref l == Value.none)=true) from Bool.false_ne_true)]
 show wpAny _ _ (field (.ref it) 1 >>= _) _ _ s
 refine wpAny_bind (wpAny_field q1 q3 (x:=.int i 0) rfl ?_)
 show wpAny _ _ (seqItems? (.ref l) >>= _) _ _ s
 refine wpAny_bind (wpAny_seqItems q4 q5 ?_)
 simp only [Int.toNat_natCast,hx]
 refine wpAny_bind (wpAny_rule (wpAny_bind (wpAny_setField q1 q3 (by simp) ?_)))
 show wpAny _ _ (newExc (.type "StopIteration") [] >>= _) _ _ { s with heap:=_ }
 refine wpAny_bind (by
  simp only [newExc,newTuple]
  refine wpAny_bind (wpAny_newObj_type ?_ (by size_fits))
  refine wpAny_bind (m:=firstArgMember _ _) (wpAny_of_eq (a:=Value.none) (by first | rfl | (simp only [firstArgMember];rfl)) ?_)
  refine wpAny_newObj_type ?_ (by size_fits)
  simp only [raiseNew]
  refine wpAny_bind (wpAny_handled ?_)
  first | rw[show A.in1.handled=none from hh] | rw[hh]
  exact wpAny_bind (wpAny_pure (wpAny_throw (h _ _ (((Heap.SameBut.update ..).extBut.push _).push _) ⟨_,Heap.get?_push_size _ rfl,rfl⟩))))
theorem draw_at {t:Bool} {it l:Addr} {i:Nat} {xs:Array Value} {x:Value} {Q:Value->Shared->Prop} (hi:ItAt t s.heap it l i) (hl:SqAt t s.heap l xs) (hx:xs[i]?=some x)
  (h:∀ h',ItAt t h' it l (i + 1)->Heap.SameBut it s.heap h'->Q x { s with heap:=h' }):wpAny (model prog w) A (Builtin.SmallTypes.nextOf (.ref it)) Q E s:=by
 cases t with
 | true=>exact draw_tup hi hl hx h
 | false=>exact wpAny_nextOf_list_item hi hl hx h
theorem stop_at {t:Bool} {it l:Addr} {i:Nat} {xs:Array Value} {Q:Value->Shared->Prop} (hh:A.handled=none) (hi:ItAt t s.heap it l i) (hl:SqAt t s.heap l xs) (hx:xs[i]?=none)
  (h:∀ h' e,Heap.ExtBut it s.heap h'->(∃ o,h'.get? e=some o∧o.cls=.type "StopIteration")->E (.ref e) { s with heap:=h' }):wpAny (model prog w) A (Builtin.SmallTypes.nextOf (.ref it)) Q E s:=by
 cases t with
 | true=>exact stop_tup hh hi hl hx h
 | false=>exact wpAny_nextOf_list_end hh hi hl hx h
/-- a zip of two sequences: all its objects at their places -/
structure Zd (t1 t2:Bool) (h:Heap) (z TI TO i1 i2 l1 l2:Addr) (f0:Value) (k:Nat):Prop where
 z:IsZip h z TI TO f0
 ti:IsPair h TI (.ref i1) (.ref i2)
 to:∃ a b,IsPair h TO a b
 a1:ItAt t1 h i1 l1 k
 a2:ItAt t2 h i2 l2 k
/-- its five own objects differ; those it walks are others -/
structure Ap (z TI TO i1 i2:Addr):Prop where
 n1:TI≠z
 n2:TO≠z
 n3:i1≠z
 n4:i2≠z
 n5:TI≠TO
 n6:TI≠i1
 n7:TI≠i2
 n8:TO≠i1
 n9:TO≠i2
 n10:i1≠i2
def Out (z TI TO i1 i2 l:Addr):Prop:=l≠z∧l≠TI∧l≠TO∧l≠i1∧l≠i2
theorem zip_more {t1 t2:Bool} {z TI TO i1 i2 l1 l2:Addr} {k:Nat} {xs ys:Array Value} {x y:Value} {Q:Value->Shared->Prop} (D:Ap z TI TO i1 i2) (o1:Out z TI TO i1 i2 l1) (o2:Out z TI TO i1 i2 l2)
  (Z:Zd t1 t2 s.heap z TI TO i1 i2 l1 l2 .none k) (hl1:SqAt t1 s.heap l1 xs) (hl2:SqAt t2 s.heap l2 ys) (hx:xs[k]?=some x) (hy:ys[k]?=some y)
  (hQ:∀ h',Zd t1 t2 h' z TI TO i1 i2 l1 l2 (rawInt s.heap.objs.size) (k + 1)->IsPair h' s.heap.objs.size x y->h'.objs.size=s.heap.objs.size + 1 ->
   (∀ c o,c≠z->c≠TO->c≠i1->c≠i2->s.heap.get? c=some o->h'.get? c=some o)->Q (.ref s.heap.objs.size) { s with heap:=h' }) :
  wpAny (model prog w) A (Builtin.«zip.__next__» ⟨[.ref z],[]⟩) (fun fin s'=>∃ v,fin=.done (.ret v)∧Q v s') E s:=by
 obtain⟨hz,hti,⟨a,b,hto⟩,h1,h2⟩:=Z
 show wpAny _ _ (field (.ref z) 2 >>= _) _ _ s
 refine wpAny_bind (wpAny_field hz rfl (x:=.bool false) rfl ?_)
 show wpAny _ _ (field (.ref z) 3 >>= _) _ _ s
 refine wpAny_bind (wpAny_field hz rfl (x:=.ref TI) rfl ?_)
 refine wpAny_bind (wpAny_seqItems hti rfl ?_)
 show wpAny _ _ (Builtin.SmallTypes.ownedTupleIsFree (.ref z) >>= _) _ _ s
 refine wpAny_bind ?_
 unfold Builtin.SmallTypes.ownedTupleIsFree
 refine wpAny_bind (wpAny_field hz rfl (x:=.none) rfl (wpAny_pure ?_))
 simp only [if_true]
 refine wpAny_bind (wpAny_rule ?_)
 refine wpAny_bind (wpAny_field hz rfl (x:=.ref TO) rfl ?_)
 refine wpAny_bind (wpAny_setField_rec hz (by simp) fun g1 z1 e1=>?_)
 replace z1:IsZip g1 z TI TO .ellipsis:=z1
 refine wpAny_bind ?_
 simp only [List.zipIdx_cons,List.zipIdx_nil,List.forIn_cons,List.forIn_nil]
 refine wpAny_bind (wpAny_bind (wpAny_onRaise ?_))
 show wpAny _ _ (Builtin.SmallTypes.nextOf (.ref i1) >>= _) _ _ { s with heap:=g1 }
 refine wpAny_bind (draw_at (h1.to fun o e=>e1.extBut _ _ D.n3 e) (hl1.to fun o e=>e1.extBut _ _ o1.1 e) hx fun g2 a2 e2=>wpAny_pure ?_)
 have b2:IsPair g2 TO a b:=e2.extBut _ _ D.n8 (e1.extBut _ _ D.n2 hto)
 refine wpAny_bind (wpAny_seqItems b2 rfl ?_)
 refine wpAny_bind (wpAny_updateSeq_pair b2 fun g3 b3 e3=>?_)
 replace b3:IsPair g3 TO x b:=b3
 refine wpAny_bind (wpAny_letGo (wpAny_pure ?_))
 refine wpAny_bind (wpAny_bind (wpAny_onRaise ?_))
 show wpAny _ _ (Builtin.SmallTypes.nextOf (.ref i2) >>= _) _ _ { s with heap:=g3 }
 refine wpAny_bind (draw_at (h2.to fun o e=>e3.extBut _ _ D.n9.symm (e2.extBut _ _ D.n10.symm (e1.extBut _ _ D.n4 e))) (hl2.to fun o e=>e3.extBut _ _ o2.2.2.1 (e2.extBut _ _ o2.2.2.2.1 (e1.extBut _ _ o2.1 e))) hy fun g4 a4 e4=>wpAny_pure ?_)
 have b4:IsPair g4 TO x b:=e4.extBut _ _ D.n9 b3
 refine wpAny_bind (wpAny_seqItems b4 rfl ?_)
 refine wpAny_bind (wpAny_updateSeq_pair b4 fun g5 b5 e5=>?_)
 replace b5:IsPair g5 TO x y:=b5
 refine wpAny_bind (wpAny_letGo (wpAny_pure (wpAny_pure ?_)))
 refine wpAny_bind (wpAny_seqItems b5 rfl ?_)
 refine wpAny_bind (wpAny_newTuple ?_)
 have sz:g5.objs.size=s.heap.objs.size:=by rw[e5.1,e4.1,e3.1,e2.1,e1.1]
 have z5:IsZip g5 z TI TO .ellipsis:=e5.extBut _ _ D.n2.symm (e4.extBut _ _ D.n4.symm (e3.extBut _ _ D.n2.symm (e2.extBut _ _ D.n3.symm z1)))
 have k5:∀ c o,c≠z->c≠TO->c≠i1->c≠i2->s.heap.get? c=some o->g5.get? c=some o:=fun c o c1 c2 c3 c4 e =>
  e5.extBut _ _ c2 (e4.extBut _ _ c4 (e3.extBut _ _ c2 (e2.extBut _ _ c3 (e1.extBut _ _ c1 e))))
 have a15:ItAt t1 g5 i1 l1 (k + 1):=a2.to fun o e=>e5.extBut _ _ D.n8.symm (e4.extBut _ _ D.n10 (e3.extBut _ _ D.n8.symm e))
 have a25:ItAt t2 g5 i2 l2 (k + 1):=a4.to fun o e=>e5.extBut _ _ D.n9.symm e
 have zlt:z < g5.objs.size:=Heap.lt_size z5
 show wpAny _ _ (Builtin.SmallTypes.ownedTupleHandOut (.ref z) (.ref g5.objs.size) >>= _) _ _ { s with heap:=_ }
 refine wpAny_bind ?_
 unfold Builtin.SmallTypes.ownedTupleHandOut
 have z6:IsZip (g5.push { cls:=.type "tuple",data:=.seq #[x,y] }) z TI TO .ellipsis:=Heap.get?_push_of_some _ z5
 refine wpAny_bind (wpAny_setField_rec z6 (by simp) fun g7 z7 e7=>?_)
 replace z7:IsZip g7 z TI TO (rawInt g5.objs.size):=z7
 refine wpAny_setField_rec z7 (by simp) fun g8 z8 e8=>?_
 replace z8:IsZip g8 z TI TO (rawInt g5.objs.size):=z8
 have up:∀ c o,c≠z->g5.get? c=some o->g8.get? c=some o:=fun c o c1 e=>e8.extBut _ _ c1 (e7.extBut _ _ c1 (Heap.get?_push_of_some _ e))
 have t8:IsPair g8 g5.objs.size x y:=e8.extBut _ _ (Nat.ne_of_gt zlt) (e7.extBut _ _ (Nat.ne_of_gt zlt) (Heap.get?_push_size _ rfl))
 have sz8:g8.objs.size=g5.objs.size + 1:=by rw[e8.1,e7.1,Heap.size_push]
 rw[sz] at z8 t8 sz8
 refine wpAny_pure ⟨_,rfl,?_⟩
 show Q (.ref g5.objs.size) { s with heap:=g8 }
 rw[sz]
 exact hQ g8 ⟨z8,up _ _ D.n1 (k5 _ _ D.n1 D.n5 D.n6 D.n7 hti),⟨x,y,up _ _ D.n2 b5⟩,a15.to fun o e=>up _ o D.n3 e,a25.to fun o e=>up _ o D.n4 e⟩ t8 sz8 fun c o c1 c2 c3 c4 e=>up c o c1 (k5 c o c1 c2 c3 c4 e)
theorem zip_stop {t1 t2:Bool} {z TI TO i1 i2 l1 l2:Addr} {k:Nat} {xs ys:Array Value} {Q:Fin->Shared->Prop} (hh:A.handled=none) (D:Ap z TI TO i1 i2) (o1:Out z TI TO i1 i2 l1) (o2:Out z TI TO i1 i2 l2)
  (Z:Zd t1 t2 s.heap z TI TO i1 i2 l1 l2 .none k) (hl1:SqAt t1 s.heap l1 xs) (hl2:SqAt t2 s.heap l2 ys) (hend:xs[k]?=none∨ys[k]?=none)
  (hE:∀ h' e,(∀ c o,c≠z->c≠TO->c≠i1->c≠i2->s.heap.get? c=some o->h'.get? c=some o)->(∃ o,h'.get? e=some o∧o.cls=.type "StopIteration")->E (.ref e) { s with heap:=h' }) :
  wpAny (model prog w) A (Builtin.«zip.__next__» ⟨[.ref z],[]⟩) Q E s:=by
 obtain⟨hz,hti,⟨a,b,hto⟩,h1,h2⟩:=Z
 show wpAny _ _ (field (.ref z) 2 >>= _) _ _ s
 refine wpAny_bind (wpAny_field hz rfl (x:=.bool false) rfl ?_)
 show wpAny _ _ (field (.ref z) 3 >>= _) _ _ s
 refine wpAny_bind (wpAny_field hz rfl (x:=.ref TI) rfl ?_)
 refine wpAny_bind (wpAny_seqItems hti rfl ?_)
 show wpAny _ _ (Builtin.SmallTypes.ownedTupleIsFree (.ref z) >>= _) _ _ s
 refine wpAny_bind ?_
 unfold Builtin.SmallTypes.ownedTupleIsFree
 refine wpAny_bind (wpAny_field hz rfl (x:=.none) rfl (wpAny_pure ?_))
 simp only [if_true]
 refine wpAny_bind (wpAny_rule ?_)
 refine wpAny_bind (wpAny_field hz rfl (x:=.ref TO) rfl ?_)
 refine wpAny_bind (wpAny_setField_rec hz (by simp) fun g1 z1 e1=>?_)
 replace z1:IsZip g1 z TI TO .ellipsis:=z1
 refine wpAny_bind ?_
 simp only [List.zipIdx_cons,List.zipIdx_nil,List.forIn_cons,List.forIn_nil]
 refine wpAny_bind (wpAny_bind (wpAny_onRaise ?_))
 show wpAny _ _ (Builtin.SmallTypes.nextOf (.ref i1) >>= _) _ _ { s with heap:=g1 }
 cases hx:xs[k]? with
 | none =>
  refine wpAny_bind (stop_at hh (h1.to fun o e=>e1.extBut _ _ D.n3 e) (hl1.to fun o e=>e1.extBut _ _ o1.1 e) hx fun g2 e e2 he=>?_)
  obtain⟨oe,p1,p2⟩:=he
  have z2:IsZip g2 z TI TO .ellipsis:=e2 _ _ D.n3.symm z1
  have ez:e≠z:=fun q=>by subst q;rw[z2] at p1;cases p1;simp at p2
  exact wpAny_setField_rec z2 (by simp) fun g3 _ e3=>hE g3 e (fun c o c1 _ c3 _ q=>e3.extBut _ _ c1 (e2 _ _ c3 (e1.extBut _ _ c1 q))) ⟨oe,e3.extBut _ _ ez p1,p2⟩
 | some x =>
  have hy:ys[k]?=none:=by
   rcases hend with q | q
   ·rw[hx] at q;cases q
   ·exact q
  refine wpAny_bind (draw_at (h1.to fun o e=>e1.extBut _ _ D.n3 e) (hl1.to fun o e=>e1.extBut _ _ o1.1 e) hx fun g2 a2 e2=>wpAny_pure ?_)
  have b2:IsPair g2 TO a b:=e2.extBut _ _ D.n8 (e1.extBut _ _ D.n2 hto)
  refine wpAny_bind (wpAny_seqItems b2 rfl ?_)
  refine wpAny_bind (wpAny_updateSeq_pair b2 fun g3 b3 e3=>?_)
  refine wpAny_bind (wpAny_letGo (wpAny_pure ?_))
  refine wpAny_bind (wpAny_bind (wpAny_onRaise ?_))
  show wpAny _ _ (Builtin.SmallTypes.nextOf (.ref i2) >>= _) _ _ { s with heap:=g3 }
  refine wpAny_bind (stop_at hh (h2.to fun o e=>e3.extBut _ _ D.n9.symm (e2.extBut _ _ D.n10.symm (e1.extBut _ _ D.n4 e))) (hl2.to fun o e=>e3.extBut _ _ o2.2.2.1 (e2.extBut _ _ o2.2.2.2.1 (e1.extBut _ _ o2.1 e))) hy fun g4 e e4 he=>?_)
  obtain⟨oe,p1,p2⟩:=he
  have z4:IsZip g4 z TI TO .ellipsis:=e4 _ _ D.n4.symm (e3.extBut _ _ D.n2.symm (e2.extBut _ _ D.n3.symm z1))
  have ez:e≠z:=fun q=>by subst q;rw[z4] at p1;cases p1;simp at p2
  exact wpAny_setField_rec z4 (by simp) fun g5 _ e5=>hE g5 e (fun c o c1 c2 c3 c4 q=>e5.extBut _ _ c1 (e4 _ _ c4 (e3.extBut _ _ c2 (e2.extBut _ _ c3 (e1.extBut _ _ c1 q))))) ⟨oe,e5.extBut _ _ ez p1,p2⟩
theorem next_more {t1 t2:Bool} {z TI TO i1 i2 l1 l2:Addr} {k:Nat} {xs ys:Array Value} {x y:Value} {Q:Option Value->Shared->Prop} (D:Ap z TI TO i1 i2) (o1:Out z TI TO i1 i2 l1) (o2:Out z TI TO i1 i2 l2)
  (Z:Zd t1 t2 s.heap z TI TO i1 i2 l1 l2 .none k) (hl1:SqAt t1 s.heap l1 xs) (hl2:SqAt t2 s.heap l2 ys) (hx:xs[k]?=some x) (hy:ys[k]?=some y)
  (hQ:∀ h',Zd t1 t2 h' z TI TO i1 i2 l1 l2 (rawInt s.heap.objs.size) (k + 1)->IsPair h' s.heap.objs.size x y->h'.objs.size=s.heap.objs.size + 1 ->
   (∀ c o,c≠z->c≠TO->c≠i1->c≠i2->s.heap.get? c=some o->h'.get? c=some o)->Q (some (.ref s.heap.objs.size)) { s with heap:=h' }) :
  wpAny (model prog w) A (pyNext (.ref z)) Q E s:=by
 have hT:s.TypeIs (.ref z) "zip":=⟨_,Z.z,rfl⟩
 unfold pyNext
 exact wpAny_bind (wpAny_attempt (wpAny_callSpecial?_slot (name := Str.ofString "__next__") hT F.slot_zip_next (wpAny_call_entry F.slot_zip_next hT F.entry_zip_next
     (zip_more D o1 o2 Z hl1 hl2 hx hy fun h' b1 b2 b3 b4=>wpAny_pure (hQ h' b1 b2 b3 b4)) (F.args_zip_next_1 _))))
theorem next_stop {t1 t2:Bool} {z TI TO i1 i2 l1 l2:Addr} {k:Nat} {xs ys:Array Value} {Q:Option Value->Shared->Prop} (hh:A.handled=none) (D:Ap z TI TO i1 i2) (o1:Out z TI TO i1 i2 l1) (o2:Out z TI TO i1 i2 l2)
  (Z:Zd t1 t2 s.heap z TI TO i1 i2 l1 l2 .none k) (hl1:SqAt t1 s.heap l1 xs) (hl2:SqAt t2 s.heap l2 ys) (hend:xs[k]?=none∨ys[k]?=none)
  (hQ:∀ h',(∀ c o,c≠z->c≠TO->c≠i1->c≠i2->s.heap.get? c=some o->h'.get? c=some o)->Q none { s with heap:=h' }):wpAny (model prog w) A (pyNext (.ref z)) Q E s:=by
 have hT:s.TypeIs (.ref z) "zip":=⟨_,Z.z,rfl⟩
 unfold pyNext
 refine wpAny_bind (wpAny_attempt (wpAny_callSpecial?_slot (name := Str.ofString "__next__") hT F.slot_zip_next (wpAny_call_entry F.slot_zip_next hT F.entry_zip_next
     (zip_stop hh D o1 o2 Z hl1 hl2 hend fun h' e hk he=>?_) (F.args_zip_next_1 _))))
 obtain⟨o,p1,p2⟩:=he
 exact wpAny_bind (wpAny_isInstance (T:="StopIteration") (b:=true) ⟨o,p1,p2⟩ isSubtype_stop (wpAny_pure (hQ _ hk)))
abbrev zh1 (h:Heap) (t1:Bool) (l1:Addr):Heap:=h.push (itObj t1 l1)
abbrev zh2 (h:Heap) (t1 t2:Bool) (l1 l2:Addr):Heap:=(zh1 h t1 l1).push (itObj t2 l2)
abbrev zh3 (h:Heap) (t1 t2:Bool) (l1 l2:Addr):Heap:=(zh2 h t1 t2 l1 l2).push { cls:=.type "tuple",data:=.seq #[.ref h.objs.size,.ref (zh1 h t1 l1).objs.size] }
abbrev zh4 (h:Heap) (t1 t2:Bool) (l1 l2:Addr):Heap:=(zh3 h t1 t2 l1 l2).push { cls:=.type "tuple",data:=.seq #[.none,.none] }
abbrev zh5 (h:Heap) (t1 t2:Bool) (l1 l2:Addr):Heap:=(zh4 h t1 t2 l1 l2).push { cls:=.type "zip",data:=.fields #[.none,.bool false,.bool false,.ref (zh2 h t1 t2 l1 l2).objs.size,.ref (zh3 h t1 t2 l1 l2).objs.size] }
theorem zip_new (t1 t2:Bool) (l1 l2:Addr) (xs ys:Array Value) :
  Meets (Builtin.«zip.__new__» ⟨[.type "zip",.ref l1,.ref l2],[]⟩) (fun _ R s=>SqAt t1 s.heap l1 xs∧SqAt t2 s.heap l2 ys∧R (.ok (.ret (.ref (zh4 s.heap t1 t2 l1 l2).objs.size))) { s with heap:=zh5 s.heap t1 t2 l1 l2 }) :=
 .of_wp fun prog w A R s h=>by
  obtain⟨hp,g,d,tk,os⟩:=s;obtain⟨hl1,hl2,h⟩:=h
  have hsub:=sub_zip
  have b1:SqAt t1 (Shared.heap ⟨hp,g,d,tk,os⟩) l1 xs:=hl1
  have b2:SqAt t2 (Shared.heap ⟨hp.push (itObj t1 l1),g,d,tk,os⟩) l2 ys:=SqAt.to hl2 fun o e=>Heap.get?_push_of_some _ e
  wp_walk using iter_at b1,iter_at b2
  exact⟨_,rfl,h⟩
theorem call_zip {t1 t2:Bool} {l1 l2:Addr} {xs ys:Array Value} {Q:Value->Shared->Prop} (hl1:SqAt t1 s.heap l1 xs) (hl2:SqAt t2 s.heap l2 ys)
  (h:∀ h',Zd t1 t2 h' (s.heap.objs.size + 4) (s.heap.objs.size + 2) (s.heap.objs.size + 3) s.heap.objs.size (s.heap.objs.size + 1) l1 l2 .none 0->h'.objs.size=s.heap.objs.size + 5 ->
   (∀ c o,s.heap.get? c=some o->h'.get? c=some o)->Q (.ref (s.heap.objs.size + 4)) { s with heap:=h' }) :
  wpAny (model prog w) A (call (.type "zip") [.ref l1,.ref l2]) Q E s:=by
 refine callType_new F.called_zip (by decide) (F.typeCall_zip_2 _ _) (F.newCall_zip_2 _ _) (fun obj=>F.args_object_init_3 obj _ _) F.entry_zip_new (zip_new t1 t2 l1 l2 xs ys) ⟨hl1,hl2,?_⟩
 have z1:(zh1 s.heap t1 l1).objs.size=s.heap.objs.size + 1:=Heap.size_push ..
 have z2:(zh2 s.heap t1 t2 l1 l2).objs.size=s.heap.objs.size + 2:=by rw[Heap.size_push,z1]
 have z3:(zh3 s.heap t1 t2 l1 l2).objs.size=s.heap.objs.size + 3:=by rw[Heap.size_push,z2]
 have z4:(zh4 s.heap t1 t2 l1 l2).objs.size=s.heap.objs.size + 4:=by rw[Heap.size_push,z3]
 have z5:(zh5 s.heap t1 t2 l1 l2).objs.size=s.heap.objs.size + 5:=by rw[Heap.size_push,z4]
 have g5:(zh5 s.heap t1 t2 l1 l2).get? (zh4 s.heap t1 t2 l1 l2).objs.size=some _:=Heap.get?_push_size _ rfl
 have g4:(zh5 s.heap t1 t2 l1 l2).get? (zh3 s.heap t1 t2 l1 l2).objs.size=some _:=Heap.get?_push_of_some _ (Heap.get?_push_size _ rfl)
 have g3:(zh5 s.heap t1 t2 l1 l2).get? (zh2 s.heap t1 t2 l1 l2).objs.size=some _:=Heap.get?_push_of_some _ (Heap.get?_push_of_some _ (Heap.get?_push_size _ rfl))
 have g2:ItAt t2 (zh5 s.heap t1 t2 l1 l2) (zh1 s.heap t1 l1).objs.size l2 0:=(ItAt.new (t:=t2) (h:=zh1 s.heap t1 l1) (l:=l2)).to fun o e=>Heap.get?_push_of_some _ (Heap.get?_push_of_some _ (Heap.get?_push_of_some _ e))
 have g1:ItAt t1 (zh5 s.heap t1 t2 l1 l2) s.heap.objs.size l1 0:=(ItAt.new (t:=t1) (h:=s.heap) (l:=l1)).to fun o e=>Heap.get?_push_of_some _ (Heap.get?_push_of_some _ (Heap.get?_push_of_some _ (Heap.get?_push_of_some _ e)))
 show _∧_
 rw[z2,z3,z4] at g5
 rw[z1,z2] at g3
 rw[z3] at g4
 rw[z1] at g2
 rw[z4]
 exact⟨⟨_,g5,rfl⟩,h _ ⟨g5,g3,⟨_,_,g4⟩,g1,g2⟩ z5 fun c o q=>Heap.get?_push_of_some _ (Heap.get?_push_of_some _ (Heap.get?_push_of_some _ (Heap.get?_push_of_some _ (Heap.get?_push_of_some _ q))))⟩
theorem ap_new (n:Nat):Ap (n + 4) (n + 2) (n + 3) n (n + 1):=by
 constructor <;> (show (_:Nat)≠(_:Nat)) <;> omega
theorem out_new {n l:Nat} (h:l < n):Out (n + 4) (n + 2) (n + 3) n (n + 1) l:=by
 refine⟨?_,?_,?_,?_,?_⟩ <;> (show (_:Nat)≠(_:Nat)) <;> omega
end
end Z3
namespace U3
open PySem PyProof.Rows
section
variable {prog:Program} {w:World} {A:Around} {E:Value->Shared->Prop} {s:Shared}
theorem draw_lst {it l:Addr} {xs:Array Value} (hne:l≠it):∀ (n i:Nat) (s:Shared) (Q:List Value->Shared->Prop),s.heap.IsListIter it l i->s.heap.IsList l xs->i + n≤xs.size ->
  (∀ h',h'.IsListIter it l (i + n)->Heap.SameBut it s.heap h'->Q ((xs.toList.drop i).take n) { s with heap:=h' })->wpAny (model prog w) A (draw (.ref it) n) Q E s
 | 0,i,s,Q,hi,_,_,h=>by
  show wpAny _ _ (pure []) Q E s
  exact wpAny_pure (by simpa using h s.heap hi (Heap.SameBut.refl ..))
 | n + 1,i,s,Q,hi,hl,hle,h=>by
  have lt:i < xs.size:=by omega
  show wpAny _ _ (pyNext (.ref it) >>= _) Q E s
  refine wpAny_bind (wpAny_pyNext_list_item hi hl (x:=xs[i]) (by simp [lt]) fun g1 i1 e1=>?_)
  refine wpAny_bind (wpAny_holding (draw_lst hne n (i + 1) _ _ i1 (hl.extBut e1.extBut hne) (by omega) fun g2 i2 e2=>wpAny_pure ?_))
  have hd:xs.toList.drop i=xs[i]::xs.toList.drop (i + 1):=by simp [List.drop_eq_getElem_cons,lt]
  have q:=h g2 (by rw[show i + (n + 1)=i + 1 + n by omega];exact i2) (e1.trans e2)
  rw[hd,List.take_succ_cons] at q
  exact q
theorem unpack_lst {l:Addr} {xs:Array Value} {targets:List (Bool × (Value->Sem Unit))} {Q:Unit->Shared->Prop} (hh:A.handled=none) (hl:s.heap.IsList l xs)
  (hn:targets.length=xs.size) (hs:targets.findIdx? (·.1)=none)
  (h:∀ h',Heap.ExtBut s.heap.objs.size s.heap h'->wpAny (model prog w) A (assignInOrder (targets.map (·.2)) xs.toList) Q E { s with heap:=h' }) :
  wpAny (model prog w) A (unpack (.ref l) targets) Q E s:=by
 have ne:l≠s.heap.objs.size:=by obtain⟨o,ho,_⟩:=hl;exact Nat.ne_of_lt (Heap.lt_size ho)
 unfold unpack
 rw[hn,hs]
 refine wpAny_bind (wpAny_holding ?_)
 unfold unpackItems
 refine wpAny_bind ?_
 unfold notIterableAtAll
 refine wpAny_bind (wpAny_specialOf hl.typeIs slot_list_iter.lookup ?_)
 refine wpAny_pure ?_
 simp only [Bool.false_eq_true,if_false]
 refine wpAny_bind (wpAny_holding (wpAny_pyIter_list hl ?_))
 refine wpAny_bind (wpAny_holding (draw_lst ne xs.size 0 _ _ ⟨_,Heap.get?_push_size _ rfl,rfl,rfl⟩ (hl.push _) (by omega) fun g1 i1 e1=>?_))
 have all:List.take xs.size (List.drop 0 xs.toList)=xs.toList:=by
  rw[List.drop_zero];exact List.take_of_length_le (by simp)
 rw[all,if_neg (by simp)]
 have l1:g1.IsList l xs:=(hl.push _).extBut e1.extBut ne
 refine wpAny_bind (wpAny_holding (wpAny_pyNext_list_end hh i1 l1 (by simp) fun g2 e2=>?_))
 simp only [Option.isSome_none,Bool.false_eq_true,if_false]
 exact wpAny_pure (h g2 fun b o hb e=>e2 b o hb (e1.extBut b o hb (Heap.get?_push_of_some _ e)))
theorem assign_tuple_lst {env:Env} {elts:List Expr} {x1} {pos:Pos} {l:Addr} {xs:Array Value} {Q:Unit->Shared->Prop} (hh:A.handled=none) (hl:s.heap.IsList l xs)
  (hn:(assignEach elts env).length=xs.size) (hs:(assignEach elts env).findIdx? (·.1)=none)
  (h:∀ h',Heap.ExtBut s.heap.objs.size s.heap h'->wpAny (model prog w) A (assignInOrder ((assignEach elts env).map (·.2)) xs.toList) Q E { s with heap:=h' }) :
  wpAny (model prog w) A (assign (.Tuple elts x1 pos) env (.ref l)) Q E s:=by
 rw[assign_Tuple]
 exact wpAny_bind (wpAny_standAt (unpack_lst hh hl hn hs h))
end
end U3
namespace L3
open PySem PySem.Spec PyProof.Rows L2
abbrev Fls:Value->Shared->Prop:=fun _ _=>False
abbrev testsOf (ifs:List Expr) (env:Env):Sem Bool :=
 forIn ifs true fun c r=>if r=true then do let ok ← isTrue c env (eval c env);pure (ForInStep.yield ok) else pure (ForInStep.yield r)
section
variable {prog:Program} {w:World} {A:Around} {R:Result->Shared->Prop} {s:Shared}
/-- a list comprehension of one clause, turn by turn; nothing raises in it -/
theorem comp_turns {elt tg iter:Expr} {ifs:List Expr} {scope:Scope} {pos:Pos} {it acc:Value} {env:Env} (W:Nat->Shared->Prop)
  (step:∀ n s,W n s->wpAny (model prog w) A (pyNext it) (fun r s1=>(r=none∧R (.ok .next) s1)∨∃ v,r=some v ∧
   wpAny (model prog w) A (letOwnedTupleGo tg it v) (fun _ s2=>wpAny (model prog w) A (assign tg env v) (fun _ s3 =>
    wpAny (model prog w) A (testsOf ifs env) (fun ok s4=>if ok=true then wpAny (model prog w) A (eval elt env) (fun x s5 =>
     wpAny (model prog w) A (call (.builtin "list.append") [acc,x]) (fun _ s6=>∃ m,m < n∧W m s6) Fls s5) Fls s4 else ∃ m,m < n∧W m s4) Fls s3) Fls s2) Fls s1) Fls s)
  (n:Nat) (h:W n s):codeAny (model prog w) A (.compLoop (.ListComp elt [⟨tg,iter,ifs,0⟩] scope pos) 0 it acc env) R s:=by
 refine codeAny_loop rfl W (fun k s1 hk=>?_) n h
 show wpAny _ A ((compTurn (.ListComp elt [⟨tg,iter,ifs,0⟩] scope pos) 0 it acc env).onRaise (fun x=>do noteFrame x env;theTreesLotGoes x)) _ _ s1
 refine wpAny_noted ?_
 rw[compTurn_list]
 refine wpAny_bind (wpAny_standAt (wpAny_bind (wpAny_mono (step k s1 hk) (fun r s2 h2=>?_) fun _ _ z=>z.elim)))
 rcases h2 with ⟨rfl,h2⟩ | ⟨v,rfl,h2⟩
 ·exact wpAny_pure h2
 ·refine wpAny_bind (wpAny_mono h2 (fun _ s3 h3=>?_) fun _ _ z=>z.elim)
  refine wpAny_bind (wpAny_mono h3 (fun _ s4 h4=>?_) fun _ _ z=>z.elim)
  refine wpAny_bind (wpAny_mono h4 (fun ok s5 h5=>?_) fun _ _ z=>z.elim)
  cases ok with
  | false=>exact wpAny_pure ⟨rfl,h5⟩
  | true =>
   refine wpAny_bind (wpAny_bind (wpAny_mono h5 (fun x s6 h6=>?_) fun _ _ z=>z.elim))
   refine wpAny_bind (wpAny_mono h6 (fun _ s7 h7=>?_) fun _ _ z=>z.elim)
   exact wpAny_pure (wpAny_pure ⟨rfl,h7⟩)
end
def clOf (cells:List (Str × Addr)):List (Str × NameKind)->List (Str × Addr)->List (Str × Addr)
 | [],cs=>cs
 | (n,k)::r,cs=>clOf cells r (if k=.free then (n,(cells.lookup n).getD 0)::cs else cs)
theorem clOf_mem {cells:List (Str × Addr)}:∀ {names:List (Str × NameKind)} {cs:List (Str × Addr)} {p:Str × Addr},p ∈ clOf cells names cs->p ∈ cs∨((p.1,NameKind.free) ∈ names∧p.2=(cells.lookup p.1).getD 0)
 | [],_,_,h=>.inl h
 | (n,k)::r,cs,p,h=>by
  rcases clOf_mem (names:=r) h with q | ⟨q1,q2⟩
  ·by_cases hk:k=.free
   ·rw[if_pos hk] at q
    rcases List.mem_cons.mp q with e | q
    ·subst e;subst hk;exact .inr ⟨List.mem_cons_self,rfl⟩
    ·exact .inl q
   ·rw[if_neg hk] at q;exact .inl q
  ·exact .inr ⟨List.mem_cons_of_mem _ q1,q2⟩
theorem clOf_has {cells:List (Str × Addr)}:∀ {names:List (Str × NameKind)} {cs:List (Str × Addr)} {x:Str},((x,NameKind.free) ∈ names∨∃ c,(x,c) ∈ cs)->∃ c,(x,c) ∈ clOf cells names cs
 | [],_,_,h=>h.elim (fun z=>nomatch z) id
 | (n,k)::r,cs,x,h=>by
  refine clOf_has (names:=r) ?_
  rcases h with h | ⟨c,h⟩
  ·rcases List.mem_cons.mp h with e | h
   ·cases e
    exact .inr ⟨_,by rw[if_pos rfl];exact List.mem_cons_self⟩
   ·exact .inl h
  ·refine .inr ⟨c,?_⟩
   split
   ·exact List.mem_cons_of_mem _ h
   ·exact h
theorem closure_go {env:Env}:∀ (names:List (Str × NameKind)) (cs:List (Str × Addr)),(∀ y ∈ names,y.2=.free->∃ c,env.cells.lookup y.1=some c) ->
  (forIn names cs fun x r=>(match x with | (n,k)=>if (k == NameKind.free)=true then do let c ← cellOf env n;pure (ForInStep.yield ((n,c)::r)) else pure (ForInStep.yield r):Sem (ForInStep (List (Str × Addr)))))=pure (clOf env.cells names cs)
 | [],cs,_=>rfl
 | (n,k)::r,cs,h=>by
  rw[List.forIn_cons]
  by_cases hk:k=.free
  ·subst hk
   obtain⟨c,hc⟩:=h (n,.free) List.mem_cons_self rfl
   have e1:cellOf env n=pure c:=by unfold cellOf;rw[hc]
   have e2:clOf env.cells ((n,NameKind.free)::r) cs=clOf env.cells r ((n,c)::cs):=by
    show clOf env.cells r (if NameKind.free=NameKind.free then (n,(env.cells.lookup n).getD 0)::cs else cs)=_
    rw[if_pos rfl,hc]
    rfl
   rw[e2,← closure_go r ((n,c)::cs) fun y hy=>h y (List.mem_cons_of_mem _ hy)]
   simp only [beq_self_eq_true,if_true,e1,pure_bind]
  ·have e2:clOf env.cells ((n,k)::r) cs=clOf env.cells r cs:=by
    show clOf env.cells r (if k=NameKind.free then _ else cs)=_
    rw[if_neg hk]
   have hb:(k == NameKind.free)=false:=by simpa using hk
   rw[e2,← closure_go r cs fun y hy=>h y (List.mem_cons_of_mem _ hy)]
   simp only [hb,Bool.false_eq_true,if_false,pure_bind]
theorem closure_is {scope:Scope} {env:Env} (h:∀ y ∈ scope.names,y.2=.free->∃ c,env.cells.lookup y.1=some c):closureFor scope env=pure (clOf env.cells scope.names []):=by
 have q:=closure_go (env:=env) scope.names [] h
 unfold closureFor
 refine Eq.trans ?_ q
 first | rfl | simp
theorem look_relabel_free {env:Env}:∀ {names:List (Str × NameKind)} {x:Str},names.lookup x=some .free ->
  (names.map fun (n,k)=>if (k == NameKind.free && env.scope.kind == .function && env.kindOf n == some .cell) then (n,NameKind.cell) else (n,k)).lookup x=some .cell ∨
  (names.map fun (n,k)=>if (k == NameKind.free && env.scope.kind == .function && env.kindOf n == some .cell) then (n,NameKind.cell) else (n,k)).lookup x=some .free
 | [],_,h=>by simp at h
 | (n,k)::r,x,h=>by
  have ih:=@look_relabel_free env r x
  rw[List.map_cons]
  by_cases hx:(x == n)=true
  ·rw[List.lookup_cons,hx] at h
   have h':k=.free:=by simpa using h
   subst h'
   dsimp only
   split
   ·left;rw[List.lookup_cons,hx]
   ·right;rw[List.lookup_cons,hx]
  ·have hx':(x == n)=false:=by simpa using hx
   rw[List.lookup_cons,hx'] at h
   dsimp only
   split
   ·rw[List.lookup_cons,hx'];exact ih h
   ·rw[List.lookup_cons,hx'];exact ih h
theorem of_relabel {env:Env}:∀ {names:List (Str × NameKind)} {x:Str},(∀ y ∈ names,y.2≠.cell) ->
  ((names.map fun (n,k)=>if (k == NameKind.free && env.scope.kind == .function && env.kindOf n == some .cell) then (n,NameKind.cell) else (n,k)).lookup x=some .cell ∨
  (names.map fun (n,k)=>if (k == NameKind.free && env.scope.kind == .function && env.kindOf n == some .cell) then (n,NameKind.cell) else (n,k)).lookup x=some .free)->(x,NameKind.free) ∈ names
 | [],_,_,h=>by simp at h
 | (n,k)::r,x,hc,h=>by
  rw[List.map_cons] at h
  by_cases hx:(x == n)=true
  ·have e:x=n:=by simpa using hx
   subst e
   dsimp only at h
   by_cases hk:(k == NameKind.free && env.scope.kind == .function && env.kindOf x == some .cell)=true
   ·rw[if_pos hk] at h
    have:k=.free:=by
     simp only [Bool.and_eq_true] at hk
     simpa using hk.1.1
    subst this
    exact List.mem_cons_self
   ·rw[if_neg hk,List.lookup_cons,hx] at h
    rcases h with h | h
    ·exact absurd (by simpa using h) (hc (x,k) List.mem_cons_self)
    ·have:k=.free:=by simpa using h
     subst this
     exact List.mem_cons_self
  ·have hx':(x == n)=false:=by simpa using hx
   refine List.mem_cons_of_mem _ (of_relabel (env:=env) (fun y hy=>hc y (List.mem_cons_of_mem _ hy)) ?_)
   dsimp only at h
   split at h
   ·rw[List.lookup_cons,hx'] at h;exact h
   ·rw[List.lookup_cons,hx'] at h;exact h
/-- what is looked at of the two scopes: closed, for decide -/
def compOk (N:List Str) (sc0 scope:Scope) (fr:List Str) (js:List Nat):Bool :=
 decide (scope.kind=.function) && (scope.names.all fun y=>decide (y.2≠.cell) && (decide (y.2≠.free) || decide (sc0.names.lookup y.1=some .cell) || decide (sc0.names.lookup y.1=some .free)) &&
  (decide (y.2≠.local) || decide (scope.names.lookup y.1=some .local))) && decide (fr.length=js.length) &&
 ((fr.zip js).all fun p=>decide (N[p.2]?=some p.1) && decide (scope.names.lookup p.1=some .free) && (decide (sc0.names.lookup p.1=some .cell) || decide (sc0.names.lookup p.1=some .free)))
/-- the context of the block -/
def cxComp (X:Cx) (own fr:List Str) (scope:Scope) (fp:List Addr) (pins:List (Addr × Obj)) (s3:Shared) (H3:Hp):Cx :=
 { X with N:=own++fr,s₀:=s3,H₀:=H3,env:=compEnvC scope (clOf X.env.cells scope.names []) s3.heap.objs.size X.env,outer:=X.stack,stack:=X.stack,ex:=fp,fn:=fun _=>false,pn:=X.pn++pins,xe:=Fls }
/-- the tests of a clause -/
def PTs (X:Cx) (ifs:List Expr) (t:TT):Prop :=
 ∀ (pins:List (Addr × Obj)) (s:Shared) (σ:L2.St) (H:Hp) (Q:Bool->Hp->Prop),Inv X pins σ H s->t σ H Q->wpAny (model X.prog X.w) X.A (testsOf ifs X.env) (TP X pins σ Q) X.xe s
def tTrue:TT:=fun _ H Q=>Q true H
theorem pts_nil {X:Cx}:PTs X [] tTrue:=fun _ _ _ H _ I h=>wpAny_tests_nil ⟨H,I,h⟩
theorem pts_one {X:Cx} {c:Expr} {t:TT} (h:PT X c t):PTs X [c] t:=fun pins s σ H Q I q=>wpAny_tests_one (h pins s σ H Q I q)
def start3 (own:List Str) (js:List Nat) (σ:L2.St):L2.St:=List.replicate own.length none++js.map fun j=>(σ[j]?).join
/-- the reading: W is the word, by the turn, a measure, what is laid by so far, the names, the heap; D the new list -/
def CompGo (own:List Str) (js:List Nat) (g:TG) (tt:TT) (te:TE) (σ:L2.St) (Q:VK) (J:It) (H1:Hp):Prop:=∀ D,H1 D=none->∃ W:Nat->Nat->List V->L2.St->Hp->Prop,
 (∃ m,W 0 m [] (start3 own js σ) (upd H1 D (.lst [])))∧∀ i m ys σ' H',W i m ys σ' H'->H' D=some (.lst ys) ->
  (J.stop i H'∧Q (.ref D) H')∨(J.go i H'∧∀ x H2,J.yld i H' x H2->g x σ' H2 fun σ3 H3=>tt σ3 H3 fun b H4 =>
   if b=true then te σ3 H4 fun v H5=>H5 D=some (.lst ys)∧ys.length < sizeLine∧∃ m',m' < m∧W (i + 1) m' (ys++[v]) σ3 (upd H5 D (.lst (ys++[v])))
   else H4 D=some (.lst ys)∧∃ m',m' < m∧W (i + 1) m' ys σ3 H4)
def tComp (own:List Str) (js:List Nat) (wi:TI) (g:TG) (tt:TT) (te:TE):TE:=fun σ H Q=>wi σ H fun J H1=>CompGo own js g tt te σ Q J H1
section
variable {X:Cx} {elt tg iter:Expr} {ifs:List Expr} {scope sc0:Scope} {pos:Pos} {own fr N:List Str} {js:List Nat} {wi:TI} {g:TG} {tt:TT} {te:TE}
theorem join_some {σ:L2.St} {js:List Nat} {k:Nat} {v:V} (e:(js.map fun j=>(σ[j]?).join)[k]?=some (some v)):∃ j,js[k]?=some j∧σ[j]?=some (some v):=by
 rw[List.getElem?_map] at e
 cases hj:js[k]? with
 | none=>rw[hj] at e;cases e
 | some j =>
  rw[hj] at e
  refine⟨j,rfl,?_⟩
  have e':(σ[j]?).join=some v:=by simpa using e
  cases hs:σ[j]? with
  | none=>rw[hs] at e';cases e'
  | some o=>rw[hs] at e';exact congrArg some e'
theorem inv_comp {pins:List (Addr × Obj)} {σ:L2.St} {H3:Hp} {s3:Shared} {fp:List Addr} {h4:Heap} {t4:Nat} {m4:Str->Option Value}
  (hN:X.N=N) (hsc:X.env.scope=sc0) (hok:compOk N sc0 scope fr js=true) (I:Inv X pins σ H3 s3) (hf:∀ b ∈ fp,FpOk X pins H3 b) (hlt:∀ b ∈ fp,b < s3.heap.objs.size)
  (k:∀ b o,s3.heap.get? b=some o->h4.get? b=some o) (hns:h4.Ns s3.heap.objs.size m4):Inv (cxComp X own fr scope fp pins s3 H3) [] (start3 own js σ) H3 { s3 with heap:=h4,toks:=t4 }:=by
 subst hN hsc
 unfold compOk at hok
 simp only [Bool.and_eq_true,decide_eq_true_eq,List.all_eq_true] at hok
 obtain⟨⟨⟨hk,hall⟩,hlen⟩,hfr⟩:=hok
 have hfree:∀ y ∈ scope.names,y.2=.free->∃ c,X.env.cells.lookup y.1=some c:=fun y hy e=>by
  have q:=(hall y hy).1.2
  simp only [Bool.or_eq_true,decide_eq_true_eq] at q
  rcases q with (q | q) | q
  ·exact absurd e q
  ·exact I.ok.has y.1 (.inl q)
  ·exact I.ok.has y.1 (.inr q)
 have hcl:∀ x c,(clOf X.env.cells scope.names []).lookup x=some c->X.env.cells.lookup x=some c:=fun x c e=>by
  rcases clOf_mem (PySem.mem_of_lookup e) with z | ⟨z1,z2⟩
  ·exact absurd z (by simp)
  ·obtain⟨c',hc'⟩:=hfree _ z1 rfl
   have hc'':X.env.cells.lookup x=some c':=hc'
   have z2':c=(X.env.cells.lookup x).getD 0:=z2
   rw[hc''] at z2' ⊢
   simp at z2'
   rw[z2']
 have hasC:∀ x,(x,NameKind.free) ∈ scope.names->∃ c,(clOf X.env.cells scope.names []).lookup x=some c:=fun x hx=>by
  obtain⟨c,hc⟩:=clOf_has (cells:=X.env.cells) (cs:=[]) (.inl hx)
  cases q:(clOf X.env.cells scope.names []).lookup x with
  | some c'=>exact⟨c',rfl⟩
  | none =>
   have:∀ (l:List (Str × Addr)),(x,c) ∈ l->l.lookup x≠none:=fun l=>by
    induction l with
    | nil=>intro z;cases z
    | cons p r ih =>
     intro z
     obtain⟨p1,p2⟩:=p
     rw[List.lookup_cons]
     rcases List.mem_cons.mp z with z | z
     ·cases z
      simp
     ·split
      ·simp
      ·exact ih z
   exact absurd q (this _ hc)
 have hcell:∀ y ∈ scope.names,y.2≠.cell:=fun y hy=>(hall y hy).1.1
 have sz:X.base.objs.size≤s3.heap.objs.size:=Nat.le_trans I.ok.bsz I.sz
 refine⟨⟨I.ok.mod,hk,I.ok.glob,I.ok.blt,Nat.le_refl _,fun x y c e1 e2=>I.ok.inj x y c (hcl x c e1) (hcl y c e2),fun x hx=>hasC x (of_relabel hcell hx),fun x c z=>absurd z (by simp [cxComp]),
  I.ok.hd,I.ok.frames,.inl rfl,fun b hb=>⟨Nat.ne_of_lt (hlt b hb),fun x c e=>(hf b hb).2.2.2.2.1 x c (hcl x c e)⟩,I.bs,sz,fun b o e hb=>?_,fun b hb z=>?_,I.stack,I.stkFree⟩,
  rfl,I.bare,Un.kept k,⟨m4,hns,fun i x v e1 e2 e3=>?_⟩,fun x c e=>?_,I.hok.fresh (Nat.le_refl _),fun x c e=>I.freeC x c (hcl x c e),fun p hp=>?_,I.hok.kept k,?_⟩
 ·obtain⟨_,_,_,f3,_⟩:=hf b hb
  rcases f3 with f3 | f3
  ·exact I.ok.noex b o e f3
  ·exact absurd (Nat.lt_of_lt_of_le (Heap.lt_size e) (Nat.le_trans I.ok.bsz f3)) (Nat.lt_irrefl _)
 ·obtain⟨_,f1,f2,_⟩:=hf b hb
  rcases List.mem_cons.mp (I.stkSub b z) with z | z
  ·exact f1 z
  ·exact f2 z
 ·have e2':(List.replicate own.length (none:Option V)++js.map fun j=>(σ[j]?).join)[i]?=some (some v):=e2
  have e1':(own++fr)[i]?=some x:=e1
  by_cases hi:i < own.length
  ·rw[List.getElem?_append_left (by simpa using hi),List.getElem?_replicate,if_pos hi] at e2'
   cases e2'
  ·rw[List.getElem?_append_right (by simpa using hi),List.length_replicate] at e2'
   rw[List.getElem?_append_right (by omega)] at e1'
   obtain⟨j,hj,hv⟩:=join_some e2'
   have hz:(fr.zip js)[i - own.length]?=some (x,j):=by
    rw[List.getElem?_zip_eq_some]
    exact⟨e1',hj⟩
   have q:=hfr _ (List.mem_of_getElem? hz)
   obtain⟨⟨q1,q2⟩,q3⟩:=q
   have q3'':X.env.scope.names.lookup x=some .cell∨X.env.scope.names.lookup x=some .free:=by simpa using q3
   have q3':X.env.kindOf x=some .cell∨X.env.kindOf x=some .free:=q3''
   obtain⟨m,hn,hl⟩:=I.loc
   obtain⟨u,r,l⟩:=hl j x v q1 hv (q3'.elim (fun z=>.inr (.inl z)) fun z=>.inr (.inr z))
   refine⟨u,r,.inr ⟨look_relabel_free q2,?_⟩⟩
   rcases l with ⟨z,_⟩ | ⟨_,c,hc,hcellv⟩
   ·rcases q3' with w | w <;> (rw[z] at w;cases w)
   ·obtain⟨c',hc'⟩:=hasC x (PySem.mem_of_lookup q2)
    have e:=hcl x c' hc'
    rw[hc] at e
    cases e
    obtain⟨o,ho,hd⟩:=hcellv
    exact⟨c,hc',o,k c o ho,hd⟩
 ·obtain⟨v,o,ho,hd⟩:=I.cell x c (hcl x c e)
  exact⟨v,o,k c o ho,hd⟩
 ·have hp':p ∈ X.pn++pins:=by
   have:p ∈ (X.pn++pins)++([]:List (Addr × Obj)):=hp
   simpa using this
  obtain⟨a,b,c,d,f⟩:=I.pin p hp'
  refine⟨k _ _ a,b,Nat.ne_of_lt (Heap.lt_size a),fun z=>?_,f⟩
  rcases List.mem_cons.mp (I.stkSub p.1 z) with z | z
  ·exact c z
  ·exact d z
 ·show (List.replicate own.length (none:Option V)++js.map fun j=>(σ[j]?).join).length=(own++fr).length
  simp [hlen]
theorem comp_core {pins:List (Addr × Obj)} {s:Shared} {σ:L2.St} {H:Hp} {Q:VK} {use:Option (Value->Sem Unit)} {Qo:Value->Shared->Prop} {cpos:Pos}
  (hc:X.calm=true) (hi:PI X tg iter wi) (hg:∀ fp pins s3 H3,PG (cxComp X own fr scope fp pins s3 H3) tg g) (ht:∀ fp pins s3 H3,PTs (cxComp X own fr scope fp pins s3 H3) ifs tt)
  (he:∀ fp pins s3 H3,PE (cxComp X own fr scope fp pins s3 H3) elt te) (hok:compOk N sc0 scope fr js=true) (hN:X.N=N) (hsc:X.env.scope=sc0)
  (hs:∀ x,foldedSetIterable iter X.env x=pure x) (I:Inv X pins σ H s) (h:tComp own js wi g tt te σ H Q)
  (fin:∀ (C D:Addr) (s6:Shared) (H6:Hp) (m6:Str->Option Value),Inv X pins σ H6 s6->FpOk X pins H6 C->s6.heap.Ns C m6->Q (.ref D) H6->compPost (model X.prog X.w) X.A X.xe use Qo (.ref D) C (.ok .next) s6) :
  wpAny (model X.prog X.w) X.A (comprehension (.ListComp elt [⟨tg,iter,ifs,0⟩] scope pos) scope X.env cpos (newList []) false (eval iter X.env) use) Qo X.xe s:=by
 have hok':=hok
 unfold compOk at hok'
 simp only [Bool.and_eq_true,decide_eq_true_eq,List.all_eq_true] at hok'
 obtain⟨⟨⟨hk,hall⟩,hlen⟩,hfr⟩:=hok'
 have hcell:∀ y ∈ scope.names,y.2≠.cell:=fun y hy=>(hall y hy).1.1
 have hloc:∀ y ∈ scope.names,y.2=.local->scope.names.lookup y.1=some .local:=fun y hy e=>by
  have q:=(hall y hy).2
  simp only [Bool.or_eq_true,decide_eq_true_eq] at q
  rcases q with q | q
  ·exact absurd e q
  ·exact q
 have hfree:∀ y ∈ scope.names,y.2=.free->∃ c,X.env.cells.lookup y.1=some c:=fun y hy e=>by
  have q:=(hall y hy).1.2
  simp only [Bool.or_eq_true,decide_eq_true_eq] at q
  rw[← hsc] at q
  rcases q with (q | q) | q
  ·exact absurd e q
  ·exact I.ok.has y.1 (.inl q)
  ·exact I.ok.has y.1 (.inr q)
 refine wpAny_comprehension_free (use:=use) rfl hs (closure_is hfree) hk hloc (thn (hi pins s σ H _ I h) fun v s1 h1=>thn h1 fun itv s2 h2=>?_)
 obtain⟨it,fp,tn,J,H2,e,I2,T,st2,f2,rd⟩:=h2
 subst e
 have hD2:H2 s2.heap.objs.size=none:=I2.fresh
 obtain⟨W,⟨m0,w0⟩,turn⟩:=rd s2.heap.objs.size hD2
  -- the new list
 refine wpAny_newList ?_ (Nat.zero_le _)
 have I3:Inv X pins σ (upd H2 s2.heap.objs.size (.lst [])) { s2 with heap:=s2.heap.push { cls:=.type "list",data:=.seq ([]:List Value).toArray } }:=I2.lnew (t':=s2.toks) .nil (Nat.zero_le _)
 generalize hs3:({ s2 with heap:=s2.heap.push { cls:=.type "list",data:=.seq ([]:List Value).toArray } }:Shared)=s3 at I3
 generalize hD:s2.heap.objs.size=D at *
 have fpl:∀ b ∈ fp,b < D:=fun b hb=>by
  obtain⟨o,ho,_⟩:=T.obj _ _ st2 b hb
  rw[← hD];exact Heap.lt_size ho
 have k23:∀ b o,s2.heap.get? b=some o->s3.heap.get? b=some o:=fun b o e=>by rw[← hs3];exact Heap.get?_push_of_some _ e
 have hD3:s3.heap.objs.size=D + 1:=by rw[← hs3,← hD];exact Heap.size_push ..
 have f3:∀ b ∈ fp,FpOk X pins (upd H2 D (.lst [])) b:=fun b hb=>by
  obtain⟨f0,f⟩:=f2 b hb
  exact⟨by rw[upd_ne (Nat.ne_of_lt (fpl b hb))];exact f0,f⟩
 refine wpAny_newFunctionEnv hcell (by intro y hy;simp at hy) (fun h4 hns4 hsb4=>?_) hk
 have k34:∀ b o,s3.heap.get? b=some o->h4.get? b=some o:=fun b o e=>hsb4.extBut b o (Nat.ne_of_lt (Heap.lt_size e)) (Heap.get?_push_of_some _ e)
 have I4:=inv_comp (own:=own) (t4:=s3.toks + ([]:List (Str × Value)).length) hN hsc hok I3 f3 (fun b hb=>Nat.lt_of_lt_of_le (fpl b hb) (by rw[hD3];exact Nat.le_succ _)) k34 hns4
 have tn4:tn 0 h4:=T.keep 0 s2.heap h4 st2 fun b hb o e=>k34 b o (k23 b o e)
 have I4o:=I4.ok
 have fpS:∀ {H'':Hp},(∀ b ∈ fp,H'' b=none)->∀ b ∈ fp,FpOk (cxComp X own fr scope fp pins s3 (upd H2 D (.lst []))) [] H'' b:=fun hn b hb =>
  ⟨hn b hb,(I4o.exf b hb).1,I4o.exfs b hb,.inl hb,(I4o.exf b hb).2,fun p hp=>(f2 b hb).2.2.2.2.2 p (by
   have:p ∈ (X.pn++pins)++([]:List (Addr × Obj)):=hp
   simpa using this)⟩
 have loop : codeAny (model X.prog X.w) X.A (.compLoop (.ListComp elt [⟨tg, iter, ifs, 0⟩] scope pos) 0 (.ref it) (.ref D) (compEnvC scope (clOf X.env.cells scope.names []) s3.heap.objs.size X.env))
     (compPost (model X.prog X.w) X.A X.xe use Qo (.ref D) s3.heap.objs.size) { s3 with heap:=h4,toks:=s3.toks + ([]:List (Str × Value)).length }:=by
  refine comp_turns (fun n s'=>∃ i ys σ' H',Inv (cxComp X own fr scope fp pins s3 (upd H2 D (.lst []))) [] σ' H' s'∧tn i s'.heap∧(∀ b ∈ fp,H' b=none)∧H' D=some (.lst ys)∧W i n ys σ' H')
   ?step m0 ⟨0,[],_,_,I4,tn4,fun b hb=>(f3 b hb).1,upd_same,w0⟩
  rintro n s5 ⟨i,ys,σ5,H5,I5,tn5,fr5,d5,w5⟩
  rcases turn i n ys σ5 H5 w5 d5 with ⟨stop,q⟩ | ⟨go,stp⟩
  ·refine thn (T.done (cxComp X own fr scope fp pins s3 (upd H2 D (.lst []))) rfl rfl rfl hc i [] s5 σ5 H5 Fls I5 (fpS fr5) tn5 stop) fun r s6 ⟨hr,I6⟩=>.inl ⟨hr,?_⟩
   obtain⟨m6,hn6,_⟩:=id I6.loc
   have u1:Un (frs X.stack) fp H2 H5 s2.heap s6.heap:=(Un.laid k23 (Nat.le_of_eq hD) hD2).trans I6.base
   have fC:H5 s3.heap.objs.size=none:=I6.free
   have IX:Inv X pins σ H5 s6:=I2.call' (s':=s6) (ch:=fp) (by
    have:=I6.os
    rw[← hs3] at this
    exact this) u1 I6.hok I6.bare fun b hb=>by
     obtain⟨_,g1,_,g3,g4,g5⟩:=f2 b hb
     exact⟨g3,g1,g4,g5⟩
   exact fin s3.heap.objs.size D s6 H5 m6 IX (I2.fpOk (by rw[hD3,hD];exact Nat.le_succ _) fC) hn6 q
  ·refine thn (T.item (cxComp X own fr scope fp pins s3 (upd H2 D (.lst []))) rfl rfl rfl hc i [] s5 σ5 H5 Fls I5 (fpS fr5) tn5 go) fun r s6 ⟨u,hr,h6⟩=>.inr ⟨u,hr,thn h6 fun _ s7 ⟨x,H7,I7,r7,y7,tn7,fr7⟩=>?_⟩
   have I7':=I7.pinned (fpS fr7) (T.obj _ _ tn7)
   refine thn (hg fp pins s3 (upd H2 D (.lst [])) _ s7 σ5 H7 x u _ I7' r7 (stp x H7 y7)) fun _ s8 ⟨σ8,H8,I8,q8⟩=>?_
   refine thn (ht fp pins s3 (upd H2 D (.lst [])) _ s8 σ8 H8 _ I8 q8) fun ok s9 ⟨H9,I9,q9⟩=>?_
   have back:∀ {σ':L2.St} {H':Hp} {s':Shared},Inv (cxComp X own fr scope fp pins s3 (upd H2 D (.lst []))) ([]++pinsAt fp s7.heap) σ' H' s'->tn (i + 1) s'.heap∧∀ b ∈ fp,H' b=none:=fun {σ' H' s'} J=>by
    refine⟨T.keep _ _ _ tn7 fun b hb o e=>(J.pin (b,o) (List.mem_append_right _ (List.mem_append_right _ (mem_pinsAt hb e)))).1,fun b hb=>?_⟩
    obtain⟨o,e,_⟩:=T.obj _ _ tn7 b hb
    exact (J.pin (b,o) (List.mem_append_right _ (List.mem_append_right _ (mem_pinsAt hb e)))).2.1
   cases ok with
   | false =>
    rw[if_neg Bool.false_ne_true] at q9
    obtain⟨d9,m',hm,w9⟩:=q9
    rw[if_neg Bool.false_ne_true]
    exact⟨m',hm,i + 1,ys,σ8,H9,I9.unpinned,(back I9).1,(back I9).2,d9,w9⟩
   | true =>
    rw[if_pos rfl] at q9 ⊢
    refine thn (he fp pins s3 (upd H2 D (.lst [])) _ s9 σ8 H9 _ I9 q9) fun xv s10 ⟨v,H10,I10,r10,d10,len,m',hm,w10⟩=>?_
    refine thn (mt_append (X:=cxComp X own fr scope fp pins s3 (upd H2 D (.lst []))) _ s10 σ8 H10 (.ref D) [v] (.ref D) [xv] (fun _ H'=>H'=upd H10 D (.lst (ys++[v]))) I10 rfl (.cons r10 .nil) ⟨D,ys,v,rfl,rfl,d10,len,rfl⟩) fun _ s11 ⟨_,H11,I11,_,e11⟩=>?_
    subst e11
    exact⟨m',hm,i + 1,ys++[v],σ8,_,I11.unpinned,(back I11).1,(back I11).2,upd_same,w10⟩
 exact codeAny_compStart_list loop (T.self X.A 0 _ _ _ tn4 loop)
theorem pe_comp (hc:X.calm=true) (hi:PI X tg iter wi) (hg:∀ fp pins s3 H3,PG (cxComp X own fr scope fp pins s3 H3) tg g) (ht:∀ fp pins s3 H3,PTs (cxComp X own fr scope fp pins s3 H3) ifs tt)
  (he:∀ fp pins s3 H3,PE (cxComp X own fr scope fp pins s3 H3) elt te) (hok:compOk N sc0 scope fr js=true:=by decide +kernel) (hN:X.N=N:=by rfl) (hsc:X.env.scope=sc0:=by rfl)
  (hs:∀ x,foldedSetIterable iter X.env x=pure x:=by intro _;rfl):PE X (.ListComp elt [⟨tg,iter,ifs,0⟩] scope pos) (tComp own js wi g tt te):=by
 intro pins s σ H Q I h
 rw[eval_ListComp]
 refine comp_core hc hi hg ht he hok hN hsc hs I h fun C D s6 H6 m6 I6 f6 n6 q6=>⟨m6,n6,fun h7 sb=>⟨.ref D,H6,?_,rfl,q6⟩⟩
 obtain⟨f0,f1,_,f3,f4,f5⟩:=f6
 exact I6.turned (it:=C) (t':=s6.toks) (fun b o hb e=>sb.extBut b o hb e) f0 f1 f3 f4 f5
/-- name = [..], where the machine stores ahead of letting the block's names go -/
theorem ps_setcomp {i:Nat} {y:Str} {py spos:Pos} (hc:X.calm=true) (hi:PI X tg iter wi) (hg:∀ fp pins s3 H3,PG (cxComp X own fr scope fp pins s3 H3) tg g) (ht:∀ fp pins s3 H3,PTs (cxComp X own fr scope fp pins s3 H3) ifs tt)
  (he:∀ fp pins s3 H3,PE (cxComp X own fr scope fp pins s3 H3) elt te) (hNd:X.N.Nodup) (hy:X.N[i]?=some y) (hx:Loc X.env.scope y) (hok:compOk N sc0 scope fr js=true:=by decide +kernel) (hN:X.N=N:=by rfl) (hsc:X.env.scope=sc0:=by rfl)
  (hsw:swapsWith (.ListComp elt [⟨tg,iter,ifs,0⟩] scope pos) (some (.Name y py)) spos.line X.env=pure true:=by rfl) (hf:X.fn y=true∨X.env.scope.names.lookup y=some .local:=by first | exact .inl rfl | exact .inr rfl | assumption)
  (hs:∀ x,foldedSetIterable iter X.env x=pure x:=by intro _;rfl):PS X (.Assign [.Name y py] (.ListComp elt [⟨tg,iter,ifs,0⟩] scope pos) spos) (tAsg (tComp own js wi g tt te) (gName i)):=by
 intro pins s σ H D I h
 rw[exec_Assign_Name_used _ _ _ _ hsw]
 refine wpAny_bind (wpAny_standAt (wpAny_bind ?_))
 show wpAny _ _ (do let _ ← comprehension (.ListComp elt [⟨tg,iter,ifs,0⟩] scope pos) scope X.env _ (newList []) false (eval iter X.env) (some (assign (.Name y py) X.env))) _ _ s
 refine wpAny_bind (wpAny_mono (comp_core (use:=some (assign (.Name y py) X.env)) (Qo:=fun _ s'=>SP X pins D .next s') hc hi hg ht he hok hN hsc hs I h fun C L s6 H6 m6 I6 f6 n6 q6=>?_) (fun _ s' q=>wpAny_pure (wpAny_pure q)) fun _ _ z=>z)
 obtain⟨f0,f1,f2,f3,f4,f5⟩:=f6
 show wpAny _ _ (assign (.Name y py) X.env (.ref L)) _ _ s6
 refine wpAny_assign_Name (store_ok2 I6 hNd hy hx (v:=.ref L) rfl (fun s7 I7 ⟨a,sb,ha⟩=>?_) hf)
 have ne:C≠a:=by
  rcases ha with e | e
  ·rw[e];exact f1
  ·exact fun z=>f4 y a e z.symm
 refine⟨m6,n6.sameBut sb ne,fun h8 sb8=>⟨σ.set i (some (.ref L)),H6,?_,q6⟩⟩
 exact I7.turned (it:=C) (t':=s7.toks) (fun b o hb e=>sb8.extBut b o hb e) f0 f1 f3 f4 f5
end
end L3
namespace L3
open PySem PySem.Spec PyProof.Rows L2
section
variable {X:Cx} {pins:List (Addr × Obj)} {σ:L2.St} {H H':Hp} {s:Shared} {h':Heap} {ch:List Addr} {t':Nat}
/-- several own records have turned, the abstract heap has grown -/
theorem turnsTo (I:Inv X pins σ H s) (hf:∀ b ∈ ch,FpOk X pins H b) (k:∀ b o,b ∉ ch->s.heap.get? b=some o->h'.get? b=some o) (hH:∀ b u,H b=some u->H' b=some u)
  (hfree:∀ b o,s.heap.get? b=some o->H b=none->H' b=none) (hok:HOk X.prog X.w H' h'):Inv X pins σ H' { s with heap:=h',toks:=t' }:=by
 refine I.step (g':=s.gens) (d':=s.drawn) (ch:=ch) (fun b hb=>?_) (fun b o _ _ hc e _=>k b o hc e) (fun b o _ _ hc e _=>⟨o.slots,k b o hc e⟩) (fun b o _ e n=>hfree b o e n) (fun b o hc e=>⟨o,k b o hc e⟩)
  (fun b xs e=>hH _ _ e) (fun b o u e=>hH _ _ e) (fun b ps e=>⟨#[],by rw[hH _ _ e];simp⟩) (fun m hm=>?_) hok I.bare
 ·obtain⟨_,f1,_,f3,f4,f5⟩:=hf b hb
  exact⟨f3,f1,f4,f5⟩
 ·obtain⟨o,es,ep,ho,r⟩:=hm
  exact⟨o,es,ep,k _ o (fun z=>(hf _ z).2.1 rfl) ho,r⟩
theorem turns (I:Inv X pins σ H s) (hf:∀ b ∈ ch,FpOk X pins H b) (k:∀ b o,b ∉ ch->s.heap.get? b=some o->h'.get? b=some o):Inv X pins σ H { s with heap:=h',toks:=t' }:=by
 refine turnsTo I hf k (fun _ _ e=>e) (fun _ _ _ n=>n) fun b u e=>?_
 refine (I.hok b u e).stay (fun c v hc q=>k c v (fun z=>?_) q) (fun _ q=>q) fun _ _ q=>q
 have n:=(hf c z).1
 rcases hc with rfl | hc
 ·rw[n] at e;cases e
 ·rw[n] at hc;cases hc
theorem turnsTup {xs:List V} {its:List Value} {T:Addr} (I:Inv X pins σ H s) (hf:∀ b ∈ ch,FpOk X pins H b) (k:∀ b o,b ∉ ch->s.heap.get? b=some o->h'.get? b=some o) (hT:s.heap.objs.size≤T)
  (hz:xs.length≤sizeLine) (hv:Vals xs its) (ht:TupN h' T its.toArray):Inv X pins σ (upd H T (.tup xs)) { s with heap:=h',toks:=t' }:=by
 have fr:H T=none:=I.hok.fresh hT
 have ne:∀ b u,H b=some u->b≠T:=fun b u e=>ne_of_none e fr
 refine turnsTo I hf k (fun b u e=>by rw[upd_ne (ne b u e)];exact e) (fun b o e n=>by rw[upd_ne (Nat.ne_of_lt (Nat.lt_of_lt_of_le (Heap.lt_size e) hT))];exact n) fun b u e=>?_
 by_cases hb:b=T
 ·subst hb
  rw[upd_same] at e
  cases e
  exact⟨hz,its,hv,ht⟩
 ·rw[upd_ne hb] at e
  refine (I.hok b u e).stay (fun c v hc q=>k c v (fun z=>?_) q) (fun c q=>by rw[upd_ne (ne c _ q)];exact q) fun c ys q=>by rw[upd_ne (ne c _ q)];exact q
  have n:=(hf c z).1
  rcases hc with rfl | hc
  ·rw[n] at e;cases e
  ·rw[n] at hc;cases hc
end
def SqX (t:Bool) (K:PySem.W.Frag) (H:Hp) (a:Addr) (xs:List V):Prop:=if t=true then SqT K H a xs else SqL K H a xs
section
variable {X:Cx} {pins:List (Addr × Obj)} {σ:L2.St} {H:Hp} {s:Shared} {a:Addr} {xs ys:List V} {t:Bool}
theorem seqX (I:Inv X pins σ H s) (h:SqX t X.K H a xs):∃ its:List Value,Vals xs its∧Z3.SqAt t s.heap a its.toArray∧xs.length≤sizeLine:=by
 cases t with
 | true=>obtain⟨its,r,p,z⟩:=I.tuple (show SqT X.K H a xs from h);exact⟨its,r,p,z⟩
 | false=>obtain⟨its,r,p,z⟩:=I.list (show SqL X.K H a xs from h);exact⟨its,r,p.isList,z⟩
theorem seqX_inj (I:Inv X pins σ H s) (h:SqX t X.K H a xs) (h':SqX t X.K H a ys):xs=ys:=by
 cases t with
 | true=>exact I.tuple_inj h h'
 | false=>exact I.list_inj h h'
end
def Itz (t1 t2:Bool) (K:PySem.W.Frag) (l1 l2:Addr):It :=
 ⟨fun i H=>∃ xs ys x y,SqX t1 K H l1 xs∧SqX t2 K H l2 ys∧xs[i]?=some x∧ys[i]?=some y,
  fun i H v H'=>∃ T x y,H T=none∧v=.ref T∧H'=upd H T (.tup [x,y])∧(∀ xs,SqX t1 K H l1 xs->xs[i]?=some x)∧(∀ ys,SqX t2 K H l2 ys->ys[i]?=some y),
  fun i H=>∃ xs ys,SqX t1 K H l1 xs∧SqX t2 K H l2 ys∧(xs.length≤i∨ys.length≤i)⟩
theorem turn_zip {P:Program} {w:World} {K:PySem.W.Frag} {elts:List Expr} {kk:Nat} {pos:Pos} {t1 t2:Bool} {z TI TO i1 i2 l1 l2:Addr} (D:Z3.Ap z TI TO i1 i2) (o1:Z3.Out z TI TO i1 i2 l1) (o2:Z3.Out z TI TO i1 i2 l2) :
  Turn P w K (.Tuple elts kk pos) (Itz t1 t2 K l1 l2) [z,TI,TO,i1,i2] z (fun i h=>Z3.Zd t1 t2 h z TI TO i1 i2 l1 l2 .none i) where
 mem:=by simp
 obj:=fun i h st b hb=>by
  obtain⟨q1,q2,⟨_,_,q3⟩,q4,q5⟩:=st
  obtain⟨o4,n4,e4,_,d4⟩:=q4.obj
  obtain⟨o5,n5,e5,_,d5⟩:=q5.obj
  simp only [List.mem_cons,List.not_mem_nil,or_false] at hb
  rcases hb with rfl | rfl | rfl | rfl | rfl
  ·exact⟨_,q1,fun v q=>by cases q⟩
  ·exact⟨_,q2,fun v q=>by cases q⟩
  ·exact⟨_,q3,fun v q=>by cases q⟩
  ·exact⟨_,e4,fun v q=>by rw[d4] at q;cases q⟩
  ·exact⟨_,e5,fun v q=>by rw[d5] at q;cases q⟩
 keep:=fun i h h' st k=>by
  obtain⟨q1,q2,⟨a,b,q3⟩,q4,q5⟩:=st
  exact⟨k z (by simp) _ q1,k TI (by simp) _ q2,⟨a,b,k TO (by simp) _ q3⟩,q4.to fun o e=>k i1 (by simp) o e,q5.to fun o e=>k i2 (by simp) o e⟩
 item:=by
  intro X hP hw hK hc i pins s σ H E I hf st hg
  subst hP hw hK
  obtain⟨xs,ys,x,y,q1,q2,hx,hy⟩:=hg
  obtain⟨its1,r1,p1,z1⟩:=seqX I q1
  obtain⟨its2,r2,p2,z2⟩:=seqX I q2
  obtain⟨u1,hu1,ru1⟩:=r1.get hx
  obtain⟨u2,hu2,ru2⟩:=r2.get hy
  have hf4:∀ b ∈ [z,TO,i1,i2],FpOk X pins H b:=fun b hb=>hf b (by
   simp only [List.mem_cons,List.not_mem_nil,or_false] at hb ⊢
   rcases hb with rfl | rfl | rfl | rfl <;> simp)
  refine Z3.next_more D o1 o2 st p1 p2 (x:=u1) (y:=u2) (by simpa using hu1) (by simpa using hu2) fun h' zd tp sz kp=>?_
  have I1 : Inv X pins σ (upd H s.heap.objs.size (.tup [x, y])) { s with heap := h', toks := s.toks } := turnsTup (ch := [z, TO, i1, i2]) (its := [u1, u2]) I hf4 (fun b o hb e => by
      simp only [List.mem_cons,List.not_mem_nil,or_false,not_or] at hb
      exact kp b o hb.1 hb.2.1 hb.2.2.1 hb.2.2.2 e) (Nat.le_refl _) (by show 2≤sizeLine;rw[sizeLine_eq];decide) (.cons ru1 (.cons ru2 .nil)) ⟨_,tp,rfl,⟨_,rfl⟩,rfl⟩
  have fr:H s.heap.objs.size=none:=I.fresh
  have zne:∀ b ∈ [z,TI,TO,i1,i2],b≠s.heap.objs.size:=fun b hb e=>by
   have key:∃ o,s.heap.get? b=some o:=by
    obtain⟨q1,q2,⟨_,_,q3⟩,q4,q5⟩:=st
    obtain⟨o4,n4,e4,_,d4⟩:=q4.obj
    obtain⟨o5,n5,e5,_,d5⟩:=q5.obj
    simp only [List.mem_cons,List.not_mem_nil,or_false] at hb
    rcases hb with rfl | rfl | rfl | rfl | rfl
    ·exact⟨_,q1⟩
    ·exact⟨_,q2⟩
    ·exact⟨_,q3⟩
    ·exact⟨_,e4⟩
    ·exact⟨_,e5⟩
   obtain⟨o,ho⟩:=key
   exact absurd (Heap.lt_size ho) (by rw[e];exact Nat.lt_irrefl _)
  refine⟨_,rfl,wpAny_letOwnedTupleGo_zip zd.z fun h2 zd2 sb=>?_⟩
  obtain⟨f0,f1,f2,f3,f4,f5⟩:=hf z (by simp)
  have I2:Inv X pins σ (upd H s.heap.objs.size (.tup [x,y])) { s with heap:=h2,toks:=s.toks }:=Inv.turned (s:={ s with heap:=h',toks:=s.toks }) (it:=z) (t':=s.toks) I1 (fun b o hb e=>sb.extBut b o hb e) (by rw[upd_ne (zne z (by simp))];exact f0) f1 f3 f4 f5
  refine⟨.ref s.heap.objs.size,_,I2,rfl,⟨_,x,y,fr,rfl,rfl,fun zs hz=>by rw[seqX_inj I hz q1];exact hx,fun zs hz=>by rw[seqX_inj I hz q2];exact hy⟩,?_,fun b hb=>by rw[upd_ne (zne b hb)];exact (hf b hb).1⟩
  obtain⟨_,w2,⟨a3,b3,w3⟩,w4,w5⟩:=zd
  exact⟨zd2,sb.extBut _ _ D.n1 w2,⟨a3,b3,sb.extBut _ _ D.n2 w3⟩,w4.to fun o e=>sb.extBut _ _ D.n3 e,w5.to fun o e=>sb.extBut _ _ D.n4 e⟩
 done:=by
  intro X hP hw hK hc i pins s σ H E I hf st hg
  subst hP hw hK
  obtain⟨xs,ys,q1,q2,hx⟩:=hg
  obtain⟨its1,r1,p1,z1⟩:=seqX I q1
  obtain⟨its2,r2,p2,z2⟩:=seqX I q2
  have l1:=r1.length
  have l2:=r2.length
  have hf4:∀ b ∈ [z,TO,i1,i2],FpOk X pins H b:=fun b hb=>hf b (by
   simp only [List.mem_cons,List.not_mem_nil,or_false] at hb ⊢
   rcases hb with rfl | rfl | rfl | rfl <;> simp)
  refine Z3.next_stop (I.ok.hd hc) D o1 o2 st p1 p2 (hx.elim (fun q=>.inl (by simp;omega)) fun q=>.inr (by simp;omega)) fun h' kp=>⟨rfl,?_⟩
  exact turns (ch:=[z,TO,i1,i2]) (t':=s.toks) I hf4 fun b o hb e=>by
   simp only [List.mem_cons,List.not_mem_nil,or_false,not_or] at hb
   exact kp b o hb.1 hb.2.1 hb.2.2.1 hb.2.2.2 e
 self:=fun _ _ _ _ _ st h=>wpAny_pyIter_zip st.z h
def iZip (t1 t2:Bool) (K:PySem.W.Frag) (ta:TA):TI:=fun σ H R=>ta σ H fun vs H1=>∃ l1 l2,vs=[.ref l1,.ref l2]∧(∃ xs,SqX t1 K H1 l1 xs)∧(∃ ys,SqX t2 K H1 l2 ys)∧R (Itz t1 t2 K l1 l2) H1
theorem pi_zip {X:Cx} {elts:List Expr} {kk:Nat} {pos':Pos} (t1 t2:Bool) {a b:Expr} {ta:TA} {p pos:Pos} (hg:Gl X "zip") (hm:X.mg "zip"=none) (ha:PA X [a,b] ta)
  (hs:starEach [a,b] X.env=[(false,eval a X.env),(false,eval b X.env)]:=by rfl) (hs2:starEach [b] X.env=[(false,eval b X.env)]:=by rfl) :
  PI X (.Tuple elts kk pos') (.Call (.Name "zip" p) [a,b] [] pos) (iZip t1 t2 X.K ta):=by
 intro pins s σ H R I h
 refine Call_ (ld_blt I hg hm boot_zip (PyProof.Rows.callWith_type1 (thn (ha pos pins s σ H _ I h) fun us s1 ⟨vs,H1,I1,r1,q1⟩=>?_) (by rw[hs,hs2]) (by rw[hs2];rfl)))
 obtain⟨l1,l2,e,⟨xs,qx⟩,⟨ys,qy⟩,q⟩:=q1
 subst e
 cases r1 with
 | cons r rr =>
  cases rr with
  | cons r' rr =>
   cases rr
   cases r
   cases r'
   obtain⟨its1,r1,p1,z1⟩:=seqX I1 qx
   obtain⟨its2,r2,p2,z2⟩:=seqX I1 qy
   have lt:∀ {t:Bool} {l:Addr} {xs:Array Value},Z3.SqAt t s1.heap l xs->l < s1.heap.objs.size:=fun {t l xs} q=>by
    cases t with
    | true=>obtain⟨o,e,_⟩:=(show s1.heap.IsTuple l xs from q);exact Heap.lt_size e
    | false=>obtain⟨o,e,_⟩:=(show s1.heap.IsList l xs from q);exact Heap.lt_size e
   refine Z3.call_zip p1 p2 fun h' zd sz kp=>wpAny_pyIter_zip zd.z ?_
   have I2:Inv X pins σ H1 { s1 with heap:=h',toks:=s1.toks }:=I1.kept (t':=s1.toks) kp
   refine⟨s1.heap.objs.size + 4,[s1.heap.objs.size + 4,s1.heap.objs.size + 2,s1.heap.objs.size + 3,s1.heap.objs.size,s1.heap.objs.size + 1],_,_,H1,rfl,I2,turn_zip (Z3.ap_new _) (Z3.out_new (lt p1)) (Z3.out_new (lt p2)),zd,fun b hb=>?_,q⟩
   have hb':s1.heap.objs.size≤b:=by
    simp only [List.mem_cons,List.not_mem_nil,or_false] at hb
    rcases hb with rfl | rfl | rfl | rfl | rfl
    ·exact Nat.le_add_right _ _
    ·exact Nat.le_add_right _ _
    ·exact Nat.le_add_right _ _
    ·exact Nat.le_refl _
    ·exact Nat.le_add_right _ _
   exact I1.fpOk hb' (I1.hok.fresh hb')
section
variable {X:Cx} {pos:Pos}
def gLst (K:PySem.W.Frag) (n:Nat) (t:TGs):TG:=fun v σ H Q=>∃ a xs,v=.ref a∧SqL K H a xs∧xs.length=n∧t xs σ H Q
theorem pg_lst {es:List Expr} {k:Nat} {t:TGs} {n:Nat} (hc:X.calm=true) (h:PGs X es t) (hn:(assignEach es X.env).length=n:=by rfl) (hst:(assignEach es X.env).findIdx? (·.1)=none:=by rfl):PG X (.Tuple es k pos) (gLst X.K n t):=by
 intro pins s σ H v u Q I r hw
 obtain⟨a,xs,e1,hq,hl,hw⟩:=hw
 subst e1
 cases r
 obtain⟨its,rv,ht,hz⟩:=I.list hq
 refine U3.assign_tuple_lst (I.ok.hd hc) ht.isList (by simp [hn,← hl,rv.length]) hst fun h' hx=>?_
 have I1:Inv X pins σ H { s with heap:=h' }:=I.kept (t':=s.toks) fun b o e=>hx b o (Nat.ne_of_lt (Heap.lt_size e)) e
 exact h pins _ σ H xs _ Q I1 (by simpa using rv) hw
theorem truth_bl {prog:Program} {w:World} {A:Around} {bs:List Bool} {its:List Value} (r:Vals (bs.map V.bl) its):TruthOf prog w A (fun i v=>its.toArray[i]?=some v) (fun i=>bs.getD i true):=by
 intro i v s Q E hP hq
 have hP':its[i]?=some v:=by simpa using hP
 have hl:=r.length
 have hi:i < its.length:=(List.getElem?_eq_some_iff.mp hP').1
 have hb:i < bs.length:=by rw[List.length_map] at hl;omega
 obtain⟨u,hu,ru⟩:=r.get (i:=i) (x:=V.bl bs[i]) (by rw[List.getElem?_map,List.getElem?_eq_getElem hb];rfl)
 rw[hP'] at hu
 cases hu
 have e:v=Value.bool bs[i]:=ru
 subst e
 have e2:bs.getD i true=bs[i]:=by simp [List.getD,hb]
 have hq':Q (bs.getD i true) s:=hq
 rw[e2] at hq'
 exact wpAny_truthy_bool hq'
theorem all_range (bs:List Bool):((List.range bs.length).all fun i=>bs.getD i true)=bs.all id:=by
 rw[Bool.eq_iff_iff,List.all_eq_true,List.all_eq_true]
 constructor
 ·intro h b hb
  obtain⟨i,hi,e⟩:=List.getElem_of_mem hb
  have:=h i (List.mem_range.mpr hi)
  rw[← e]
  simpa [List.getD,hi] using this
 ·intro h i hi
  have hi':=List.mem_range.mp hi
  have:=h bs[i] (List.getElem_mem hi')
  simpa [List.getD,hi'] using this
theorem call_all (hh:X.calm=true):CallR X (.builtin "all") (fun xs H Q=>∃ (p:Addr) (bs:List Bool),xs=[.ref p]∧SqL X.K H p (bs.map V.bl)∧Q (.bl (bs.all id)) H):=by
 intro pins s σ H xs us Q I r h
 obtain⟨p,bs,rfl,hq,q⟩:=h
 obtain⟨u,rfl,rx⟩:=vals1 r
 cases rx
 obtain⟨its,rv,pl,hz⟩:=I.list hq
 have hl:=rv.length
 have lt:p≠s.heap.objs.size:=by obtain⟨o,e,_⟩:=pl.isList;exact Nat.ne_of_lt (Heap.lt_size e)
 refine call_all_walk (wpAny_pyIter_list pl.isList ?_)
 have W:=Walks.list (prog:=X.prog) (w:=X.w) (A:=X.A.in1) (show X.A.in1.handled=none from I.ok.hd hh) s.heap.objs.size p lt its.toArray
 refine⟨s.heap.objs.size,_,_,_,_,_,_,rfl,W,⟨⟨_,Heap.get?_push_size _ rfl,rfl,rfl⟩,pl.isList.push _⟩,truth_bl rv,fun h' tk hk=>?_⟩
 refine⟨.bl (bs.all id),H,I.kept (t':=tk) fun b o e=>hk b o (fun z=>?_) (Heap.get?_push_of_some _ e),?_,q⟩
 ·have:b=s.heap.objs.size:=by simpa using z
  exact absurd (Heap.lt_size e) (by rw[this];exact Nat.lt_irrefl _)
 ·show Value.bool _=Value.bool _
  have e1:its.toArray.size=bs.length:=by rw[List.size_toArray,← hl,List.length_map]
  rw[e1,all_range]
theorem call_isi {n:String}:CallR X (.builtin "isinstance") (fun xs H Q=>∃ x t b,xs=[x,.ty n]∧TyOf X.K H x t∧PySem.W.kitOne X.K t (.type n)=some b∧Q (.bl b) H):=by
 intro pins s σ H xs us Q I r h
 obtain⟨x,t,b,rfl,ty,e,q⟩:=h
 obtain⟨u,c,rfl,ru,rc⟩:=r.two
 cases rc
 exact isinst_ok I ru ty e fun tk=>⟨.bl b,H,I.tok tk,rfl,q⟩
def tChain3 (r r' r'':R2) (ta tb tc td:TE):TE:=fun σ H Q=>ta σ H fun x H1=>tb σ H1 fun y H2=>r x y H2 fun z H3=>∃ k,z=.bl k ∧
 (if k=true then tc σ H3 fun y' H4=>r' y y' H4 fun z' H5=>∃ k',z'=.bl k'∧(if k'=true then td σ H5 fun y'' H6=>r'' y' y'' H6 Q else Q (.bl false) H5) else Q (.bl false) H3)
variable {a b c d:Expr} {ta tb tc td:TE}
theorem pe_chain3 {o1 o2 o3:CmpOp} {r r' r'':R2} (h1:OpR X (compareOp o1) r) (h2:OpR X (compareOp o2) r') (h3:OpR X (compareOp o3) r'') (ha:PE X a ta) (hb:PE X b tb) (hc:PE X c tc) (hd:PE X d td)
  (hm:lastMarks [o1,o2,o3] [b,c,d]=false:=by with_unfolding_all rfl):PE X (.Compare a [o1,o2,o3] [b,c,d] pos) (tChain3 r r' r'' ta tb tc td):=by
 intro pins s σ H Q I h
 refine Compare_chain (thn (ha pins s σ H _ I h) fun v s1 ⟨x,H1,I1,r1,q1⟩=>chain_link (thn (hb pins s1 σ H1 _ I1 q1) fun u s2 ⟨y,H2,I2,r2,q2⟩ =>
  thn (h1 pins s2 σ H2 x y v u _ I2 r1 r2 q2) fun e s3 ⟨z,H3,I3,r3,k,ek,q3⟩=>?_)) hm
 subst ek
 cases r3
 refine wpAny_truthy_bool ?_
 cases k with
 | false=>exact ite_ff ⟨.bl false,H3,I3,rfl,q3⟩
 | true =>
  refine ite_tt (chain_link (thn (hc pins s3 σ H3 _ I3 q3) fun u' s4 ⟨y',H4,I4,r4,q4⟩=>thn (h2 pins s4 σ H4 y y' u u' _ I4 r2 r4 q4) fun e s5 ⟨z',H5,I5,r5,k',ek,q5⟩=>?_))
  subst ek
  cases r5
  refine wpAny_truthy_bool ?_
  cases k' with
  | false=>exact ite_ff ⟨.bl false,H5,I5,rfl,q5⟩
  | true=>exact ite_tt (chain_last (thn (hd pins s5 σ H5 _ I5 q5) fun w' s6 ⟨y'',H6,I6,r6,q6⟩=>h3 pins s6 σ H6 y' y'' u' w' Q I6 r4 r6 q6))
end
end L3
namespace L3
open PySem PySem.Spec PyProof.Rows L2
mutual
def Is (K:PySem.W.Frag) (H:Hp):PyData->V->Prop
 | .none,v=>v=.non
 | .bool b,v=>v=.bl b
 | .int i,v=>v=.int i
 | .str x,v=>v=.str x
 | .tuple ds,v=>∃ p vs,v=.ref p∧H p=some (.tup vs)∧IsAll K H ds vs
 | .list ds,v=>∃ p vs,v=.ref p∧H p=some (.lst vs)∧IsAll K H ds vs
 | .dict kvs,v=>kvs=[]∧∃ p,v=.ref p∧H p=some (.dK [])
def IsAll (K:PySem.W.Frag) (H:Hp):List PyData->List V->Prop
 | [],vs=>vs=[]
 | d::ds,vs=>∃ v r,vs=v::r∧Is K H d v∧IsAll K H ds r
end
section
variable {K:PySem.W.Frag} {H H':Hp}
mutual
theorem Is.same (e:Same H H'):∀ (d:PyData) {v:V},Is K H d v->Is K H' d v
 | .none,_,h=>h
 | .bool _,_,h=>h
 | .int _,_,h=>h
 | .str _,_,h=>h
 | .tuple ds,_,h=>let ⟨p,vs,q1,q2,q3⟩:=h;⟨p,vs,q1,e _ _ q2,IsAll.same e ds q3⟩
 | .list ds,_,h=>let ⟨p,vs,q1,q2,q3⟩:=h;⟨p,vs,q1,e _ _ q2,IsAll.same e ds q3⟩
 | .dict kvs,_,h=>let ⟨q0,p,q1,q2⟩:=h;⟨q0,p,q1,e _ _ q2⟩
theorem IsAll.same (e:Same H H'):∀ (ds:List PyData) {vs:List V},IsAll K H ds vs->IsAll K H' ds vs
 | [],_,h=>h
 | d::ds,_,h=>let ⟨v,r,q1,q2,q3⟩:=h;⟨v,r,q1,Is.same e d q2,IsAll.same e ds q3⟩
end
theorem IsAll.length:∀ {ds:List PyData} {vs:List V},IsAll K H ds vs->vs.length=ds.length
 | [],_,h=>by rw[show _=[] from h];rfl
 | d::ds,_,⟨v,r,q1,q2,q3⟩=>by rw[q1,List.length_cons,List.length_cons,IsAll.length q3]
theorem IsAll.get:∀ {ds:List PyData} {vs:List V} {i:Nat} {d:PyData},IsAll K H ds vs->ds[i]?=some d->∃ v,vs[i]?=some v∧Is K H d v
 | [],_,_,_,_,e=>by simp at e
 | d::ds,_,0,d',⟨v,r,q1,q2,q3⟩,e=>by
  have e':d=d':=by simpa using e
  subst e';subst q1;exact⟨v,rfl,q2⟩
 | d::ds,_,i + 1,_,⟨v,r,q1,q2,q3⟩,e=>by
  subst q1
  obtain⟨u,h1,h2⟩:=IsAll.get (i:=i) q3 (by simpa using e)
  exact⟨u,by simpa using h1,h2⟩
theorem IsAll.get':∀ {ds:List PyData} {vs:List V} {i:Nat} {v:V},IsAll K H ds vs->vs[i]?=some v->∃ d,ds[i]?=some d∧Is K H d v
 | [],_,i,v,h,e=>by rw[show _=[] from h] at e;simp at e
 | d::ds,_,0,v,⟨u,r,q1,q2,q3⟩,e=>by
  subst q1
  have e':u=v:=by simpa using e
  subst e';exact⟨d,rfl,q2⟩
 | d::ds,_,i + 1,v,⟨u,r,q1,q2,q3⟩,e=>by
  subst q1
  obtain⟨d',h1,h2⟩:=IsAll.get' (i:=i) q3 (by simpa using e)
  exact⟨d',by simpa using h1,h2⟩
theorem IsAll.of:∀ {ds:List PyData} {vs:List V},vs.length=ds.length->(∀ (i:Nat) (d:PyData) (v:V),ds[i]?=some d->vs[i]?=some v->Is K H d v)->IsAll K H ds vs
 | [],[],_,_=>rfl
 | [],_::_,h,_=>by simp at h
 | _::_,[],h,_=>by simp at h
 | d::ds,v::vs,h,q=>⟨v,vs,rfl,q 0 d v rfl rfl,IsAll.of (by simpa using h) fun i d' v' h1 h2=>q (i + 1) d' v' (by simpa using h1) (by simpa using h2)⟩
theorem IsAll.append:∀ {ds es:List PyData} {vs us:List V},IsAll K H ds vs->IsAll K H es us->IsAll K H (ds++es) (vs++us)
 | [],_,_,_,h,q=>by rw[show _=[] from h];exact q
 | d::ds,_,_,_,⟨v,r,q1,q2,q3⟩,q=>⟨v,r++_,by rw[q1];rfl,q2,IsAll.append q3 q⟩
theorem IsAll.ints (ns:List Int):IsAll K H (ns.map .int) (ns.map V.int):=by
 refine IsAll.of (by simp) fun i d v h1 h2=>?_
 rw[List.getElem?_map] at h1 h2
 cases e:ns[i]? with
 | none=>rw[e] at h1;cases h1
 | some n=>rw[e] at h1 h2;cases h1;cases h2;exact rfl
theorem IsAll.of_ints:∀ {ns:List Int} {vs:List V},IsAll K H (ns.map .int) vs->vs=ns.map V.int
 | [],_,h=>h
 | n::ns,_,⟨v,r,q1,q2,q3⟩=>by
  have e:v=.int n:=q2
  rw[q1,e,IsAll.of_ints q3];rfl
end
section
variable {X:Cx} {pins:List (Addr × Obj)} {σ:L2.St} {H:Hp} {s:Shared}
mutual
theorem reads_of (I:Inv X pins σ H s):∀ (d:PyData) {v:V} {u:Value},Is X.K H d v->RelV v u->∃ as,Reads s.heap u d as
 | .none,_,_,h,r=>by
  have e:_=V.non:=h
  subst e;cases r;exact⟨_,.none⟩
 | .bool b,_,_,h,r=>by
  have e:_=V.bl b:=h
  subst e;cases r;exact⟨_,.bool b⟩
 | .int i,_,_,h,r=>by
  have e:_=V.int i:=h
  subst e;obtain⟨t,rfl⟩:=r;exact⟨_,.int i t⟩
 | .str x,_,_,h,r=>by
  have e:_=V.str x:=h
  subst e;obtain⟨t,rfl⟩:=r;exact⟨_,.str x t⟩
 | .tuple ds,_,_,h,r=>by
  obtain⟨p,vs,rfl,q2,q3⟩:=(show ∃ p vs,_=V.ref p∧H p=some (.tup vs)∧IsAll X.K H ds vs from h)
  cases r
  obtain⟨its,rv,⟨o,e1,e2,n,e3⟩,_⟩:=I.tuple (SqT.of q2)
  obtain⟨as,ra⟩:=readsAll_of I ds q3 rv
  exact⟨_,.tuple e1 e2 e3 (by simpa using ra)⟩
 | .list ds,_,_,h,r=>by
  obtain⟨p,vs,rfl,q2,q3⟩:=(show ∃ p vs,_=V.ref p∧H p=some (.lst vs)∧IsAll X.K H ds vs from h)
  cases r
  obtain⟨its,rv,⟨o,n,e1,e2,_,e3⟩,_⟩:=I.list (SqL.of q2)
  obtain⟨as,ra⟩:=readsAll_of I ds q3 rv
  exact⟨_,.list e1 e2 e3 (by simpa using ra)⟩
 | .dict kvs,_,_,h,r=>by
  obtain⟨e0,p,rfl,q2⟩:=(show kvs=[]∧∃ p,_=V.ref p∧H p=some (.dK []) from h)
  subst e0
  cases r
  obtain⟨_,_,vs,kv,o,es,ep,g1,g2,g3,_,g4,_⟩:=(show ObjOk X.prog X.w H s.heap p (.dK []) from I.hok p _ q2)
  cases kv
  have e1:es.toList=[]:=by cases h:es.toList with
   | nil=>rfl
   | cons x r=>rw[h] at g4;cases g4
  exact⟨_,.dict g1 g2.1 g3 (by rw[e1];exact .nil) (by rw[e1];exact .nil)⟩
theorem readsAll_of (I:Inv X pins σ H s):∀ (ds:List PyData) {vs:List V} {us:List Value},IsAll X.K H ds vs->Vals vs us->∃ as,ReadsAll s.heap us ds as
 | [],_,_,h,r=>by
  have e:_=[]:=h
  subst e;cases r;exact⟨_,.nil⟩
 | d::ds,_,_,h,r=>by
  obtain⟨v,vr,rfl,q2,q3⟩:=(show ∃ v r,_=v::r∧Is X.K H d v∧IsAll X.K H ds r from h)
  cases r with
  | cons r1 r2 =>
   obtain⟨as,a1⟩:=reads_of I d q2 r1
   obtain⟨bs,a2⟩:=readsAll_of I ds q3 r2
   exact⟨_,.cons a1 a2⟩
end
/-- == and != of data -/
theorem op_eqD:OpR X (compareOp .Eq) (fun x y H Q=>∃ da db,Is X.K H da x∧Is X.K H db y∧da.canLay0=true∧db.canLay0=true∧X.A.units + min da.depth db.depth < cLine∧Q (.bl (PyData.eqv da db)) H):=by
 intro pins s σ H x y v u Q I rx ry h
 obtain⟨da,db,h1,h2,c1,c2,hu,q⟩:=h
 obtain⟨as,ra⟩:=reads_of I da h1 rx
 obtain⟨bs,rb⟩:=reads_of I db h2 ry
 exact SeqAt.compareEq_reads ra rb c1 c2 hu (fin_bl I q rfl)
theorem op_neD:OpR X (compareOp .NotEq) (fun x y H Q=>∃ da db,Is X.K H da x∧Is X.K H db y∧da.canLay0=true∧db.canLay0=true∧X.A.units + min da.depth db.depth < cLine∧Q (.bl (!PyData.eqv da db)) H):=by
 intro pins s σ H x y v u Q I rx ry h
 obtain⟨da,db,h1,h2,c1,c2,hu,q⟩:=h
 obtain⟨as,ra⟩:=reads_of I da h1 rx
 obtain⟨bs,rb⟩:=reads_of I db h2 ry
 exact SeqAt.compareNe_reads ra rb c1 c2 hu (fin_bl I q rfl)
theorem getD_rel {ys:List V} {its:List Value} (r:Vals ys its) {i:Nat} (hi:i < ys.length):RelV (ys.getD i .non) (its.getD i .none):=by
 have hl:=r.length
 obtain⟨u,hu,ru⟩:=r.get (i:=i) (x:=ys[i]) (List.getElem?_eq_getElem hi)
 have e1:ys.getD i .non=ys[i]:=by simp [List.getD,hi]
 have e2:its.getD i .none=u:=by simp [List.getD,hu]
 rw[e1,e2];exact ru
theorem vals_out {ys:List V} {its:List Value} (r:Vals ys its):∀ (l:List Nat),(∀ i ∈ l,i < ys.length)->Vals (l.map fun i=>ys.getD i .non) (l.map fun i=>its.getD i Value.none)
 | [],_=>.nil
 | i::l,h=>.cons (getD_rel r (h i List.mem_cons_self)) (vals_out r l fun j hj=>h j (List.mem_cons_of_mem _ hj))
theorem gd_mem {n:Nat} {p:Array Nat} (g:Srt.Gd n p):∀ i ∈ p.toList,i < n:=fun i hi=>by
 have:=g.mem_iff.mp (Array.mem_toList_iff.mp hi)
 simpa using this
theorem gd_perm {α:Type} {n:Nat} {p:Array Nat} (g:Srt.Gd n p) (f:Nat->α):(p.toList.map f).Perm ((List.range n).map f):=by
 have h:=Array.perm_iff_toList_perm.mp g
 exact (by simpa using h:p.toList.Perm (List.range n)).map f
theorem up_pair {n:Nat} {p:Array Nat} {r:Nat->Int} {R:Nat->Nat->Prop} (g:Srt.Gd n p) (u:Srt.Up r p n) (h:∀ i j,i < n->j < n->r i≤r j->R i j):p.toList.Pairwise R:=by
 rw[List.pairwise_iff_getElem]
 intro i j hi hj hij
 have sz:=g.sz
 have hi':i < p.size:=by simpa using hi
 have hj':j < p.size:=by simpa using hj
 have q:=u i j (Nat.le_of_lt hij) (by omega)
 have e:∀ k (hk:k < p.size),p.getD k 0=p[k]:=fun k hk=>by simp [Array.getD,hk]
 unfold Srt.ky at q
 rw[e i hi',e j hj'] at q
 have m:∀ k (hk:k < p.size),p[k] < n:=fun k hk=>gd_mem g _ (by simp)
 have:=h p[i] p[j] (m i hi') (m j hj') q
 simpa using this
theorem range_getD {α:Type} (l:List α) (d:α):(List.range l.length).map (fun i=>l.getD i d)=l:=by
 refine List.ext_getElem (by simp) fun i h1 h2=>?_
 simp [List.getD,h2]
theorem call_sortedI:CallR X (.builtin "sorted") (fun xs H Q=>∃ p ns,xs=[.ref p]∧SqL X.K H p (ns.map V.int)∧ns.length < 64∧∀ ms:List Int,ms.Perm ns->ms.Pairwise (·≤·)->∀ l,H l=none->Q (.ref l) (upd H l (.lst (ms.map V.int)))):=by
 intro pins s σ H xs us Q I r h
 obtain⟨p,ns,rfl,hq,h64,q⟩:=h
 obtain⟨u,rfl,rx⟩:=vals1 r
 cases rx
 obtain⟨its,rv,pl,hz⟩:=I.list hq
 have hl:=rv.length
 rw[List.length_map] at hl
 have hI:IntsAre its ns:=intsAre_of rv
 have line:(64:Nat)≤sizeLine:=by rw[sizeLine_eq];decide
 refine Srt.sorted_by (r:=fun i=>ns.getD i 0) (κ:=oneType') pl.isList (by omega) (fun h2 A' s' Q' _ q'=>Srt.int_kind hI h2 q') (fun A' s' i j C _ hi hj q'=>Srt.int_ask hI hi hj q') fun pp h' c g u kp e=>?_
 have g':Srt.Gd ns.length pp:=by rw[hl];exact g
 have u':Srt.Up (fun i=>ns.getD i 0) pp ns.length:=by rw[hl];exact u
 have pm:(pp.toList.map fun i=>ns.getD i 0).Perm ns:=by
  have:=gd_perm g' fun i=>ns.getD i 0
  rw[range_getD] at this
  exact this
 have pw:(pp.toList.map fun i=>ns.getD i 0).Pairwise (·≤·):=by
  rw[List.pairwise_map]
  exact up_pair g' u' fun i j _ _ z=>z
 have fr:H (s.heap.objs.size + 1)=none:=I.hok.fresh (Nat.le_succ _)
 have ev:((pp.toList.map fun i=>ns.getD i 0).map V.int)=pp.toList.map fun i=>(ns.map V.int).getD i .non:=by
  rw[List.map_map]
  refine List.map_congr_left fun i hi=>?_
  have:=gd_mem g' i hi
  simp [List.getD,this]
 refine⟨.ref (s.heap.objs.size + 1),_,I.laid (a:=s.heap.objs.size + 1) (o:=.lst ((pp.toList.map fun i=>ns.getD i 0).map V.int)) (t':=s.toks) kp (Nat.le_succ _) ⟨?_,Srt.outOf its pp,c,?_,e⟩,rfl,q _ pm pw _ fr⟩
 ·have:=pm.length_eq
  rw[List.length_map,this];omega
 ·rw[ev]
  exact vals_out rv pp.toList fun i hi=>by rw[List.length_map];exact gd_mem g' i hi
theorem call_sortedT:CallR X (.builtin "sorted") (fun xs H Q=>∃ p ys ks,xs=[.ref p]∧SqL X.K H p ys∧ys.length < 64∧Paired (fun (y:V) (k:List Int)=>∃ a,y=.ref a∧SqT X.K H a (k.map V.int)) ys ks∧(∀ k ∈ ks,k≠[]) ∧
  ∀ qs:List (V × List Int),qs.Perm (ys.zip ks)->qs.Pairwise (fun a b=>Srt.lexI b.2 a.2=false)->∀ l,H l=none->Q (.ref l) (upd H l (.lst (qs.map (·.1))))):=by
 intro pins s σ H xs us Q I r h
 obtain⟨p,ys,ks,rfl,hq,h64,hp,hne,q⟩:=h
 obtain⟨u,rfl,rx⟩:=vals1 r
 cases rx
 obtain⟨its,rv,pl,hz⟩:=I.list hq
 have hl:=rv.length
 have hlk:ys.length=ks.length:=Paired.length hp
 have line:(64:Nat)≤sizeLine:=by rw[sizeLine_eq];decide
 have hT:∀ {ys:List V} {ks:List (List Int)} {its:List Value},Paired (fun (y:V) (k:List Int)=>∃ a,y=.ref a∧SqT X.K H a (k.map V.int)) ys ks->Vals ys its->Paired (Srt.TupI s.heap) its ks:=by
  intro ys ks its hp
  induction hp generalizing its with
  | nil=>intro rv;cases rv;exact .nil
  | cons r t ih =>
   intro rv
   cases rv with
   | cons r1 r2 =>
    refine .cons ?_ (ih r2)
    obtain⟨a,rfl,qa⟩:=r
    cases r1
    obtain⟨its',rv',⟨o,e1,e2,n,e3⟩,_⟩:=I.tuple qa
    exact⟨a,o,its'.toArray,n,rfl,e1,e2,e3,by simpa using intsAre_of rv'⟩
 have tp:=hT hp rv
 have mono:∀ {h':Heap},(∀ b o,s.heap.get? b=some o->h'.get? b=some o)->Paired (Srt.TupI h') its ks:=fun k=>Paired.mapP tp fun v k' z=>z.to k
 refine Srt.sorted_by (r:=Srt.rank its.length fun i j=>Srt.lexI (ks.getD i []) (ks.getD j [])) (κ:=tuples' true) pl.isList (by omega) (fun h2 A' s' Q' k q'=>Srt.tup_kind (mono k) hne h2 q')
  (fun A' s' i j C k hi hj q'=>Srt.tup_ask (mono k) hi hj (by rw[Srt.rank_lt (lt:=fun i j=>Srt.lexI (ks.getD i []) (ks.getD j [])) (fun i=>Srt.lexI_irr _) (fun _ _ _ _ _ _=>Srt.lexI_trans _ _ _) (fun _ _ _ _ _ _=>Srt.lexI_neg _ _ _) hi hj] at q';exact q')) fun pp h' c g u kp e=>?_
 have fr:H (s.heap.objs.size + 1)=none:=I.hok.fresh (Nat.le_succ _)
 have pm:(pp.toList.map fun i=>(ys.getD i .non,ks.getD i [])).Perm (ys.zip ks):=by
  have h1:=gd_perm g fun i=>(ys.getD i V.non,ks.getD i [])
  have e1:(List.range its.length).map (fun i=>(ys.getD i V.non,ks.getD i []))=ys.zip ks:=by
   refine List.ext_getElem (by simp;omega) fun i h1 h2=>?_
   have hi:i < its.length:=by simpa using h1
   have a1:i < ys.length:=by omega
   have a2:i < ks.length:=by omega
   simp [List.getD,a1,a2]
  rw[e1] at h1
  exact h1
 have pw:(pp.toList.map fun i=>(ys.getD i V.non,ks.getD i [])).Pairwise (fun a b=>Srt.lexI b.2 a.2=false):=by
  rw[List.pairwise_map]
  refine up_pair g u fun i j hi hj z=>?_
  have w:=Srt.rank_lt (n:=its.length) (lt:=fun i j=>Srt.lexI (ks.getD i []) (ks.getD j [])) (fun i=>Srt.lexI_irr _) (fun _ _ _ _ _ _=>Srt.lexI_trans _ _ _) (fun _ _ _ _ _ _=>Srt.lexI_neg _ _ _) hj hi
  rw[decide_eq_false (by omega)] at w
  exact w.symm
 have ev:(pp.toList.map fun i=>(ys.getD i V.non,ks.getD i [])).map (·.1)=pp.toList.map fun i=>ys.getD i V.non:=by
  rw[List.map_map];rfl
 refine⟨.ref (s.heap.objs.size + 1),_,I.laid (a:=s.heap.objs.size + 1) (o:=.lst ((pp.toList.map fun i=>(ys.getD i V.non,ks.getD i [])).map (·.1))) (t':=s.toks) kp (Nat.le_succ _) ⟨?_,Srt.outOf its pp,c,?_,e⟩,rfl,q _ pm pw _ fr⟩
 ·have:=pm.length_eq
  rw[List.length_map,this,List.length_zip];omega
 ·rw[ev]
  exact vals_out rv pp.toList fun i hi=>by have:=gd_mem g i hi;omega
end
end L3
namespace L3
open PySem PySem.Spec PyProof.Rows L2
def Ok (P:Program) (w:World) (K:PySem.W.Frag) (mg:Str->Option Value) (base:Heap) (k:Nat) (x:Str) (ps:List Str) (sp:Sp):Prop :=
 ∃ (f:Addr) (fd:FuncData),FnOk P w K mg base CX0 k f fd ps sp∧Binds K fd ps []∧PySem.W.keepIn K (.ref f)=true∧mg x=some (.ref f)
def DefOk (K:PySem.W.Frag) (mg:Str->Option Value) (x:Str) (st:Stmt) (ps:List Str):Prop :=
 ∃ (f:Addr) (fd:FuncData),Fun K x x st f fd∧Binds K fd ps []∧mg x=some (.ref f)
section
variable {P:Program} {w:World} {K:PySem.W.Frag} {mg:Str->Option Value} {base:Heap} {x:Str} {ps N:List Str} {sp sp':Sp} {k:Nat} {st:Stmt}
theorem Ok.mono {j:Nat} (O:Ok P w K mg base j x ps sp) (h:j≤k):Ok P w K mg base k x ps sp:=let ⟨f,fd,F,r⟩:=O;⟨f,fd,F.mono h,r⟩
theorem Ok.imp (O:Ok P w K mg base k x ps sp) (h:∀ vs H Q E,sp' vs H Q E->sp vs H Q E):Ok P w K mg base k x ps sp':=let ⟨f,fd,F,r⟩:=O;⟨f,fd,F.imp h,r⟩
theorem mk_ok (D:DefOk K mg x st ps) (S:FnScope N ps (defScope st)) (len:∀ vs H Q E,sp vs H Q E->vs.length=ps.length)
  (hbody:∀ (f:Addr) (cdv:Value) (A:Around) (outer:List Env) (s:Shared) (H:Hp) (vs:List V) (Q:VK) (E:XK),Room k (A.deeper (envOfC x (defScope st) s.heap.objs.size f cdv))->sp vs H Q E ->
   ∃ t,PSs (cxOf CX0 P w K mg base N x (defScope st) f cdv A outer s H E).nox (defBody st) t∧t { nx:=fun _ H'=>Q .non H',rt:=Q } (start N vs) H):Ok P w K mg base (k + 1) x ps sp:=by
 obtain⟨f,fd,F,b,m⟩:=D
 exact⟨f,fd,F.ok S len (fun cdv A outer s H vs Q E hr h=>hbody f cdv A outer s H vs Q E hr h),b,F.kp,m⟩
theorem pe_callD {X:Cx} {p pos:Pos} {e:Expr} {es:List Expr} {t:TA} (O:Ok X.prog X.w X.K X.mg X.base k x ps sp) (hr:Room k X.A) (hg:Gl X x) (ha:PA X (e::es) t)
  (hdb:(x == ("__debug__":Str))=false:=by decide) (he:starEach (e::es) X.env=(false,eval e X.env)::starEach es X.env:=by rfl) (hpl:(backTo pos (starEach es X.env)).any (·.1)=false:=by rfl) :
  PE X (.Call (.Name x p) (e::es) [] pos) (tCall sp [] E0 t):=by
 obtain⟨f,fd,F,b,kp,m⟩:=O
 exact pe_call F hr hg m kp b .nil pass0 ha hdb he hpl
end
/-- the built-ins' names are not taken -/
structure Bi (mg:Str->Option Value):Prop where
 z_len:mg "len"=none
 z_range:mg "range"=none
 z_zip:mg "zip"=none
 z_all:mg "all"=none
 z_sorted:mg "sorted"=none
 z_isinstance:mg "isinstance"=none
 z_min:mg "min"=none
 z_max:mg "max"=none
 z_tuple:mg "tuple"=none
 z_list:mg "list"=none
 z_int:mg "int"=none
 z_bool:mg "bool"=none
 z_str:mg "str"=none
 z_enumerate:mg "enumerate"=none
 z_sum:mg "sum"=none
 z_abs:mg "abs"=none
 z_set:mg "set"=none
 z_reversed:mg "reversed"=none
 z_any:mg "any"=none
 z_repr:mg "repr"=none
 z_dict:mg "dict"=none
def But (p:Addr) (H H':Hp):Prop:=∀ b o,b≠p->H b=some o->H' b=some o
section
variable {K:PySem.W.Frag} {H H1 H2:Hp} {p a:Addr} {o:HO} {xs ys:List V}
theorem But.refl:But p H H:=fun _ _ _ h=>h
theorem But.trans (a:But p H H1) (b:But p H1 H2):But p H H2:=fun c o n h=>b c o n (a c o n h)
theorem But.upd:But p H (upd H p o):=fun b u n h=>by rw[upd_ne n];exact h
theorem Same.but (h:Same H H1):But p H H1:=fun b o _ q=>h b o q
theorem But.new (h:H a=none):But p H (L2.upd H a o):=fun b u _ q=>by rw[upd_ne (ne_of_none q h)];exact q
theorem same_new (h:H a=none):Same H (upd H a o):=fun b u q=>by rw[upd_ne (ne_of_none q h)];exact q
theorem But.free (h:But p H H1) (q:H1 a=none) (hp:H p=some o) (hp1:H1 p=some (.lst xs)):H a=none:=by
 cases e:H a with
 | none=>rfl
 | some u =>
  by_cases z:a=p
  ·subst z;rw[hp1] at q;cases q
  ·rw[h a u z e] at q;cases q
theorem But.tup (h:But p H H1) (hp:H p=some (.lst xs)) (q:SqT K H a ys):SqT K H1 a ys:=by
 rcases q with (q | ⟨o,q⟩) | q
 ·exact .inl (.inl (h _ _ (fun z=>by subst z;rw[hp] at q;cases q) q))
 ·exact .inl (.inr ⟨o,h _ _ (fun z=>by subst z;rw[hp] at q;cases q) q⟩)
 ·exact .inr q
end
mutual
def tupD:PyData->Bool
 | .none | .bool _ | .int _ | .str _=>true
 | .tuple ds=>tupAll ds
 | .list _ | .dict _=>false
def tupAll:List PyData->Bool
 | []=>true
 | d::ds=>tupD d && tupAll ds
end
mutual
theorem Is.but {K:PySem.W.Frag} {H H':Hp} {p:Addr} {xs:List V} (e:But p H H') (hp:H p=some (.lst xs)):∀ (d:PyData) {v:V},tupD d=true->Is K H d v->Is K H' d v
 | .none,_,_,h=>h
 | .bool _,_,_,h=>h
 | .int _,_,_,h=>h
 | .str _,_,_,h=>h
 | .tuple ds,_,t,h=>let ⟨q,vs,q1,q2,q3⟩:=h;⟨q,vs,q1,e _ _ (fun z=>by subst z;rw[hp] at q2;cases q2) q2,IsAll.but e hp ds t q3⟩
 | .list ds,_,t,h=>by cases t
 | .dict _,_,t,h=>by cases t
theorem IsAll.but {K:PySem.W.Frag} {H H':Hp} {p:Addr} {xs:List V} (e:But p H H') (hp:H p=some (.lst xs)):∀ (ds:List PyData) {vs:List V},tupAll ds=true->IsAll K H ds vs->IsAll K H' ds vs
 | [],_,_,h=>h
 | d::ds,_,t,h=>by
  have t':(tupD d && tupAll ds)=true:=t
  rw[Bool.and_eq_true] at t'
  obtain⟨v,r,q1,q2,q3⟩:=h
  exact⟨v,r,q1,Is.but e hp d t'.1 q2,IsAll.but e hp ds t'.2 q3⟩
end
/-- a pot: its two numbers -/
def Pot (H:Hp) (p:Addr):Prop:=∃ a b:Int,H p=some (.lst [.int a,.int b])∧0≤a∧0≤b∧b < 2147483647
theorem Pot.lst {H:Hp} {p:Addr} (h:Pot H p):∃ xs,H p=some (.lst xs):=let ⟨a,b,e,_⟩:=h;⟨_,e⟩
def spPot (K:PySem.W.Frag):Sp:=fun vs H Q _=>∃ a k,∃ ns:List Int,vs=[.ref a,.int k]∧SqL K H a (ns.map V.int)∧0≤k∧k≤100∧∀ l H',Same H H'->H l=none->Pot H' l->Q (.ref l) H'
def spTake:Sp:=fun vs H Q _=>∃ p m,vs=[.ref p,.int m]∧Pot H p∧0 < m∧m < 1073741824∧∀ r H',0≤r->r < m->But p H H'->Pot H' p->Q (.int r) H'
def spLength:Sp:=fun vs H Q _=>∃ p y,vs=[.ref p,.int y]∧Pot H p∧0≤y∧y < 5∧∀ r H',1≤r->r≤10 ^ 18->But p H H'->Pot H' p->Q (.int r) H'
def spTied:Sp:=fun vs H Q _=>∃ p n y a b,vs=[.ref p,.int n,.int y,.int a,.int b]∧Pot H p∧∀ k H',But p H H'->Pot H' p->Q (.bl k) H'
def spOrder:Sp:=fun vs H Q _=>∃ p m,vs=[.ref p,.int m]∧Pot H p∧0≤m∧m≤1000∧∀ l H' (ms:List Int),But p H H'->Pot H' p->H l=none->l≠p->H' l=some (.lst (ms.map V.int))->ms.Perm ((List.range m.toNat).map fun i:Nat=>(i:Int))->Q (.ref l) H'
abbrev Tie:=Int × Int × Int
def tieI (t:Tie):List Int:=[t.1,t.2.1,t.2.2]
def tieD (t:Tie):PyData:=.tuple ((tieI t).map .int)
def webD (n:Int) (ties:List Tie):PyData:=.tuple [.int n,.tuple (ties.map tieD)]
/-- less by its ends -/
def endLt (s t:Tie):Prop:=s.1 < t.1∨(s.1=t.1∧s.2.1 < t.2.1)
structure WebOk (n:Int) (ties:List Tie):Prop where
 n1:1≤n
 n24:n≤24
 rise:ties.Pairwise endLt
 few:ties.length≤60
 tie:∀ t ∈ ties,0≤t.1∧t.1 < t.2.1∧t.2.1 < n∧1≤t.2.2∧t.2.2≤10 ^ 18
def spWeb (K:PySem.W.Frag):Sp:=fun vs H Q _=>∃ p m,vs=[.ref p,.int m]∧Pot H p∧1≤m∧m≤24∧∀ v H' n ties,But p H H'->Pot H' p->WebOk n ties->n≤m->Is K H' (webD n ties) v->Q v H'
end L3
namespace L3
structure Grown (n:Nat) (ms:List Int) (b a:Nat) (ties:List Tie):Prop where
 few:ties.length≤60
 ok:∀ t ∈ ties,0≤t.1∧t.1 < t.2.1∧t.2.1 < (n:Int)∧1≤t.2.2∧t.2.2≤10 ^ 18
 of:∀ t ∈ ties,∃ a' b':Nat,a' < b'∧b' < n∧(b' < b∨(b'=b∧a' < a))∧((t.1=ms.getD a' 0∧t.2.1=ms.getD b' 0)∨(t.1=ms.getD b' 0∧t.2.1=ms.getD a' 0))
 nd:ties.Pairwise fun s t=>¬ (s.1=t.1∧s.2.1=t.2.1)
theorem Grown.start {n:Nat} {ms:List Int}:Grown n ms 0 0 []:=⟨Nat.zero_le _,(fun t h=>by cases h),(fun t h=>by cases h),List.Pairwise.nil⟩
theorem Grown.down {n:Nat} {ms:List Int} {b:Nat} {ties:List Tie} (g:Grown n ms b b ties):Grown n ms (b + 1) 0 ties :=
 ⟨g.few,g.ok,fun t h=>by
  obtain⟨a',b',h1,h2,h3,h4⟩:=g.of t h
  exact⟨a',b',h1,h2,.inl (by omega),h4⟩,g.nd⟩
theorem Grown.skip {n:Nat} {ms:List Int} {b a:Nat} {ties:List Tie} (g:Grown n ms b a ties):Grown n ms b (a + 1) ties :=
 ⟨g.few,g.ok,fun t h=>by
  obtain⟨a',b',h1,h2,h3,h4⟩:=g.of t h
  exact⟨a',b',h1,h2,by omega,h4⟩,g.nd⟩
structure Perm0 (n:Nat) (ms:List Int):Prop where
 len:ms.length=n
 lo:∀ i,i < n->0≤ms.getD i 0∧ms.getD i 0 < (n:Int)
 inj:∀ i j,i < n->j < n->ms.getD i 0=ms.getD j 0->i=j
theorem Perm0.of {n:Nat} {ms:List Int} (h:ms.Perm ((List.range n).map fun i:Nat=>(i:Int))):Perm0 n ms:=by
 have hl:ms.length=n:=by simpa using h.length_eq
 have nd:ms.Nodup:=(h.nodup_iff).mpr (by
  rw[List.Nodup,List.pairwise_map]
  exact (List.nodup_range (n:=n)).imp fun h z=>h (by omega))
 refine⟨hl,fun i hi=>?_,fun i j hi hj e=>?_⟩
 ·have e:ms.getD i 0=ms[i]:=by simp [List.getD,show i < ms.length by omega]
  have m:ms[i]'(by omega) ∈ (List.range n).map fun i:Nat=>(i:Int):=h.mem_iff.mp (List.getElem_mem _)
  rw[e]
  obtain⟨k,hk,ek⟩:=List.mem_map.mp m
  have:=List.mem_range.mp hk
  omega
 ·have e1:ms.getD i 0=ms[i]:=by simp [List.getD,show i < ms.length by omega]
  have e2:ms.getD j 0=ms[j]:=by simp [List.getD,show j < ms.length by omega]
  rw[e1,e2] at e
  exact (List.getElem_inj nd).mp e
theorem Grown.add {n:Nat} {ms:List Int} {b a:Nat} {ties:List Tie} {x y l:Int} (g:Grown n ms b a ties) (pm:Perm0 n ms) (ha:a < b) (hb:b < n) (hf:ties.length < 60) (hl:1≤l) (hl2:l≤10 ^ 18)
  (hxy:(x=ms.getD a 0∧y=ms.getD b 0)∨(x=ms.getD b 0∧y=ms.getD a 0)) (hle:x≤y):Grown n ms b (a + 1) (ties++[(x,y,l)]):=by
 have han:=Nat.lt_trans ha hb
 have la:=pm.lo a han
 have lb:=pm.lo b hb
 have ne:ms.getD a 0≠ms.getD b 0:=fun e=>Nat.ne_of_lt ha (pm.inj a b han hb e)
 refine⟨by rw[List.length_append,List.length_singleton];exact hf,fun t ht=>?_,fun t ht=>?_,?_⟩
 ·rcases List.mem_append.mp ht with h | h
  ·exact g.ok t h
  ·have e:t=(x,y,l):=List.mem_singleton.mp h
   subst e
   refine⟨?_,?_,?_,hl,hl2⟩
   ·show 0≤x
    rcases hxy with ⟨q1,q2⟩ | ⟨q1,q2⟩
    ·rw[q1];exact la.1
    ·rw[q1];exact lb.1
   ·show x < y
    refine Int.lt_iff_le_and_ne.mpr ⟨hle,fun z=>?_⟩
    rcases hxy with ⟨q1,q2⟩ | ⟨q1,q2⟩
    ·exact ne (q1.symm.trans (z.trans q2))
    ·exact ne (q2.symm.trans (z.symm.trans q1))
   ·show y < (n:Int)
    rcases hxy with ⟨q1,q2⟩ | ⟨q1,q2⟩
    ·rw[q2];exact lb.2
    ·rw[q2];exact la.2
 ·rcases List.mem_append.mp ht with h | h
  ·obtain⟨a',b',h1,h2,h3,h4⟩:=g.of t h
   exact⟨a',b',h1,h2,h3.imp id fun z=>⟨z.1,Nat.lt_succ_of_lt z.2⟩,h4⟩
  ·have e:t=(x,y,l):=List.mem_singleton.mp h
   subst e
   exact⟨a,b,ha,hb,.inr ⟨rfl,Nat.lt_succ_self _⟩,hxy⟩
 ·rw[List.pairwise_append]
  refine⟨g.nd,List.pairwise_singleton _ _,fun t ht u hu=>?_⟩
  have e:u=(x,y,l):=List.mem_singleton.mp hu
  subst e
  rintro ⟨e1,e2⟩
  obtain⟨a',b',h1,h2,h3,h4⟩:=g.of t ht
  have e1':t.1=x:=e1
  have e2':t.2.1=y:=e2
  have h1n:=Nat.lt_trans h1 h2
  have fin:a'=a->b'=b->False:=fun ea eb=>h3.elim (fun z=>Nat.ne_of_lt z eb) fun z=>Nat.ne_of_lt z.2 ea
  have fin2:a'=b->b'=a->False:=fun ea eb=>Nat.lt_asymm ha (by rw[← ea,← eb];exact h1)
  rcases h4 with ⟨p1,p2⟩ | ⟨p1,p2⟩ <;> rcases hxy with ⟨q1,q2⟩ | ⟨q1,q2⟩
  ·exact fin (pm.inj a' a h1n han (p1.symm.trans (e1'.trans q1))) (pm.inj b' b h2 hb (p2.symm.trans (e2'.trans q2)))
  ·exact fin2 (pm.inj a' b h1n hb (p1.symm.trans (e1'.trans q1))) (pm.inj b' a h2 han (p2.symm.trans (e2'.trans q2)))
  ·exact fin2 (pm.inj a' b h1n hb (p2.symm.trans (e2'.trans q2))) (pm.inj b' a h2 han (p1.symm.trans (e1'.trans q1)))
  ·exact fin (pm.inj a' a h1n han (p2.symm.trans (e2'.trans q2))) (pm.inj b' b h2 hb (p1.symm.trans (e1'.trans q1)))
theorem rise_of {ts:List Tie} (h:ts.Pairwise fun a b=>Srt.lexI (tieI b) (tieI a)=false) (nd:ts.Pairwise fun s t=>¬ (s.1=t.1∧s.2.1=t.2.1)):ts.Pairwise endLt:=by
 refine (h.and nd).imp fun {a b} hab=>?_
 obtain⟨h1,h2⟩:=hab
 obtain⟨a1,a2,a3⟩:=a
 obtain⟨b1,b2,b3⟩:=b
 simp only [tieI,Srt.lexI] at h1
 show a1 < b1∨(a1=b1∧a2 < b2)
 have h2':¬ (a1=b1∧a2=b2):=h2
 by_cases e1:b1=a1
 ·rw[if_pos e1] at h1
  by_cases e2:b2=a2
  ·exact absurd ⟨e1.symm,e2.symm⟩ h2'
  ·rw[if_neg e2] at h1
   have:=of_decide_eq_false h1
   exact .inr ⟨e1.symm,by omega⟩
 ·rw[if_neg e1] at h1
  have:=of_decide_eq_false h1
  exact .inl (by omega)
theorem endLt.ne {s t:Tie} (h:endLt s t):¬ (s.1=t.1∧s.2.1=t.2.1):=fun ⟨a,b⟩=>by
 rcases h with h | ⟨_,h⟩ <;> omega
end L3
namespace L3
open PySem PySem.Spec PyProof.Rows L2
section
variable {X:Cx} {pos:Pos}
theorem op_mulB:OpR X (binaryOp .Mult) (rI (fun i j=>IntMulOk i j) fun i j=>.int (i * j)):=opI fun _ _ _ _ _ _ _ hc q=>mul_int q hc
theorem mulB:IntMulOk ((10:Int) ^ (60:Int).toNat) ((10:Int) ^ (60:Int).toNat):=IntMulOk.of_bits (by decide +kernel) (by decide +kernel)
theorem mulB2:IntMulOk ((10:Int) ^ (60:Int).toNat * (10:Int) ^ (60:Int).toNat) ((10:Int) ^ (60:Int).toNat):=IntMulOk.of_bits (by decide +kernel) (by decide +kernel)
theorem posB:(0:Int) < (10:Int) ^ (60:Int).toNat * (10:Int) ^ (60:Int).toNat * (10:Int) ^ (60:Int).toNat:=by decide +kernel
/-- range(n) as a value -/
theorem call_range:CallR X (.type "range") (fun xs H Q=>∃ j:Int,xs=[.int j]∧∀ p,H p=none->Q (.ref p) (upd H p (.rng 0 j))):=by
 intro pins s σ H xs us Q I r h
 obtain⟨j,rfl,q⟩:=h
 obtain⟨u,rfl,t,rfl⟩:=vals1 r
 refine call_range_1 ⟨.ref s.heap.objs.size,_,I.laid (a:=s.heap.objs.size) (o:=.rng 0 j) (fun b o e=>Heap.get?_push_of_some _ e) (Nat.le_refl _) ⟨_,_,_,Heap.get?_push_size _ rfl⟩,rfl,q _ I.fresh⟩
/-- list(range(n)) -/
theorem call_list_rng (hh:X.calm=true):CallR X (.type "list") (fun xs H Q=>∃ (p:Addr) (j:Int),xs=[.ref p]∧H p=some (.rng 0 j)∧0≤j∧j≤1000∧∀ l,H l=none->Q (.ref l) (upd H l (.lst ((List.range j.toNat).map fun i:Nat=>V.int (i:Int))))):=by
 intro pins s σ H xs us Q I r h
 obtain⟨p,j,rfl,hp,hj0,hj,q⟩:=h
 obtain⟨u,rfl,rx⟩:=vals1 r
 cases rx
 obtain⟨t,u,v,e⟩:=(show ObjOk X.prog X.w H s.heap p (.rng 0 j) from I.hok p _ hp)
 refine call_list_range (n:=j.toNat) (I.ok.hd hh) (show IsRange s.heap p 0 j 1 t u v from e) (small_one (by omega) (by omega) (by omega) (by omega)) (by rw[rangeSize_one];split <;> omega) (by omega) fun h' tk acc c hk hS hacc=>?_
 refine⟨.ref s.heap.objs.size,_,I.laid (a:=s.heap.objs.size) (o:=.lst ((List.range j.toNat).map fun i:Nat=>V.int (i:Int))) (t':=tk) hk (Nat.le_refl _) ⟨?_,acc.toList,c,?_,by simpa using hS⟩,rfl,q _ I.fresh⟩
 ·rw[List.length_map,List.length_range,sizeLine_eq];omega
 ·have go:∀ (n:Nat) (l:List Value),l.length=n->(∀ (k:Nat) (v:Value),l[k]?=some v->∃ t,v=Value.int (0 + (k:Int) * 1) t)->Vals ((List.range n).map fun i:Nat=>V.int (i:Int)) l:=by
   intro n l hl hv
   have gen:∀ (l:List Value) (o:Nat),(∀ (k:Nat) (v:Value),l[k]?=some v->∃ t,v=Value.int ((o + k:Nat):Int) t)->Vals ((List.range' o l.length).map fun i:Nat=>V.int (i:Int)) l:=by
    intro l
    induction l with
    | nil=>intro o _;exact .nil
    | cons x r ih =>
     intro o h
     rw[List.length_cons,List.range'_succ,List.map_cons]
     obtain⟨t,ht⟩:=h 0 x rfl
     refine .cons ⟨t,by simpa using ht⟩ (ih (o + 1) fun k v hk=>?_)
     obtain⟨t,ht⟩:=h (k + 1) v (by simpa using hk)
     exact⟨t,by rw[ht];congr 1;omega⟩
   have:=gen l 0 fun k v hk=>by
    obtain⟨t,ht⟩:=hv k v hk
    exact⟨t,by rw[ht];congr 1;omega⟩
   rw[hl] at this
   rw[List.range_eq_range']
   exact this
  refine go _ _ (by simpa using hacc.1) fun k v hk=>hacc.2 k v (by simpa using hk)
end
theorem erase_perm {α:Type}:∀ (l:List α) (k:Nat) (h:k < l.length),(l[k]::l.eraseIdx k).Perm l
 | [],k,h=>absurd h (Nat.not_lt_zero _)
 | a::l,0,_=>List.Perm.refl _
 | a::l,k + 1,h=>by
  have h':k < l.length:=by simpa using h
  show (l[k]::a::l.eraseIdx k).Perm (a::l)
  exact (List.Perm.swap a l[k] _).trans ((erase_perm l k h').cons a)
theorem map_erase {α β:Type} (f:α->β):∀ (l:List α) (k:Nat),(l.eraseIdx k).map f=(l.map f).eraseIdx k
 | [],_=>rfl
 | _::_,0=>rfl
 | a::l,k + 1=>by
  show f a::(l.eraseIdx k).map f=f a::(l.map f).eraseIdx k
  rw[map_erase f l k]
end L3
namespace L3
open PySem PySem.Spec PyProof.Rows L2
/-- a list's values are tuples of the ties -/
def TieL (H:Hp) (ys:List V) (ts:List Tie):Prop:=Paired (fun (y:V) (t:Tie)=>∃ a,y=.ref a∧H a=some (.tup ((tieI t).map V.int))) ys ts
theorem TieL.keep {H H':Hp} {ys:List V} {ts:List Tie} (h:TieL H ys ts) (k:∀ a xs,H a=some (.tup xs)->H' a=some (.tup xs)):TieL H' ys ts :=
 Paired.mapP h fun y t ⟨a,e1,e2⟩=>⟨a,e1,k _ _ e2⟩
theorem TieL.snoc {H:Hp} {ys:List V} {ts:List Tie} {a:Addr} {t:Tie} (h:TieL H ys ts) (e:H a=some (.tup ((tieI t).map V.int))):TieL H (ys++[.ref a]) (ts++[t]):=Paired.snoc h ⟨a,rfl,e⟩
theorem paired_map {α β γ:Type} {F:β->γ->Prop} (f:α->β) (g:α->γ):∀ {l:List α},(∀ x ∈ l,F (f x) (g x))->Paired F (l.map f) (l.map g)
 | [],_=>.nil
 | x::l,h=>.cons (h x List.mem_cons_self) (paired_map f g fun y hy=>h y (List.mem_cons_of_mem _ hy))
theorem paired_zip {α β γ:Type} {F:α->β->Prop} {f:β->γ}:∀ {l:List α} {r:List β},Paired F l r->∀ q ∈ l.zip (r.map f),∃ b,q.2=f b∧F q.1 b
 | _,_,.nil,q,h=>by cases h
 | _,_,.cons (a:=a) (b:=b) x t,q,h=>by
  rw[List.map_cons,List.zip_cons_cons] at h
  rcases List.mem_cons.mp h with e | h
  ·subst e;exact⟨b,rfl,x⟩
  ·exact paired_zip t q h
theorem paired_keys {F:V->Tie->Prop} {G:V->List Int->Prop} (h:∀ y t,F y t->G y (tieI t)):∀ {ys:List V} {ts:List Tie},Paired F ys ts->Paired G ys (ts.map tieI)
 | _,_,.nil=>.nil
 | _,_,.cons x t=>.cons (h _ _ x) (paired_keys h t)
def tieOf:List Int->Tie
 | [a,b,c]=>(a,b,c)
 | _=>(0,0,0)
theorem tieOf_I (t:Tie):tieOf (tieI t)=t:=rfl
theorem tie_out {H:Hp} {ys:List V} {ts:List Tie} (h:TieL H ys ts) {qs:List (V × List Int)} (p:qs.Perm (ys.zip (ts.map tieI))) (w:qs.Pairwise fun a b=>Srt.lexI b.2 a.2=false) :
  ∃ ts':List Tie,ts'.Perm ts∧TieL H (qs.map (·.1)) ts'∧ts'.Pairwise fun a b=>Srt.lexI (tieI b) (tieI a)=false:=by
 have mem:∀ q ∈ qs,∃ t,q.2=tieI t∧∃ a,q.1=.ref a∧H a=some (.tup ((tieI t).map V.int)):=fun q hq=>paired_zip h q (p.mem_iff.mp hq)
 have back:∀ q ∈ qs,tieI (tieOf q.2)=q.2:=fun q hq=>by
  obtain⟨t,e,_⟩:=mem q hq
  rw[e];rfl
 refine⟨qs.map fun q=>tieOf q.2,?_,paired_map _ _ fun q hq=>?_,?_⟩
 ·have e1:(qs.map fun q=>tieOf q.2).Perm ((ys.zip (ts.map tieI)).map fun q=>tieOf q.2):=p.map _
  have e2:(ys.zip (ts.map tieI)).map (fun q=>tieOf q.2)=ts:=by
   have l:ys.length=(ts.map tieI).length:=by rw[List.length_map];exact Paired.length h
   have:(ys.zip (ts.map tieI)).map (fun q=>tieOf q.2)=((ys.zip (ts.map tieI)).map (·.2)).map tieOf:=by rw[List.map_map];rfl
   rw[this,List.map_snd_zip (Nat.le_of_eq l.symm),List.map_map]
   exact (List.map_congr_left fun t _=>tieOf_I t).trans (List.map_id _)
  rw[e2] at e1
  exact e1
 ·obtain⟨t,e,a,ea,eh⟩:=mem q hq
  refine⟨a,ea,?_⟩
  rw[back q hq,e];exact eh
 ·rw[List.pairwise_map]
  refine w.imp_of_mem fun {a b} ha hb z=>?_
  rw[back a ha,back b hb];exact z
theorem TieL.is {K:PySem.W.Frag} {H:Hp}:∀ {ys:List V} {ts:List Tie},TieL H ys ts->IsAll K H (ts.map tieD) ys
 | _,_,.nil=>rfl
 | _,_,.cons (a:=y) (b:=t) ⟨a,e1,e2⟩ r=>⟨_,_,rfl,⟨a,_,e1,e2,IsAll.ints _⟩,TieL.is r⟩
theorem two_sorted {x y:Int} {ms:List Int} (p:ms.Perm [x,y]) (w:ms.Pairwise (·≤·)):∃ a b,ms=[a,b]∧a≤b∧((a=x∧b=y)∨(a=y∧b=x)):=by
 have hl:=p.length_eq
 match ms,hl,p,w with
 | [a,b],_,p,w =>
  refine⟨a,b,rfl,by simpa using w,?_⟩
  have ha:a ∈ [x,y]:=p.mem_iff.mp (by simp)
  rcases List.mem_cons.mp ha with e | e
  ·subst e
   have:=(List.perm_cons a).mp p
   have e2:b=y:=by simpa using List.perm_singleton.mp this
   exact .inl ⟨rfl,e2⟩
  ·have e':a=y:=by simpa using e
   subst e'
   have p2:[a,b].Perm [a,x]:=p.trans (List.Perm.swap a x [])
   have:=(List.perm_cons a).mp p2
   have e2:b=x:=by simpa using List.perm_singleton.mp this
   exact .inr ⟨rfl,e2⟩
end L3
namespace L3
open PySem PySem.Spec PyProof.Rows L2
def TupKeep (H H':Hp):Prop:=∀ a xs,H a=some (.tup xs)->H' a=some (.tup xs)
section
variable {J:It} {g:TG} {te:TE} {own:List Str} {js:List Nat} {σ:L2.St} {H1:Hp} {Q:VK}
/-- no test, nothing that stands is changed: item i is worth R i -/
theorem comp_map (n:Nat) (Sg:L2.St->Prop) (R:Nat->V->Hp->Prop) (hn:n≤1000) (h0:Sg (start3 own js σ)) (mono:∀ i v H H',TupKeep H H'->R i v H->R i v H')
  (go:∀ i H',i < n->Same H1 H'->J.go i H') (stop:∀ H',Same H1 H'->J.stop n H')
  (step:∀ i x σ' H' H2,i < n->Same H1 H'->J.yld i H' x H2->Sg σ'->∀ C:L2.St->V->Hp->Prop,(∀ σ3 v H5,Sg σ3->Same H' H5->R i v H5->C σ3 v H5)->g x σ' H2 fun σ3 H3=>te σ3 H3 fun v H5=>C σ3 v H5)
  (fin:∀ D ys H',H1 D=none->Same H1 H'->H' D=some (.lst ys)->ys.length=n->(∀ i v,ys[i]?=some v->R i v H')->Q (.ref D) H'):CompGo own js g tTrue te σ Q J H1:=by
 intro D hD
 refine⟨fun i m ys σ' H'=>m=n - i∧i≤n∧Sg σ'∧Same H1 H'∧ys.length=i∧∀ j v,ys[j]?=some v->R j v H',⟨n,rfl,Nat.zero_le _,h0,same_new hD,rfl,fun j v e=>by simp at e⟩,?_⟩
 rintro i m ys σ' H' ⟨rfl,hi,sg,sm,hl,hr⟩ hd
 by_cases hlt:i < n
 ·refine .inr ⟨go i H' hlt sm,fun x H2 hy=>?_⟩
  refine step i x σ' H' H2 hlt sm hy sg (fun σ3 v H5=>H5 D=some (.lst ys)∧ys.length < sizeLine∧∃ m',m' < n - i∧(m'=n - (i + 1)∧i + 1≤n∧Sg σ3∧Same H1 (upd H5 D (.lst (ys++[v])))∧(ys++[v]).length=i + 1∧∀ j u,(ys++[v])[j]?=some u->R j u (upd H5 D (.lst (ys++[v]))))) fun σ3 v H5 sg3 s5 r5=>?_
  have hd5:=s5 _ _ hd
  refine⟨hd5,Nat.lt_of_le_of_lt (by omega:ys.length≤1000) (by decide),n - (i + 1),by omega,rfl,hlt,sg3,fun b o e=>?_,by rw[List.length_append,List.length_singleton,hl],fun j u e=>?_⟩
  ·rw[upd_ne (ne_of_none e hD)];exact s5 _ _ (sm _ _ e)
  ·have tk5:TupKeep H5 (upd H5 D (.lst (ys++[v]))):=fun a xs e=>by rw[upd_ne (fun z=>by rw[z,hd5] at e;cases e)];exact e
   by_cases hj:j < ys.length
   ·rw[List.getElem?_append_left hj] at e
    exact mono _ _ _ _ tk5 (mono _ _ _ _ (fun a xs z=>s5 _ _ z) (hr j u e))
   ·rw[List.getElem?_append_right (by omega)] at e
    have ej:j=ys.length:=by
     have:=(List.getElem?_eq_some_iff.mp e).1
     simp at this;omega
    subst ej
    have eu:v=u:=by simpa using e
    subst eu
    rw[hl]
    exact mono _ _ _ _ tk5 r5
 ·have e:i=n:=by omega
  subst e
  exact .inl ⟨stop H' sm,fin D ys H' hD sm hd hl hr⟩
theorem comp_tup {K:PySem.W.Frag} {a:Addr} {xs:List V} (hx:H1 a=some (.tup xs)) (Sg:L2.St->Prop) (R:Nat->V->Hp->Prop) (hn:xs.length≤1000) (h0:Sg (start3 own js σ)) (mono:∀ i v H H',TupKeep H H'->R i v H->R i v H')
  (step:∀ i x σ' H',xs[i]?=some x->Same H1 H'->Sg σ'->∀ C:L2.St->V->Hp->Prop,(∀ σ3 v H5,Sg σ3->Same H' H5->R i v H5->C σ3 v H5)->g x σ' H' fun σ3 H3=>te σ3 H3 fun v H5=>C σ3 v H5)
  (fin:∀ D ys H',H1 D=none->Same H1 H'->H' D=some (.lst ys)->ys.length=xs.length->(∀ i v,ys[i]?=some v->R i v H')->Q (.ref D) H'):CompGo own js g tTrue te σ Q (Itt K a) H1:=by
 refine comp_map xs.length Sg R hn h0 mono (fun i H' hi s=>⟨xs,xs[i],SqT.of (s _ _ hx),by simp [hi]⟩) (fun H' s=>⟨xs,SqT.of (s _ _ hx),Nat.le_refl _⟩) (fun i x σ' H' H2 hi s hy sg C hC=>?_) fin
 obtain⟨rfl,hy⟩:=hy
 exact step i x σ' _ (hy xs (SqT.of (s _ _ hx))) s sg C hC
theorem comp_lst {K:PySem.W.Frag} {a:Addr} {xs:List V} (hx:H1 a=some (.lst xs)) (Sg:L2.St->Prop) (R:Nat->V->Hp->Prop) (hn:xs.length≤1000) (h0:Sg (start3 own js σ)) (mono:∀ i v H H',TupKeep H H'->R i v H->R i v H')
  (step:∀ i x σ' H',xs[i]?=some x->Same H1 H'->Sg σ'->∀ C:L2.St->V->Hp->Prop,(∀ σ3 v H5,Sg σ3->Same H' H5->R i v H5->C σ3 v H5)->g x σ' H' fun σ3 H3=>te σ3 H3 fun v H5=>C σ3 v H5)
  (fin:∀ D ys H',H1 D=none->Same H1 H'->H' D=some (.lst ys)->ys.length=xs.length->(∀ i v,ys[i]?=some v->R i v H')->Q (.ref D) H'):CompGo own js g tTrue te σ Q (Itl K a) H1:=by
 refine comp_map xs.length Sg R hn h0 mono (fun i H' hi s=>⟨xs,xs[i],SqL.of (s _ _ hx),by simp [hi]⟩) (fun H' s=>⟨xs,SqL.of (s _ _ hx),Nat.le_refl _⟩) (fun i x σ' H' H2 hi s hy sg C hC=>?_) fin
 obtain⟨rfl,hy⟩:=hy
 exact step i x σ' _ (hy xs (SqL.of (s _ _ hx))) s sg C hC
theorem SqX.of {t:Bool} {K:PySem.W.Frag} {H:Hp} {a:Addr} {xs:List V} (h:H a=some (if t=true then .tup xs else .lst xs)):SqX t K H a xs:=by
 cases t with
 | true=>exact SqT.of h
 | false=>exact SqL.of h
theorem comp_zip {t1 t2:Bool} {K:PySem.W.Frag} {a b:Addr} {xs zs:List V} (hx:H1 a=some (if t1=true then .tup xs else .lst xs)) (hz:H1 b=some (if t2=true then .tup zs else .lst zs)) (Sg:L2.St->Prop) (R:Nat->V->Hp->Prop) (hn:xs.length≤1000)
  (h0:Sg (start3 own js σ)) (mono:∀ i v H H',TupKeep H H'->R i v H->R i v H')
  (step:∀ i x z T σ' H',xs[i]?=some x->zs[i]?=some z->Same H1 H'->H' T=none->Sg σ'->∀ C:L2.St->V->Hp->Prop,(∀ σ3 v H5,Sg σ3->Same H' H5->R i v H5->C σ3 v H5)->g (.ref T) σ' (upd H' T (.tup [x,z])) fun σ3 H3=>te σ3 H3 fun v H5=>C σ3 v H5)
  (fin:∀ D ys H',H1 D=none->Same H1 H'->H' D=some (.lst ys)->ys.length=min xs.length zs.length->(∀ i v,ys[i]?=some v->R i v H')->Q (.ref D) H'):CompGo own js g tTrue te σ Q (Itz t1 t2 K a b) H1:=by
 have s1:∀ H',Same H1 H'->SqX t1 K H' a xs:=fun H' s=>SqX.of (s _ _ hx)
 have s2:∀ H',Same H1 H'->SqX t2 K H' b zs:=fun H' s=>SqX.of (s _ _ hz)
 refine comp_map (min xs.length zs.length) Sg R (by omega) h0 mono (fun i H' hi s=>⟨xs,zs,xs[i]'(by omega),zs[i]'(by omega),s1 H' s,s2 H' s,by simp [show i < xs.length by omega],by simp [show i < zs.length by omega]⟩)
  (fun H' s=>⟨xs,zs,s1 H' s,s2 H' s,by omega⟩) (fun i x σ' H' H2 hi s hy sg C hC=>?_) fin
 obtain⟨T,x1,z1,hT,rfl,rfl,e1,e2⟩:=hy
 exact step i x1 z1 T σ' H' (e1 _ (s1 H' s)) (e2 _ (s2 H' s)) s hT sg C hC
end
theorem bools_of {f:Nat->Bool} {n:Nat} {ys:List V} (hl:ys.length=n) (h:∀ (i:Nat) (v:V),ys[i]?=some v->v=V.bl (f i)):ys=((List.range n).map f).map V.bl:=by
 refine List.ext_getElem? fun i=>?_
 by_cases hi:i < n
 ·obtain⟨v,hv⟩:∃ v,ys[i]?=some v:=⟨ys[i],List.getElem?_eq_getElem (by omega)⟩
  rw[hv,h i v hv]
  simp [hi]
 ·rw[List.getElem?_eq_none (by omega),List.getElem?_eq_none (by simp;omega)]
def tyD:PyData->String
 | .none=>"NoneType"
 | .bool _=>"bool"
 | .int _=>"int"
 | .str _=>"str"
 | .tuple _=>"tuple"
 | .list _=>"list"
 | .dict _=>"dict"
theorem ty_of {K:PySem.W.Frag} {H:Hp}:∀ {d:PyData} {v:V},Is K H d v->TyOf K H v (.type (tyD d))
 | .none,_,h=>by rw[show _=V.non from h];exact .non
 | .bool b,_,h=>by rw[show _=V.bl b from h];exact .bl b
 | .int i,_,h=>by rw[show _=V.int i from h];exact .int i
 | .str x,_,h=>by rw[show _=V.str x from h];exact .str x
 | .tuple _,_,⟨p,vs,e,h,_⟩=>by rw[e];exact .tup h
 | .list _,_,⟨p,vs,e,h,_⟩=>by rw[e];exact .lst h
 | .dict _,_,⟨_,p,e,h⟩=>by rw[e];exact .dK h
def wholeB:PyData->Bool
 | .int _=>true
 | _=>false
def wholesB:PyData->Bool
 | .tuple ds=>ds.all wholeB
 | _=>false
def tripleB:PyData->Bool
 | .tuple ds=>ds.all wholeB && decide (ds.length=3)
 | _=>false
def sizeB:PyData->Bool
 | .int n=>decide (1≤n) && decide (n≤24)
 | _=>false
def lengthB:PyData->Bool
 | .int n=>decide (1≤n) && decide (n≤10 ^ 18)
 | _=>false
def tieB (n:Int):PyData->Bool
 | .tuple [.int a,.int b,.int l]=>decide (0≤a) && decide (a < b) && decide (b < n) && decide (1≤l) && decide (l≤10 ^ 18)
 | _=>false
/-- how many things a tuple or a list has, at most -/
def few:PyData->Prop
 | .tuple ds=>ds.length≤1000
 | .list ds=>ds.length≤1000
 | _=>True
def spD1 (K:PySem.W.Frag) (pre:PyData->Prop) (f:PyData->Bool):Sp:=fun vs H Q _=>∃ d v,vs=[v]∧Is K H d v∧pre d∧∀ H',Same H H'->Q (.bl (f d)) H'
def spTie (K:PySem.W.Frag):Sp:=fun vs H Q _=>∃ n d v,vs=[.int n,v]∧Is K H d v∧few d∧∀ H',Same H H'->Q (.bl (tieB n d)) H'
theorem triple_of {ds:List PyData} (h:(ds.all wholeB && decide (ds.length=3))=true):∃ a b l,ds=[.int a,.int b,.int l]:=by
 rw[Bool.and_eq_true] at h
 have hl:=of_decide_eq_true h.2
 match ds,hl,h.1 with
 | [x,y,z],_,ha =>
  simp only [List.all_cons,List.all_nil,Bool.and_true,Bool.and_eq_true] at ha
  obtain⟨h1,h2,h3⟩:=ha
  cases x <;> first | cases h1 | skip
  cases y <;> first | cases h2 | skip
  cases z <;> first | cases h3 | skip
  exact⟨_,_,_,rfl⟩
theorem not_triple {n:Int} {ds:List PyData} (h:¬ (ds.all wholeB && decide (ds.length=3))=true):tieB n (.tuple ds)=false:=by
 unfold tieB
 split
 ·rename_i a b l e
  have e':ds=[.int a,.int b,.int l]:=by simpa using e
  subst e'
  exact absurd rfl h
 ·rfl
end L3
namespace L3
open PySem PySem.Spec PyProof.Rows L2
section
variable {g:TG} {te:TE} {own:List Str} {js:List Nat} {σ:L2.St} {H1:Hp} {Q:VK}
end
def e2 (e:Int × Int):List Int:=[e.1,e.2]
def risingB (es:List (Int × Int)):Bool:=((List.range (min es.length (es.drop 1).length)).map fun i=>HT.lexLt (e2 (es.getD i (0,0))) (e2 ((es.drop 1).getD i (0,0)))).all id
def TwoL (H:Hp) (ys:List V) (es:List (Int × Int)):Prop:=Paired (fun (y:V) (e:Int × Int)=>∃ a,y=.ref a∧H a=some (.tup [.int e.1,.int e.2])) ys es
theorem TwoL.get {H:Hp}:∀ {ys:List V} {es:List (Int × Int)} {i:Nat} {y:V},TwoL H ys es->ys[i]?=some y->∃ a,y=.ref a∧H a=some (.tup ((e2 (es.getD i (0,0))).map V.int))
 | _,_,_,_,.nil,h=>by simp at h
 | _,_,0,y,.cons (a:=y0) r t,h=>by
  have e:y0=y:=by simpa using h
  subst e
  exact r
 | _,_,i + 1,_,.cons r t,h=>TwoL.get (i:=i) t (by simpa using h)
theorem TwoL.drop1 {H:Hp} {ys:List V} {es:List (Int × Int)} (h:TwoL H ys es):TwoL H (ys.drop 1) (es.drop 1):=by
 cases h with
 | nil=>exact .nil
 | cons r t=>exact t
theorem cut1 (ys:List V):cutV ys (some 1) none=ys.drop 1:=by
 unfold cutV
 have e1:HT.sIx ys.length ys.length none=ys.length:=rfl
 have e2:HT.sIx ys.length 0 (some 1)=min 1 ys.length:=by
  unfold HT.sIx
  simp
 rw[e1,e2]
 by_cases h:ys.length=0
 ·have:ys=[]:=List.eq_nil_of_length_eq_zero h
  subst this;rfl
 ·have:min 1 ys.length=1:=by omega
  rw[this]
  exact List.take_of_length_le (by simp)
def spRising:Sp:=fun vs H Q _=>∃ p ys es,vs=[.ref p]∧H p=some (.lst ys)∧TwoL H ys es∧ys.length≤1000∧∀ H',Same H H'->Q (.bl (risingB es)) H'
/-- the look at a web whose ties are triples of whole numbers -/
def endsOf (t:Tie):Int × Int:=(t.1,t.2.1)
def webB (n:Int) (ts:List Tie):Bool:=sizeB (.int n) && decide (ts.length≤60) && ts.all (fun t=>tieB n (tieD t)) && risingB (ts.map endsOf)
def spWebT (K:PySem.W.Frag):Sp:=fun vs H Q _=>∃ n ts v,vs=[v]∧Is K H (webD n ts) v∧ts.length≤1000∧∀ H',Same H H'->Q (.bl (webB n ts)) H'
theorem rising_true {ts:List Tie} (h:ts.Pairwise endLt):risingB (ts.map endsOf)=true:=by
 unfold risingB
 rw[List.all_map,List.all_eq_true]
 intro i hi
 have hi':=List.mem_range.mp hi
 rw[List.length_drop,List.length_map] at hi'
 have h1:i + 1 < ts.length:=by omega
 have e1:(ts.map endsOf).getD i (0,0)=endsOf ts[i]:=by simp [List.getD,show i < ts.length by omega]
 have e3:((ts.map endsOf).drop 1).getD i (0,0)=endsOf ts[i + 1]:=by
  simp [List.getD,h1,Nat.add_comm 1 i]
 have q:=List.pairwise_iff_getElem.mp h i (i + 1) (by omega) h1 (by omega)
 show HT.lexLt (e2 ((ts.map endsOf).getD i (0,0))) (e2 (((ts.map endsOf).drop 1).getD i (0,0)))=true
 rw[e1,e3]
 show (if ts[i].1=ts[i + 1].1 then (if ts[i].2.1=ts[i + 1].2.1 then false else decide (ts[i].2.1 < ts[i + 1].2.1)) else decide (ts[i].1 < ts[i + 1].1))=true
 rcases q with q | ⟨q1,q2⟩
 ·rw[if_neg (by omega)];exact decide_eq_true q
 ·rw[if_pos q1,if_neg (by omega)];exact decide_eq_true q2
theorem webB_true {n:Int} {ts:List Tie} (h:WebOk n ts):webB n ts=true:=by
 have h1:sizeB (.int n)=true:=by
  show (decide (1≤n) && decide (n≤24))=true
  rw[decide_eq_true h.n1,decide_eq_true h.n24];rfl
 have h2:ts.all (fun t=>tieB n (tieD t))=true:=by
  rw[List.all_eq_true]
  intro t ht
  obtain⟨a,b,c,d,e⟩:=h.tie t ht
  show (decide (0≤t.1) && decide (t.1 < t.2.1) && decide (t.2.1 < n) && decide (1≤t.2.2) && decide (t.2.2≤10 ^ 18))=true
  rw[decide_eq_true a,decide_eq_true b,decide_eq_true c,decide_eq_true d,decide_eq_true e];rfl
 unfold webB
 rw[h1,h2,decide_eq_true h.few,rising_true h.rise];rfl
section
variable {g:TG} {te:TE} {own:List Str} {js:List Nat} {σ:L2.St} {H1:Hp} {Q:VK}
end
theorem TieL.get {H:Hp} {ys:List V} {us:List Tie} {i:Nat} {x:V} (h:TieL H ys us) (e:ys[i]?=some x):∃ a,x=.ref a∧H a=some (.tup ((tieI (us.getD i (0,0,0))).map V.int)):=by
 induction h generalizing i with
 | nil=>simp at e
 | @cons y0 _ _ _ r t ih =>
  cases i with
  | zero =>
   have e':y0=x:=by simpa using e
   rw[← e'];exact r
  | succ i=>exact ih (i:=i) (by simpa using e)
section
variable {X:Cx} {own fr:List Str} {scope:Scope} {fp:List Addr} {pins:List (Addr × Obj)} {s3:Shared} {H3:Hp} {pos:Pos}
theorem pg_tupC {es:List Expr} {k:Nat} {t:TGs} {n:Nat} (hc:X.calm=true) (h:PGs (cxComp X own fr scope fp pins s3 H3) es t)
  (hn:(assignEach es (cxComp X own fr scope fp pins s3 H3).env).length=n:=by rfl) (hst:(assignEach es (cxComp X own fr scope fp pins s3 H3).env).findIdx? (·.1)=none:=by rfl):PG (cxComp X own fr scope fp pins s3 H3) (.Tuple es k pos) (gTup X.K n t) :=
 pg_tup (X:=cxComp X own fr scope fp pins s3 H3) hc h hn hst
theorem sl_tupC:SlR (cxComp X own fr scope fp pins s3 H3) (rSlT X.K):=sl_tup (X:=cxComp X own fr scope fp pins s3 H3)
theorem op_ltTC (hu:X.A.units < cLine):OpR (cxComp X own fr scope fp pins s3 H3) (compareOp .Lt) (rLtT X.K):=op_ltT (X:=cxComp X own fr scope fp pins s3 H3) hu
end
end L3
namespace L3
open PySem PySem.Spec PyProof.Rows L2
def KeepOk (m:Nat) (ks:List Nat):Prop:=ks.Pairwise (· < ·)∧∀ k ∈ ks,k < m
def keepI (ks:List Nat):List Int:=ks.map fun k:Nat=>(k:Int)
def keepD (ks:List Nat):PyData:=.tuple ((keepI ks).map .int)
theorem KeepOk.len {m:Nat} {ks:List Nat} (h:KeepOk m ks):ks.length≤m:=by
 have go:∀ (ks:List Nat) (lo m:Nat),ks.Pairwise (· < ·)->(∀ k ∈ ks,lo≤k∧k < m)->ks.length + lo≤max m lo:=by
  intro ks
  induction ks with
  | nil=>intro lo m _ _;simp;omega
  | cons k r ih =>
   intro lo m hp hb
   have h1:=hb k List.mem_cons_self
   have:=ih (k + 1) m (List.pairwise_cons.mp hp).2 fun j hj=>⟨(List.pairwise_cons.mp hp).1 j hj,(hb j (List.mem_cons_of_mem _ hj)).2⟩
   rw[List.length_cons]
   omega
 have:=go ks 0 m h.1 fun k hk=>⟨Nat.zero_le _,h.2 k hk⟩
 omega
theorem web_parts {K:PySem.W.Frag} {H:Hp} {n:Int} {ts:List Tie} {v:V} (h:Is K H (webD n ts) v):∃ (p g:Addr) (ws:List V),v=.ref p∧H p=some (.tup [.int n,.ref g])∧H g=some (.tup ws)∧IsAll K H (ts.map tieD) ws∧ws.length=ts.length:=by
 obtain⟨p,vs,rfl,hp,v1,r1,rfl,e1,v2,r2,rfl,⟨g,ws,rfl,hg,hall⟩,e3⟩:=h
 have e1':v1=.int n:=e1
 have e3':r2=[]:=e3
 subst e1' e3'
 exact⟨p,g,ws,rfl,hp,hg,hall,by have:=hall.length;rw[List.length_map] at this;exact this⟩
end L3
namespace Z3
open PySem
section
variable {prog:Program} {w:World} {A:Around} {E:Value->Shared->Prop} {s:Shared}
end
end Z3
namespace L3
open PySem PySem.Spec PyProof.Rows L2
end L3
namespace HT
open PySem PyProof.Rows
section
variable {prog:Program} {w:World} {A:Around} {E:Value->Shared->Prop} {s:Shared}
/-- t[::-1] -/
theorem pick_back (xs:List Value):((List.range xs.length).filterMap fun (m:Nat)=>xs.toArray[((xs.length:Int) - 1 + (m:Int) * (-1)).toNat]?)=xs.reverse:=by
 refine List.ext_getElem? fun i=>?_
 have key:∀ (n:Nat),n≤xs.length->((List.range n).filterMap fun (m:Nat)=>xs.toArray[((xs.length:Int) - 1 + (m:Int) * (-1)).toNat]?)=xs.reverse.take n:=by
  intro n
  induction n with
  | zero=>intro _;simp
  | succ n ih =>
   intro hn
   rw[List.range_succ,List.filterMap_append,ih (by omega),List.take_add_one]
   congr 1
   have e:((xs.length:Int) - 1 + (n:Int) * (-1)).toNat=xs.length - 1 - n:=by omega
   have e2:xs.reverse[n]?=xs[xs.length - 1 - n]?:=List.getElem?_reverse (by omega)
   have h1:xs.length - 1 - n < xs.length:=by omega
   rw[List.filterMap_cons,e,e2]
   simp [h1]
 rw[key _ (Nat.le_refl _),List.take_of_length_le (by simp)]
end
end HT
namespace L3
open PySem PySem.Spec PyProof.Rows L2
section
variable {X:Cx} {pins:List (Addr × Obj)} {σ:L2.St} {H:Hp} {s:Shared} {e:Expr} {te:TE} {pos p2:Pos}
/-- {} -/
theorem pe_dict0:PE X (.Dict [] [] pos) (fun _ H Q=>∀ p,H p=none->Q (.ref p) (upd H p (.dK []))):=fun pins s σ H Q I h=>by
 have big:sysModules < s.heap.objs.size:=Nat.lt_trans (by decide) (I.mod.glob.keeps I.bk).lt
 exact wpAny_Dict_empty ⟨.ref s.heap.objs.size,_,I.laid (a:=s.heap.objs.size) (o:=.dK []) (t':=s.toks) (fun _ _ q=>Heap.get?_push_of_some _ q) (Nat.le_refl _) ⟨Nat.zero_le _,beq_eq_false_iff_ne.mpr (Ne.symm (Nat.ne_of_lt big)),[],.nil,Heap.DictOf.new _⟩,rfl,h _ (I.hok.fresh (Nat.le_refl _))⟩
end
end L3
namespace L3
open PySem PySem.Spec PyProof.Rows L2
theorem iteB2 {b:Bool} {A B:Prop} (h1:b=true->B) (h2:b=false->A):if (!b)=true then A else B:=by
 cases b with
 | true=>exact h1 rfl
 | false=>exact h2 rfl
def numB (m:Nat):PyData->Bool
 | .int i=>decide (0≤i) && decide (i < (m:Int))
 | _=>false
def intOf:PyData->Int
 | .int i=>i
 | _=>0
def risI (ns:List Int):Bool:=((List.range (min ns.length (ns.drop 1).length)).map fun i=>decide (ns.getD i 0 < (ns.drop 1).getD i 0)).all id
def keepB (m:Nat):PyData->Bool
 | .tuple ds=>ds.all (numB m) && risI (ds.map intOf)
 | _=>false
theorem risI_iff (ns:List Int):risI ns=true↔ns.Pairwise (· < ·):=by
 have step:risI ns=true↔∀ i (h:i + 1 < ns.length),ns[i] < ns[i + 1]:=by
  unfold risI
  rw[List.all_map,List.all_eq_true]
  constructor
  ·intro h i hi
   have:=h i (List.mem_range.mpr (by rw[List.length_drop];omega))
   have e1:ns.getD i 0=ns[i]:=by simp [List.getD,show i < ns.length by omega]
   have e2:(ns.drop 1).getD i 0=ns[i + 1]:=by simp [List.getD,hi,Nat.add_comm 1 i]
   have q:decide (ns.getD i 0 < (ns.drop 1).getD i 0)=true:=this
   rw[e1,e2] at q
   exact of_decide_eq_true q
  ·intro h i hi
   have hi':=List.mem_range.mp hi
   rw[List.length_drop] at hi'
   have h1:i + 1 < ns.length:=by omega
   have e1:ns.getD i 0=ns[i]:=by simp [List.getD,show i < ns.length by omega]
   have e2:(ns.drop 1).getD i 0=ns[i + 1]:=by simp [List.getD,h1,Nat.add_comm 1 i]
   show decide (ns.getD i 0 < (ns.drop 1).getD i 0)=true
   rw[e1,e2]
   exact decide_eq_true (h i h1)
 rw[step,List.pairwise_iff_getElem]
 constructor
 ·intro h i j hi hj hij
  have:∀ k (hk:i + 1 + k < ns.length),ns[i] < ns[i + 1 + k]:=by
   intro k
   induction k with
   | zero=>intro hk;exact h i hk
   | succ k ih=>intro hk;exact Int.lt_trans (ih (by omega)) (h (i + 1 + k) hk)
  have:=this (j - i - 1) (by omega)
  have e:i + 1 + (j - i - 1)=j:=by omega
  simpa only [e] using this
 ·intro h i hi
  exact h i (i + 1) (by omega) hi (by omega)
theorem num_int {m:Nat} {d:PyData} (h:numB m d=true):∃ i,d=.int i∧0≤i∧i < m:=by
 cases d with
 | int i =>
  have h':(decide (0≤i) && decide (i < (m:Int)))=true:=h
  rw[Bool.and_eq_true] at h'
  exact⟨i,rfl,of_decide_eq_true h'.1,of_decide_eq_true h'.2⟩
 | _=>cases h
structure Pre (m:Nat) (ds:List PyData) (i:Nat) (a:Int):Prop where
 num:∀ d ∈ ds.take i,numB m d=true
 up:((ds.take i).map intOf).Pairwise (· < ·)
 top:∀ x ∈ (ds.take i).map intOf,x≤a
 at_:a=-1∨a ∈ (ds.take i).map intOf
theorem Pre.zero {m:Nat} {ds:List PyData}:Pre m ds 0 (-1):=⟨fun d h=>(by simp at h),(by simp),fun x h=>(by simp at h),.inl rfl⟩
theorem Pre.lo {m:Nat} {ds:List PyData} {i:Nat} {a:Int} (h:Pre m ds i a):-1≤a:=by
 rcases h.at_ with e | e
 ·omega
 ·obtain⟨d,hd,rfl⟩:=List.mem_map.mp e
  obtain⟨x,rfl,h0,_⟩:=num_int (h.num d hd)
  show -1≤x
  omega
theorem take_next {α:Type} {ds:List α} {i:Nat} {d:α} (e:ds[i]?=some d):ds.take (i + 1)=ds.take i++[d]:=by
 rw[List.take_add_one,e];rfl
theorem Pre.next {m:Nat} {ds:List PyData} {i:Nat} {a x:Int} (h:Pre m ds i a) (e:ds[i]?=some (.int x)) (h1:a < x) (h2:x < m):Pre m ds (i + 1) x:=by
 have lo:=h.lo
 have t:=take_next e
 refine⟨fun d hd=>?_,?_,fun y hy=>?_,.inr ?_⟩
 ·rw[t] at hd
  rcases List.mem_append.mp hd with hd | hd
  ·exact h.num d hd
  ·have ed:d=.int x:=by simpa using hd
   subst ed
   show (decide (0≤x) && decide (x < (m:Int)))=true
   rw[decide_eq_true (by omega:0≤x),decide_eq_true h2];rfl
 ·rw[t,List.map_append,List.pairwise_append]
  refine⟨h.up,(by simp),fun y hy z hz=>?_⟩
  have ez:z=x:=by simpa [intOf] using hz
  subst ez
  have:=h.top y hy
  omega
 ·rw[t,List.map_append] at hy
  rcases List.mem_append.mp hy with hy | hy
  ·have:=h.top y hy;omega
  ·have ey:y=x:=by simpa [intOf] using hy
   omega
 ·rw[t,List.map_append]
  exact List.mem_append_right _ (by simp [intOf])
theorem Pre.full {m:Nat} {ds:List PyData} {a:Int} (h:Pre m ds ds.length a):keepB m (.tuple ds)=true:=by
 have e:ds.take ds.length=ds:=List.take_length
 have h1:=h.num
 have h2:=h.up
 rw[e] at h1 h2
 show (ds.all (numB m) && risI (ds.map intOf))=true
 rw[(risI_iff _).mpr h2,List.all_eq_true.mpr h1];rfl
theorem Pre.bad {m:Nat} {ds:List PyData} {i:Nat} {a:Int} {d:PyData} (h:Pre m ds i a) (e:ds[i]?=some d) (hb:wholeB d=false∨∃ x,d=.int x∧(x≤a∨(m:Int)≤x)):keepB m (.tuple ds)=false:=by
 have mem:d ∈ ds:=List.mem_of_getElem? e
 have noall:numB m d=false->keepB m (.tuple ds)=false:=fun z=>by
  show (ds.all (numB m) && risI (ds.map intOf))=false
  have:ds.all (numB m)=false:=by
   rw[Bool.eq_false_iff]
   intro q
   have:=List.all_eq_true.mp q d mem
   rw[z] at this;cases this
  rw[this];rfl
 rcases hb with hb | ⟨x,rfl,hx⟩
 ·exact noall (by cases d <;> first | rfl | cases hb)
 ·by_cases h0:0≤x∧x < m
  ·rcases hx with hx | hx
   ·rcases h.at_ with ea | ea
    ·omega
    ·show (ds.all (numB m) && risI (ds.map intOf))=false
     have:risI (ds.map intOf)=false:=by
      rw[Bool.eq_false_iff]
      intro q
      have pw:=(risI_iff _).mp q
      have split:ds.map intOf=(ds.take i).map intOf++((ds.drop i).map intOf):=by rw[← List.map_append,List.take_append_drop]
      rw[split,List.pairwise_append] at pw
      have:a < x:=pw.2.2 a ea x (List.mem_map.mpr ⟨.int x,by
       have hi:i < ds.length:=(List.getElem?_eq_some_iff.mp e).1
       rw[List.drop_eq_getElem_cons hi]
       have:ds[i]=.int x:=by rw[List.getElem?_eq_getElem hi] at e;exact Option.some.inj e
       rw[this]
       exact List.mem_cons_self,rfl⟩)
      omega
     rw[this,Bool.and_false]
   ·omega
  ·refine noall ?_
   show (decide (0≤x) && decide (x < (m:Int)))=false
   by_cases h1:0≤x
   ·rw[decide_eq_true h1,decide_eq_false (by omega)];rfl
   ·rw[decide_eq_false h1];rfl
def flatD:V->Bool
 | .non | .bl _ | .int _ | .str _=>true
 | _=>false
theorem cut_mem {xs:List V} {lo hi:Option Int} {x:V} (h:x ∈ cutV xs lo hi):x ∈ xs:=List.mem_of_mem_drop (List.mem_of_mem_take h)
theorem Pot.same {H H':Hp} {p:Addr} (h:Pot H p) (s:Same H H'):Pot H' p:=let ⟨a,b,e,z⟩:=h;⟨a,b,s _ _ e,z⟩
theorem tup_ints:∀ ns:List Int,tupAll (ns.map .int)=true
 | []=>rfl
 | n::ns=>by show (tupD (.int n) && tupAll (ns.map .int))=true;rw[tup_ints ns];rfl
theorem tup_ties:∀ ts:List Tie,tupAll (ts.map tieD)=true
 | []=>rfl
 | t::r=>by show (tupD (tieD t) && tupAll (r.map tieD))=true;rw[tup_ties r];rfl
theorem tup_web (n:Int) (ts:List Tie):tupD (webD n ts)=true:=by
 show (true && (tupAll (ts.map tieD) && true))=true
 rw[tup_ties ts];rfl
theorem tup_keep (ks:List Nat):tupD (keepD ks)=true:=tup_ints _
end L3
namespace L3
end L3
namespace HT
open PySem PyProof.Rows
def lexLe:List Int->List Int->Bool
 | [],_=>true
 | _::_,[]=>false
 | x::xs,y::ys=>if x=y then lexLe xs ys else decide (x≤y)
theorem lexLe_cons (x y:Int) (xs ys:List Int):lexLe (x::xs) (y::ys)=if x=y then lexLe xs ys else decide (x≤y):=rfl
theorem lexLe_nil_nil:lexLe [] []=true:=rfl
theorem lexLe_nil_cons (y:Int) (ys:List Int):lexLe [] (y::ys)=true:=rfl
theorem lexLe_cons_nil (x:Int) (xs:List Int):lexLe (x::xs) []=false:=rfl
theorem rcLe_int (A:Around) (s:Shared) (a:Int) (t:Tok) (c:Int) (u:Tok) (prog:Program) (w:World) (E:Value->Shared->Prop) (Q:Value->Shared->Prop) (h:Q (.bool (decide (a≤c))) s) :
  wpAny (model prog w) A (richCompare .LtE (.int a t) (.int c u)) Q E s :=
 (PyProof.Rows.le_int h:wpAny (model prog w) A (compareOp .LtE (.int a t) (.int c u)) Q E s)
section
open PySem.SeqAt
open PySem.AutoSeq1 (wpAny_loadPart')
open PySem.MeetsSeq PySem.MeetsSeq2 PySem.MeetsSeq3
theorem tuple_le_ints (l b:Addr) (its jts:Array Value) (n n2:Nat) (dd dd2:Option Addr) (sl sl2:Array (Option Value)) (ns ms:List Int) (hi:IntsAre its.toList ns) (hj:IntsAre jts.toList ms) :
  Meets (Builtin.«tuple.__le__» ⟨[.ref l,.ref b],[]⟩)
   (fun _ R s=>s.heap.get? l=some { cls:=.type "tuple",dict:=dd,data:=.seq its n,slots:=sl }∧s.heap.get? b=some { cls:=.type "tuple",dict:=dd2,data:=.seq jts n2,slots:=sl2 } ∧
    R (.ok (.ret (.bool (lexLe ns ms)))) s) :=
 .of_wp fun prog w A R s h=>by
  obtain⟨p0,g,d,tk,os⟩:=s;obtain⟨hl,hb,h⟩:=h
  have f2:=AutoSeq1.sub_tuple_tuple
  have z1:its.size=ns.length:=by rw[← hi.length];simp
  have z2:jts.size=ms.length:=by rw[← hj.length];simp
  wp_walk using wpAny_loadPart' hl,wpAny_loadPart' hb,wpAny_forIn_list _ (fun rest b s'=>b.1=none∧s'=⟨p0,g,d,tk,os⟩∧∃ (vs ws:List Value) (ns1 ms1:List Int),rest=vs.zip ws ∧
   IntsAre vs ns1∧IntsAre ws ms1∧ns1.length + jts.size=ms1.length + its.size∧R (.ok (.ret (.bool (lexLe ns1 ms1)))) ⟨p0,g,d,tk,os⟩) _
  case turn =>
   rintro ⟨y,x⟩ rest b s' ⟨hb',rfl,vs,ws,ns1,ms1,hq,hva,hwa,hn,hr⟩
   cases hva with
   | nil=>rw[List.zip_nil_left] at hq;cases hq
   | cons a t hv2 =>
    cases hwa with
    | nil=>rw[List.zip_nil_right] at hq;cases hq
    | cons c u hw2 =>
     rw[List.zip_cons_cons] at hq
     injection hq with hab hre
     injection hab with hy hx
     subst hy hx
     rw[lexLe_cons] at hr
     simp only [List.length_cons] at hn
     obtain⟨e,he,hie⟩:=eqAt_int A.in1 ⟨p0,g,d,tk,os⟩ a t c u
     refine wpAny_bind (he prog w _ _ ?_)
     cases e with
     | true =>
      rw[if_pos (hie.mp rfl)] at hr
      wp_walk
      exact⟨rfl,rfl,_,_,_,_,hre,hv2,hw2,by omega,hr⟩
     | false =>
      rw[if_neg (fun q=>absurd (hie.mpr q) Bool.false_ne_true)] at hr
      have hrc:=rcLe_int A.in1 ⟨p0,g,d,tk,os⟩ a t c u prog w
      wp_walk using hrc
      exact⟨_,rfl,by simpa using hr⟩
  case fin =>
   rintro ⟨b1,b2⟩ s' ⟨hb',rfl,vs,ws,ns1,ms1,hq,hva,hwa,hn,hr⟩
   simp only at hb'
   subst hb'
   have hv:lexLe ns1 ms1=decide (its.size≤jts.size):=by
    cases hva with
    | nil =>
     cases hwa with
     | nil =>
      simp only [List.length_nil] at hn
      rw[lexLe_nil_nil]
      exact (decide_eq_true (by omega)).symm
     | cons c u hw =>
      simp only [List.length_nil,List.length_cons] at hn
      rw[lexLe_nil_cons]
      exact (decide_eq_true (by omega)).symm
    | cons a t hv =>
     cases hwa with
     | nil =>
      simp only [List.length_nil,List.length_cons] at hn
      rw[lexLe_cons_nil]
      exact (decide_eq_false (by omega)).symm
     | cons c u hw =>
      rw[List.zip_cons_cons] at hq
      cases hq
   rw[hv] at hr
   wp_walk
   exact⟨_,rfl,by simpa [Builtin.Tuple.tupleCompareSizes] using hr⟩
  case h =>
   exact⟨rfl,rfl,its.toList,jts.toList,ns,ms,rfl,hi,hj,by omega,h⟩
end
section
variable {prog:Program} {w:World} {A:Around} {E:Value->Shared->Prop} {s:Shared}
theorem le_tupInts {l b:Addr} {its jts:Array Value} {ns ms:List Int} {Q:Value->Shared->Prop} (hl:IsTup s.heap l its) (hb:IsTup s.heap b jts) (hi:IntsAre its.toList ns) (hj:IntsAre jts.toList ms)
  (hu:A.units < cLine) (h:Q (.bool (lexLe ns ms)) s):wpAny (model prog w) A (compareOp .LtE (.ref l) (.ref b)) Q E s:=by
 obtain⟨⟨c1,d1,t1,s1⟩,g1,h1,n1,e1⟩:=id hl
 obtain⟨⟨c2,d2,t2,s2⟩,g2,h2,n2,e2⟩:=id hb
 simp only at h1 e1 h2 e2
 subst h1 e1 h2 e2
 exact richCompare_meets_room (op:=.LtE) ⟨_,g1,rfl⟩ ⟨_,g2,rfl⟩ PySem.F.slot_tuple_le PySem.F.entry_tuple_le (PySem.F.args_tuple_le_2 _ _) (tuple_le_ints l b its jts n1 n2 d1 d2 s1 s2 ns ms hi hj)
  ⟨g1,g2,show Value.bool (lexLe ns ms)≠Value.notImplemented∧Q (.bool (lexLe ns ms)) s from ⟨(fun x=>nomatch x),h⟩⟩ hu
end
end HT
namespace L3
open PySem PySem.Spec PyProof.Rows L2
section
variable {X:Cx}
def rLeT (K:PySem.W.Frag):R2:=fun x y H Q=>∃ a b ns ms,x=.ref a∧y=.ref b∧SqT K H a (ns.map V.int)∧SqT K H b (ms.map V.int)∧Q (.bl (HT.lexLe ns ms)) H
theorem op_leT (hu:X.A.units < cLine):OpR X (compareOp .LtE) (rLeT X.K):=by
 intro pins s σ H x y v u Q I rx ry h
 obtain⟨a,b,ns,ms,rfl,rfl,ha,hb,q⟩:=h
 cases rx
 cases ry
 obtain⟨its,r1,p1,_⟩:=I.tuple ha
 obtain⟨jts,r2,p2,_⟩:=I.tuple hb
 exact HT.le_tupInts p1 p2 (intsAre_of r1) (intsAre_of r2) hu ⟨.bl _,H,I,rfl,q⟩
end
end L3
namespace L3
open PySem PySem.Spec PyProof.Rows L2
/-- tuples and lists of at most a thousand things, so deep -/
def wide:Nat->PyData->Prop
 | 0,_=>True
 | k + 1,.tuple ds=>ds.length≤1000∧∀ d ∈ ds,wide k d
 | k + 1,.list ds=>ds.length≤1000∧∀ d ∈ ds,wide k d
 | _ + 1,_=>True
theorem wide.few {k:Nat} {d:PyData} (h:wide (k + 1) d):few d:=by
 cases d with
 | tuple ds=>exact (show ds.length≤1000∧_ from h).1
 | list ds=>exact (show ds.length≤1000∧_ from h).1
 | _=>trivial
theorem wide.mem {k:Nat} {ds:List PyData} {d:PyData} (h:wide (k + 1) (.tuple ds)) (m:d ∈ ds):wide k d:=(show _∧∀ d ∈ ds,wide k d from h).2 d m
def endsD:PyData->Int × Int
 | .tuple [.int a,.int b,.int _]=>(a,b)
 | _=>(0,0)
def tiesB (n:Int):PyData->Bool
 | .tuple ds=>decide (ds.length≤60) && ds.all (tieB n) && risingB (ds.map endsD)
 | _=>false
theorem tie_of {n:Int} {d:PyData} (h:tieB n d=true):∃ a b l,d=.tuple [.int a,.int b,.int l]∧0≤a∧a < b∧b < n:=by
 unfold tieB at h
 split at h
 ·rename_i a b l
  simp only [Bool.and_eq_true,decide_eq_true_eq] at h
  obtain⟨⟨⟨⟨h1,h2⟩,h3⟩,h4⟩,h5⟩:=h
  exact⟨a,b,l,rfl,h1,h2,h3⟩
 ·cases h
/-- good values: flat, or tuples and lists of such, or {} -/
def Gd (H:Hp):Nat->V->Prop
 | 0,v=>flatD v=true
 | k + 1,v=>flatD v=true∨(∃ p vs,v=.ref p∧(H p=some (.tup vs)∨H p=some (.lst vs))∧vs.length≤1000∧∀ u ∈ vs,Gd H k u)∨(∃ p,v=.ref p∧H p=some (.dK []))
theorem Gd.same {H H':Hp} (s:Same H H'):∀ {k:Nat} {v:V},Gd H k v->Gd H' k v
 | 0,_,h=>h
 | k + 1,_,h=>by
  rcases h with h | ⟨p,vs,e,h1,h2,h3⟩ | ⟨p,e,h⟩
  ·exact .inl h
  ·exact .inr (.inl ⟨p,vs,e,h1.elim (fun z=>.inl (s _ _ z)) (fun z=>.inr (s _ _ z)),h2,fun u hu=>Gd.same s (h3 u hu)⟩)
  ·exact .inr (.inr ⟨p,e,s _ _ h⟩)
theorem Gd.flat {H:Hp} {k:Nat} {v:V} (h:flatD v=true):Gd H k v:=by
 cases k with
 | zero=>exact h
 | succ k=>exact .inl h
theorem Gd.up {H:Hp}:∀ {k:Nat} {v:V},Gd H k v->Gd H (k + 1) v
 | 0,_,h=>.inl h
 | k + 1,_,h=>by
  rcases h with h | ⟨p,vs,e,h1,h2,h3⟩ | h
  ·exact .inl h
  ·exact .inr (.inl ⟨p,vs,e,h1,h2,fun u hu=>Gd.up (h3 u hu)⟩)
  ·exact .inr (.inr h)
theorem Gd.tup {H:Hp} {k:Nat} {p:Addr} {vs:List V} (h:H p=some (.tup vs)) (hl:vs.length≤1000) (ha:∀ u ∈ vs,Gd H k u):Gd H (k + 1) (.ref p):=.inr (.inl ⟨p,vs,rfl,.inl h,hl,ha⟩)
theorem Gd.lst {H:Hp} {k:Nat} {p:Addr} {vs:List V} (h:H p=some (.lst vs)) (hl:vs.length≤1000) (ha:∀ u ∈ vs,Gd H k u):Gd H (k + 1) (.ref p):=.inr (.inl ⟨p,vs,rfl,.inr h,hl,ha⟩)
theorem wide_flat {K:PySem.W.Frag} {H:Hp} {k:Nat} {v:V} (h:flatD v=true):∃ d,Is K H d v∧wide k d:=by
 cases v with
 | non=>exact⟨.none,rfl,by cases k <;> trivial⟩
 | bl b=>exact⟨.bool b,rfl,by cases k <;> trivial⟩
 | int i=>exact⟨.int i,rfl,by cases k <;> trivial⟩
 | str x=>exact⟨.str x,rfl,by cases k <;> trivial⟩
 | _=>cases h
theorem good_all {K:PySem.W.Frag} {H:Hp} {k:Nat}:∀ {vs:List V},(∀ u ∈ vs,∃ d,Is K H d u∧wide k d)->∃ ds:List PyData,IsAll K H ds vs∧∀ d ∈ ds,wide k d
 | [],_=>⟨[],rfl,fun d h=>by cases h⟩
 | v::vs,h=>by
  obtain⟨d,hd,hw⟩:=h v List.mem_cons_self
  obtain⟨ds,hds,hws⟩:=good_all fun u hu=>h u (List.mem_cons_of_mem _ hu)
  exact⟨d::ds,⟨v,vs,rfl,hd,hds⟩,fun e he=>(List.mem_cons.mp he).elim (fun z=>z ▸ hw) (hws e)⟩
theorem Gd.is {K:PySem.W.Frag} {H:Hp}:∀ {k:Nat} {v:V},Gd H k v->∃ d,Is K H d v∧wide k d
 | 0,_,h=>wide_flat h
 | k + 1,_,h=>by
  rcases h with h | ⟨p,vs,rfl,h1,h2,h3⟩ | ⟨p,rfl,h⟩
  ·exact wide_flat h
  ·obtain⟨ds,hds,hws⟩:=good_all (K:=K) fun u hu=>Gd.is (h3 u hu)
   have hl:ds.length≤1000:=by rw[← hds.length];exact h2
   rcases h1 with h1 | h1
   ·exact⟨.tuple ds,⟨p,vs,rfl,h1,hds⟩,hl,hws⟩
   ·exact⟨.list ds,⟨p,vs,rfl,h1,hds⟩,hl,hws⟩
  ·exact⟨.dict [],⟨rfl,p,rfl,h⟩,trivial⟩
def lt2 (e f:Int × Int):Prop:=e.1 < f.1∨(e.1=f.1∧e.2 < f.2)
theorem lexLt_e2 (e f:Int × Int):HT.lexLt (e2 e) (e2 f)=true↔lt2 e f:=by
 show (if e.1=f.1 then (if e.2=f.2 then false else decide (e.2 < f.2)) else decide (e.1 < f.1))=true↔_
 unfold lt2
 by_cases h:e.1=f.1
 ·rw[if_pos h]
  by_cases h2:e.2=f.2
  ·rw[if_pos h2];simp;omega
  ·rw[if_neg h2,decide_eq_true_eq];omega
 ·rw[if_neg h,decide_eq_true_eq];omega
theorem lt2.trans {e f g:Int × Int} (h:lt2 e f) (k:lt2 f g):lt2 e g:=by unfold lt2 at *;omega
theorem rising_iff (es:List (Int × Int)):risingB es=true↔es.Pairwise lt2:=by
 have step:risingB es=true↔∀ i (h:i + 1 < es.length),lt2 es[i] es[i + 1]:=by
  unfold risingB
  rw[List.all_map,List.all_eq_true]
  constructor
  ·intro h i hi
   have:=h i (List.mem_range.mpr (by rw[List.length_drop];omega))
   have e1:es.getD i (0,0)=es[i]:=by simp [List.getD,show i < es.length by omega]
   have e3:(es.drop 1).getD i (0,0)=es[i + 1]:=by simp [List.getD,hi,Nat.add_comm 1 i]
   have q:HT.lexLt (e2 (es.getD i (0,0))) (e2 ((es.drop 1).getD i (0,0)))=true:=this
   rw[e1,e3] at q
   exact (lexLt_e2 _ _).mp q
  ·intro h i hi
   have hi':=List.mem_range.mp hi
   rw[List.length_drop] at hi'
   have h1:i + 1 < es.length:=by omega
   have e1:es.getD i (0,0)=es[i]:=by simp [List.getD,show i < es.length by omega]
   have e3:(es.drop 1).getD i (0,0)=es[i + 1]:=by simp [List.getD,h1,Nat.add_comm 1 i]
   show HT.lexLt (e2 (es.getD i (0,0))) (e2 ((es.drop 1).getD i (0,0)))=true
   rw[e1,e3]
   exact (lexLt_e2 _ _).mpr (h i h1)
 rw[step,List.pairwise_iff_getElem]
 constructor
 ·intro h i j hi hj hij
  have go:∀ k (hk:i + 1 + k < es.length),lt2 es[i] es[i + 1 + k]:=by
   intro k
   induction k with
   | zero=>intro hk;exact h i hk
   | succ k ih=>intro hk;exact (ih (by omega)).trans (h (i + 1 + k) hk)
  have:=go (j - i - 1) (by omega)
  have e:i + 1 + (j - i - 1)=j:=by omega
  simpa only [e] using this
 ·intro h i hi
  exact h i (i + 1) (by omega) hi (by omega)
structure PreT (n:Int) (ds:List PyData) (i:Nat) (a:Int × Int):Prop where
 tie:∀ d ∈ ds.take i,tieB n d=true
 up:((ds.take i).map endsD).Pairwise lt2
 top:∀ x ∈ (ds.take i).map endsD,x=a∨lt2 x a
 at_:a=(-1,-1)∨a ∈ (ds.take i).map endsD
theorem PreT.zero {n:Int} {ds:List PyData}:PreT n ds 0 (-1,-1):=⟨fun d h=>(by simp at h),(by simp),fun x h=>(by simp at h),.inl rfl⟩
theorem PreT.next {n:Int} {ds:List PyData} {i:Nat} {a:Int × Int} {d:PyData} (h:PreT n ds i a) (e:ds[i]?=some d) (ht:tieB n d=true) (hl:lt2 a (endsD d)):PreT n ds (i + 1) (endsD d):=by
 have t:=take_next e
 refine⟨fun d' hd=>?_,?_,fun y hy=>?_,.inr ?_⟩
 ·rw[t] at hd
  rcases List.mem_append.mp hd with hd | hd
  ·exact h.tie d' hd
  ·rw[List.mem_singleton.mp hd];exact ht
 ·rw[t,List.map_append,List.pairwise_append]
  refine⟨h.up,(by simp),fun y hy z hz=>?_⟩
  have ez:z=endsD d:=by simpa using hz
  subst ez
  rcases h.top y hy with e1 | e1
  ·rw[e1];exact hl
  ·exact e1.trans hl
 ·rw[t,List.map_append] at hy
  rcases List.mem_append.mp hy with hy | hy
  ·right
   rcases h.top y hy with e1 | e1
   ·rw[e1];exact hl
   ·exact e1.trans hl
  ·left;simpa using hy
 ·rw[t,List.map_append]
  exact List.mem_append_right _ (by simp)
theorem PreT.full {n:Int} {ds:List PyData} {a:Int × Int} (h:PreT n ds ds.length a) (h60:ds.length≤60):tiesB n (.tuple ds)=true:=by
 have e:ds.take ds.length=ds:=List.take_length
 have h1:=h.tie
 have h2:=h.up
 rw[e] at h1 h2
 show (decide (ds.length≤60) && ds.all (tieB n) && risingB (ds.map endsD))=true
 rw[(rising_iff _).mpr h2,List.all_eq_true.mpr h1,decide_eq_true h60];rfl
theorem PreT.bad {n:Int} {ds:List PyData} {i:Nat} {a:Int × Int} {d:PyData} (h:PreT n ds i a) (e:ds[i]?=some d) (hb:tieB n d=false∨(tieB n d=true∧¬ lt2 a (endsD d))):tiesB n (.tuple ds)=false:=by
 have mem:d ∈ ds:=List.mem_of_getElem? e
 show (decide (ds.length≤60) && ds.all (tieB n) && risingB (ds.map endsD))=false
 rcases hb with hb | ⟨hb,hn⟩
 ·have:ds.all (tieB n)=false:=by
   rw[Bool.eq_false_iff]
   intro q
   have:=List.all_eq_true.mp q d mem
   rw[hb] at this;cases this
  rw[this,Bool.and_false,Bool.false_and]
 ·have:risingB (ds.map endsD)=false:=by
   rw[Bool.eq_false_iff]
   intro q
   have pw:=(rising_iff _).mp q
   rcases h.at_ with ea | ea
   ·obtain⟨x,y,l,rfl,h0,h1,_⟩:=tie_of hb
    refine hn ?_
    rw[ea]
    show (-1:Int) < x∨_
    omega
   ·have split:ds.map endsD=(ds.take i).map endsD++((ds.drop i).map endsD):=by rw[← List.map_append,List.take_append_drop]
    rw[split,List.pairwise_append] at pw
    refine hn (pw.2.2 a ea _ (List.mem_map.mpr ⟨d,?_,rfl⟩))
    have hi:i < ds.length:=(List.getElem?_eq_some_iff.mp e).1
    rw[List.drop_eq_getElem_cons hi]
    have:ds[i]=d:=by rw[List.getElem?_eq_getElem hi] at e;exact Option.some.inj e
    rw[this]
    exact List.mem_cons_self
  rw[this,Bool.and_false]
end L3
namespace L3
open PySem PySem.Spec PyProof.Rows L2
section
variable {X:Cx} {es:List Expr} {t:TA} {pos:Pos}
def tTupG (t:TA):TE:=fun σ H Q=>t σ H fun xs H1=>xs.length≤1000∧∀ p H',Same H1 H'->H1 p=none->H' p=some (.tup xs)->Q (.ref p) H'
def tLstG (t:TA):TE:=fun σ H Q=>t σ H fun xs H1=>xs.length≤1000∧∀ p H',Same H1 H'->H1 p=none->H' p=some (.lst xs)->Q (.ref p) H'
theorem pe_tupG {x1} (h:PA X es t):PE X (.Tuple es x1 pos) (tTupG t):=by
 intro pins s σ H Q I hq
 refine wpAny_Tuple_spliced (thn (h pos pins s σ H _ I hq) fun us s1 ⟨xs,J,I1,r,z,q⟩=>?_)
 have z':xs.length≤sizeLine:=Nat.le_trans z (by decide)
 have fr:J s1.heap.objs.size=none:=I1.hok.fresh (Nat.le_refl _)
 refine⟨by rw[← r.length];exact z',.ref s1.heap.objs.size,upd J s1.heap.objs.size (.tup xs),I1.laid (t':=s1.toks) (fun b u e=>Heap.get?_push_of_some _ e) (Nat.le_refl _) ⟨z',us,r,⟨_,Heap.get?_push_size _ rfl,rfl,⟨_,rfl⟩,rfl⟩⟩,rfl,q _ _ (same_new fr) fr upd_same⟩
theorem pe_lstG (h:PA X es t):PE X (.List es pos) (tLstG t):=by
 intro pins s σ H Q I hq
 refine wpAny_List_spliced (thn (h pos pins s σ H _ I hq) fun us s1 ⟨xs,J,I1,r,z,q⟩=>?_)
 have z':xs.length≤sizeLine:=Nat.le_trans z (by decide)
 have fr:J s1.heap.objs.size=none:=I1.hok.fresh (Nat.le_refl _)
 refine⟨by rw[← r.length];exact z',.ref s1.heap.objs.size,upd J s1.heap.objs.size (.lst xs),I1.laid (t':=s1.toks) (fun b u e=>Heap.get?_push_of_some _ e) (Nat.le_refl _) ⟨z',us,0,r,Heap.get?_push_size _ rfl⟩,rfl,q _ _ (same_new fr) fr upd_same⟩
/-- l.extend(m), l.append(x) -/
def rExtendG:V->List V->Hp->VK->Prop:=fun x vs H Q=>∃ l b xs zs,x=.ref l∧vs=[.ref b]∧H l=some (.lst xs)∧H b=some (.lst zs)∧xs.length + zs.length≤1000∧∀ H',But l H H'->H' l=some (.lst (xs++zs))->Q .non H'
theorem mt_extendG:MtM X "list.extend" rExtendG:=by
 intro pins s σ H x vs v us Q I rx rv h
 obtain⟨l,b,xs,zs,rfl,rfl,hH,hB,hz,q⟩:=h
 exact mt_extend (X:=X) pins s σ H _ _ v us Q I rx rv ⟨l,b,xs,zs,rfl,rfl,hH,hB,Nat.le_trans hz (by decide),q _ But.upd upd_same⟩
def rAppendG:V->List V->Hp->VK->Prop:=fun x vs H Q=>∃ l xs y,x=.ref l∧vs=[y]∧H l=some (.lst xs)∧xs.length < 1000∧∀ H',But l H H'->H' l=some (.lst (xs++[y]))->Q .non H'
theorem mt_appendG:MtM X "list.append" rAppendG:=by
 intro pins s σ H x vs v us Q I rx rv h
 obtain⟨l,xs,y,rfl,rfl,hH,hz,q⟩:=h
 exact mt_append (X:=X) pins s σ H _ _ v us Q I rx rv ⟨l,xs,y,rfl,rfl,hH,Nat.lt_of_lt_of_le hz (by decide),q _ But.upd upd_same⟩
end
def Sm (H:Hp) (t:Addr):Prop:=∃ vs:List V,(H t=some (.tup vs)∨H t=some (.lst vs))∧vs.length≤1000∧vs.all flatD=true
theorem Sm.same {H H':Hp} {t:Addr} (h:Sm H t) (s:Same H H'):Sm H' t:=let ⟨vs,h1,h2⟩:=h;⟨vs,h1.elim (fun e=>.inl (s _ _ e)) (fun e=>.inr (s _ _ e)),h2⟩
theorem Sm.some {H:Hp} {t:Addr} (h:Sm H t):H t≠none:=fun z=>by
 obtain⟨vs,h1,_⟩:=h
 rcases h1 with e | e <;> (rw[z] at e;cases e)
theorem Sm.good {H:Hp} {t:Addr} (h:Sm H t):Gd H 1 (.ref t):=by
 obtain⟨vs,h1,h2,h3⟩:=h
 exact .inr (.inl ⟨t,vs,rfl,h1,h2,fun u hu=>List.all_eq_true.mp h3 u hu⟩)
def GdF (H:Hp) (xs:List V):Prop:=∀ u ∈ xs,∃ t,u=.ref t∧Sm H t
def GdL (l:Addr) (H:Hp) (xs:List V):Prop:=∀ u ∈ xs,∃ t,u=.ref t∧t≠l∧Sm H t
theorem GdF.nil {H:Hp}:GdF H []:=fun u h=>by cases h
theorem GdF.snoc {H H':Hp} {xs:List V} {t:Addr} (h:GdF H xs) (s:Same H H') (ht:Sm H' t):GdF H' (xs++[.ref t]):=fun u hu=>by
 rcases List.mem_append.mp hu with hu | hu
 ·obtain⟨t',e,h'⟩:=h u hu;exact⟨t',e,h'.same s⟩
 ·exact⟨t,List.mem_singleton.mp hu,ht⟩
theorem GdL.same {l:Addr} {H H':Hp} {xs:List V} (h:GdL l H xs) (s:Same H H'):GdL l H' xs:=fun u hu=>let ⟨t,e,n,h'⟩:=h u hu;⟨t,e,n,h'.same s⟩
theorem GdL.but {l:Addr} {H H':Hp} {xs:List V} (h:GdL l H xs) (b:But l H H'):GdL l H' xs:=fun u hu=>by
 obtain⟨t,e,n,vs,h1,h2⟩:=h u hu
 exact⟨t,e,n,vs,h1.elim (fun z=>.inl (b _ _ n z)) (fun z=>.inr (b _ _ n z)),h2⟩
theorem GdL.append {l:Addr} {H:Hp} {xs ys:List V} (h:GdL l H xs) (k:GdL l H ys):GdL l H (xs++ys):=fun u hu=>(List.mem_append.mp hu).elim (h u) (k u)
theorem GdL.nil {l:Addr} {H:Hp}:GdL l H []:=fun u h=>by cases h
theorem GdL.snoc {l:Addr} {H H':Hp} {xs:List V} {t:Addr} (h:GdL l H xs) (s:Same H H') (f:H t=none) (hl:H l≠none) (ht:Sm H' t):GdL l H' (xs++[.ref t]):=fun u hu=>by
 rcases List.mem_append.mp hu with hu | hu
 ·exact h.same s u hu
 ·exact⟨t,List.mem_singleton.mp hu,fun z=>hl (z ▸ f),ht⟩
theorem cat_lst {prog:Program} {w:World} {A:Around} {E:Value->Shared->Prop} {s:Shared} {l b:Addr} {vs ws:List Value} {Q:Value->Shared->Prop} (hl:s.heap.IsList l vs.toArray) (hb:s.heap.IsList b ws.toArray)
  (h:Q (.ref s.heap.objs.size) { s with heap:=s.heap.push { cls:=.type "list",data:=.seq (vs++ws).toArray } }) (hz:vs.length + ws.length≤sizeLine):wpAny (model prog w) A (binaryOp .Add (.ref l) (.ref b)) Q E s:=by
 obtain⟨⟨c1,d1,t1,s1⟩,g1,h1,n1,e1⟩:=id hl
 obtain⟨⟨c2,d2,t2,s2⟩,g2,h2,n2,e2⟩:=id hb
 simp only at h1 e1 h2 e2
 subst h1 e1 h2 e2
 have e:vs.toArray++ws.toArray=(vs++ws).toArray:=by simp
 refine concat_meets ⟨_,g1,rfl⟩ ⟨_,g2,rfl⟩ noFill_list_add seq_list_add PySem.F.slot_list_add PySem.F.entry_list_add (PySem.F.args_list_add_2 _ _) (list_addW l b vs.toArray ws.toArray n1 n2 d1 d2 s1 s2 (by rw[List.size_toArray,List.size_toArray];exact hz)) ⟨g1,g2,?_⟩
 rw[e]
 exact h
/-- l + m -/
def rCatL:R2:=fun x y H Q=>∃ a b xs ys,x=.ref a∧y=.ref b∧H a=some (.lst xs)∧H b=some (.lst ys)∧xs.length + ys.length≤1000∧∀ p H',Same H H'->H p=none->H' p=some (.lst (xs++ys))->Q (.ref p) H'
theorem op_catL {X:Cx}:OpR X (binaryOp .Add) rCatL:=by
 intro pins s σ H x y v u Q I rx ry h
 obtain⟨a,b,xs,ys,rfl,rfl,ha,hb,hz,q⟩:=h
 cases rx
 cases ry
 obtain⟨its,r1,p1,_⟩:=I.list (SqL.of ha)
 obtain⟨jts,r2,p2,_⟩:=I.list (SqL.of hb)
 have hz':xs.length + ys.length≤sizeLine:=Nat.le_trans hz (by decide)
 have fr:H s.heap.objs.size=none:=I.hok.fresh (Nat.le_refl _)
 refine cat_lst p1.isList p2.isList ⟨.ref s.heap.objs.size,_,I.laid (t':=s.toks) (o:=.lst (xs++ys)) (fun b ob q=>Heap.get?_push_of_some _ q) (Nat.le_refl _) ⟨by rw[List.length_append];exact hz',_,0,r1.append r2,Heap.get?_push_size _ rfl⟩,rfl,q _ _ (same_new fr) fr upd_same⟩ (by rw[← r1.length,← r2.length];exact hz')
section
variable {g:TG} {te:TE} {own:List Str} {js:List Nat} {σ:L2.St} {H1:Hp} {Q:VK}
theorem comp_range {lo:Int} {n:Nat} (Sg:L2.St->Prop) (R:Nat->V->Hp->Prop) (hn:n≤1000) (h0:Sg (start3 own js σ)) (mono:∀ i v H H',TupKeep H H'->R i v H->R i v H')
  (step:∀ i σ' H',i < n->Same H1 H'->Sg σ'->∀ C:L2.St->V->Hp->Prop,(∀ σ3 v H5,Sg σ3->Same H' H5->R i v H5->C σ3 v H5)->g (.int (lo + i)) σ' H' fun σ3 H3=>te σ3 H3 fun v H5=>C σ3 v H5)
  (fin:∀ D ys H',H1 D=none->Same H1 H'->H' D=some (.lst ys)->ys.length=n->(∀ i v,ys[i]?=some v->R i v H')->Q (.ref D) H'):CompGo own js g tTrue te σ Q (Itr lo n) H1:=by
 refine comp_map n Sg R hn h0 mono (fun i H' hi s=>hi) (fun H' s=>Nat.le_refl _) (fun i x σ' H' H2 hi s hy sg C hC=>?_) fin
 obtain⟨rfl,rfl⟩:=hy
 exact step i σ' _ hi s sg C hC
end
theorem call_tupleG {X:Cx}:CallR X (.type "tuple") (fun xs H Q=>∃ p ys,xs=[.ref p]∧H p=some (.lst ys)∧∀ l H',Same H H'->H l=none->H' l=some (.tup ys)->Q (.ref l) H'):=by
 intro pins s σ H xs us Q I r h
 obtain⟨p,ys,rfl,hp,q⟩:=h
 exact call_tuple_of (X:=X) pins s σ H _ us Q I r ⟨p,ys,rfl,.inl ⟨SqL.of hp,fun l hl=>q l _ (same_new hl) hl upd_same⟩⟩
theorem pe_dict0G {X:Cx} {pos:Pos}:PE X (.Dict [] [] pos) (fun _ H Q=>∀ p H',Same H H'->H p=none->H' p=some (.dK [])->Q (.ref p) H'):=fun pins s σ H Q I h=>pe_dict0 (X:=X) pins s σ H Q I fun p hp=>h p _ (same_new hp) hp upd_same
/-- rows of three whole numbers, sorted: the same rows -/
def Row3 (H:Hp) (v:V):Prop:=∃ (t:Addr) (x y z:Int),v=.ref t∧H t=some (.tup [.int x,.int y,.int z])
theorem Row3.keep {H H':Hp} {v:V} (k:TupKeep H H') (h:Row3 H v):Row3 H' v:=let ⟨t,x,y,z,e,h⟩:=h;⟨t,x,y,z,e,k _ _ h⟩
theorem Row3.good {H:Hp} {v:V} (h:Row3 H v):Gd H 1 v:=by
 obtain⟨t,x,y,z,rfl,e⟩:=h
 exact Gd.tup e (by show 3≤1000;decide) fun u hu=>List.all_eq_true.mp (show [V.int x,V.int y,V.int z].all flatD=true from rfl) u hu
structure BE (X:Cx) (e:Expr) (t:TE):Prop where
 h:PE X e t
structure BA (X:Cx) (es:List Expr) (t:TA):Prop where
 h:PA X es t
structure BS (X:Cx) (st:Stmt) (t:TS):Prop where
 h:PS X st t
structure BSs (X:Cx) (ss:List Stmt) (t:TS):Prop where
 h:PSs X ss t
section
variable {X:Cx}
theorem bss_cons {st:Stmt} {rest:List Stmt} {t u:TS} (a:BS X st t) (b:BSs X rest u):BSs X (st::rest) (tSeq t u):=⟨pss_cons a.h b.h⟩
theorem bss_one {st:Stmt} {t:TS} (a:BS X st t):BSs X [st] t:=⟨pss_one a.h⟩
theorem bs_set {pos:Pos} {i:Nat} {x:Str} {e:Expr} {te:TE} {pos':Pos} (hN:X.N.Nodup) (hi:X.N[i]?=some x) (hx:L2.Loc X.env.scope x) (he:BE X e te) (hs:swapsWith e (some (.Name x pos')) pos.line X.env=pure false:=by rfl)
  (hf:X.fn x=true∨X.env.scope.names.lookup x=some .local:=by first | exact .inl rfl | exact .inr rfl | assumption):BS X (.Assign [.Name x pos'] e pos) (tAsg te (gName i)):=⟨ps_set hN hi hx he.h hs hf⟩
theorem be_lstG {es:List Expr} {t:TA} {pos:Pos} (a:BA X es t):BE X (.List es pos) (tLstG t):=⟨pe_lstG a.h⟩
theorem be_tupG {es:List Expr} {t:TA} {pos:Pos} {x1:Nat} (a:BA X es t):BE X (.Tuple es x1 pos) (tTupG t):=⟨pe_tupG a.h⟩
theorem ba_nil:BA X [] tNil:=⟨pa_nil⟩
theorem ba_cons {e:Expr} {es:List Expr} {te:TE} {t:TA} (a:BE X e te) (b:BA X es t) (hs:starEach (e::es) X.env=(false,eval e X.env)::starEach es X.env:=by rfl):BA X (e::es) (tCons te t):=⟨pa_cons a.h b.h hs⟩
theorem be_op {a b:Expr} {ta tb:TE} {pos:Pos} {op:Operator} {r:R2} (ho:OpR X (binaryOp op) r) (ha:BE X a ta) (hb:BE X b tb):BE X (.BinOp a op b pos) (tOp r ta tb):=⟨pe_op ho ha.h hb.h⟩
end
end L3
namespace Far
/-- walks along arcs, with their lengths -/
inductive Walk (A:List (Nat × Nat × Int)) (s:Nat):Nat->Int->Prop
 | nil:Walk A s s 0
 | snoc {u v:Nat} {l x:Int}:Walk A s u x->(u,v,l) ∈ A->Walk A s v (x + l)
variable {A:List (Nat × Nat × Int)} {s:Nat}
def Pos (A:List (Nat × Nat × Int)):Prop:=∀ u v l,(u,v,l) ∈ A->1≤l
theorem Walk.nonneg (P:Pos A) {v:Nat} {x:Int} (h:Walk A s v x):0≤x:=by
 induction h with
 | nil=>exact Int.le_refl 0
 | snoc _ m ih=>have:=P _ _ _ m;omega
def Dst (A:List (Nat × Nat × Int)) (s v:Nat) (o:Option Int):Prop:=(∀ y,o=some y->Walk A s v y)∧∀ L,Walk A s v L->∃ y,o=some y∧y≤L
theorem Dst.unique {v:Nat} {o p:Option Int} (h:Dst A s v o) (k:Dst A s v p):o=p:=by
 cases o with
 | none =>
  cases p with
  | none=>rfl
  | some y=>obtain⟨_,e,_⟩:=h.2 y (k.1 y rfl);cases e
 | some x =>
  obtain⟨y,rfl,hy⟩:=k.2 x (h.1 x rfl)
  obtain⟨z,e,hz⟩:=h.2 y (k.1 y rfl)
  cases e
  rw[show x=y by omega]
theorem least {P:Nat->Prop}:∀ n,P n->∃ m,P m∧∀ k,P k->m≤k:=by
 intro n
 induction n using Nat.strongRecOn with
 | ind n ih =>
  intro h
  by_cases c:∃ k,k < n∧P k
  ·obtain⟨k,hk,pk⟩:=c;exact ih k hk pk
  ·exact⟨n,h,fun k pk=>by
    by_cases z:k < n
    ·exact absurd ⟨k,z,pk⟩ c
    ·omega⟩
theorem Walk.cons {u v:Nat} {l:Int} (m:(u,v,l) ∈ A) {w:Nat} {x:Int} (h:Walk A v w x):Walk A u w (x + l):=by
 induction h with
 | nil=>exact .snoc .nil m
 | snoc _ m' ih=>rw[Int.add_right_comm];exact .snoc ih m'
def Sym (A:List (Nat × Nat × Int)):Prop:=∀ u v l,(u,v,l) ∈ A->(v,u,l) ∈ A
theorem Walk.back (S:Sym A) {v:Nat} {x:Int} (h:Walk A s v x):Walk A v s x:=by
 induction h with
 | nil=>exact .nil
 | snoc _ m ih=>exact ih.cons (S _ _ _ m)
theorem Dst.back (S:Sym A) {v:Nat} {o:Option Int} (h:Dst A s v o):Dst A v s o:=⟨fun y e=>(h.1 y e).back S,fun L hL=>h.2 L (hL.back S)⟩
def lt2 (e f:Int × Int):Prop:=e.1 < f.1∨(e.1=f.1∧e.2 < f.2)
def get {α:Type} (cs:List (Option α)) (v:Nat):Option α:=cs.getD v none
theorem get_set {α:Type} {cs:List (Option α)} {v i:Nat} {x:Option α} (h:v < cs.length):get (cs.set v x) i=if i=v then x else get cs i:=by
 unfold get
 rw[List.getD_eq_getElem?_getD,List.getElem?_set,List.getD_eq_getElem?_getD]
 by_cases c:v=i
 ·subst c;simp [h]
 ·simp [c,Ne.symm c]
def ct {α:Type}:List (Option α)->Nat
 | []=>0
 | none::r=>ct r
 | some _::r=>ct r + 1
theorem ct_le {α:Type}:∀ cs:List (Option α),ct cs≤cs.length
 | []=>Nat.le_refl 0
 | none::r=>Nat.le_succ_of_le (ct_le r)
 | some _::r=>Nat.succ_le_succ (ct_le r)
theorem ct_set {α:Type} {c:α}:∀ {cs:List (Option α)} {v:Nat},v < cs.length->ct (cs.set v (some c))=ct cs + (if (get cs v).isSome then 0 else 1)
 | none::r,0,_=>rfl
 | some _::r,0,_=>rfl
 | none::r,v + 1,h=>ct_set (cs:=r) (v:=v) (by simpa using h)
 | some _::r,v + 1,h=>by
  have:=ct_set (c:=c) (cs:=r) (v:=v) (by simpa using h)
  show ct (r.set v (some c)) + 1=ct r + 1 + _
  rw[this]
  show _=ct r + 1 + (if (get r v).isSome then 0 else 1)
  omega
theorem ct_pos {α:Type}:∀ {cs:List (Option α)} {v:Nat} {c:α},get cs v=some c->1≤ct cs
 | [],v,c,h=>by cases h
 | some _::r,_,_,_=>Nat.succ_le_succ (Nat.zero_le _)
 | none::r,0,c,h=>by cases h
 | none::r,v + 1,c,h=>ct_pos (cs:=r) (v:=v) (c:=c) h
/-- the weight of costs, which falls -/
def WM:Int:=2 ^ 130
def mW:Option (Int × Int)->Nat
 | none=>(2 ^ 250)
 | some c=>(c.1 * WM + c.2).toNat
def mu:List (Option (Int × Int))->Nat
 | []=>0
 | c::r=>mW c + mu r
theorem mu_set {x:Option (Int × Int)}:∀ {cs:List (Option (Int × Int))} {v:Nat},v < cs.length->mW x < mW (get cs v)->mu (cs.set v x) < mu cs
 | c::r,0,_,h=>Nat.add_lt_add_right (k:=mu r) h
 | c::r,v + 1,hl,h=>Nat.add_lt_add_left (k:=mW c) (mu_set (cs:=r) (v:=v) (by simpa using hl) h)
structure Good (A:List (Nat × Nat × Int)) (n s:Nat) (cs:List (Option (Int × Int))):Prop where
 len:cs.length=n
 walk:∀ v c,get cs v=some c->Walk A s v c.1
 w0:∀ v c,get cs v=some c->0≤c.2∧c.2≤c.1 * 2 ^ 60
 top:∀ v c,get cs v=some c->c.1≤((ct cs:Nat) - 1:Int) * 10 ^ 18
 start:∃ c,get cs s=some c∧c.1≤0
theorem Good.step {n u v:Nat} {l w:Int} {cs:List (Option (Int × Int))} {c:Int × Int} (P:Pos A) (n24:n≤24) (g:Good A n s cs) (arc:(u,v,l) ∈ A) (l1:l≤10 ^ 18) (w0:0≤w) (w1:w≤2 ^ 60) (hv:v < n) (hu:get cs u=some c)
  (h:get cs v=none∨∃ c',get cs v=some c'∧lt2 (c.1 + l,c.2 + w) c'):Good A n s (cs.set v (some (c.1 + l,c.2 + w)))∧mu (cs.set v (some (c.1 + l,c.2 + w))) < mu cs:=by
 have hv':v < cs.length:=by rw[g.len];exact hv
 have l0:=P _ _ _ arc
 have wk:=Walk.snoc (g.walk _ _ hu) arc
 have c0:=(g.walk _ _ hu).nonneg P
 obtain⟨cw0,cw1⟩:=g.w0 _ _ hu
 have ct24:ct cs≤24:=by have:=ct_le cs;rw[g.len] at this;omega
 have ctp:=ct_pos hu
 have es:=ct_set (c:=(c.1 + l,c.2 + w)) hv'
 have topc:=g.top _ _ hu
 have wbound:c.2 + w≤(c.1 + l) * 2 ^ 60:=by rw[Int.add_mul];omega
 have big:c.1 + l≤((ct (cs.set v (some (c.1 + l,c.2 + w))):Nat) - 1:Int) * 10 ^ 18:=by
  rw[es]
  rcases h with h | ⟨c',h,hlt⟩
  ·rw[h]
   show _≤(((ct cs + 1:Nat):Int) - 1) * 10 ^ 18
   omega
  ·rw[h]
   show _≤(((ct cs + 0:Nat):Int) - 1) * 10 ^ 18
   have:=g.top _ _ h
   unfold lt2 at hlt
   simp only at hlt
   omega
 have ctm:ct cs≤ct (cs.set v (some (c.1 + l,c.2 + w))):=by rw[es];exact Nat.le_add_right _ _
 refine⟨⟨by rw[List.length_set];exact g.len,fun v' d e=>?_,fun v' d e=>?_,fun v' d e=>?_,?_⟩,?_⟩
 ·rw[get_set hv'] at e
  split at e
  ·rename_i z;subst z;cases e;exact wk
  ·exact g.walk _ _ e
 ·rw[get_set hv'] at e
  split at e
  ·cases e;exact⟨by show 0≤c.2 + w;omega,wbound⟩
  ·exact g.w0 _ _ e
 ·rw[get_set hv'] at e
  split at e
  ·cases e;exact big
  ·have:=g.top _ _ e
   omega
 ·obtain⟨d,hd,hd0⟩:=g.start
  rw[get_set hv']
  split
  ·rename_i z;subst z
   refine⟨_,rfl,?_⟩
   rcases h with h | ⟨c',h,hlt⟩
   ·rw[h] at hd;cases hd
   ·rw[h] at hd;cases hd
    unfold lt2 at hlt
    simp only at hlt
    show c.1 + l≤0
    omega
  ·exact⟨d,hd,hd0⟩
 ·refine mu_set hv' ?_
  have ctb:ct (cs.set v (some (c.1 + l,c.2 + w)))≤24:=by have:=ct_le (cs.set v (some (c.1 + l,c.2 + w)));rw[List.length_set,g.len] at this;omega
  have x23:c.1 + l≤23 * 10 ^ 18:=by omega
  have y23:c.2 + w≤23 * 10 ^ 18 * 2 ^ 60:=by omega
  have WMe:WM=1361129467683753853853498429727072845824:=by decide
  rcases h with h | ⟨c',h,hlt⟩
  ·rw[h]
   show ((c.1 + l) * WM + (c.2 + w)).toNat < 2 ^ 250
   have:(c.1 + l) * WM + (c.2 + w) < 2 ^ 250:=by rw[WMe];omega
   omega
  ·rw[h]
   obtain⟨d0,d1⟩:=g.w0 _ _ h
   have t0:=(g.walk _ _ h).nonneg P
   have tt:=g.top _ _ h
   show ((c.1 + l) * WM + (c.2 + w)).toNat < (c'.1 * WM + c'.2).toNat
   unfold lt2 at hlt
   simp only at hlt
   have:(c.1 + l) * WM + (c.2 + w) < c'.1 * WM + c'.2:=by
    rw[WMe]
    rcases hlt with z | ⟨z,z'⟩
    ·omega
    ·rw[z];omega
   have p0:0≤(c.1 + l) * WM + (c.2 + w):=by rw[WMe];omega
   omega
/-- stable along arcs -/
def Stab (A:List (Nat × Nat × Int)) (cs:List (Option (Int × Int))):Prop:=∀ u v l c,(u,v,l) ∈ A->get cs u=some c->∃ c',get cs v=some c'∧c'.1≤c.1 + l
structure Snd (A:List (Nat × Nat × Int)) (n s:Nat) (D:List (Option Int)):Prop where
 len:D.length=n
 walk:∀ v x,get D v=some x->Walk A s v x
 start:∃ x,get D s=some x∧x≤0
structure Rnd (A:List (Nat × Nat × Int)) (n s:Nat) (δ:Nat->Option Int) (D0:List (Option Int)) (B:(Nat × Nat × Int)->Prop) (D:List (Option Int)):Prop where
 snd:Snd A n s D
 keep:∀ v,get D0 v=δ v->get D v=δ v
 arc:∀ u v l x,B (u,v,l)->get D0 u=δ u->δ u=some x->∃ y,get D v=some y∧y≤x + l
section
variable {n:Nat} {δ:Nat->Option Int} {D0 D:List (Option Int)} {B:(Nat × Nat × Int)->Prop} {u v:Nat} {l:Int}
def plus (B:(Nat × Nat × Int)->Prop) (a:Nat × Nat × Int):(Nat × Nat × Int)->Prop:=fun b=>B b∨b=a
theorem Rnd.no (r:Rnd A n s δ D0 B D) (hu:get D u=none):Rnd A n s δ D0 (plus B (u,v,l)) D:=by
 refine⟨r.snd,r.keep,fun u' v' l' x b e1 e2=>?_⟩
 rcases b with b | b
 ·exact r.arc _ _ _ _ b e1 e2
 ·cases b
  have:=r.keep _ e1
  rw[hu,e2] at this;cases this
theorem Rnd.old (r:Rnd A n s δ D0 B D) {x' y:Int} (hu:get D u=some x') (hv:get D v=some y) (hy:y≤x' + l):Rnd A n s δ D0 (plus B (u,v,l)) D:=by
 refine⟨r.snd,r.keep,fun u' v' l' x b e1 e2=>?_⟩
 rcases b with b | b
 ·exact r.arc _ _ _ _ b e1 e2
 ·cases b
  have:=r.keep _ e1
  rw[hu,e2] at this;cases this
  exact⟨y,hv,hy⟩
theorem Rnd.put (dd:∀ v,Dst A s v (δ v)) (m:(u,v,l) ∈ A) (hn:v < n) (r:Rnd A n s δ D0 B D) {x':Int} (hu:get D u=some x') (hv:get D v=none∨∃ y,get D v=some y∧x' + l < y) (P:Pos A):Rnd A n s δ D0 (plus B (u,v,l)) (D.set v (some (x' + l))):=by
 have hl:v < D.length:=by rw[r.snd.len];exact hn
 have wk:=Walk.snoc (r.snd.walk _ _ hu) m
 obtain⟨d,hd,hdl⟩:=(dd v).2 _ wk
 have bad:get D0 v=δ v->False:=fun e=>by
  have e':=r.keep _ e
  rcases hv with hv | ⟨y,hv,hy⟩
  ·rw[hv,hd] at e';cases e'
  ·rw[hv,hd] at e';cases e';omega
 refine⟨⟨by rw[List.length_set];exact r.snd.len,fun i x e=>?_,?_⟩,fun i e=>?_,fun u' v' l' x b e1 e2=>?_⟩
 ·rw[get_set hl] at e
  split at e
  ·rename_i z;subst z;cases e;exact wk
  ·exact r.snd.walk _ _ e
 ·rw[get_set hl]
  split
  ·rename_i z;subst z
   obtain⟨x,hx,hx0⟩:=r.snd.start
   rcases hv with hv | ⟨y,hv,hy⟩
   ·rw[hv] at hx;cases hx
   ·rw[hv] at hx;cases hx
    exact⟨_,rfl,by omega⟩
  ·exact r.snd.start
 ·rw[get_set hl]
  split
  ·rename_i z;subst z;exact absurd e bad
  ·exact r.keep _ e
 ·rw[get_set hl]
  rcases b with b | b
  ·obtain⟨y',hy',hle⟩:=r.arc _ _ _ _ b e1 e2
   split
   ·rename_i z;subst z
    refine⟨_,rfl,?_⟩
    rcases hv with hv | ⟨y,hv,hy⟩
    ·rw[hv] at hy';cases hy'
    ·rw[hv] at hy';cases hy';omega
   ·exact⟨y',hy',hle⟩
  ·cases b
   have:=r.keep _ e1
   rw[hu,e2] at this;cases this
   rw[if_pos rfl]
   exact⟨_,rfl,Int.le_refl _⟩
theorem Rnd.next (dd:∀ v,Dst A s v (δ v)) (P:Pos A) (inn:∀ u v l,(u,v,l) ∈ A->u < n∧v < n) (s0:Snd A n s D0) (r:Rnd A n s δ D0 B D) (all:∀ a ∈ A,B a):∀ (k:Nat) (v:Nat),v < n->get D0 v≠δ v->(∀ d,δ v=some d->d.toNat≤k)->∃ v,v < n∧get D0 v≠δ v∧get D v=δ v:=by
 intro k
 induction k using Nat.strongRecOn with
 | ind k ih =>
  intro v hv hne hk
  cases e:δ v with
  | none =>
   cases e2:get D0 v with
   | none=>exact absurd (e2.trans e.symm) hne
   | some x =>
    obtain⟨y,hy,_⟩:=(dd v).2 _ (s0.walk _ _ e2)
    rw[e] at hy;cases hy
  | some d =>
   have wk:=(dd v).1 _ e
   have hkd:=hk _ e
   cases hw:wk with
   | nil =>
    obtain⟨x,hx,hx0⟩:=s0.start
    have:=(s0.walk _ _ hx).nonneg P
    have:x=0:=by omega
    subst this
    exact absurd (hx.trans e.symm) hne
   | @snoc u _ l x w m =>
    obtain⟨y,hy,hyx⟩:=(dd u).2 _ w
    obtain⟨d',hd',hle⟩:=(dd v).2 _ (Walk.snoc ((dd u).1 _ hy) m)
    rw[e] at hd';cases hd'
    have yx:y=x:=by omega
    subst yx
    by_cases c:get D0 u=δ u
    ·obtain⟨y',hy',hle'⟩:=r.arc _ _ _ _ (all _ m) c hy
     obtain⟨d',hd',hle2⟩:=(dd v).2 _ (r.snd.walk _ _ hy')
     rw[e] at hd';cases hd'
     have:y'=y + l:=by omega
     subst this
     exact⟨v,hv,hne,hy'.trans e.symm⟩
    ·have l1:=P _ _ _ m
     have y0:=((dd u).1 _ hy).nonneg P
     refine ih (k - 1) (by omega) u (inn _ _ _ m).1 c fun d hd=>?_
     rw[hy] at hd;cases hd;omega
end
theorem countP_lt {α:Type} {p q:α->Bool}:∀ {xs:List α},(∀ x ∈ xs,p x=true->q x=true)->(∃ x ∈ xs,q x=true∧p x=false)->xs.countP p < xs.countP q
 | [],_,⟨x,h,_⟩=>by cases h
 | a::r,h,⟨x,hx,e1,e2⟩=>by
  rw[List.countP_cons,List.countP_cons]
  have le:r.countP p≤r.countP q:=List.countP_mono_left fun x hx=>h x (List.mem_cons_of_mem _ hx)
  rcases List.mem_cons.mp hx with rfl | hx
  ·rw[e1,e2];simp;omega
  ·have:=countP_lt (xs:=r) (fun x hx=>h x (List.mem_cons_of_mem _ hx)) ⟨x,hx,e1,e2⟩
   have:=h a List.mem_cons_self
   cases e:p a <;> cases e':q a <;> simp_all <;> omega
def cnt (n:Nat) (δ:Nat->Option Int) (D:List (Option Int)):Nat:=(List.range n).countP fun v=>decide (get D v=δ v)
def Done (n:Nat) (δ:Nat->Option Int) (D:List (Option Int)) (k:Nat):Prop:=(∀ v,v < n->get D v=δ v)∨k + 1≤cnt n δ D
theorem Done.round {n:Nat} {δ:Nat->Option Int} {D0 D:List (Option Int)} {B:(Nat × Nat × Int)->Prop} {k:Nat} (dd:∀ v,Dst A s v (δ v)) (P:Pos A) (inn:∀ u v l,(u,v,l) ∈ A->u < n∧v < n) (s0:Snd A n s D0) (r:Rnd A n s δ D0 B D) (all:∀ a ∈ A,B a) (h:Done n δ D0 k):Done n δ D (k + 1):=by
 by_cases c:∀ v,v < n->get D0 v=δ v
 ·exact .inl fun v hv=>r.keep v (c v hv)
 ·rcases h with h | h
  ·exact absurd h c
  ·have ⟨v,z⟩:=Classical.not_forall.mp c
   have ⟨hv,hne⟩:=Classical.not_imp.mp z
   obtain⟨v',hv',n0,n1⟩:=r.next dd P inn s0 all ((δ v).getD 0).toNat v hv hne fun d e=>by rw[e];exact Nat.le_refl _
   refine .inr (Nat.lt_of_le_of_lt h (countP_lt (fun x _ e=>?_) ⟨v',List.mem_range.mpr hv',decide_eq_true n1,decide_eq_false n0⟩))
   exact decide_eq_true (r.keep x (of_decide_eq_true e))
theorem Done.first {n:Nat} {δ:Nat->Option Int} {D:List (Option Int)} {v:Nat} (hv:v < n) (h:get D v=δ v):Done n δ D 0:=by
 refine .inr ?_
 exact List.countP_pos_iff.mpr ⟨v,List.mem_range.mpr hv,decide_eq_true h⟩
theorem Done.all {n:Nat} {δ:Nat->Option Int} {D:List (Option Int)} (h:Done n δ D n):∀ v,v < n->get D v=δ v:=by
 rcases h with h | h
 ·exact h
 ·have:cnt n δ D≤n:=by
   have:=List.countP_le_length (p:=fun v=>decide (get D v=δ v)) (l:=List.range n)
   rw[List.length_range] at this;exact this
  omega
def PSt (c0:List (Option (Int × Int))) (B:(Nat × Nat × Int)->Prop) (cs:List (Option (Int × Int))) (ag:Bool):Prop :=
 (ag=false∧cs=c0∧∀ u v l c,B (u,v,l)->get c0 u=some c->∃ c',get c0 v=some c'∧c'.1≤c.1 + l)∨(ag=true∧mu cs < mu c0)
section
variable {c0 cs:List (Option (Int × Int))} {B B':(Nat × Nat × Int)->Prop} {ag:Bool} {u v:Nat} {l w:Int}
theorem PSt.less (h:PSt c0 B cs ag) (k:∀ a,B' a->B a):PSt c0 B' cs ag:=h.elim (fun ⟨a,b,c⟩=>.inl ⟨a,b,fun u v l c' z=>c u v l c' (k _ z)⟩) .inr
theorem PSt.no (h:PSt c0 B cs ag) (hu:get cs u=none):PSt c0 (plus B (u,v,l)) cs ag:=by
 rcases h with ⟨a,b,c⟩ | h
 ·refine .inl ⟨a,b,fun u' v' l' c' z e=>?_⟩
  rcases z with z | z
  ·exact c _ _ _ _ z e
  ·cases z;rw[← b,hu] at e;cases e
 ·exact .inr h
theorem PSt.old (h:PSt c0 B cs ag) {c d:Int × Int} (hu:get cs u=some c) (hv:get cs v=some d) (hn:¬ lt2 (c.1 + l,c.2 + w) d):PSt c0 (plus B (u,v,l)) cs ag:=by
 rcases h with ⟨a,b,z⟩ | h
 ·refine .inl ⟨a,b,fun u' v' l' c' y e=>?_⟩
  rcases y with y | y
  ·exact z _ _ _ _ y e
  ·cases y
   subst b
   rw[hu] at e;cases e
   refine⟨d,hv,?_⟩
   unfold lt2 at hn
   simp only at hn
   omega
 ·exact .inr h
theorem PSt.put (h:PSt c0 B cs ag) {cs':List (Option (Int × Int))} (hm:mu cs' < mu cs):PSt c0 (plus B (u,v,l)) cs' true:=by
 rcases h with ⟨a,b,c⟩ | h
 ·exact .inr ⟨rfl,by rw[← b];exact hm⟩
 ·exact .inr ⟨rfl,Nat.lt_trans hm h.2⟩
end
theorem get_rep {α:Type} (n v:Nat):get (List.replicate n (none:Option α)) v=none:=by
 unfold get
 rw[List.getD_eq_getElem?_getD,List.getElem?_replicate]
 split <;> rfl
theorem ct_rep {α:Type}:∀ n:Nat,ct (List.replicate n (none:Option α))=0
 | 0=>rfl
 | n + 1=>ct_rep n
theorem Good.first {n:Nat} (hs:s < n):Good A n s ((List.replicate n none).set s (some (0,0))):=by
 have hl:s < (List.replicate n (none:Option (Int × Int))).length:=by rw[List.length_replicate];exact hs
 have cases':∀ v c,get ((List.replicate n (none:Option (Int × Int))).set s (some (0,0))) v=some c->v=s∧c=(0,0):=fun v c e=>by
  rw[get_set hl,get_rep] at e
  split at e
  ·rename_i z;cases e;exact⟨z,rfl⟩
  ·cases e
 refine⟨by rw[List.length_set,List.length_replicate],fun v c e=>?_,fun v c e=>?_,fun v c e=>?_,⟨(0,0),?_,Int.le_refl _⟩⟩
 ·obtain⟨rfl,rfl⟩:=cases' _ _ e;exact .nil
 ·obtain⟨rfl,rfl⟩:=cases' _ _ e;exact⟨Int.le_refl _,by decide⟩
 ·obtain⟨rfl,rfl⟩:=cases' _ _ e
  rw[ct_set hl,ct_rep,get_rep];decide
 ·rw[get_set hl,if_pos rfl]
theorem Snd.first {n:Nat} (hs:s < n):Snd A n s ((List.replicate n none).set s (some 0)):=by
 have hl:s < (List.replicate n (none:Option Int)).length:=by rw[List.length_replicate];exact hs
 refine⟨by rw[List.length_set,List.length_replicate],fun v c e=>?_,⟨0,?_,Int.le_refl _⟩⟩
 ·rw[get_set hl,get_rep] at e
  split at e
  ·rename_i z;subst z;cases e;exact .nil
  ·cases e
 ·rw[get_set hl,if_pos rfl]
theorem Rnd.start {n:Nat} {δ:Nat->Option Int} {D:List (Option Int)} (h:Snd A n s D):Rnd A n s δ D (fun _=>False) D:=⟨h,fun _ e=>e,fun _ _ _ _ z=>z.elim⟩
theorem Rnd.less {n:Nat} {δ:Nat->Option Int} {D0 D:List (Option Int)} {B B':(Nat × Nat × Int)->Prop} (h:Rnd A n s δ D0 B D) (k:∀ a,B' a->B a):Rnd A n s δ D0 B' D:=⟨h.snd,h.keep,fun u v l x z=>h.arc u v l x (k _ z)⟩
end Far
namespace L3
open PySem PySem.Spec PyProof.Rows L2
def tieAt (ts:List Tie) (k:Nat):Tie:=ts.getD k (0,0,0)
def arcs2 (t:Tie):List (Nat × Nat × Int):=[(t.1.toNat,t.2.1.toNat,t.2.2),(t.2.1.toNat,t.1.toNat,t.2.2)]
def arcs (ts:List Tie) (ks:List Nat):List (Nat × Nat × Int):=ks.flatMap fun k=>arcs2 (tieAt ts k)
theorem arcs_mem {ts:List Tie} {ks:List Nat} {a:Nat × Nat × Int}:a ∈ arcs ts ks↔∃ k,k ∈ ks∧a ∈ arcs2 (tieAt ts k):=by
 unfold arcs;rw[List.mem_flatMap]
theorem arcs2_mem {t:Tie} {a:Nat × Nat × Int}:a ∈ arcs2 t↔a=(t.1.toNat,t.2.1.toNat,t.2.2)∨a=(t.2.1.toNat,t.1.toNat,t.2.2):=by
 unfold arcs2;simp
theorem tieAt_in {ts:List Tie} {k:Nat} (h:k < ts.length):ts[k]?=some (tieAt ts k)∧tieAt ts k ∈ ts:=by
 have e:ts[k]?=some (tieAt ts k):=by unfold tieAt;rw[List.getD_eq_getElem?_getD,List.getElem?_eq_getElem h];rfl
 exact⟨e,List.mem_of_getElem? e⟩
theorem ends_eq {a b c d:Int} (h1:0≤a) (h2:a < b) (h3:0≤c) (h4:c < d) (h:a.toNat=c.toNat∧b.toNat=d.toNat∨a.toNat=d.toNat∧b.toNat=c.toNat):a=c∧b=d:=by omega
theorem endLt_ne {s t:Tie} (h:endLt s t) (e1:s.1=t.1) (e2:s.2.1=t.2.1):False:=by
 rcases h with h | h
 ·exact Int.lt_irrefl _ (e1 ▸ h)
 ·exact Int.lt_irrefl _ (e2 ▸ h.2)
/-- two ties with the same ends are one -/
theorem tie_ends {n:Int} {ts:List Tie} (ok:WebOk n ts) {k k':Nat} (hk:k < ts.length) (hk':k' < ts.length) (e1:(tieAt ts k).1=(tieAt ts k').1) (e2:(tieAt ts k).2.1=(tieAt ts k').2.1):k=k':=by
 have pw:∀ i j (hi:i < ts.length) (hj:j < ts.length),i < j->endLt (tieAt ts i) (tieAt ts j):=fun i j hi hj z=>by
  have q:=List.pairwise_iff_getElem.mp ok.rise i j hi hj z
  have g:∀ {i:Nat} (hi:i < ts.length),ts[i]=tieAt ts i:=fun {i} hi=>Option.some.inj ((List.getElem?_eq_getElem hi).symm.trans (tieAt_in hi).1)
  rwa [g hi,g hj] at q
 rcases Nat.lt_trichotomy k k' with z | z | z
 ·exact (endLt_ne (pw k k' hk hk' z) e1 e2).elim
 ·exact z
 ·exact (endLt_ne (pw k' k hk' hk z) e1.symm e2.symm).elim
section
variable {n:Int} {ts:List Tie} {ks:List Nat}
theorem arcs_pos (ok:WebOk n ts) (ko:KeepOk ts.length ks):Far.Pos (arcs ts ks):=fun u v l h=>by
 obtain⟨k,hk,h⟩:=arcs_mem.mp h
 have:=ok.tie _ (tieAt_in (ko.2 k hk)).2
 rcases arcs2_mem.mp h with h | h <;> cases h <;> omega
theorem arcs_in (ok:WebOk n ts) (ko:KeepOk ts.length ks):∀ u v l,(u,v,l) ∈ arcs ts ks->u < n.toNat∧v < n.toNat:=fun u v l h=>by
 obtain⟨k,hk,h⟩:=arcs_mem.mp h
 have:=ok.tie _ (tieAt_in (ko.2 k hk)).2
 rcases arcs2_mem.mp h with h | h <;> cases h <;> omega
end
def CV (H:Hp) (v:V):Option (Int × Int)->Prop
 | none=>v=.non
 | some e=>∃ t,v=.ref t∧H t=some (.tup [.int e.1,.int e.2])
theorem CV.keep {H H':Hp} (k:TupKeep H H') {v:V}:∀ {o:Option (Int × Int)},CV H v o->CV H' v o
 | none,h=>h
 | some e,⟨t,h1,h2⟩=>⟨t,h1,k _ _ h2⟩
def CostL (H:Hp) (vs:List V) (cs:List (Option (Int × Int))):Prop:=vs.length=cs.length∧∀ i v,vs[i]?=some v->CV H v (Far.get cs i)
section
variable {H H' J J':Hp} {vs cvs avs ws:List V} {cs:List (Option (Int × Int))} {lw lc la t:Addr} {n k:Nat} {x y:Int}
theorem CostL.keep (h:CostL H vs cs) (k:TupKeep H H'):CostL H' vs cs:=⟨h.1,fun i v e=>(h.2 i v e).keep k⟩
theorem CostL.set {v:V} {c:Int × Int} (h:CostL H vs cs) (hk:k < vs.length) (hv:CV H v (some c)):CostL H (vs.set k v) (cs.set k (some c)):=by
 refine⟨by rw[List.length_set,List.length_set];exact h.1,fun i u e=>?_⟩
 rw[Far.get_set (by rw[← h.1];exact hk)]
 rw[List.getElem?_set] at e
 by_cases z:k=i
 ·subst z;rw[if_pos rfl,if_pos hk] at e;cases e;rw[if_pos rfl];exact hv
 ·rw[if_neg z] at e;rw[if_neg (Ne.symm z)];exact h.2 i u e
theorem CostL.first (n:Nat):CostL H (List.replicate n .non) (List.replicate n none):=by
 refine⟨by rw[List.length_replicate,List.length_replicate],fun i v e=>?_⟩
 rw[Far.get_rep]
 rw[List.getElem?_replicate] at e
 split at e
 ·cases e;rfl
 ·cases e
theorem tk_upd {p:Addr} {xs:List V} {o:HO} (h:J p=some (.lst xs)):TupKeep J (upd J p o):=fun a ys e=>by
 rw[upd_ne (fun z=>by rw[z,h] at e;cases e)];exact e
theorem tk_same (s:Same J J'):TupKeep J J':=fun a xs e=>s _ _ e
/-- the lists of a search: weights, costs, places ahead -/
structure RH (H J:Hp) (lw lc la:Addr) (ws:List V) (n:Nat) (cs:List (Option (Int × Int))):Prop where
 same:Same H J
 fc:H lc=none
 fa:H la=none
 nwc:lw≠lc
 nwa:lw≠la
 nca:lc≠la
 wl:J lw=some (.lst ws)
 co:∃ cvs,J lc=some (.lst cvs)∧CostL J cvs cs
 ah:∃ avs,J la=some (.lst avs)∧avs.length=n
theorem RH.step (h:RH H J lw lc la ws n cs) (s:Same J J'):RH H J' lw lc la ws n cs :=
 ⟨h.same.trans s,h.fc,h.fa,h.nwc,h.nwa,h.nca,s _ _ h.wl,let ⟨c,e,z⟩:=h.co;⟨c,s _ _ e,z.keep (tk_same s)⟩,let ⟨c,e,z⟩:=h.ah;⟨c,s _ _ e,z⟩⟩
theorem RH.put (h:RH H J lw lc la ws n cs) (hc:J lc=some (.lst cvs)) (hk:k < cvs.length) (ht:J t=some (.tup [.int x,.int y])):RH H (upd J lc (.lst (cvs.set k (.ref t)))) lw lc la ws n (cs.set k (some (x,y))):=by
 obtain⟨c,e,z⟩:=h.co
 rw[hc] at e;cases e
 obtain⟨av,ea,la'⟩:=h.ah
 refine⟨fun b o eb=>?_,h.fc,h.fa,h.nwc,h.nwa,h.nca,?_,⟨_,upd_same,CostL.set (z.keep (tk_upd hc)) hk ⟨t,rfl,tk_upd hc _ _ ht⟩⟩,⟨av,?_,la'⟩⟩
 ·rw[upd_ne (ne_of_none eb h.fc)];exact h.same _ _ eb
 ·rw[upd_ne h.nwc];exact h.wl
 ·rw[upd_ne h.nca.symm];exact ea
theorem RH.mark {v:V} (h:RH H J lw lc la ws n cs) (ha:J la=some (.lst avs)):RH H (upd J la (.lst (avs.set k v))) lw lc la ws n cs:=by
 obtain⟨c,e,z⟩:=h.co
 obtain⟨av,ea,la'⟩:=h.ah
 rw[ha] at ea;cases ea
 refine⟨fun b o eb=>?_,h.fc,h.fa,h.nwc,h.nwa,h.nca,?_,⟨c,?_,z.keep (tk_upd ha)⟩,⟨_,upd_same,by rw[List.length_set];exact la'⟩⟩
 ·rw[upd_ne (ne_of_none eb h.fa)];exact h.same _ _ eb
 ·rw[upd_ne h.nwa];exact h.wl
 ·rw[upd_ne h.nca];exact e
end
def ov:Option Int->V
 | none=>.non
 | some x=>.int x
theorem ov_at {D:List (Option Int)} {i:Nat} (h:i < D.length):(D.map ov)[i]?=some (ov (Far.get D i)):=by
 rw[List.getElem?_map,List.getElem?_eq_getElem h]
 unfold Far.get
 rw[List.getD_eq_getElem?_getD,List.getElem?_eq_getElem h];rfl
theorem atI_toNat {α:Type} {xs:List α} {i:Int} {x:α} (h0:0≤i) (h:xs[i.toNat]?=some x):atI xs i=some x:=by
 have hl:=(List.getElem?_eq_some_iff.mp h).1
 unfold atI ixN
 rw[if_pos h0,if_pos (by omega)]
 exact h
/-- a web, a keep of it, a place -/
def WK (K:PySem.W.Frag) (H:Hp) (n:Int) (ts:List Tie) (ks:List Nat) (wv kv:V):Prop:=Is K H (webD n ts) wv∧WebOk n ts∧Is K H (keepD ks) kv∧KeepOk ts.length ks
theorem WK.same {K:PySem.W.Frag} {H H':Hp} {n:Int} {ts:List Tie} {ks:List Nat} {wv kv:V} (h:WK K H n ts ks wv kv) (s:Same H H'):WK K H' n ts ks wv kv:=⟨Is.same s _ h.1,h.2.1,Is.same s _ h.2.2.1,h.2.2.2⟩
end L3
namespace HT
open PySem PyProof.Rows
open Sem (wp)
section
variable {prog:Program} {w:World} {A:Around} {E:Value->Shared->Prop} {s:Shared}
end
end HT
namespace L3
open PySem PySem.Spec PyProof.Rows L2
def IntT (H:Hp) (p:Addr) (hs:List Int):Prop:=H p=some (.tup (hs.map V.int))∧hs.length≤1000
theorem IntT.same {H H':Hp} {p:Addr} {hs:List Int} (h:IntT H p hs) (s:Same H H'):IntT H' p hs:=⟨s _ _ h.1,h.2⟩
theorem IntT.is {K:PySem.W.Frag} {H:Hp} {p:Addr} {hs:List Int} (h:IntT H p hs):Is K H (.tuple (hs.map .int)) (.ref p):=⟨p,_,rfl,h.1,IsAll.ints _⟩
def AllI (xs:List V):Prop:=∃ ns:List Int,xs=ns.map V.int
theorem AllI.of {xs:List V} (h:∀ x ∈ xs,∃ i,x=V.int i):AllI xs:=by
 induction xs with
 | nil=>exact⟨[],rfl⟩
 | cons x r ih =>
  obtain⟨i,rfl⟩:=h x List.mem_cons_self
  obtain⟨ns,rfl⟩:=ih fun y hy=>h y (List.mem_cons_of_mem _ hy)
  exact⟨i::ns,rfl⟩
theorem AllI.mem {xs:List V} (h:AllI xs):∀ x ∈ xs,∃ i,x=V.int i:=by
 obtain⟨ns,rfl⟩:=h
 intro x hx
 obtain⟨i,_,rfl⟩:=List.mem_map.mp hx
 exact⟨i,rfl⟩
theorem AllI.ints (ns:List Int):AllI (ns.map V.int):=⟨ns,rfl⟩
theorem AllI.app {xs ys:List V} (h:AllI xs) (k:AllI ys):AllI (xs++ys):=by
 obtain⟨ns,rfl⟩:=h;obtain⟨ms,rfl⟩:=k
 exact⟨ns++ms,by rw[List.map_append]⟩
theorem AllI.cut {xs:List V} {lo hi:Option Int} (h:AllI xs):AllI (cutV xs lo hi):=.of fun x hx=>h.mem x (cut_mem hx)
theorem AllI.one (i:Int):AllI [V.int i]:=⟨[i],rfl⟩
section
variable {g:TG} {te:TE} {own:List Str} {js:List Nat} {σ:L2.St} {H1:Hp} {Q:VK}
end
end L3
namespace L3
open PySem PySem.Spec PyProof.Rows L2
section
variable {J:It} {g:TG} {tt:TT} {te:TE} {own:List Str} {js:List Nat} {σ:L2.St} {H1:Hp} {Q:VK}
/-- a test, nothing that stands is changed: item i gives sel i, or nothing -/
theorem comp_sel (n:Nat) (Sg:L2.St->Prop) (sel:Nat->Option V) (hn:n≤1000) (h0:Sg (start3 own js σ))
  (go:∀ i H',i < n->Same H1 H'->J.go i H') (stop:∀ H',Same H1 H'->J.stop n H')
  (step:∀ i x σ' H' H2,i < n->Same H1 H'->J.yld i H' x H2->Sg σ'->∀ (C:L2.St->V->Hp->Prop) (L:L2.St->Hp->Prop),(∀ σ3 v H5,Sg σ3->Same H' H5->sel i=some v->C σ3 v H5)->(∀ σ3 H5,Sg σ3->Same H' H5->sel i=none->L σ3 H5) ->
   g x σ' H2 fun σ3 H3=>tt σ3 H3 fun b H4=>if b=true then te σ3 H4 fun v H5=>C σ3 v H5 else L σ3 H4)
  (fin:∀ D H',H1 D=none->Same H1 H'->H' D=some (.lst ((List.range n).filterMap sel))->Q (.ref D) H'):CompGo own js g tt te σ Q J H1:=by
 intro D hD
 refine⟨fun i m ys σ' H'=>m=n - i∧i≤n∧Sg σ'∧Same H1 H'∧ys=(List.range i).filterMap sel,⟨n,rfl,Nat.zero_le _,h0,same_new hD,rfl⟩,?_⟩
 rintro i m ys σ' H' ⟨rfl,hi,sg,sm,rfl⟩ hd
 have len:((List.range i).filterMap sel).length≤i:=by have:=List.length_filterMap_le sel (List.range i);rw[List.length_range] at this;exact this
 by_cases hlt:i < n
 ·refine .inr ⟨go i H' hlt sm,fun x H2 hy=>?_⟩
  refine step i x σ' H' H2 hlt sm hy sg
   (fun σ3 v H5=>H5 D=some (.lst ((List.range i).filterMap sel))∧((List.range i).filterMap sel).length < sizeLine∧∃ m',m' < n - i∧(m'=n - (i + 1)∧i + 1≤n∧Sg σ3∧Same H1 (upd H5 D (.lst ((List.range i).filterMap sel++[v])))∧(List.range i).filterMap sel++[v]=(List.range (i + 1)).filterMap sel))
   (fun σ3 H5=>H5 D=some (.lst ((List.range i).filterMap sel))∧∃ m',m' < n - i∧(m'=n - (i + 1)∧i + 1≤n∧Sg σ3∧Same H1 H5∧(List.range i).filterMap sel=(List.range (i + 1)).filterMap sel)) (fun σ3 v H5 sg3 s5 e=>?_) (fun σ3 H5 sg3 s5 e=>?_)
  ·refine⟨s5 _ _ hd,Nat.lt_of_le_of_lt (by omega:((List.range i).filterMap sel).length≤1000) (by decide),n - (i + 1),by omega,rfl,hlt,sg3,fun b o z=>?_,?_⟩
   ·rw[upd_ne (ne_of_none z hD)];exact s5 _ _ (sm _ _ z)
   ·rw[List.range_succ,List.filterMap_append];simp [e]
  ·refine⟨s5 _ _ hd,n - (i + 1),by omega,rfl,hlt,sg3,sm.trans s5,?_⟩
   rw[List.range_succ,List.filterMap_append];simp [e]
 ·have e:i=n:=by omega
  subst e
  exact .inl ⟨stop H' sm,fin D H' hD sm hd⟩
end
end L3
namespace Far
variable {A:List (Nat × Nat × Int)} {s:Nat}
theorem Walk.trans {u v:Nat} {x y:Int} (h:Walk A s u x) (k:Walk A u v y):Walk A s v (x + y):=by
 induction k with
 | nil=>rw[Int.add_zero];exact h
 | snoc _ m ih=>rw[← Int.add_assoc];exact .snoc ih m
def Con (A:List (Nat × Nat × Int)) (s v:Nat):Prop:=∃ x,Walk A s v x
noncomputable def rB (A:List (Nat × Nat × Int)) (s v:Nat):Bool:=@decide (Con A s v) (Classical.propDecidable _)
theorem rB_iff {v:Nat}:rB A s v=true↔Con A s v:=by unfold rB;exact @decide_eq_true_iff _ (Classical.propDecidable _)
theorem Dst.isSome {v:Nat} {o:Option Int} (h:Dst A s v o):o.isSome=rB A s v:=by
 cases o with
 | none =>
  have:¬ Con A s v:=fun ⟨x,w⟩=>by obtain⟨y,e,_⟩:=h.2 x w;cases e
  have:rB A s v=false:=Bool.eq_false_iff.mpr fun z=>this (rB_iff.mp z)
  rw[this];rfl
 | some x=>rw[rB_iff.mpr ⟨x,h.1 x rfl⟩];rfl
theorem Con.refl:Con A s s:=⟨0,.nil⟩
theorem Con.symm (S:Sym A) {v:Nat} (h:Con A s v):Con A v s:=let ⟨x,w⟩:=h;⟨x,w.back S⟩
theorem Con.trans {u v:Nat} (h:Con A s u) (k:Con A u v):Con A s v:=let ⟨_,w⟩:=h;let ⟨_,z⟩:=k;⟨_,w.trans z⟩
noncomputable def rN (A:List (Nat × Nat × Int)) (n s:Nat):List Nat:=(List.range n).filter (rB A s)
noncomputable def isHd (A:List (Nat × Nat × Int)) (n p:Nat):Bool:=decide ((rN A n p).head?=some p)
noncomputable def pcs (A:List (Nat × Nat × Int)) (n:Nat):List (List Nat):=((List.range n).filter (isHd A n)).map (rN A n)
theorem rN_mem {n v:Nat}:v ∈ rN A n s↔v < n∧Con A s v:=by
 unfold rN;rw[List.mem_filter,List.mem_range,rB_iff]
theorem rN_eq (S:Sym A) {n u:Nat} (h:Con A s u):rN A n u=rN A n s:=by
 unfold rN
 refine List.filter_congr fun v _=>?_
 rw[Bool.eq_iff_iff,rB_iff,rB_iff]
 exact⟨fun k=>h.trans k,fun k=>(h.symm S).trans k⟩
theorem together (S:Sym A) {n a b:Nat} (ha:a < n) (hb:b < n):((pcs A n).any fun ns=>decide (a ∈ ns) && decide (b ∈ ns))=rB A a b:=by
 rw[Bool.eq_iff_iff,List.any_eq_true,rB_iff]
 constructor
 ·rintro ⟨ns,hns,h⟩
  obtain⟨p,hp,rfl⟩:=List.mem_map.mp hns
  rw[Bool.and_eq_true] at h
  have h1:=(rN_mem.mp (of_decide_eq_true h.1)).2
  have h2:=(rN_mem.mp (of_decide_eq_true h.2)).2
  exact (h1.symm S).trans h2
 ·intro h
  have am:a ∈ rN A n a:=rN_mem.mpr ⟨ha,.refl⟩
  have bm:b ∈ rN A n a:=rN_mem.mpr ⟨hb,h⟩
  cases e:rN A n a with
  | nil=>rw[e] at am;cases am
  | cons p r =>
   have pm:p ∈ rN A n a:=by rw[e];exact List.mem_cons_self
   obtain⟨hp,cp⟩:=rN_mem.mp pm
   have ep:=rN_eq S (n:=n) cp
   refine⟨rN A n a,List.mem_map.mpr ⟨p,List.mem_filter.mpr ⟨List.mem_range.mpr hp,?_⟩,ep⟩,?_⟩
   ·unfold isHd;rw[ep,e];exact decide_eq_true rfl
   ·rw[decide_eq_true am,decide_eq_true bm];rfl
end Far
namespace L3
open PySem PySem.Spec PyProof.Rows L2
def natV (ns:List Nat):List V:=ns.map fun v:Nat=>V.int (v:Int)
theorem IsAll.snoc {K:PySem.W.Frag} {H:Hp} {d:PyData} {v:V} (hv:Is K H d v):∀ {ds:List PyData} {vs:List V},IsAll K H ds vs->IsAll K H (ds++[d]) (vs++[v])
 | [],_,h=>by
  have e:_=[]:=h
  subst e
  exact⟨v,[],rfl,hv,rfl⟩
 | _::_,_,⟨u,r,e,h1,h2⟩=>by
  subst e
  exact⟨u,r++[v],rfl,h1,IsAll.snoc hv h2⟩
end L3
namespace Srt
open PySem PySem.Spec PyProof.Rows PySem.W
section
variable {prog:Program} {w:World} {A:Around} {E:Value->Shared->Prop} {s:Shared}
end
end Srt
namespace HT
open PySem PyProof.Rows
section
variable {prog:Program} {w:World} {A:Around} {E:Value->Shared->Prop} {s:Shared}
end
section
variable {prog:Program} {w:World} {A:Around} {E:Value->Shared->Prop} {s:Shared}
end
end HT
namespace L3
open PySem PySem.Spec PyProof.Rows L2
section
variable {X:Cx}
end
section
variable {g:TG} {tt:TT} {te:TE} {own:List Str} {js:List Nat} {σ:L2.St} {H1:Hp} {Q:VK}
end
end L3
namespace Far
variable {A:List (Nat × Nat × Int)} {s:Nat}
/-- the places ahead -/
structure Ahd (A:List (Nat × Nat × Int)) (s:Nat) (cs:List (Option (Int × Int))) (as:List (Option Nat)):Prop where
 len:as.length=cs.length
 root:get as s=none
 has:∀ v c,get cs v=some c->v≠s->get as v≠none
 arc:∀ v u,get as v=some u->∃ l cu cv,(u,v,l) ∈ A∧get cs u=some cu∧get cs v=some cv∧cu.1 + l≤cv.1
theorem Ahd.step {n u v:Nat} {l w:Int} {cs:List (Option (Int × Int))} {as:List (Option Nat)} {c:Int × Int} (P:Pos A) (g:Good A n s cs) (a:Ahd A s cs as) (m:(u,v,l) ∈ A) (hv:v < n) (hu:get cs u=some c)
  (h:get cs v=none∨∃ c',get cs v=some c'∧lt2 (c.1 + l,c.2 + w) c'):Ahd A s (cs.set v (some (c.1 + l,c.2 + w))) (as.set v (some u)):=by
 have hc:v < cs.length:=by rw[g.len];exact hv
 have ha:v < as.length:=by rw[a.len];exact hc
 have l1:=P _ _ _ m
 have c0:=(g.walk _ _ hu).nonneg P
 have vs:v≠s:=fun z=>by
  obtain⟨d,hd,hd0⟩:=g.start
  rw[← z] at hd
  rcases h with h | ⟨c',h,hl⟩
  ·rw[h] at hd;cases hd
  ·rw[h] at hd;cases hd
   unfold lt2 at hl;simp only at hl;omega
 have uv:u≠v:=fun z=>by
  rcases h with h | ⟨c',h,hl⟩
  ·rw[← z,hu] at h;cases h
  ·rw[← z,hu] at h;cases h
   unfold lt2 at hl;simp only at hl;omega
 refine⟨by rw[List.length_set,List.length_set];exact a.len,?_,fun x d e hx=>?_,fun x y e=>?_⟩
 ·rw[get_set ha,if_neg (Ne.symm vs)];exact a.root
 ·rw[get_set ha]
  split
  ·exact fun z=>by cases z
  ·rename_i xv
   rw[get_set hc,if_neg xv] at e
   exact a.has x d e hx
 ·rw[get_set ha] at e
  split at e
  ·rename_i z;subst z;cases e
   exact⟨l,c,_,m,by rw[get_set hc,if_neg uv];exact hu,by rw[get_set hc,if_pos rfl],Int.le_refl _⟩
  ·rename_i xv
   obtain⟨l',cu,cv,m',e1,e2,hle⟩:=a.arc x y e
   by_cases yv:y=v
   ·subst yv
    refine⟨l',_,cv,m',by rw[get_set hc,if_pos rfl],by rw[get_set hc,if_neg xv];exact e2,?_⟩
    rcases h with h | ⟨c',h,hl⟩
    ·rw[h] at e1;cases e1
    ·rw[h] at e1;cases e1
     unfold lt2 at hl;simp only at hl
     show c.1 + l + l'≤cv.1
     omega
   ·exact⟨l',cu,cv,m',by rw[get_set hc,if_neg yv];exact e1,by rw[get_set hc,if_neg xv];exact e2,hle⟩
theorem Ahd.first {n:Nat} (hs:s < n):Ahd A s ((List.replicate n none).set s (some (0,0))) (List.replicate n none):=by
 have hl:s < (List.replicate n (none:Option (Int × Int))).length:=by rw[List.length_replicate];exact hs
 refine⟨by rw[List.length_set,List.length_replicate,List.length_replicate],get_rep _ _,fun v c e hv=>?_,fun v u e=>?_⟩
 ·rw[get_set hl,if_neg hv,get_rep] at e;cases e
 ·rw[get_rep] at e;cases e
/-- the step along the tree -/
theorem Ahd.next {n:Nat} {cs:List (Option (Int × Int))} {as:List (Option Nat)} {v u:Nat} (a:Ahd A s cs as) (st:Stab A cs) (e:get as v=some u):∃ l cu cv,(u,v,l) ∈ A∧get cs u=some cu∧get cs v=some cv∧cu.1 + l=cv.1:=by
 obtain⟨l,cu,cv,m,e1,e2,hle⟩:=a.arc v u e
 obtain⟨c',e3,h3⟩:=st u v l cu m e1
 rw[e2] at e3;cases e3
 exact⟨l,cu,cv,m,e1,e2,by omega⟩
/-- a way, as a list from its start -/
inductive Tr (A:List (Nat × Nat × Int)) (a:Nat):List Nat->Nat->Int->Prop
 | one:Tr A a [a] a 0
 | snoc {ws:List Nat} {u v:Nat} {x l:Int}:Tr A a ws u x->(u,v,l) ∈ A->Tr A a (ws++[v]) v (x + l)
end Far
namespace L3
open PySem PySem.Spec PyProof.Rows L2
def oa:Option Nat->V
 | none=>.non
 | some u=>.int (u:Int)
structure RA (H J:Hp) (lw lc la:Addr) (ws:List V) (cs:List (Option (Int × Int))) (as:List (Option Nat)):Prop where
 same:Same H J
 fc:H lc=none
 fa:H la=none
 nwc:lw≠lc
 nwa:lw≠la
 nca:lc≠la
 wl:J lw=some (.lst ws)
 co:∃ cvs,J lc=some (.lst cvs)∧CostL J cvs cs
 ah:J la=some (.lst (as.map oa))
section
variable {H H' J J':Hp} {vs cvs ws:List V} {cs:List (Option (Int × Int))} {as:List (Option Nat)} {lw lc la t:Addr} {k:Nat} {x y:Int}
theorem RA.step (h:RA H J lw lc la ws cs as) (s:Same J J'):RA H J' lw lc la ws cs as :=
 ⟨h.same.trans s,h.fc,h.fa,h.nwc,h.nwa,h.nca,s _ _ h.wl,let ⟨c,e,z⟩:=h.co;⟨c,s _ _ e,z.keep (tk_same s)⟩,s _ _ h.ah⟩
theorem RA.put (h:RA H J lw lc la ws cs as) (hc:J lc=some (.lst cvs)) (hk:k < cvs.length) (ht:J t=some (.tup [.int x,.int y])):RA H (upd J lc (.lst (cvs.set k (.ref t)))) lw lc la ws (cs.set k (some (x,y))) as:=by
 obtain⟨c,e,z⟩:=h.co
 rw[hc] at e;cases e
 refine⟨fun b o eb=>?_,h.fc,h.fa,h.nwc,h.nwa,h.nca,?_,⟨_,upd_same,CostL.set (z.keep (tk_upd hc)) hk ⟨t,rfl,tk_upd hc _ _ ht⟩⟩,?_⟩
 ·rw[upd_ne (ne_of_none eb h.fc)];exact h.same _ _ eb
 ·rw[upd_ne h.nwc];exact h.wl
 ·rw[upd_ne h.nca.symm];exact h.ah
theorem RA.mark {u:Nat} (h:RA H J lw lc la ws cs as):RA H (upd J la (.lst ((as.map oa).set k (.int (u:Int))))) lw lc la ws cs (as.set k (some u)):=by
 obtain⟨c,e,z⟩:=h.co
 refine⟨fun b o eb=>?_,h.fc,h.fa,h.nwc,h.nwa,h.nca,?_,⟨c,?_,z.keep (tk_upd h.ah)⟩,?_⟩
 ·rw[upd_ne (ne_of_none eb h.fa)];exact h.same _ _ eb
 ·rw[upd_ne h.nwa];exact h.wl
 ·rw[upd_ne h.nca];exact e
 ·rw[upd_same,List.map_set];rfl
end
def isTB (ts:List Tie) (u v:Nat) (k:Nat):Bool:=decide ((tieAt ts k).1=min (u:Int) v) && decide ((tieAt ts k).2.1=max (u:Int) v)
def tbN (ts:List Tie) (u v:Nat):Option Nat:=(List.range ts.length).find? (isTB ts u v)
def tlen (ts:List Tie) (u v:Nat):Int:=(tieAt ts ((tbN ts u v).getD 0)).2.2
def wl (ts:List Tie):List Nat->Int
 | u::v::r=>tlen ts u v + wl ts (v::r)
 | _=>0
def but (ks:List Nat) (k:Nat):List Nat:=ks.filter fun j=>decide (j≠k)
end L3
namespace Tx
open PySem PySem.Builtin PySem.Builtin.Str PySem.StrLaws PyProof.Rows
def ofL (l:List Nat):Str:=⟨l.toArray⟩
theorem ofL_list (x:Str):ofL x.cps.toList=x:=by cases x;simp [ofL]
theorem list_ofL (l:List Nat):(ofL l).cps.toList=l:=by simp [ofL]
theorem ofL_len (l:List Nat):(ofL l).length=l.length:=by simp [ofL,Str.length]
theorem ofL_app (l r:List Nat):ofL l++ofL r=ofL (l++r):=Str.ext' (by simp [ofL,Str.cps_append])
def posL (c:Nat):Nat->List Nat->List Nat
 | _,[]=>[]
 | a,d::r=>if d=c then a::posL c (a + 1) r else posL c (a + 1) r
theorem occ_run (x:Str) (c limit:Nat):∀ (k a:Nat) (st:Array Nat × Nat),a + k=x.length + 1->st.2≤a->st.1.size + k≤limit ->
  (forIn (List.range' a k) st (occBody x ⟨#[c]⟩ x.length limit)).run.fst.toList=st.1.toList++posL c a (x.cps.toList.drop a)
 | 0,a,st,h1,_,_=>by
  have e:x.cps.toList.drop a=[]:=List.drop_eq_nil_of_le (by rw[Array.length_toList];show x.length≤a;omega)
  rw[e];simp [posL]
 | k + 1,a,st,h1,h2,h3=>by
  rw[List.range'_succ,List.forIn_cons]
  have hs:=subAt_one x c a
  by_cases hc:x.cps.toList[a]?=some c
  ·obtain⟨z1,z2⟩:=hs.mpr hc
   have eb:occBody x ⟨#[c]⟩ x.length limit a st=pure (ForInStep.yield (st.1.push a,a + (⟨#[c]⟩:Str).length)):=if_pos ⟨⟨⟨by omega,h2⟩,z1⟩,z2⟩
   rw[eb]
   obtain⟨hlt,hv⟩:=List.getElem?_eq_some_iff.mp hc
   have ih:=occ_run x c limit k (a + 1) (st.1.push a,a + (⟨#[c]⟩:Str).length) (by omega) (Nat.le_refl _) (by show (st.1.push a).size + k≤limit;rw[Array.size_push];omega)
   show (forIn (List.range' (a + 1) k) (st.1.push a,a + (⟨#[c]⟩:Str).length) (occBody x ⟨#[c]⟩ x.length limit)).run.fst.toList=_
   rw[ih,List.drop_eq_getElem_cons hlt,hv]
   simp [posL]
  ·have eb:occBody x ⟨#[c]⟩ x.length limit a st=pure (ForInStep.yield (st.1,st.2)):=if_neg fun z=>hc (hs.mp ⟨z.1.2,z.2⟩)
   rw[eb]
   have ih:=occ_run x c limit k (a + 1) (st.1,st.2) (by omega) (by show st.2≤a + 1;omega) (by show st.1.size + k≤limit;omega)
   show (forIn (List.range' (a + 1) k) (st.1,st.2) (occBody x ⟨#[c]⟩ x.length limit)).run.fst.toList=_
   rw[ih]
   by_cases hlt:a < x.cps.toList.length
   ·rw[List.drop_eq_getElem_cons hlt,posL,if_neg fun z=>hc (by rw[List.getElem?_eq_getElem hlt,z])]
   ·rw[List.drop_eq_nil_of_le (by omega),List.drop_eq_nil_of_le (by omega)];rfl
theorem occ_all (x:Str) (c:Nat):occurrences x ⟨#[c]⟩ 0 x.length (x.length + 1)=posL c 0 x.cps.toList:=by
 rw[occ_eq]
 have:=occ_run x c (x.length + 1) (x.length + 1) 0 (#[],0) (by omega) (Nat.le_refl _) (by simp)
 simpa using this
theorem pos_free {c:Nat}:∀ {w:List Nat} {a:Nat},c ∉ w->posL c a w=[]
 | [],_,_=>rfl
 | d::r,a,h=>by rw[posL,if_neg (fun z=>h (by rw[z];exact List.mem_cons_self)),pos_free fun z=>h (List.mem_cons_of_mem _ z)]
theorem pos_word {c:Nat} {r:List Nat}:∀ {w:List Nat} {a:Nat},c ∉ w->posL c a (w++c::r)=(a + w.length)::posL c (a + w.length + 1) r
 | [],a,_=>by simp [posL]
 | d::w,a,h=>by
  rw[List.cons_append,posL,if_neg (fun z=>h (by rw[z];exact List.mem_cons_self)),pos_word fun z=>h (List.mem_cons_of_mem _ z),List.length_cons]
  rw[show a + 1 + w.length=a + (w.length + 1) by omega]
/-- words with a sign between -/
def jn (c:Nat):List (List Nat)->List Nat
 | []=>[]
 | [w]=>w
 | w::v::r=>w++c::jn c (v::r)
theorem parts_words (x:Str) (c:Nat):∀ (ws:List (List Nat)) (a:Nat),ws≠[]->(∀ w ∈ ws,c ∉ w)->x.cps.toList.drop a=jn c ws->partsFrom x 1 a (posL c a (jn c ws))=ws.map ofL
 | [],_,h,_,_=>absurd rfl h
 | [w],a,_,hf,e=>by
  rw[jn,pos_free (hf w List.mem_cons_self)]
  show [strSub x a x.length]=[ofL w]
  have:(strSub x a x.length).cps.toList=w:=by
   rw[strSub_toList,e,jn]
   have hl:=congrArg List.length e
   rw[List.length_drop,Array.length_toList] at hl
   exact List.take_of_length_le (by show w.length≤x.cps.size - a;have:(jn c [w]).length=w.length:=rfl;omega)
  rw[← ofL_list (strSub x a x.length),this]
 | w::v::r,a,_,hf,e=>by
  rw[jn] at e ⊢
  rw[pos_word (hf w List.mem_cons_self)]
  show strSub x a (a + w.length)::partsFrom x 1 (a + w.length + 1) (posL c (a + w.length + 1) (jn c (v::r)))=_
  have e2:x.cps.toList.drop (a + w.length + 1)=jn c (v::r):=by
   rw[show a + w.length + 1=a + (w.length + 1) by omega,← List.drop_drop,e,List.drop_append]
   simp
  rw[parts_words x c (v::r) _ (by simp) (fun u hu=>hf u (List.mem_cons_of_mem _ hu)) e2,List.map_cons]
  have:(strSub x a (a + w.length)).cps.toList=w:=by
   rw[strSub_toList,e,Nat.add_sub_cancel_left,List.take_left]
  rw[← ofL_list (strSub x a (a + w.length)),this];rfl
theorem kind_one (x:Str):1≤Builtin.Str.strKind x:=by unfold Builtin.Str.strKind;split <;> (try split) <;> decide
theorem split_words {x:Str} {c:Nat} {ws:List (List Nat)} (hc:c < 256) (hne:ws≠[]) (hf:∀ w ∈ ws,c ∉ w) (e:x.cps.toList=jn c ws):Txt.split x ⟨#[c]⟩=ws.map ofL:=by
 have hp:=parts_words x c ws 0 hne hf (by rw[List.drop_zero];exact e)
 have hk:Builtin.Str.strKind (⟨#[c]⟩:Str)=1:=by unfold Builtin.Str.strKind;simp [hc]
 have own:posL c 0 (jn c ws)=[]->[x]=ws.map ofL:=fun z=>by
  rw[← hp,z]
  show [x]=[strSub x 0 x.length]
  rw[strSub_whole]
 unfold Txt.split
 rw[occ_all,partsBetween_eq,e]
 split
 ·rename_i h
  refine own ?_
  have h1:x.length < 1:=by
   have:=kind_one x
   simp only [Bool.or_eq_true,decide_eq_true_eq,hk] at h
   rcases h with h | h
   ·exact h
   ·omega
  have:jn c ws=[]:=by rw[← e];exact List.eq_nil_of_length_eq_zero (by rw[Array.length_toList];show x.length=0;omega)
  rw[this];rfl
 ·split
  ·rename_i h
   exact own (List.isEmpty_iff.mp h)
  ·exact hp
theorem part_word {x:Str} {c:Nat} {w r:List Nat} (hf:c ∉ w) (e:x.cps.toList=w++c::r):Txt.partition x ⟨#[c]⟩=(ofL w,⟨#[c]⟩,ofL r):=by
 have h0:x.cps.toList[w.length]?=some c:=by rw[e];simp
 have hlen:x.length=w.length + 1 + r.length:=by
  have:=congrArg List.length e
  rw[Array.length_toList] at this
  rw[List.length_append,List.length_cons] at this
  show x.cps.size=_
  omega
 rcases occ_head x ⟨#[c]⟩ 1 (Nat.le_refl _) with ⟨_,hn⟩ | ⟨i,r',eo,ha,hn⟩
 ·exact absurd ((subAt_one x c _).mpr h0) (hn w.length)
 ·have hi:=(subAt_one x c i).mp ha
  have:i=w.length:=by
   rcases Nat.lt_trichotomy i w.length with h | h | h
   ·rw[e,List.getElem?_append_left h] at hi
    exact absurd (List.mem_of_getElem? hi) hf
   ·exact h
   ·exact absurd ((subAt_one x c _).mpr h0) (hn _ h)
  subst this
  unfold Txt.partition
  rw[eo]
  show (strSub x 0 w.length,(⟨#[c]⟩:Str),strSub x (w.length + (⟨#[c]⟩:Str).length) x.length)=_
  have e1:(strSub x 0 w.length).cps.toList=w:=by rw[strSub_toList,e];simp
  have e2:(strSub x (w.length + 1) x.length).cps.toList=r:=by
   have ed:(w++c::r).drop (w.length + 1)=r:=by rw[List.drop_append];simp
   rw[strSub_toList,e,ed]
   exact List.take_of_length_le (by omega)
  rw[← ofL_list (strSub x 0 w.length),e1]
  show (ofL w,(⟨#[c]⟩:Str),strSub x (w.length + 1) x.length)=_
  rw[← ofL_list (strSub x (w.length + 1) x.length),e2]
/-- a number's figures -/
def digs (m:Nat):List Nat:=(Nat.toDigits 10 m).map Char.toNat
theorem digs_low {m:Nat} (h:m < 10):digs m=[48 + m]:=by
 unfold digs
 rw[Nat.toDigits_of_lt_base h]
 have:∀ d:Nat,d < 10->(Nat.digitChar d).toNat=48 + d:=by decide
 simp [this m h]
theorem digs_step {m:Nat} (h:10≤m):digs m=digs (m / 10)++digs (m % 10):=by
 have hm:m % 10 < 10:=Nat.mod_lt m (by decide)
 have t:Nat.toDigits 10 (m / 10)++Nat.toDigits 10 (m % 10)=Nat.toDigits 10 (10 * (m / 10) + m % 10):=Nat.toDigits_append_toDigits (by decide) (by omega) hm
 rw[Nat.div_add_mod] at t
 unfold digs
 rw[← t,List.map_append]
theorem digs_fig (m:Nat):∀ c ∈ digs m,48≤c∧c≤57:=fun c hc=>by
 obtain⟨ch,hch,e⟩:=List.mem_map.mp hc
 have r:=digit_range (Nat.isDigit_of_mem_toDigits (by decide) (by decide) hch)
 rw[← e];exact r
theorem digs_len:∀ (k m:Nat),m < 10 ^ (k + 1)->(digs m).length≤k + 1
 | 0,m,h=>by rw[digs_low (by omega)];simp
 | k + 1,m,h=>by
  by_cases c:m < 10
  ·rw[digs_low c];simp
  ·rw[digs_step (by omega),List.length_append,digs_low (Nat.mod_lt m (by decide))]
   have:=digs_len k (m / 10) (by rw[Nat.pow_succ] at h;omega)
   simp only [List.length_singleton]
   omega
theorem digs_ne (m:Nat):digs m≠[]:=fun e=>by
 have h:=toDigits_len_ge 10 m
 rw[List.map_eq_nil_iff.mp e] at h
 exact absurd h (by decide)
theorem digs_head (m:Nat) (h:m≠0):∃ c r,digs m=c::r∧c≠48:=by
 induction m using Nat.strongRecOn with
 | _ m ih =>
  by_cases c:m < 10
  ·rw[digs_low c]
   exact⟨_,_,rfl,by omega⟩
  ·obtain⟨d,r,e,hd⟩:=ih (m / 10) (by omega) (by omega)
   rw[digs_step (by omega),e]
   exact⟨d,_,rfl,hd⟩
/-- a number written -/
theorem num_text {i:Int} (h:0≤i):((toString i:String):Str)=ofL (digs i.toNat):=by
 obtain⟨m,rfl⟩:=Int.eq_ofNat_of_zero_le h
 have:=PySem.W.KIN.signs_num m
 show Str.ofString (toString ((m:Nat):Int))=_
 rw[← ofL_list (Str.ofString (toString ((m:Nat):Int))),this];rfl
theorem num_read {m:Nat} (h:(digs m).length≤640):PySem.intText? (ofL (digs m))=some (m:Int):=by
 have e:=PySem.intText_digits (x:=ofL (digs m)) (by rw[list_ofL];exact digs_fig m) (by rw[list_ofL];exact digs_ne m) (by rw[ofL_len];omega)
 rw[list_ofL] at e
 rw[e]
 exact congrArg (fun z:Nat=>some (z:Int)) (PySem.W.KIN.val_back m)
end Tx
namespace L3
open PySem PySem.Spec PyProof.Rows L2
/-- the signs of a text -/
def Its (x:Str):It:=⟨fun i _=>i < x.cps.size,fun i H v H'=>H'=H∧∃ c,x.cps[i]?=some c∧v=.str ⟨#[c]⟩,fun i _=>x.cps.size≤i⟩
theorem turn_str {P:Program} {w:World} {K:PySem.W.Frag} {tg:Expr} {ty:String} (hty:ty="str_ascii_iterator"∨ty="str_iterator") (it:Addr) (x:Str) (t:Tok):Turn P w K tg (Its x) [it] it (fun i h=>h.IsStrIter it ty x t i) where
 mem:=by simp
 obj:=fun i h st b hb=>by
  obtain rfl:b=it:=by simpa using hb
  obtain⟨o,e,c,d⟩:=st
  exact⟨o,e,fun v z=>by rw[d] at z;cases z⟩
 keep:=fun i h h' st k=>let ⟨o,e,c⟩:=st;⟨o,k it (by simp) o e,c⟩
 item:=by
  intro X hP hw hK hc i pins s σ H E I hf st hg
  subst hP hw hK
  obtain⟨f0,f1,f2,f3,f4,f5⟩:=hf it (by simp)
  have hx:x.cps[i]?=some x.cps[i]:=Array.getElem?_eq_getElem hg
  have fin:∀ h',h'.IsStrIter it ty x t (i + 1)->Heap.SameBut it s.heap h'->∃ u,(some (Value.str ⟨#[x.cps[i]]⟩ s.toks))=some u∧wpAny (model X.prog X.w) X.A (letOwnedTupleGo tg (.ref it) u) (fun _ s2=>∃ v H',Inv X pins σ H' s2∧RelV v u∧(Its x).yld i H v H'∧s2.heap.IsStrIter it ty x t (i + 1)∧∀ b ∈ [it],H' b=none) E { s with heap:=h',toks:=s.toks + 1 }:=fun h' st' sb=>by
   have I1:Inv X pins σ H { s with heap:=h',toks:=s.toks + 1 }:=I.turned (fun b o hb e=>(sb.2 b hb).trans e) f0 f1 f3 f4 f5
   obtain⟨o,e,c,d⟩:=id st'
   exact⟨_,rfl,go_of (s:={ s with heap:=h',toks:=s.toks + 1 }) e c d (by rcases hty with rfl | rfl <;> decide) ⟨.str ⟨#[x.cps[i]]⟩,H,I1,⟨_,rfl⟩,⟨rfl,_,hx,rfl⟩,st',fun b hb=>(hf b hb).1⟩⟩
  rcases hty with rfl | rfl
  ·exact wpAny_pyNext_ascii_item st hx fin
  ·exact wpAny_pyNext_wide_item st hx fin
 done:=by
  intro X hP hw hK hc i pins s σ H E I hf st hg
  subst hP hw hK
  obtain⟨f0,f1,f2,f3,f4,f5⟩:=hf it (by simp)
  have hx:x.cps[i]?=none:=Array.getElem?_eq_none hg
  have fin:∀ h',Heap.ExtBut it s.heap h'->(none:Option Value)=none∧Inv X pins σ H { s with heap:=h' }:=fun h' eb=>⟨rfl,I.turned (t':=s.toks) (fun b o hb e=>eb b o hb e) f0 f1 f3 f4 f5⟩
  rcases hty with rfl | rfl
  ·exact wpAny_pyNext_ascii_end (I.ok.hd hc) st hx fin
  ·exact wpAny_pyNext_wide_end (I.ok.hd hc) st hx fin
 self:=fun _ _ _ _ _ st h=>by
  rcases hty with rfl | rfl
  ·exact wpAny_pyIter_striter_ascii st h
  ·exact wpAny_pyIter_striter_wide st h
section
variable {X:Cx} {tg:Expr} {pos:Pos}
def iStr (te:TE):TI:=fun σ H R=>te σ H fun v H1=>∃ x,v=.str x∧R (Its x) H1
theorem pi_str {e:Expr} {te:TE} (h:PE X e te):PI X tg e (iStr te):=by
 intro pins s σ H R I q
 refine thn (h pins s σ H _ I q) fun v s1 ⟨y,H1,I1,r1,q1⟩=>?_
 obtain⟨x,rfl,q⟩:=q1
 obtain⟨t,rfl⟩:=r1
 have fp:∀ b ∈ [s1.heap.objs.size],FpOk X pins H1 b:=fun b hb=>by
  obtain rfl:b=s1.heap.objs.size:=by simpa using hb
  exact I1.fpOk (Nat.le_refl _) (I1.hok.fresh (Nat.le_refl _))
 cases ha:x.cps.all (· < 128)
 ·exact wpAny_pyIter_wide ha ⟨s1.heap.objs.size,[s1.heap.objs.size],_,_,H1,rfl,I1.kept (t':=s1.toks) fun b o e=>Heap.get?_push_of_some _ e,turn_str (.inr rfl) _ x t,⟨_,Heap.get?_push_size _ rfl,rfl,rfl⟩,fp,q⟩
 ·exact wpAny_pyIter_ascii ha ⟨s1.heap.objs.size,[s1.heap.objs.size],_,_,H1,rfl,I1.kept (t':=s1.toks) fun b o e=>Heap.get?_push_of_some _ e,turn_str (.inl rfl) _ x t,⟨_,Heap.get?_push_size _ rfl,rfl,rfl⟩,fp,q⟩
theorem strs_of {ys:List Str} {us:List Value} (r:Vals (ys.map V.str) us):∃ l:List (Str × Tok),us=strValues l∧l.map (·.1)=ys:=by
 induction ys generalizing us with
 | nil=>cases r;exact⟨[],rfl,rfl⟩
 | cons y ys ih =>
  cases r with
  | cons r1 r2 =>
   obtain⟨t,rfl⟩:=r1
   obtain⟨l,rfl,e⟩:=ih r2
   exact⟨(y,t)::l,rfl,by rw[List.map_cons,e]⟩
theorem strs_to (l:List (Str × Tok)):Vals ((l.map (·.1)).map V.str) (strValues l):=by
 induction l with
 | nil=>exact .nil
 | cons p l ih=>exact .cons ⟨_,rfl⟩ ih
theorem mt_join:MtR X "str.join" (fun x xs H Q=>∃ sep p ys,x=.str sep∧xs=[.ref p]∧H p=some (.lst (ys.map V.str))∧JoinOk sep ys=true∧Q (.str (Txt.join sep ys)) H):=by
 intro pins s σ H x xs v us Q I rx r h
 obtain⟨sep,p,ys,rfl,rfl,hp,ok,q⟩:=h
 obtain⟨t,rfl⟩:=rx
 obtain⟨u,rfl,ru⟩:=vals1 r
 cases ru
 obtain⟨its,rv,pl,_⟩:=I.list (SqL.of hp)
 obtain⟨l,rfl,e⟩:=strs_of rv
 exact SC.join pl.isList e ok fun t' k=>⟨.str _,H,I.tok _,⟨_,rfl⟩,q⟩
theorem call_intT:CallR X (.type "int") (fun xs H Q=>∃ x n,xs=[.str x]∧PySem.intText? x=some n∧x.length≤640∧Q (.int n) H):=by
 intro pins s σ H xs us Q I r h
 obtain⟨x,n,rfl,e,z,q⟩:=h
 obtain⟨u,rfl,t,rfl⟩:=vals1 r
 exact PySem.W.KIN.call_text e z ⟨.int n,H,I.tok _,⟨_,rfl⟩,q⟩
theorem mt_part:MtR X "str.partition" (fun x xs H Q=>∃ z c,x=.str z∧xs=[.str ⟨#[c]⟩]∧z.length≤10000∧∀ l H',Same H H'->H l=none->H' l=some (.tup [.str (Txt.partition z ⟨#[c]⟩).1,.str (Txt.partition z ⟨#[c]⟩).2.1,.str (Txt.partition z ⟨#[c]⟩).2.2])->Q (.ref l) H'):=by
 intro pins s σ H x xs v us Q I rx r h
 obtain⟨z,c,rfl,rfl,hz,q⟩:=h
 obtain⟨t,rfl⟩:=rx
 obtain⟨u,rfl,k,rfl⟩:=vals1 r
 have hz':z.length≤sizeLine:=Nat.le_trans hz (by decide)
 have fr:H s.heap.objs.size=none:=I.hok.fresh (Nat.le_refl _)
 have fin:∀ (o:Obj) (tk:Nat) (ws:List V) (us:List Value),o={ cls:=.type "tuple",data:=.seq us.toArray }->Vals ws us->ws.length≤3->ws=[.str (Txt.partition z ⟨#[c]⟩).1,.str (Txt.partition z ⟨#[c]⟩).2.1,.str (Txt.partition z ⟨#[c]⟩).2.2]->EP X pins σ Q (.ref s.heap.objs.size) { s with toks:=tk,heap:=s.heap.push o }:=fun o tk ws us eo rv le ew=>by
  subst eo
  refine⟨.ref s.heap.objs.size,upd H s.heap.objs.size (.tup ws),I.laid (t':=tk) (fun b u e=>Heap.get?_push_of_some _ e) (Nat.le_refl _) ⟨Nat.le_trans le (by decide),us,rv,⟨_,Heap.get?_push_size _ rfl,rfl,⟨_,rfl⟩,rfl⟩⟩,rfl,q _ _ (same_new fr) fr ?_⟩
  rw[upd_same,ew]
 refine call_meets F.slot_str_partition (typeIs_str _ _ _) F.entry_str_partition (F.args_str_partition_2 _ _) (meets_str_partition z ⟨#[c]⟩ t k rfl hz') ?_
 unfold Txt.partition at fin
 revert fin
 cases Builtin.Str.occurrences z ⟨#[c]⟩ 0 z.length 1 with
 | nil=>exact fun fin=>fin _ _ _ _ rfl (.cons (a:=V.str _) ⟨_,rfl⟩ (.cons (a:=V.str _) ⟨_,rfl⟩ (.cons (a:=V.str _) ⟨_,rfl⟩ .nil))) (Nat.le_refl _) rfl
 | cons i r=>exact fun fin=>fin _ _ _ _ rfl (.cons (a:=V.str _) ⟨_,rfl⟩ (.cons (a:=V.str _) ⟨_,rfl⟩ (.cons (a:=V.str _) ⟨_,rfl⟩ .nil))) (Nat.le_refl _) rfl
theorem mt_split:MtR X "str.split" (fun x xs H Q=>∃ z c,x=.str z∧xs=[.str ⟨#[c]⟩]∧z.length≤10000∧∀ l H',Same H H'->H l=none->H' l=some (.lst ((Txt.split z ⟨#[c]⟩).map V.str))->Q (.ref l) H'):=by
 intro pins s σ H x xs v us Q I rx r h
 obtain⟨z,c,rfl,rfl,hz,q⟩:=h
 obtain⟨t,rfl⟩:=rx
 obtain⟨u,rfl,k,rfl⟩:=vals1 r
 have fr:H s.heap.objs.size=none:=I.hok.fresh (Nat.le_refl _)
 have fin:∀ (l:List (Str × Tok)) (tk:Nat),l.map (·.1)=Txt.split z ⟨#[c]⟩->EP X pins σ Q (.ref s.heap.objs.size) { s with toks:=tk,heap:=s.heap.push { cls:=.type "list",data:=.seq (strValues l).toArray } }:=fun l tk e=>by
  have hl:((l.map (·.1)).map V.str).length≤sizeLine:=by
   have:=split_le z ⟨#[c]⟩
   rw[e,List.length_map]
   exact Nat.le_trans this (Nat.le_trans (Nat.add_le_add_right hz 2) (by decide))
  refine⟨.ref s.heap.objs.size,upd H s.heap.objs.size (.lst ((l.map (·.1)).map V.str)),I.laid (t':=tk) (fun b u e=>Heap.get?_push_of_some _ e) (Nat.le_refl _) ⟨hl,_,0,strs_to l,Heap.get?_push_size _ rfl⟩,rfl,q _ _ (same_new fr) fr ?_⟩
  rw[upd_same,e]
 have few:(Builtin.Str.partsBetween z (Builtin.Str.occurrences z ⟨#[c]⟩ 0 z.length (z.length + 1)) (⟨#[c]⟩:Str).length).length≤sizeLine:=by
  have:=StrLaws.occ_length_le z ⟨#[c]⟩ 0 z.length (z.length + 1)
  rw[length_partsBetween]
  exact Nat.le_trans (show _≤10002 by omega) (by decide)
 have go:=fun {m} (h:Meets (Builtin.«str.split» ⟨[.str z t,.str ⟨#[c]⟩ k],[]⟩) m)=>call_meets (prog:=X.prog) (w:=X.w) (A:=X.A) (s:=s) (E:=X.xe) (Q:=EP X pins σ Q) F.slot_str_split (typeIs_str _ _ _) F.entry_str_split (F.args_str_split_2 _ _) h
 by_cases h1:(decide (z.length < (⟨#[c]⟩:Str).length) || decide (Builtin.Str.strKind z < Builtin.Str.strKind ⟨#[c]⟩))=true
 ·exact go (meets_str_split_cannot_occur z _ t k h1) (fin [(z,t)] s.toks (by unfold Txt.split;rw[if_pos h1];rfl))
 ·by_cases h2:(Builtin.Str.occurrences z ⟨#[c]⟩ 0 z.length (z.length + 1)).isEmpty=true
  ·exact go (meets_str_split_not_found z _ t k (Bool.eq_false_iff.mpr h1) rfl h2) (fin [(z,t)] s.toks (by unfold Txt.split;rw[if_neg h1,if_pos h2];rfl))
  ·refine go (meets_str_split_sep z _ t k (Bool.eq_false_iff.mpr h1) rfl (Bool.eq_false_iff.mpr h2) (Nat.le_trans hz (by decide)) few) ?_
   have:=fin (numbered s.toks (Builtin.Str.partsBetween z (Builtin.Str.occurrences z ⟨#[c]⟩ 0 z.length (z.length + 1)) (⟨#[c]⟩:Str).length)) (s.toks + (Builtin.Str.partsBetween z (Builtin.Str.occurrences z ⟨#[c]⟩ 0 z.length (z.length + 1)) (⟨#[c]⟩:Str).length).length) (by rw[numbered_texts];unfold Txt.split;rw[if_neg h1,if_neg h2])
   rw[← strsFrom_eq] at this
   exact this
end
section
variable {X:Cx} {own:List Str} {js:List Nat} {g:TG} {te:TE} {σ:L2.St} {Q:VK} {H1:Hp}
theorem comp_str {x:Str} (Sg:L2.St->Prop) (R:Nat->V->Hp->Prop) (hn:x.length≤1000) (h0:Sg (start3 own js σ)) (mono:∀ i v H H',TupKeep H H'->R i v H->R i v H')
  (step:∀ i c σ' H',x.cps[i]?=some c->Same H1 H'->Sg σ'->∀ C:L2.St->V->Hp->Prop,(∀ σ3 v H5,Sg σ3->Same H' H5->R i v H5->C σ3 v H5)->g (.str ⟨#[c]⟩) σ' H' fun σ3 H3=>te σ3 H3 fun v H5=>C σ3 v H5)
  (fin:∀ D ys H',H1 D=none->Same H1 H'->H' D=some (.lst ys)->ys.length=x.length->(∀ i v,ys[i]?=some v->R i v H')->Q (.ref D) H'):CompGo own js g tTrue te σ Q (Its x) H1:=by
 refine comp_map x.cps.size Sg R hn h0 mono (fun i H' hi s=>hi) (fun H' s=>Nat.le_refl _) (fun i v σ' H' H2 hi s hy sg C hC=>?_) fin
 obtain⟨rfl,c,hc,rfl⟩:=hy
 exact step i c σ' _ hc s sg C hC
end
end L3
namespace L3
open PySem PySem.Spec PyProof.Rows L2
end L3
namespace Far
def sumP:List Nat->Nat
 | []=>0
 | k::r=>2 ^ k + sumP r
theorem sumP_perm {S S':List Nat} (h:S.Perm S'):sumP S=sumP S':=by
 induction h with
 | nil=>rfl
 | cons x _ ih=>show _ + _=_ + _;rw[ih]
 | swap x y l=>show 2 ^ y + (2 ^ x + sumP l)=2 ^ x + (2 ^ y + sumP l);omega
 | trans _ _ h1 h2=>exact h1.trans h2
theorem sumP_append (S:List Nat):∀ T:List Nat,sumP (S++T)=sumP S + sumP T:=by
 intro T
 induction S with
 | nil=>show sumP T=0 + sumP T;omega
 | cons k r ih=>show 2 ^ k + sumP (r++T)=2 ^ k + sumP r + sumP T;rw[ih];omega
theorem sumP_lt:∀ (m:Nat) {S:List Nat},S.Nodup->(∀ k ∈ S,k < m)->sumP S < 2 ^ m
 | 0,S,_,h=>by
  cases S with
  | nil=>exact Nat.zero_lt_one
  | cons k r=>exact absurd (h k List.mem_cons_self) (Nat.not_lt_zero _)
 | m + 1,S,nd,h=>by
  have e:2 ^ (m + 1)=2 ^ m + 2 ^ m:=by rw[Nat.pow_succ];omega
  by_cases c:m ∈ S
  ·have p:=List.perm_cons_erase c
   have nd':(m::S.erase m).Nodup:=p.nodup_iff.mp nd
   have:=sumP_lt m (S:=S.erase m) (List.nodup_cons.mp nd').2 fun k hk=>by
    have h1:=h k (List.mem_of_mem_erase hk)
    have h2:k≠m:=fun z=>(List.nodup_cons.mp nd').1 (z ▸ hk)
    omega
   rw[sumP_perm p,e]
   show 2 ^ m + sumP (S.erase m) < _
   omega
  ·have:=sumP_lt m nd fun k hk=>by
    have h1:=h k hk
    have h2:k≠m:=fun z=>c (z ▸ hk)
    omega
   omega
theorem sumP_inj:∀ (m:Nat) {S S':List Nat},S.Nodup->S'.Nodup->(∀ k ∈ S,k < m)->(∀ k ∈ S',k < m)->sumP S=sumP S'->∀ k,k ∈ S->k ∈ S'
 | 0,S,S',_,_,h,_,_,k,hk=>absurd (h k hk) (Nat.not_lt_zero _)
 | m + 1,S,S',nd,nd',h,h',e,k,hk=>by
  have lower:∀ {T:List Nat},T.Nodup->(∀ k ∈ T,k < m + 1)->m ∉ T->sumP T < 2 ^ m:=fun {T} n1 n2 n3=>sumP_lt m n1 fun j hj=>by
   have h1:=n2 j hj
   have h2:j≠m:=fun z=>n3 (z ▸ hj)
   omega
  by_cases c:m ∈ S
  ·have p:=List.perm_cons_erase c
   have ndp:(m::S.erase m).Nodup:=p.nodup_iff.mp nd
   have e1:sumP S=2 ^ m + sumP (S.erase m):=sumP_perm p
   by_cases c':m ∈ S'
   ·have p':=List.perm_cons_erase c'
    have ndp':(m::S'.erase m).Nodup:=p'.nodup_iff.mp nd'
    have e2:sumP S'=2 ^ m + sumP (S'.erase m):=sumP_perm p'
    by_cases z:k=m
    ·rw[z];exact c'
    ·have lt:∀ {T:List Nat},(m::T.erase m).Nodup->(∀ k ∈ T,k < m + 1)->∀ j ∈ T.erase m,j < m:=fun {T} n1 n2 j hj=>by
      have h1:=n2 j (List.mem_of_mem_erase hj)
      have h2:j≠m:=fun y=>(List.nodup_cons.mp n1).1 (y ▸ hj)
      omega
     have:=sumP_inj m (List.nodup_cons.mp ndp).2 (List.nodup_cons.mp ndp').2 (lt ndp h) (lt ndp' h') (by omega) k ((List.mem_erase_of_ne z).mpr hk)
     exact List.mem_of_mem_erase this
   ·have:=lower nd' h' c'
    omega
  ·by_cases c':m ∈ S'
   ·have e2:sumP S'=2 ^ m + sumP (S'.erase m):=sumP_perm (List.perm_cons_erase c')
    have:=lower nd h c
    omega
   ·have lt:∀ {T:List Nat},(∀ k ∈ T,k < m + 1)->m ∉ T->∀ j ∈ T,j < m:=fun {T} n1 n2 j hj=>by
     have h1:=n1 j hj
     have h2:j≠m:=fun y=>n2 (y ▸ hj)
     omega
    exact sumP_inj m nd nd' (lt h c) (lt h' c') e k hk
abbrev Arc:=Nat × Nat × Int × Nat
inductive Rt (B:List Arc) (a:Nat):List Nat->List Nat->Nat->Int->Int->Prop
 | one:Rt B a [a] [] a 0 0
 | snoc {ws S:List Nat} {u v:Nat} {x y l:Int} {k:Nat}:Rt B a ws S u x y->(u,v,l,k) ∈ B->v ∉ ws->Rt B a (ws++[v]) (S++[k]) v (x + l) (y + 2 ^ k)
structure Keys (B:List Arc):Prop where
 sym:∀ u v l k,(u,v,l,k) ∈ B->(v,u,l,k) ∈ B
 key:∀ u v l u' v' l' k,(u,v,l,k) ∈ B->(u',v',l',k) ∈ B->l'=l∧((u'=u∧v'=v)∨(u'=v∧v'=u))
 ne:∀ u v l k,(u,v,l,k) ∈ B->u≠v
 pos:∀ u v l k,(u,v,l,k) ∈ B->1≤l
 few:∀ u v l k,(u,v,l,k) ∈ B->k < 60
variable {B:List Arc} {a b:Nat} {ws S:List Nat} {x y:Int}
theorem Rt.last (h:Rt B a ws S b x y):b ∈ ws:=by
 cases h with
 | one=>exact List.mem_singleton.mpr rfl
 | snoc _ _ _=>exact List.mem_append_right _ (List.mem_singleton.mpr rfl)
theorem Rt.ends (K:Keys B) (h:Rt B a ws S b x y):∀ k ∈ S,∃ u v l,(u,v,l,k) ∈ B∧u ∈ ws∧v ∈ ws:=by
 induction h with
 | one=>intro k hk;cases hk
 | @snoc ws S u v x y l k r m nv ih =>
  intro j hj
  rcases List.mem_append.mp hj with hj | hj
  ·obtain⟨p,q,l',h1,h2,h3⟩:=ih j hj
   exact⟨p,q,l',h1,List.mem_append_left _ h2,List.mem_append_left _ h3⟩
  ·rw[List.mem_singleton.mp hj]
   exact⟨u,v,l,m,List.mem_append_left _ r.last,List.mem_append_right _ (List.mem_singleton.mpr rfl)⟩
theorem Rt.fresh (K:Keys B) (h:Rt B a ws S b x y) {u v:Nat} {l:Int} {k:Nat} (m:(u,v,l,k) ∈ B) (nv:v ∉ ws):k ∉ S:=fun hk=>by
 obtain⟨p,q,l',m',hp,hq⟩:=h.ends K k hk
 rcases (K.key _ _ _ _ _ _ _ m m').2 with ⟨e1,e2⟩ | ⟨e1,e2⟩
 ·exact nv (e2 ▸ hq)
 ·exact nv (e1 ▸ hp)
theorem Rt.nodup (K:Keys B) (h:Rt B a ws S b x y):S.Nodup:=by
 induction h with
 | one=>exact List.nodup_nil
 | @snoc ws S u v x y l k r m nv ih =>
  refine List.nodup_append.mpr ⟨ih,by simp,fun p hp q hq z=>?_⟩
  rw[List.mem_singleton.mp hq] at z
  exact r.fresh K m nv (z ▸ hp)
theorem Rt.small (K:Keys B) (h:Rt B a ws S b x y):∀ k ∈ S,k < 60:=fun k hk=>let ⟨u,v,l,m,_⟩:=h.ends K k hk;K.few u v l k m
theorem Rt.sum (h:Rt B a ws S b x y):y=(sumP S:Nat):=by
 induction h with
 | one=>rfl
 | @snoc ws S u v x y l k r m nv ih =>
  rw[sumP_append,ih]
  show ((sumP S:Nat):Int) + 2 ^ k=((sumP S + (2 ^ k + 0):Nat):Int)
  have:((2 ^ k:Nat):Int)=(2:Int) ^ k:=by norm_cast
  omega
theorem Rt.lt (K:Keys B) (h:Rt B a ws S b x y):0≤y∧y < 2 ^ 60:=by
 have e:=h.sum
 have:=sumP_lt 60 (h.nodup K) (h.small K)
 have e2:((2 ^ 60:Nat):Int)=(2:Int) ^ 60:=by norm_cast
 omega
/-- the same sum of powers: the same route -/
theorem Rt.unique (K:Keys B) (h:Rt B a ws S b x y):∀ {ws' S':List Nat} {x':Int},Rt B a ws' S' b x' y->ws'=ws∧x'=x:=by
 induction h with
 | one =>
  intro ws' S' x' r
  generalize ey:(0:Int)=yy at r
  cases r with
  | one=>exact⟨rfl,rfl⟩
  | @snoc ws0 S0 u _ x0 y0 l k r m nv =>
   have p:=r.lt K
   have:(0:Int) < 2 ^ k:=Int.pow_pos (by decide)
   omega
 | @snoc ws0 S0 u v x0 y0 l k r m nv ih =>
  intro ws' S' x' r'
  have full:Rt B a (ws0++[v]) (S0++[k]) v (x0 + l) (y0 + 2 ^ k):=.snoc r m nv
  have se:sumP S'=sumP (S0++[k]):=by
   have e1:=r'.sum
   have e2:=full.sum
   omega
  have sub:=sumP_inj 60 (r'.nodup K) (full.nodup K) (r'.small K) (full.small K) se
  generalize ey:y0 + 2 ^ k=yy at r'
  cases r' with
  | one =>
   have p:=r.lt K
   have:(0:Int) < 2 ^ k:=Int.pow_pos (by decide)
   omega
  | @snoc ws1 S1 u1 _ x1 y1 l1 k1 r1 m1 nv1 =>
   have in1:=sub k1 (List.mem_append_right _ (List.mem_singleton.mpr rfl))
   have k1k:k1=k:=by
    rcases List.mem_append.mp in1 with z | z
    ·exact absurd z (r.fresh K m1 nv)
    ·exact List.mem_singleton.mp z
   subst k1k
   obtain⟨el,eu⟩:=K.key _ _ _ _ _ _ _ m m1
   have uu:u1=u:=by
    rcases eu with ⟨e,_⟩ | ⟨e,e'⟩
    ·exact e
    ·exact absurd e' (K.ne _ _ _ _ m).symm
   subst uu
   have yy1:y1=y0:=by omega
   subst yy1
   obtain⟨e1,e2⟩:=ih r1
   exact⟨by rw[e1],by rw[e2,el]⟩
theorem Rt.cons (K:Keys B) {u:Nat} {l:Int} {k:Nat} (m:(u,a,l,k) ∈ B) (h:Rt B a ws S b x y):u ∉ ws->Rt B u (u::ws) (k::S) b (x + l) (y + 2 ^ k):=by
 induction h with
 | one =>
  intro nu
  have:Rt B u ([u]++[a]) ([]++[k]) a (0 + l) (0 + 2 ^ k):=.snoc .one m (fun z=>nu (by rw[List.mem_singleton] at z ⊢;exact z.symm))
  exact this
 | @snoc ws S w v x y l' k' r m' nv ih =>
  intro nu
  have r2:=ih fun z=>nu (List.mem_append_left _ z)
  have:Rt B u ((u::ws)++[v]) ((k::S)++[k']) v (x + l + l') (y + 2 ^ k + 2 ^ k'):=.snoc r2 m' fun z=>by
   rcases List.mem_cons.mp z with z | z
   ·exact nu (List.mem_append_right _ (List.mem_singleton.mpr z.symm))
   ·exact nv z
  rw[Int.add_right_comm x l l',Int.add_right_comm y] at this
  exact this
theorem Rt.back (K:Keys B) (h:Rt B a ws S b x y):Rt B b ws.reverse S.reverse a x y:=by
 induction h with
 | one=>exact .one
 | @snoc ws S u v x y l k r m nv ih =>
  rw[List.reverse_append,List.reverse_append]
  exact ih.cons K (K.sym _ _ _ _ m) (fun z=>nv (List.mem_reverse.mp z))
end Far
namespace Far
structure Best (B:List Arc) (n s:Nat) (cs:List (Option (Int × Int))) (as:List (Option Nat)):Prop where
 len:cs.length=n
 alen:as.length=n
 start:get cs s=some (0,0)
 root:get as s=none
 has:∀ v c,get cs v=some c->v≠s->get as v≠none
 nn:∀ v c,get cs v=some c->0≤c.1
 stab:∀ u v l k c,(u,v,l,k) ∈ B->get cs u=some c->∃ c',get cs v=some c'∧¬ lt2 (c.1 + l,c.2 + 2 ^ k) c'
 arc:∀ v u,get as v=some u->∃ l k cu,(u,v,l,k) ∈ B∧get cs u=some cu∧get cs v=some (cu.1 + l,cu.2 + 2 ^ k)
/-- the way by the tree, from its root -/
inductive TPw (as:List (Option Nat)) (s:Nat):List Nat->Nat->Prop
 | root:TPw as s [s] s
 | step {ws:List Nat} {u v:Nat}:get as v=some u->TPw as s ws u->TPw as s (ws++[v]) v
section
variable {B:List Arc} {n s:Nat} {cs:List (Option (Int × Int))} {as:List (Option Nat)}
theorem Best.route (K:Keys B) (h:Best B n s cs as):∀ (m:Nat) (v:Nat) (c:Int × Int),get cs v=some c->c.1.toNat≤m->∃ ws S,Rt B s ws S v c.1 c.2∧TPw as s ws v∧∀ w ∈ ws,∃ cw,get cs w=some cw∧cw.1≤c.1:=by
 intro m
 induction m using Nat.strongRecOn with
 | ind m ih =>
  intro v c e hm
  by_cases vs:v=s
  ·subst vs
   rw[h.start] at e;cases e
   exact⟨[v],[],.one,.root,fun w hw=>by rw[List.mem_singleton.mp hw];exact⟨_,h.start,Int.le_refl _⟩⟩
  ·cases ea:get as v with
   | none=>exact absurd ea (h.has v c e vs)
   | some u =>
    obtain⟨l,k,cu,ma,eu,ev⟩:=h.arc v u ea
    rw[e] at ev;cases ev
    have l1:=K.pos _ _ _ _ ma
    have c0:=h.nn _ _ eu
    simp only at hm
    obtain⟨ws,S,r,tp,all⟩:=ih cu.1.toNat (by omega) u cu eu (Nat.le_refl _)
    have nv:v ∉ ws:=fun z=>by
     obtain⟨cw,e1,h1⟩:=all v z
     rw[e] at e1;cases e1
     simp only at h1;omega
    refine⟨ws++[v],S++[k],.snoc r ma nv,.step ea tp,fun w hw=>?_⟩
    rcases List.mem_append.mp hw with hw | hw
    ·obtain⟨cw,e1,h1⟩:=all w hw
     exact⟨cw,e1,by show cw.1≤cu.1 + l;omega⟩
    ·rw[List.mem_singleton.mp hw]
     exact⟨_,e,Int.le_refl _⟩
theorem Best.small (K:Keys B) (h:Best B n s cs as) {v:Nat} {c:Int × Int} (e:get cs v=some c):0≤c.2∧c.2 < 2 ^ 60:=by
 obtain⟨ws,S,r,_⟩:=h.route K _ v c e (Nat.le_refl _)
 exact r.lt K
/-- no route is less -/
theorem Best.least (h:Best B n s cs as) {ws S:List Nat} {v:Nat} {x y:Int} (r:Rt B s ws S v x y):∃ c,get cs v=some c∧¬ lt2 (x,y) c:=by
 induction r with
 | one=>exact⟨_,h.start,fun z=>by unfold lt2 at z;simp only at z;omega⟩
 | @snoc ws S u v x y l k r m nv ih =>
  obtain⟨c,e,hc⟩:=ih
  obtain⟨c',e',hc'⟩:=h.stab _ _ _ _ _ m e
  refine⟨c',e',fun z=>?_⟩
  unfold lt2 at *
  simp only at *
  omega
/-- both ways about the same -/
theorem Best.both (K:Keys B) {s':Nat} {cs':List (Option (Int × Int))} {as':List (Option Nat)} (h:Best B n s cs as) (h':Best B n s' cs' as'):get cs s'=get cs' s:=by
 have one:∀ {a b:Nat} {c1 c2:List (Option (Int × Int))} {a1 a2:List (Option Nat)} {d:Int × Int},Best B n a c1 a1->Best B n b c2 a2->get c1 b=some d->∃ d',get c2 a=some d'∧¬ lt2 d d':=fun {a b c1 c2 a1 a2 d} g1 g2 e=>by
  obtain⟨ws,S,r,_⟩:=g1.route K _ b d e (Nat.le_refl _)
  exact g2.least (r.back K)
 cases e:get cs s' with
 | none =>
  cases e':get cs' s with
  | none=>rfl
  | some d=>obtain⟨d',e2,_⟩:=one h' h e';rw[e] at e2;cases e2
 | some d =>
  obtain⟨d',e2,n1⟩:=one h h' e
  obtain⟨d2,e3,n2⟩:=one h' h e2
  rw[e] at e3;cases e3
  rw[e2]
  congr 1
  unfold lt2 at n1 n2
  exact Prod.ext (by omega) (by omega)
/-- the way by the one tree is the way by the other, turned about -/
theorem Best.turned (K:Keys B) {s':Nat} {cs':List (Option (Int × Int))} {as':List (Option Nat)} (h:Best B n s cs as) (h':Best B n s' cs' as') {ws ws':List Nat} (t:TPw as s ws s') (t':TPw as' s' ws' s) {c:Int × Int} (e:get cs s'=some c):ws'=ws.reverse:=by
 have tp_unique:∀ {as:List (Option Nat)} {s v:Nat} {ws ws':List Nat},get as s=none->TPw as s ws v->TPw as s ws' v->ws'=ws:=by
  intro as s v ws ws' hr t
  induction t generalizing ws' with
  | root =>
   intro t'
   cases t' with
   | root=>rfl
   | step e _=>rw[hr] at e;cases e
  | step e t ih =>
   intro t'
   cases t' with
   | root=>rw[hr] at e;cases e
   | step e' t'=>rw[e] at e';cases e';rw[ih t']
 obtain⟨w1,S1,r1,p1,_⟩:=h.route K _ s' c e (Nat.le_refl _)
 have e':get cs' s=some c:=by rw[← h.both K h'];exact e
 obtain⟨w2,S2,r2,p2,_⟩:=h'.route K _ s c e' (Nat.le_refl _)
 rw[tp_unique h.root p1 t,tp_unique h'.root p2 t']
 have:=(r2.unique K (r1.back K)).1
 exact this.symm
/-- the tree is told by its weights -/
theorem Best.tree (K:Keys B) (h:Best B n s cs as) {u v:Nat} {l:Int} {k:Nat} {cu:Int × Int} (m:(u,v,l,k) ∈ B) (eu:get cs u=some cu) (ev:get cs v=some (cu.1 + l,cu.2 + 2 ^ k)):get as v=some u:=by
 have l1:=K.pos _ _ _ _ m
 have c0:=h.nn _ _ eu
 have vs:v≠s:=fun z=>by
  rw[z,h.start] at ev
  have:(0:Int)=cu.1 + l:=congrArg (fun o:Option (Int × Int)=>(o.getD (0,0)).1) ev
  omega
 cases ea:get as v with
 | none=>exact absurd ea (h.has v _ ev vs)
 | some u0 =>
  obtain⟨l0,k0,c0',m0,e0,ev0⟩:=h.arc v u0 ea
  have mk:∀ {u:Nat} {l:Int} {k:Nat} {cu:Int × Int},(u,v,l,k) ∈ B->get cs u=some cu->get cs v=some (cu.1 + l,cu.2 + 2 ^ k)->∃ r S,Rt B s (r++[u]++[v]) S v (cu.1 + l) (cu.2 + 2 ^ k):=fun {u l k cu} m eu ev=>by
   obtain⟨ws,S,r,tp,all⟩:=h.route K _ u cu eu (Nat.le_refl _)
   have nv:v ∉ ws:=fun z=>by
    obtain⟨cw,e1,h1⟩:=all v z
    rw[ev] at e1;cases e1
    have:=K.pos _ _ _ _ m
    simp only at h1;omega
   obtain⟨q,rfl⟩:∃ q,ws=q++[u]:=by
    cases tp with
    | root=>exact⟨[],rfl⟩
    | step _ _=>exact⟨_,rfl⟩
   exact⟨q,_,.snoc r m nv⟩
  obtain⟨r1,S1,t1⟩:=mk m eu ev
  obtain⟨r2,S2,t2⟩:=mk m0 e0 ev0
  have e2:c0'.2 + 2 ^ k0=cu.2 + 2 ^ k:=congrArg (fun o:Option (Int × Int)=>(o.getD (0,0)).2) (ev0.symm.trans ev)
  rw[e2] at t2
  have:=(t1.unique K t2).1
  have z1:(r2++[u0])=(r1++[u]):=List.append_cancel_right this
  have z2:=congrArg List.getLast? z1
  simp at z2
  rw[z2]
end
/-- lengths and powers in one number -/
def comb (c:Int × Int):Int:=c.1 * 2 ^ 61 + c.2
def arcsC (B:List Arc):List (Nat × Nat × Int):=B.map fun b=>(b.1,b.2.1,b.2.2.1 * 2 ^ 61 + 2 ^ b.2.2.2)
theorem arcsC_mem {B:List Arc} {u v:Nat} {L:Int}:(u,v,L) ∈ arcsC B↔∃ l k,(u,v,l,k) ∈ B∧L=l * 2 ^ 61 + 2 ^ k:=by
 unfold arcsC
 rw[List.mem_map]
 constructor
 ·rintro ⟨⟨a,b,l,k⟩,h,e⟩
  cases e
  exact⟨l,k,h,rfl⟩
 ·rintro ⟨l,k,h,rfl⟩
  exact⟨(u,v,l,k),h,rfl⟩
section
variable {B:List Arc} {n s:Nat} {cs:List (Option (Int × Int))} {as:List (Option Nat)}
theorem two_pos (k:Nat):(1:Int)≤2 ^ k:=Int.pow_pos (by decide)
theorem arcsC_sym (K:Keys B):Sym (arcsC B):=fun u v L h=>by
 obtain⟨l,k,m,rfl⟩:=arcsC_mem.mp h
 exact arcsC_mem.mpr ⟨l,k,K.sym _ _ _ _ m,rfl⟩
theorem comb_inj {c d:Int × Int} (hc:0≤c.2∧c.2 < 2 ^ 61) (hd:0≤d.2∧d.2 < 2 ^ 61) (e:comb c=comb d):c=d:=by
 unfold comb at e
 exact Prod.ext (by omega) (by omega)
end
end Far
namespace Far
variable {B:List Arc} {A:List (Nat × Nat × Int)} {n s:Nat}
structure Run (B:List Arc) (s:Nat) (cs:List (Option (Int × Int))) (as:List (Option Nat)):Prop where
 len:as.length=cs.length
 start:get cs s=some (0,0)
 root:get as s=none
 has:∀ v c,get cs v=some c->v≠s->get as v≠none
 arc:∀ v u,get as v=some u->∃ l k cu cv,(u,v,l,k) ∈ B∧get cs u=some cu∧get cs v=some cv∧¬ lt2 cv (cu.1 + l,cu.2 + 2 ^ k)
theorem Run.step {u v:Nat} {l:Int} {k:Nat} {cs:List (Option (Int × Int))} {as:List (Option Nat)} {c:Int × Int} (P:Pos A) (g:Good A n s cs) (a:Run B s cs as) (m:(u,v,l) ∈ A) (mB:(u,v,l,k) ∈ B) (hv:v < n) (hu:get cs u=some c)
  (h:get cs v=none∨∃ c',get cs v=some c'∧lt2 (c.1 + l,c.2 + 2 ^ k) c'):Run B s (cs.set v (some (c.1 + l,c.2 + 2 ^ k))) (as.set v (some u)):=by
 have hc:v < cs.length:=by rw[g.len];exact hv
 have ha:v < as.length:=by rw[a.len];exact hc
 have l1:=P _ _ _ m
 have c0:=(g.walk _ _ hu).nonneg P
 have vs:v≠s:=fun z=>by
  rw[z] at h
  rcases h with h | ⟨c',h,hl⟩
  ·rw[a.start] at h;cases h
  ·rw[a.start] at h;cases h
   unfold lt2 at hl;simp only at hl;omega
 have uv:u≠v:=fun z=>by
  rcases h with h | ⟨c',h,hl⟩
  ·rw[← z,hu] at h;cases h
  ·rw[← z,hu] at h;cases h
   unfold lt2 at hl;simp only at hl;omega
 refine⟨by rw[List.length_set,List.length_set];exact a.len,by rw[get_set hc,if_neg (Ne.symm vs)];exact a.start,?_,fun x d e hx=>?_,fun x y e=>?_⟩
 ·rw[get_set ha,if_neg (Ne.symm vs)];exact a.root
 ·rw[get_set ha]
  split
  ·exact fun z=>by cases z
  ·rename_i xv
   rw[get_set hc,if_neg xv] at e
   exact a.has x d e hx
 ·rw[get_set ha] at e
  split at e
  ·rename_i z;subst z;cases e
   refine⟨l,k,c,_,mB,by rw[get_set hc,if_neg uv];exact hu,by rw[get_set hc,if_pos rfl],fun z=>?_⟩
   unfold lt2 at z;omega
  ·rename_i xv
   obtain⟨l',k',cu,cv,m',e1,e2,hle⟩:=a.arc x y e
   by_cases yv:y=v
   ·subst yv
    refine⟨l',k',_,cv,m',by rw[get_set hc,if_pos rfl],by rw[get_set hc,if_neg xv];exact e2,fun z=>?_⟩
    rcases h with h | ⟨c',h,hl⟩
    ·rw[h] at e1;cases e1
    ·rw[h] at e1;cases e1
     unfold lt2 at hl hle z
     simp only at hl hle z
     omega
   ·exact⟨l',k',cu,cv,m',by rw[get_set hc,if_neg yv];exact e1,by rw[get_set hc,if_neg xv];exact e2,hle⟩
theorem Run.first (hs:s < n):Run B s ((List.replicate n none).set s (some (0,0))) (List.replicate n none):=by
 have hl:s < (List.replicate n (none:Option (Int × Int))).length:=by rw[List.length_replicate];exact hs
 refine⟨by rw[List.length_set,List.length_replicate,List.length_replicate],by rw[get_set hl,if_pos rfl],get_rep _ _,fun v c e hv=>?_,fun v u e=>?_⟩
 ·rw[get_set hl,if_neg hv,get_rep] at e;cases e
 ·rw[get_rep] at e;cases e
def PS2 (c0:List (Option (Int × Int))) (R:Arc->Prop) (cs:List (Option (Int × Int))) (ag:Bool):Prop :=
 (ag=false∧cs=c0∧∀ u v l k c,R (u,v,l,k)->get c0 u=some c->∃ c',get c0 v=some c'∧¬ lt2 (c.1 + l,c.2 + 2 ^ k) c')∨(ag=true∧mu cs < mu c0)
def plusA (R:Arc->Prop) (a:Arc):Arc->Prop:=fun b=>R b∨b=a
section
variable {c0 cs:List (Option (Int × Int))} {R R':Arc->Prop} {ag:Bool} {u v k:Nat} {l:Int}
theorem PS2.less (h:PS2 c0 R cs ag) (z:∀ a,R' a->R a):PS2 c0 R' cs ag:=h.elim (fun ⟨a,b,c⟩=>.inl ⟨a,b,fun u v l k c' y=>c u v l k c' (z _ y)⟩) .inr
theorem PS2.no (h:PS2 c0 R cs ag) (hu:get cs u=none):PS2 c0 (plusA R (u,v,l,k)) cs ag:=by
 rcases h with ⟨a,b,c⟩ | h
 ·refine .inl ⟨a,b,fun u' v' l' k' c' z e=>?_⟩
  rcases z with z | z
  ·exact c _ _ _ _ _ z e
  ·cases z;rw[← b,hu] at e;cases e
 ·exact .inr h
theorem PS2.old (h:PS2 c0 R cs ag) {c d:Int × Int} (hu:get cs u=some c) (hv:get cs v=some d) (hn:¬ lt2 (c.1 + l,c.2 + 2 ^ k) d):PS2 c0 (plusA R (u,v,l,k)) cs ag:=by
 rcases h with ⟨a,b,z⟩ | h
 ·refine .inl ⟨a,b,fun u' v' l' k' c' y e=>?_⟩
  rcases y with y | y
  ·exact z _ _ _ _ _ y e
  ·cases y
   subst b
   rw[hu] at e;cases e
   exact⟨d,hv,hn⟩
 ·exact .inr h
theorem PS2.put (h:PS2 c0 R cs ag) {cs':List (Option (Int × Int))} (hm:mu cs' < mu cs):PS2 c0 (plusA R (u,v,l,k)) cs' true:=by
 rcases h with ⟨a,b,c⟩ | h
 ·exact .inr ⟨rfl,by rw[← b];exact hm⟩
 ·exact .inr ⟨rfl,Nat.lt_trans hm h.2⟩
end
end Far
namespace Far
def arcsF (B:List Arc):List (Nat × Nat × Int):=B.map fun b=>(b.1,b.2.1,b.2.2.1)
theorem arcsF_mem {B:List Arc} {u v:Nat} {l:Int}:(u,v,l) ∈ arcsF B↔∃ k,(u,v,l,k) ∈ B:=by
 unfold arcsF
 rw[List.mem_map]
 constructor
 ·rintro ⟨⟨a,b,l',k⟩,h,e⟩
  cases e
  exact⟨k,h⟩
 ·rintro ⟨k,h⟩
  exact⟨(u,v,l,k),h,rfl⟩
section
variable {B:List Arc} {n s:Nat} {cs:List (Option (Int × Int))} {as:List (Option Nat)} {a b:Nat} {ws S:List Nat} {x y:Int}
theorem tp_unique {v:Nat} {ws ws':List Nat} (hr:get as s=none) (t:TPw as s ws v):TPw as s ws' v->ws'=ws:=by
 induction t generalizing ws' with
 | root =>
  intro t'
  cases t' with
  | root=>rfl
  | step e _=>rw[hr] at e;cases e
 | step e t ih =>
  intro t'
  cases t' with
  | root=>rw[hr] at e;cases e
  | step e' t'=>rw[e] at e';cases e';rw[ih t']
theorem Best.rt (K:Keys B) (h:Best B n s cs as) {v:Nat} {c:Int × Int} (t:TPw as s ws v) (e:get cs v=some c):∃ S,Rt B s ws S v c.1 c.2:=by
 obtain⟨w1,S1,r1,p1,_⟩:=h.route K _ v c e (Nat.le_refl _)
 rw[tp_unique h.root p1 t]
 exact⟨S1,r1⟩
theorem Rt.walk (r:Rt B a ws S b x y):Walk (arcsF B) a b x:=by
 induction r with
 | one=>exact .nil
 | snoc r m nv ih=>exact .snoc ih (arcsF_mem.mpr ⟨_,m⟩)
theorem Rt.tr (r:Rt B a ws S b x y):Tr (arcsF B) a ws b x:=by
 induction r with
 | one=>exact .one
 | snoc r m nv ih=>exact .snoc ih (arcsF_mem.mpr ⟨_,m⟩)
theorem Rt.len (r:Rt B a ws S b x y):ws.length=S.length + 1:=by
 induction r with
 | one=>rfl
 | snoc r m nv ih=>rw[List.length_append,List.length_append,ih];rfl
theorem Rt.unlike (r:Rt B a ws S b x y):ws.Nodup:=by
 induction r with
 | one=>simp
 | snoc r m nv ih =>
  refine List.nodup_append.mpr ⟨ih,by simp,fun p hp q hq z=>?_⟩
  rw[List.mem_singleton.mp hq] at z
  exact nv (z ▸ hp)
theorem Rt.foot (r:Rt B a ws S b x y):∃ q,ws=q++[b]:=by
 cases r with
 | one=>exact⟨[],rfl⟩
 | snoc r m nv=>exact⟨_,rfl⟩
theorem Rt.step (r:Rt B a ws S b x y):∀ {i k:Nat},S[i]?=some k->∃ u v l,ws[i]?=some u∧ws[i + 1]?=some v∧(u,v,l,k) ∈ B:=by
 induction r with
 | one=>intro i k h;cases h
 | @snoc ws S u v x y l k r m nv ih =>
  intro i j h
  have len:=r.len
  by_cases c:i < S.length
  ·rw[List.getElem?_append_left c] at h
   obtain⟨p,q,l',h1,h2,h3⟩:=ih h
   exact⟨p,q,l',by rw[List.getElem?_append_left (by omega)];exact h1,by rw[List.getElem?_append_left (by omega)];exact h2,h3⟩
  ·have hi:i < (S++[k]).length:=(List.getElem?_eq_some_iff.mp h).1
   rw[List.length_append,List.length_singleton] at hi
   have e:i=S.length:=by omega
   subst e
   rw[List.getElem?_append_right (Nat.le_refl _),Nat.sub_self] at h
   cases h
   obtain⟨q,rfl⟩:=r.foot
   rw[List.length_append,List.length_singleton] at len
   refine⟨u,v,l,?_,?_,m⟩
   ·rw[List.getElem?_append_left (by rw[List.length_append,List.length_singleton];omega),List.getElem?_append_right (by omega)]
    rw[show S.length - q.length=0 by omega];rfl
   ·rw[List.getElem?_append_right (by rw[List.length_append,List.length_singleton];omega),List.length_append,List.length_singleton]
    rw[show S.length + 1 - (q.length + 1)=0 by omega];rfl
theorem Rt.places (r:Rt B a ws S b x y) {N:Nat} (ha:a < N) (inn:∀ u v l k,(u,v,l,k) ∈ B->u < N∧v < N):∀ p ∈ ws,p < N:=by
 induction r with
 | one=>intro p hp;rw[List.mem_singleton.mp hp];exact ha
 | snoc r m nv ih =>
  intro p hp
  rcases List.mem_append.mp hp with hp | hp
  ·exact ih p hp
  ·rw[List.mem_singleton.mp hp];exact (inn _ _ _ _ m).2
/-- the least of the routes from a to b -/
structure Uni (B:List Arc) (a b:Nat) (ws S:List Nat) (x y:Int):Prop where
 rt:Rt B a ws S b x y
 least:∀ ws' S' x' y',Rt B a ws' S' b x' y'->¬ lt2 (x',y') (x,y)
theorem Uni.unique (K:Keys B) {ws' S':List Nat} {x' y':Int} (h:Uni B a b ws S x y) (h':Uni B a b ws' S' x' y'):ws'=ws∧x'=x:=by
 have n1:=h.least _ _ _ _ h'.rt
 have n2:=h'.least _ _ _ _ h.rt
 have e:y'=y:=by unfold lt2 at n1 n2;simp only at n1 n2;omega
 have r':=h'.rt
 rw[e] at r'
 exact h.rt.unique K r'
end
end Far
namespace L3
open PySem PySem.Spec PyProof.Rows L2
def arcs2B (t:Tie) (k:Nat):List Far.Arc:=[(t.1.toNat,t.2.1.toNat,t.2.2,k),(t.2.1.toNat,t.1.toNat,t.2.2,k)]
def arcsB (ts:List Tie) (ks:List Nat):List Far.Arc:=ks.flatMap fun k=>arcs2B (tieAt ts k) k
theorem arcsB_mem {ts:List Tie} {ks:List Nat} {a:Far.Arc}:a ∈ arcsB ts ks↔∃ k,k ∈ ks∧a ∈ arcs2B (tieAt ts k) k:=by
 unfold arcsB;rw[List.mem_flatMap]
theorem arcs2B_mem {t:Tie} {k:Nat} {a:Far.Arc}:a ∈ arcs2B t k↔a=(t.1.toNat,t.2.1.toNat,t.2.2,k)∨a=(t.2.1.toNat,t.1.toNat,t.2.2,k):=by
 unfold arcs2B;simp
theorem arcsB_keys {n:Int} {ts:List Tie} {ks:List Nat} (ok:WebOk n ts) (ko:KeepOk ts.length ks):Far.Keys (arcsB ts ks):=by
 have at_:∀ {u v l k},(u,v,l,k) ∈ arcsB ts ks->k < ts.length∧((u=(tieAt ts k).1.toNat∧v=(tieAt ts k).2.1.toNat)∨(u=(tieAt ts k).2.1.toNat∧v=(tieAt ts k).1.toNat))∧l=(tieAt ts k).2.2∧k ∈ ks:=fun {u v l k} h=>by
  obtain⟨j,hj,m⟩:=arcsB_mem.mp h
  rcases arcs2B_mem.mp m with e | e <;> cases e
  ·exact⟨ko.2 _ hj,.inl ⟨rfl,rfl⟩,rfl,hj⟩
  ·exact⟨ko.2 _ hj,.inr ⟨rfl,rfl⟩,rfl,hj⟩
 refine⟨fun u v l k h=>?_,fun u v l u' v' l' k h h'=>?_,fun u v l k h=>?_,fun u v l k h=>?_,fun u v l k h=>?_⟩
 ·obtain⟨_,e,rfl,hk⟩:=at_ h
  refine arcsB_mem.mpr ⟨k,hk,arcs2B_mem.mpr ?_⟩
  rcases e with ⟨rfl,rfl⟩ | ⟨rfl,rfl⟩
  ·exact .inr rfl
  ·exact .inl rfl
 ·obtain⟨_,e,rfl,_⟩:=at_ h
  obtain⟨_,e',rfl,_⟩:=at_ h'
  refine⟨rfl,?_⟩
  rcases e with ⟨rfl,rfl⟩ | ⟨rfl,rfl⟩ <;> rcases e' with ⟨rfl,rfl⟩ | ⟨rfl,rfl⟩
  ·exact .inl ⟨rfl,rfl⟩
  ·exact .inr ⟨rfl,rfl⟩
  ·exact .inr ⟨rfl,rfl⟩
  ·exact .inl ⟨rfl,rfl⟩
 ·obtain⟨hk,e,_,_⟩:=at_ h
  have:=ok.tie _ (tieAt_in hk).2
  rcases e with ⟨rfl,rfl⟩ | ⟨rfl,rfl⟩ <;> omega
 ·obtain⟨hk,_,e,_⟩:=at_ h
  have:=ok.tie _ (tieAt_in hk).2
  omega
 ·obtain⟨hk,_⟩:=at_ h
  have:=ok.few
  omega
end L3
namespace HT
open PySem PyProof.Rows
section
variable {prog:Program} {w:World} {A:Around} {E:Value->Shared->Prop} {s:Shared}
end
end HT
namespace L3
open PySem PySem.Spec PyProof.Rows L2
section
variable {X:Cx}
end
end L3
namespace L3
open PySem PySem.Spec PyProof.Rows L2
end L3
namespace L3
open PySem PySem.Spec PyProof.Rows L2
end L3
namespace L3
open PySem PySem.Spec PyProof.Rows L2
theorem arcsF_eq (ts:List Tie) (ks:List Nat):Far.arcsF (arcsB ts ks)=arcs ts ks:=by
 unfold arcs Far.arcsF arcsB
 rw[List.map_flatMap]
 rfl
theorem arcs_symm {n:Int} {ts:List Tie} {ks:List Nat} (ok:WebOk n ts) (ko:KeepOk ts.length ks):Far.Sym (arcs ts ks):=fun u v l h=>by
 rw[← arcsF_eq] at h ⊢
 obtain⟨k,m⟩:=Far.arcsF_mem.mp h
 exact Far.arcsF_mem.mpr ⟨k,(arcsB_keys ok ko).sym _ _ _ _ m⟩
section
variable {own:List Str} {js:List Nat} {g:TG} {te:TE} {σ:L2.St} {Q:VK} {H1:Hp}
end
end L3
namespace L3
open PySem PySem.Spec PyProof.Rows L2
end L3
namespace L3
open PySem PySem.Spec PyProof.Rows L2
end L3
namespace HT
open PySem PyProof.Rows
section
variable {prog:Program} {w:World} {A:Around} {R:Result->Shared->Prop} {I:Addr} {fp wr:List Addr} {G:Array GenState->Array GenState->Prop} {St:Nat->Shared->Prop} {its:List Value} {ns:List Int}
end
section
variable {prog:Program} {w:World} {A:Around} {E:Value->Shared->Prop} {s:Shared}
end
end HT
namespace L3
open PySem PySem.Spec PyProof.Rows L2
end L3
namespace L3
open PySem PySem.Spec PyProof.Rows L2
theorem IsAll.at_ {K:PySem.W.Frag} {H:Hp}:∀ {ds:List PyData} {vs:List V} {i:Nat} {d:PyData},IsAll K H ds vs->ds[i]?=some d->∃ v,vs[i]?=some v∧Is K H d v
 | [],vs,i,d,_,h=>by cases h
 | d0::ds,vs,0,d,⟨v,r,e,h1,_⟩,h=>by
  cases h
  exact⟨v,by rw[e];rfl,h1⟩
 | d0::ds,vs,i + 1,d,⟨v,r,e,_,h2⟩,h=>by
  obtain⟨u,e1,e2⟩:=IsAll.at_ (i:=i) h2 h
  exact⟨u,by rw[e];exact e1,e2⟩
section
variable {own:List Str} {js:List Nat} {g:TG} {tt:TT} {te:TE} {σ:L2.St} {Q:VK} {H1:Hp}
end
end L3
namespace L3
open PySem PySem.Spec PyProof.Rows L2
def lvl (ls:List (List Nat)) (i:Nat):List Nat:=ls.getD i []
structure LevOk (n:Nat) (ls:List (List Nat)):Prop where
 one:1≤ls.length
 six:ls.length≤6
 first:lvl ls 0=List.range n
 rise:∀ i,(lvl ls i).Pairwise (· < ·)
 inn:∀ i,∀ p ∈ lvl ls i,p < n
 down:∀ i,∀ p ∈ lvl ls (i + 1),p ∈ lvl ls i
theorem lvl_out {ls:List (List Nat)} {i:Nat} (h:ls.length≤i):lvl ls i=[]:=by unfold lvl;rw[List.getD_eq_getElem?_getD,List.getElem?_eq_none h];rfl
theorem LevOk.len {n:Nat} {ls:List (List Nat)} (h:LevOk n ls) (i:Nat):(lvl ls i).length≤n:=KeepOk.len (m:=n) (ks:=lvl ls i) ⟨h.rise i,h.inn i⟩
def IsTop (ls:List (List Nat)) (w b:Nat):Prop:=b < ls.length∧w ∈ lvl ls b∧∀ i,i < ls.length->w ∈ lvl ls i->i≤b
theorem IsTop.unique {ls:List (List Nat)} {w b b':Nat} (h:IsTop ls w b) (h':IsTop ls w b'):b'=b:=by
 have:=h.2.2 b' h'.1 h'.2.1
 have:=h'.2.2 b h.1 h.2.1
 omega
def Bun (ls:List (List Nat)) (D:List (Option Int)) (w:Nat):Prop:=∃ x,Far.get D w=some x∧∀ b p y,IsTop ls w b->p ∈ lvl ls (b + 1)->Far.get D p=some y->x < y
noncomputable def bunB (ls:List (List Nat)) (D:List (Option Int)) (w:Nat):Bool:=@decide (Bun ls D w) (Classical.propDecidable _)
theorem bunB_iff {ls:List (List Nat)} {D:List (Option Int)} {w:Nat}:bunB ls D w=true↔Bun ls D w:=by unfold bunB;exact @decide_eq_true_iff _ (Classical.propDecidable _)
/-- how far all places are, in the web -/
def FarsOf (ts:List Tie) (n s:Nat) (D:List (Option Int)):Prop:=D.length=n∧∀ u,u < n->Far.Dst (arcs ts (List.range ts.length)) s u (Far.get D u)
theorem FarsOf.unique {ts:List Tie} {n s:Nat} {D D':List (Option Int)} (h:FarsOf ts n s D) (h':FarsOf ts n s D'):D'=D:=List.ext_getElem? fun i=>by
 by_cases hi:i < n
 ·have z:=(h'.2 i hi).unique (h.2 i hi)
  have l1:=h.1
  have l2:=h'.1
  unfold Far.get at z
  rw[List.getD_eq_getElem?_getD,List.getElem?_eq_getElem (by omega),List.getD_eq_getElem?_getD,List.getElem?_eq_getElem (by omega)] at z
  rw[List.getElem?_eq_getElem (by omega),List.getElem?_eq_getElem (by omega)]
  exact congrArg some z
 ·have l1:=h.1
  have l2:=h'.1
  rw[List.getElem?_eq_none (by omega),List.getElem?_eq_none (by omega)]
def FarsT (H:Hp) (p lf:Addr) (n:Nat) (ts:List Tie):Prop:=∃ ys,H lf=some (.lst ys)∧lf≠p∧ys.length=n∧∀ i v,ys[i]?=some v->∃ l D,v=.ref l∧l≠p∧H l=some (.lst (D.map ov))∧FarsOf ts n i D
theorem FarsT.same {H H':Hp} {p lf:Addr} {n:Nat} {ts:List Tie} (S:Same H H') (h:FarsT H p lf n ts):FarsT H' p lf n ts:=by
 obtain⟨ys,e,ne,ly,hy⟩:=h
 exact⟨ys,S _ _ e,ne,ly,fun i v ev=>let ⟨l,D,e1,e2,e3,e4⟩:=hy i v ev;⟨l,D,e1,e2,S _ _ e3,e4⟩⟩
theorem FarsT.but {H H':Hp} {p lf:Addr} {n:Nat} {ts:List Tie} (S:But p H H') (h:FarsT H p lf n ts):FarsT H' p lf n ts:=by
 obtain⟨ys,e,ne,ly,hy⟩:=h
 exact⟨ys,S _ _ ne e,ne,ly,fun i v ev=>let ⟨l,D,e1,e2,e3,e4⟩:=hy i v ev;⟨l,D,e1,e2,S _ _ e2 e3,e4⟩⟩
/-- a place is in its own bunch -/
theorem bun_self {n:Int} {ts:List Tie} {ls:List (List Nat)} {D:List (Option Int)} {s:Nat} (ok:WebOk n ts) (hs:s < n.toNat) (F:FarsOf ts n.toNat s D) (lo:LevOk n.toNat ls):bunB ls D s=true∧Far.get D s=some 0:=by
 have P:=arcs_pos ok (⟨List.pairwise_lt_range,fun k hk=>List.mem_range.mp hk⟩:KeepOk ts.length (List.range ts.length))
 have e0:Far.get D s=some 0:=by
  obtain⟨y,e,le⟩:=(F.2 s hs).2 0 .nil
  have:=((F.2 s hs).1 y e).nonneg P
  rw[e,show y=0 by omega]
 refine⟨bunB_iff.mpr ⟨0,e0,fun b p y t hp ep=>?_⟩,e0⟩
 have hpn:=lo.inn _ p hp
 have w:=(F.2 p hpn).1 y ep
 cases hw:w with
 | nil =>
  have bl:b + 1 < ls.length:=by
   rcases Nat.lt_or_ge (b + 1) ls.length with z | z
   ·exact z
   ·rw[lvl_out z] at hp;cases hp
  have:=t.2.2 (b + 1) bl hp
  omega
 | @snoc u _ l x w' m =>
  have:=P _ _ _ m
  have:=w'.nonneg P
  omega
end L3
namespace HT
open PySem PyProof.Rows
section
variable {prog:Program} {w:World} {A:Around} {R:Result->Shared->Prop} {I:Addr} {fp wr:List Addr} {G:Array GenState->Array GenState->Prop} {St:Nat->Shared->Prop} {its:List Value} {ks:List (List Int)}
end
section
variable {prog:Program} {w:World} {A:Around} {E:Value->Shared->Prop} {s:Shared}
end
end HT
namespace L3
open PySem PySem.Spec PyProof.Rows L2
end L3
namespace L3
open PySem PySem.Spec PyProof.Rows L2
noncomputable def topN (ls:List (List Nat)) (w:Nat):Nat:=@dite _ (∃ b,IsTop ls w b) (Classical.propDecidable _) (fun h=>Classical.choose h) (fun _=>0)
theorem topN_eq {ls:List (List Nat)} {w b:Nat} (h:IsTop ls w b):topN ls w=b:=by
 unfold topN
 rw[dif_pos ⟨b,h⟩]
 exact h.unique (Classical.choose_spec (⟨b,h⟩:∃ b,IsTop ls w b))
theorem top_exists {n:Nat} {ls:List (List Nat)} (lo:LevOk n ls) {w:Nat} (hw:w < n):IsTop ls w (topN ls w):=by
 have ex:∃ b,IsTop ls w b:=by
  have go:∀ m,m < ls.length->∃ b,b≤m∧w ∈ lvl ls b∧∀ i,i≤m->w ∈ lvl ls i->i≤b:=fun m=>by
   induction m with
   | zero=>intro _;exact⟨0,Nat.le_refl _,by rw[lo.first];exact List.mem_range.mpr hw,fun i hi _=>hi⟩
   | succ m ih =>
    intro hm
    obtain⟨b,h1,h2,h3⟩:=ih (by omega)
    by_cases c:w ∈ lvl ls (m + 1)
    ·exact⟨m + 1,Nat.le_refl _,c,fun i hi _=>hi⟩
    ·refine⟨b,by omega,h2,fun i hi hm=>?_⟩
     rcases Nat.lt_or_ge i (m + 1) with z | z
     ·exact h3 i (by omega) hm
     ·rw[show i=m + 1 by omega] at hm;exact absurd hm c
  have one:=lo.one
  obtain⟨b,h1,h2,h3⟩:=go (ls.length - 1) (by omega)
  exact⟨b,by omega,h2,fun i hi hm=>h3 i (by omega) hm⟩
 obtain⟨b,hb⟩:=ex
 rw[topN_eq hb];exact hb
/-- the nearest place of a level, of several one of the greatest top, of these the least -/
structure IsPiv (ls:List (List Nat)) (m:Nat) (D:List (Option Int)) (o:Option Nat):Prop where
 no:o=none->∀ q ∈ lvl ls m,Far.get D q=none
 yes:∀ p,o=some p->p ∈ lvl ls m∧∃ x,Far.get D p=some x∧∀ q ∈ lvl ls m,∀ y,Far.get D q=some y->x≤y∧(y=x->topN ls q≤topN ls p∧(topN ls q=topN ls p->p≤q))
theorem IsPiv.unique {ls:List (List Nat)} {m:Nat} {D:List (Option Int)} {o o':Option Nat} (h:IsPiv ls m D o) (h':IsPiv ls m D o'):o'=o:=by
 cases o with
 | none =>
  cases o' with
  | none=>rfl
  | some p =>
   obtain⟨hp,x,ex,_⟩:=h'.yes p rfl
   rw[h.no rfl p hp] at ex;cases ex
 | some p =>
  obtain⟨hp,x,ex,a⟩:=h.yes p rfl
  cases o' with
  | none=>rw[h'.no rfl p hp] at ex;cases ex
  | some p' =>
   obtain⟨hp',x',ex',a'⟩:=h'.yes p' rfl
   have h1:=a p' hp' x' ex'
   have h2:=a' p hp x ex
   have e:x'=x:=by omega
   obtain⟨t1,l1⟩:=h1.2 e
   obtain⟨t2,l2⟩:=h2.2 e.symm
   have e2:topN ls p'=topN ls p:=by omega
   have:=l1 e2
   have:=l2 e2.symm
   rw[show p'=p by omega]
theorem lev_down {n:Nat} {ls:List (List Nat)} (lo:LevOk n ls):∀ {j m:Nat},m≤j->∀ p ∈ lvl ls j,p ∈ lvl ls m
 | 0,m,h,p,hp=>by rw[show m=0 by omega];exact hp
 | j + 1,m,h,p,hp=>by
  rcases Nat.lt_or_ge m (j + 1) with z | z
  ·exact lev_down lo (j:=j) (by omega) p (lo.down j p hp)
  ·rw[show m=j + 1 by omega];exact hp
/-- a pivot is in the bunch -/
theorem piv_bun {n:Nat} {ls:List (List Nat)} {m p:Nat} {D:List (Option Int)} (lo:LevOk n ls) (hm:m < ls.length) (h:IsPiv ls m D (some p)):bunB ls D p=true:=by
 obtain⟨hp,x,ex,a⟩:=h.yes p rfl
 have tp:=top_exists lo (lo.inn m p hp)
 refine bunB_iff.mpr ⟨x,ex,fun b q y t hq ey=>?_⟩
 have eb:=topN_eq t
 have mb:m≤b:=t.2.2 m hm hp
 have hqm:=lev_down lo (show m≤b + 1 by omega) q hq
 obtain⟨h1,h2⟩:=a q hqm y ey
 have tq:=top_exists lo (lo.inn _ q hq)
 have bl:b + 1 < ls.length:=by
  rcases Nat.lt_or_ge (b + 1) ls.length with z | z
  ·exact z
  ·rw[lvl_out z] at hq;cases hq
 have:=tq.2.2 (b + 1) bl hq
 by_cases c:y=x
 ·have:=(h2 c).1;omega
 ·omega
def tupI (k:List Int):PyData:=.tuple (k.map .int)
section
variable {own:List Str} {js:List Nat} {g:TG} {tt:TT} {te:TE} {σ:L2.St} {Q:VK} {H1:Hp}
end
end L3
namespace L3
open PySem PySem.Spec PyProof.Rows L2
noncomputable def pivN (ls:List (List Nat)) (m:Nat) (D:List (Option Int)):Nat:=@dite _ (∃ p,IsPiv ls m D (some p)) (Classical.propDecidable _) (fun h=>Classical.choose h) (fun _=>0)
theorem pivN_eq {ls:List (List Nat)} {m p:Nat} {D:List (Option Int)} (h:IsPiv ls m D (some p)):pivN ls m D=p:=by
 unfold pivN
 rw[dif_pos ⟨p,h⟩]
 exact Option.some.inj (h.unique (Classical.choose_spec (⟨p,h⟩:∃ p,IsPiv ls m D (some p))))
noncomputable def clN (ls:List (List Nat)):Nat->Nat->Nat->Nat->List (Option Int)->List (Option Int)->Int->List (List Int)
 | 0,w,a,b,_,_,x=>[[(w:Int),(a:Int),(b:Int),x]]
 | f + 1,w,a,b,Da,Db,x=>[(w:Int),(a:Int),(b:Int),x]::(if bunB ls Db w=true then [] else clN ls f (pivN ls (topN ls w + 1) Db) b a Db Da ((Far.get Db (pivN ls (topN ls w + 1) Db)).getD 0))
theorem clN_done {ls:List (List Nat)} {f w a b:Nat} {Da Db:List (Option Int)} {x:Int} (h:bunB ls Db w=true):clN ls (f + 1) w a b Da Db x=[[(w:Int),(a:Int),(b:Int),x]]:=by
 rw[clN,if_pos h]
theorem clN_more {ls:List (List Nat)} {f w a b p:Nat} {Da Db:List (Option Int)} {x x':Int} (h:bunB ls Db w=false) (pv:IsPiv ls (topN ls w + 1) Db (some p)) (e:Far.get Db p=some x'):clN ls (f + 1) w a b Da Db x=[(w:Int),(a:Int),(b:Int),x]::clN ls f p b a Db Da x':=by
 rw[clN,if_neg (by rw[h];decide),pivN_eq pv,e];rfl
structure Cs (ts:List Tie) (n:Nat) (ls:List (List Nat)) (d:Int) (j w a b:Nat) (Da Db:List (Option Int)) (x:Int):Prop where
 fa:FarsOf ts n a Da
 fb:FarsOf ts n b Db
 wn:w < n
 an:a < n
 bn:b < n
 xa:Far.get Da w=some x
 lim:x≤j * d
 ab:Far.get Da b=some d
 ba:Far.get Db a=some d
 yb:∃ y,Far.get Db w=some y
 tp:j≤topN ls w
 bu:bunB ls Da w=true
section
variable {n:Int} {ts:List Tie} {ls:List (List Nat)} {d x:Int} {j w a b:Nat} {Da Db:List (Option Int)}
theorem allOk (ts:List Tie):KeepOk ts.length (List.range ts.length):=⟨List.pairwise_lt_range,fun k hk=>List.mem_range.mp hk⟩
theorem Cs.start (ok:WebOk n ts) (lo:LevOk n.toNat ls) (fa:FarsOf ts n.toNat a Da) (fb:FarsOf ts n.toNat b Db) (an:a < n.toNat) (bn:b < n.toNat) (ab:Far.get Da b=some d):Cs ts n.toNat ls d 0 a a b Da Db 0:=by
 obtain⟨bs,e0⟩:=bun_self ok an fa lo
 have ba:Far.get Db a=some d:=by
  have h1:=(fa.2 b bn).back (arcs_symm ok (allOk ts))
  rw[ab] at h1
  exact (fb.2 a an).unique h1
 exact⟨fa,fb,an,an,bn,e0,by simp,ab,ba,⟨d,ba⟩,Nat.zero_le _,bs⟩
theorem Cs.more (lo:LevOk n.toNat ls) (h:Cs ts n.toNat ls d j w a b Da Db x) (nb:bunB ls Db w=false):topN ls w + 1 < ls.length∧∃ q y y',q ∈ lvl ls (topN ls w + 1)∧Far.get Db w=some y∧Far.get Db q=some y'∧y'≤y:=by
 obtain⟨y,ey⟩:=h.yb
 have ex:∃ b' p z,IsTop ls w b'∧p ∈ lvl ls (b' + 1)∧Far.get Db p=some z∧z≤y:=by
  apply Classical.byContradiction
  intro c
  have:bunB ls Db w=true:=bunB_iff.mpr ⟨y,ey,fun b' p z t hp ez=>by
   rcases Int.lt_or_le y z with l | l
   ·exact l
   ·exact absurd ⟨b',p,z,t,hp,ez,l⟩ c⟩
  rw[nb] at this;cases this
 obtain⟨b',p,z,t,hp,ez,le⟩:=ex
 rw[← topN_eq t] at hp
 refine⟨?_,p,y,z,hp,ey,ez,le⟩
 rcases Nat.lt_or_ge (topN ls w + 1) ls.length with z | z
 ·exact z
 ·rw[lvl_out z] at hp;cases hp
theorem Cs.step (ok:WebOk n ts) (lo:LevOk n.toNat ls) (h:Cs ts n.toNat ls d j w a b Da Db x) (nb:bunB ls Db w=false) {o:Option Nat} (pv:IsPiv ls (topN ls w + 1) Db o):∃ p x',o=some p∧Far.get Db p=some x'∧Cs ts n.toNat ls d (j + 1) p b a Db Da x':=by
 obtain⟨ml,q,y,y',hq,ey,ez,le⟩:=h.more lo nb
 cases o with
 | none=>rw[pv.no rfl q hq] at ez;cases ez
 | some p =>
  obtain⟨hp,x',ex',al⟩:=pv.yes p rfl
  have pn:=lo.inn _ p hp
  have sy:=arcs_symm ok (allOk ts)
  have P:=arcs_pos ok (allOk ts)
  have w1:=(h.fa.2 w h.wn).1 x h.xa
  have w2:=(h.fb.2 a h.an).1 d h.ba
  obtain⟨y2,e2,l2⟩:=(h.fb.2 w h.wn).2 _ (w2.trans w1)
  rw[ey] at e2;cases e2
  have l1:=(al q hq y' ez).1
  have w3:=(h.fb.2 p pn).1 x' ex'
  have w4:=(h.fa.2 b h.bn).1 d h.ab
  obtain⟨z,ez',_⟩:=(h.fa.2 p pn).2 _ (w4.trans w3)
  have tp:=top_exists lo pn
  have t1:=tp.2.2 _ ml hp
  have:=h.tp
  have lim:=h.lim
  refine⟨p,x',rfl,ex',h.fb,h.fa,pn,h.bn,h.an,ex',?_,h.ba,h.ab,⟨z,ez'⟩,by omega,piv_bun lo ml pv⟩
  have e:((j + 1:Nat):Int) * d=j * d + d:=by rw[Int.natCast_add,Int.add_mul];simp
  omega
end
/-- the rows of a climb -/
structure RowsOk (ls:List (List Nat)) (n:Nat) (d:Int) (Du Dv:List (Option Int)) (rows:List (List Int)):Prop where
 few:rows.length≤ls.length
 lim:∀ (i:Nat) (r:List Int),rows[i]?=some r->∃ p a b x:Int,r=[p,a,b,x]∧x≤i * d
 last:∃ (pre:List (List Int)) (w:Nat) (a b x:Int),rows=pre++[[(w:Int),a,b,x]]∧w < n∧bunB ls Du w=true∧bunB ls Dv w=true
def ClimbV (K:PySem.W.Frag) (H:Hp) (ls:List (List Nat)) (n u v:Nat) (Du Dv:List (Option Int)) (r:V):Prop:=(r=.non∧Far.get Du v=none)∨∃ t ys d,r=.ref t∧Far.get Du v=some d∧H t=some (.tup ys)∧IsAll K H ((clN ls ls.length u u v Du Dv 0).map tupI) ys∧RowsOk ls n d Du Dv (clN ls ls.length u u v Du Dv 0)
/-- how far all places are from all, as a list of lists -/
def FarsM (H:Hp) (lf:Addr) (n:Nat) (ts:List Tie):Prop:=∃ ys,H lf=some (.lst ys)∧ys.length=n∧∀ i v,ys[i]?=some v->∃ l D,v=.ref l∧H l=some (.lst (D.map ov))∧FarsOf ts n i D
theorem FarsM.same {H H':Hp} {lf:Addr} {n:Nat} {ts:List Tie} (S:Same H H') (h:FarsM H lf n ts):FarsM H' lf n ts:=by
 obtain⟨ys,e,ly,hy⟩:=h
 exact⟨ys,S _ _ e,ly,fun i v ev=>let ⟨l,D,e1,e3,e4⟩:=hy i v ev;⟨l,D,e1,S _ _ e3,e4⟩⟩
theorem FarsT.m {H:Hp} {p lf:Addr} {n:Nat} {ts:List Tie} (h:FarsT H p lf n ts):FarsM H lf n ts:=by
 obtain⟨ys,e,ne,ly,hy⟩:=h
 exact⟨ys,e,ly,fun i v ev=>let ⟨l,D,e1,e2,e3,e4⟩:=hy i v ev;⟨l,D,e1,e3,e4⟩⟩
theorem FarsM.at {H:Hp} {lf:Addr} {n:Nat} {ts:List Tie} (h:FarsM H lf n ts):∃ ys,H lf=some (.lst ys)∧∀ i,i < n->∃ l D,atI ys (i:Int)=some (.ref l)∧H l=some (.lst (D.map ov))∧FarsOf ts n i D∧∀ k,k < n->atI (D.map ov) (k:Int)=some (ov (Far.get D k)):=by
 obtain⟨ys,e,ly,hy⟩:=h
 refine⟨ys,e,fun i hi=>?_⟩
 obtain⟨l,D,e1,e2,F⟩:=hy i ys[i] (List.getElem?_eq_getElem (by omega))
 refine⟨l,D,atI_toNat (Int.natCast_nonneg _) (by rw[Int.toNat_natCast,List.getElem?_eq_getElem (by omega),e1]),e2,F,fun k hk=>atI_toNat (Int.natCast_nonneg _) (by rw[Int.toNat_natCast];exact ov_at (by have:=F.1;omega))⟩
/-- where a climb stands: the rows so far, and what is still to come -/
structure Clb (ts:List Tie) (n:Int) (ls:List (List Nat)) (d:Int) (u v:Nat) (Du Dv:List (Option Int)) (pre:List (List Int)) (w a b:Nat) (Da Db:List (Option Int)) (x:Int):Prop where
 cs:Cs ts n.toNat ls d pre.length w a b Da Db x
 sides:(Da=Du∧Db=Dv)∨(Da=Dv∧Db=Du)
 lim:∀ (i:Nat) (r:List Int),(pre++[[(w:Int),(a:Int),(b:Int),x]])[i]?=some r->∃ p a b x:Int,r=[p,a,b,x]∧x≤i * d
 rest:pre++clN ls (ls.length - pre.length) w a b Da Db x=clN ls ls.length u u v Du Dv 0
section
variable {n:Int} {ts:List Tie} {ls:List (List Nat)} {d x:Int} {u v w a b:Nat} {Du Dv Da Db:List (Option Int)} {pre:List (List Int)}
theorem Clb.first (ok:WebOk n ts) (lo:LevOk n.toNat ls) (fa:FarsOf ts n.toNat u Du) (fb:FarsOf ts n.toNat v Dv) (an:u < n.toNat) (bn:v < n.toNat) (ab:Far.get Du v=some d):Clb ts n ls d u v Du Dv [] u u v Du Dv 0:=by
 refine⟨Cs.start ok lo fa fb an bn ab,.inl ⟨rfl,rfl⟩,fun i r e=>?_,rfl⟩
 cases i with
 | zero=>cases e;exact⟨_,_,_,_,rfl,by simp⟩
 | succ i=>cases e
theorem Clb.lt (lo:LevOk n.toNat ls) (h:Clb ts n ls d u v Du Dv pre w a b Da Db x):pre.length < ls.length:=by
 have t:=(top_exists lo h.cs.wn).1
 have:=h.cs.tp
 omega
theorem Clb.next (ok:WebOk n ts) (lo:LevOk n.toNat ls) (h:Clb ts n ls d u v Du Dv pre w a b Da Db x) (nb:bunB ls Db w=false) {o:Option Nat} (pv:IsPiv ls (topN ls w + 1) Db o):∃ p x',o=some p∧p < n.toNat∧Far.get Db p=some x'∧Clb ts n ls d u v Du Dv (pre++[[(w:Int),(a:Int),(b:Int),x]]) p b a Db Da x':=by
 obtain⟨p,x',rfl,ex,c'⟩:=h.cs.step ok lo nb pv
 have lt:=h.lt lo
 have le:(pre++[[(w:Int),(a:Int),(b:Int),x]]).length=pre.length + 1:=by rw[List.length_append,List.length_singleton]
 refine⟨p,x',rfl,c'.wn,ex,by rw[le];exact c',h.sides.elim (fun ⟨e1,e2⟩=>.inr ⟨e2,e1⟩) (fun ⟨e1,e2⟩=>.inl ⟨e2,e1⟩),fun i r e=>?_,?_⟩
 ·by_cases hi:i < pre.length + 1
  ·rw[List.getElem?_append_left (by omega)] at e
   exact h.lim i r e
  ·rw[List.getElem?_append_right (by omega)] at e
   have hi2:=(List.getElem?_eq_some_iff.mp e).1
   rw[List.length_singleton] at hi2
   have ei:i=pre.length + 1:=by omega
   subst ei
   rw[le,Nat.sub_self] at e
   cases e
   exact⟨_,_,_,_,rfl,c'.lim⟩
 ·rw[le,← h.rest]
  rw[show ls.length - pre.length=(ls.length - (pre.length + 1)) + 1 by omega,clN_more nb pv ex,List.append_assoc]
  rfl
theorem Clb.done (lo:LevOk n.toNat ls) (h:Clb ts n ls d u v Du Dv pre w a b Da Db x) (bd:bunB ls Db w=true):pre++[[(w:Int),(a:Int),(b:Int),x]]=clN ls ls.length u u v Du Dv 0∧RowsOk ls n.toNat d Du Dv (clN ls ls.length u u v Du Dv 0):=by
 have lt:=h.lt lo
 have e:pre++[[(w:Int),(a:Int),(b:Int),x]]=clN ls ls.length u u v Du Dv 0:=by
  rw[← h.rest,show ls.length - pre.length=(ls.length - (pre.length + 1)) + 1 by omega,clN_done bd]
 refine⟨e,?_⟩
 rw[← e]
 refine⟨by rw[List.length_append,List.length_singleton];omega,h.lim,pre,w,_,_,_,rfl,h.cs.wn,?_⟩
 rcases h.sides with ⟨e1,e2⟩ | ⟨e1,e2⟩
 ·rw[← e1,← e2];exact⟨h.cs.bu,bd⟩
 ·rw[← e1,← e2];exact⟨bd,h.cs.bu⟩
end
end L3
namespace L3
open PySem PySem.Spec PyProof.Rows L2
section
variable {K:PySem.W.Frag} {J J':Hp} {ls:List (List Nat)} {n u v:Nat} {Du Dv:List (Option Int)} {r r1 r2:V}
theorem ClimbV.same (S:Same J J') (h:ClimbV K J ls n u v Du Dv r):ClimbV K J' ls n u v Du Dv r:=by
 rcases h with h | ⟨t,ys,d,e,ed,ht,ia,ro⟩
 ·exact .inl h
 ·exact .inr ⟨t,ys,d,e,ed,S _ _ ht,IsAll.same S _ ia,ro⟩
end
end L3
namespace PySem.SeqAt
open PySem.Spec PySem.MeetsSeq PySem.MeetsSeq2 PySem.MeetsSeq3 PySem.SeqRoads2
open AutoSeq1 (wpAny_loadPart')
end PySem.SeqAt
namespace L3
open PySem PySem.Spec PyProof.Rows L2
section
variable {X:Cx} {o e:Expr} {es:List Expr} {to:TE} {t:TA} {name:Str} {apos cpos:Pos} {id:String} {r:V->List V->Hp->VK->Prop}
end
theorem range_pick {α:Type} (f:Nat->Option α):∀ (m:Nat) (L:List α),L.length=m->(∀ k,k < m->f k=L[k]?)->(List.range m).filterMap f=L
 | 0,L,hl,_=>by rw[List.eq_nil_of_length_eq_zero hl];rfl
 | m + 1,L,hl,h=>by
  have hm:m < L.length:=by omega
  have e:L=L.take m++[L[m]]:=by rw[List.take_append_getElem hm,List.take_of_length_le (by omega)]
  rw[List.range_succ,List.filterMap_append,range_pick f m (L.take m) (by rw[List.length_take];omega) (fun k hk=>by rw[h k (by omega),List.getElem?_take,if_pos hk])]
  rw[show [m].filterMap f=[L[m]] by rw[List.filterMap_cons,h m (by omega),List.getElem?_eq_getElem hm];rfl]
  exact e.symm
theorem pick_back (its:List Value) (j:Nat):((List.range (its.length - j)).filterMap fun (m:Nat)=>its.toArray[(((its.length:Nat):Int) - 1 + (m:Int) * (-1)).toNat]?)=(its.drop j).reverse:=by
 refine range_pick _ _ _ (by rw[List.length_reverse,List.length_drop]) fun k hk=>?_
 rw[List.getElem?_reverse (by rw[List.length_drop];exact hk),List.getElem?_drop,List.length_drop]
 rw[List.getElem?_toArray]
 congr 1
 omega
/-- which parts of a slice that goes back are meant: t[::-1] leaves none out, t[:0:-1] the first -/
def bk (hi:Option Int) (n j:Nat):Prop:=(hi=none∧j=0)∨(hi=some 0∧j=1∧1≤n)
theorem bk_le {hi:Option Int} {n j:Nat} (h:bk hi n j):j≤n:=by
 rcases h with ⟨_,rfl⟩ | ⟨_,rfl,h1⟩
 ·exact Nat.zero_le _
 ·exact h1
section
variable {prog:Program} {w:World} {A:Around} {E:Value->Shared->Prop} {s:Shared}
end
/-- what a slice that goes back is -/
def SlB (X:Cx) (r:V->Option Int->Hp->VK->Prop):Prop :=
 ∀ (pins:List (Addr × Obj)) (s:Shared) (σ:L2.St) (H:Hp) (x:V) (v vl vu vs:Value) (hi:Option Int) (sl:Addr) (Q:VK),Inv X pins σ H s->RelV x v->s.heap.IsSliceOf sl vl vu vs->IsPart vl none->IsPart vu hi->IsPart vs (some (-1))->r x hi H Q ->
  ∃ T id,typeLookup (.type T) "__getitem__"=pure (some (.builtin id))∧s.TypeIs v T∧wpAny (model X.prog X.w) X.A (getItem v (.ref sl)) (EP X pins σ Q) X.xe s
def tSlB (r:V->Option Int->Hp->VK->Prop) (te:TE) (th:TO) (ts:TE):TE:=fun σ H Q=>te σ H fun x H1=>th σ H1 fun u H3=>ts σ H3 fun z H4=>z=.int (-1)∧r x u H4 Q
section
variable {X:Cx} {e st:Expr} {te ts:TE} {lo hi:Option Expr} {th:TO} {pos p2:Pos}
theorem pe_sliceB {r:V->Option Int->Hp->VK->Prop} (hr:SlB X r) (he:PE X e te) (hu:PO X hi th) (hs:PE X st ts):PE X (.Subscript e (.Slice none hi (some st) p2) pos) (tSlB r te th ts):=by
 intro pins s σ H Q I h
 refine Subscript_ (thn (he pins s σ H _ I h) fun v s1 ⟨x,H1,I1,r1,q1⟩=>?_)
 refine wpAny_Slice ?_
 rw[evalPart_none]
 refine wpAny_pure (thn (hu pins s1 σ H1 _ I1 q1) fun vu s3 ⟨u,H3,I3,pu,q3⟩=>?_)
 rw[evalPart_some]
 refine thn (hs pins s3 σ H3 _ I3 q3) fun vz s4 ⟨z,H4,I4',rz,ez,q4⟩=>?_
 subst ez
 obtain⟨t,rfl⟩:=rz
 have I4:Inv X pins σ H4 { s4 with heap:=s4.heap.push { cls:=.type "slice",data:=.fields #[.none,vu,.int (-1) t] } }:=I4'.kept (t':=s4.toks) fun b ob q=>Heap.get?_push_of_some _ q
 obtain⟨T,id,hT,ht,hg⟩:=hr pins { s4 with heap:=s4.heap.push { cls:=.type "slice",data:=.fields #[.none,vu,.int (-1) t] } } σ H4 x v .none vu (.int (-1) t) u s4.heap.objs.size Q I4 r1 (Heap.IsSliceOf.new ..) .none pu (.int _ _) q4
 show wpAny (model X.prog X.w) X.A (subscriptTail e (.Slice none hi (some st) p2) v (.ref s4.heap.objs.size)) (EP X pins σ Q) X.xe { s4 with heap:=s4.heap.push { cls:=.type "slice",data:=.fields #[.none,vu,.int (-1) t] } }
 exact tail_any (ops:=[v,.ref s4.heap.objs.size]) ht hT hg (by with_unfolding_all rfl)
/-- l[::-1], l[:0:-1] -/
def rBkL (K:PySem.W.Frag):V->Option Int->Hp->VK->Prop:=fun x hi H Q=>∃ a xs j,x=.ref a∧H a=some (.lst xs)∧bk hi xs.length j∧∀ p H',Same H H'->H p=none->H' p=some (.lst (xs.drop j).reverse)->Q (.ref p) H'
theorem bounds_back {hi:Option Int} {n j:Nat} (h:bk hi n j):sliceBounds none hi (some (-1)) n=((n:Int) - 1,(j:Int) - 1,-1):=by
 rcases h with ⟨rfl,rfl⟩ | ⟨rfl,rfl,h1⟩
 ·simp [sliceBounds]
 ·simp [sliceBounds]
  omega
theorem slicePick_back (its:List Value) {hi:Option Int} {j:Nat} (h:bk hi its.length j):slicePick its.toArray none hi (some (-1))=(its.drop j).reverse.toArray:=by
 have hj:=bk_le h
 unfold slicePick
 rw[List.size_toArray,bounds_back h]
 show ((sliceRange ((its.length:Int) - 1) ((j:Int) - 1) (-1)).filterMap (its.toArray[·]?)).toArray=_
 have e:sliceRange ((its.length:Int) - 1) ((j:Int) - 1) (-1)=(List.range (its.length - j)).map fun (k:Nat)=>((its.length:Int) - 1 + (-1) * (k:Int)).toNat:=by
  unfold sliceRange
  have c:(if (-1:Int) > 0 then (if (its.length:Int) - 1 < (j:Int) - 1 then ((j:Int) - 1 - ((its.length:Int) - 1) + (-1) - 1) / (-1) else 0) else (if (its.length:Int) - 1 > (j:Int) - 1 then ((its.length:Int) - 1 - ((j:Int) - 1) - (-1) - 1) / (-(-1)) else 0)).toNat=its.length - j:=by
   rw[if_neg (by omega)]
   split
   ·rw[show -(-1:Int)=1 by rfl,Int.ediv_one];omega
   ·omega
  dsimp only
  rw[c]
 rw[e,List.filterMap_map]
 have:=pick_back its j
 rw[← this]
 congr 1
 congr 1
 funext k
 show its.toArray[((its.length:Int) - 1 + (-1) * (k:Int)).toNat]?=_
 rw[Int.mul_comm]
theorem sb_list:SlB X (rBkL X.K):=by
 intro pins s σ H x v vl vu vs hi sl Q I rx hs pl pu ps h
 obtain⟨a,xs,j,rfl,hx,hb,q⟩:=h
 cases rx
 obtain⟨its,r,ht,hz⟩:=I.list (SqL.of hx)
 have hlen:its.length=xs.length:=r.length.symm
 refine⟨"list",_,slot_list_getitem.lookup,ht.isList.typeIs,?_⟩
 refine wpAny_getItem_list_slice ht.isList hs pl pu ps (by simp) ?_ (by rw[List.size_toArray] <;> omega)
 rw[slicePick_back its (by rw[hlen];exact hb)]
 refine⟨.ref s.heap.objs.size,_,I.laid (t':=s.toks) (o:=.lst (xs.drop j).reverse) (fun b ob q=>Heap.get?_push_of_some _ q) (Nat.le_refl _) ?_,rfl,q _ _ (same_new (I.hok.fresh (Nat.le_refl _))) (I.hok.fresh (Nat.le_refl _)) upd_same⟩
 exact⟨by rw[List.length_reverse,List.length_drop];omega,_,0,(r.drop j).reverse,Heap.get?_push_size _ rfl⟩
end
end L3
namespace L3
open PySem PySem.Spec PyProof.Rows L2
section
variable {X:Cx}
theorem part_val {v:Value} {p:Option Int} (h:IsPart v p):∃ l:Option (Int × Tok),v=partValue l∧l.map (·.1)=p:=by
 cases h with
 | none=>exact⟨none,rfl,rfl⟩
 | int=>exact⟨some (_,_),rfl,rfl⟩
theorem sl_str:SlR X (fun x lo hi H Q=>∃ z:Str,x=.str z∧z.length≤sizeLine∧Q (.str (Txt.slice z lo hi)) H):=by
 intro pins s σ H x v vl vu lo hi sl Q I rx hs pl pu h
 obtain⟨z,rfl,hz,q⟩:=h
 obtain⟨t,rfl⟩:=rx
 obtain⟨l,rfl,rfl⟩:=part_val pl
 obtain⟨u,rfl,rfl⟩:=part_val pu
 exact⟨"str",_,F.slot_str_getitem.lookup,typeIs_str _ _ _,wpAny_getItem_str_slice (l:=l) (u:=u) (st:=none) hs rfl
  (post_val_or_str ⟨Nat.le_trans (Txt.slice_le z _ _) hz,fun t' k=>⟨.str _,H,I.tok _,⟨_,rfl⟩,q⟩⟩)⟩
theorem op_mulS:OpR X (binaryOp .Mult) (fun x y H Q=>∃ (z:Str) (n:Int),x=.str z∧y=.int n∧1 < n∧n≤1000∧z.length=1∧Q (.str ⟨(List.replicate n.toNat z.cps).foldl (·++·) #[]⟩) H):=by
 intro pins s σ H x y v u Q I rx ry h
 obtain⟨z,n,rfl,rfl,h1,h2,hz,q⟩:=h
 obtain⟨t,rfl⟩:=rx
 obtain⟨t',rfl⟩:=ry
 have e1:(n == 1 || z.length == 0)=false:=by
  rw[hz];simp;omega
 refine P.mul_str (by
  have a:¬ n < -(2 ^ 63:Int):=by omega
  have b:¬ n ≥ 2 ^ 63:=by omega
  rw[decide_eq_false a,decide_eq_false b];rfl) (fun _ _=>?_) (fun _ _=>?_) ?_
 ·rw[hz]
  have:(1:Int)≤(2 ^ 63 - 1) / n:=Int.le_ediv_of_mul_le (by omega) (by omega)
  show ¬ ((1:Nat):Int) > _
  omega
 ·rw[hz,Nat.one_mul]
  unfold Builtin.Str.tooLong
  exact decide_eq_false (by rw[sizeLine_eq];omega)
 ·rw[if_neg (by omega),e1]
  have hl:((List.replicate n.toNat z.cps).foldl (·++·) #[]).size=n.toNat:=by
   have:∀ (k:Nat) (acc:Array Nat),((List.replicate k z.cps).foldl (·++·) acc).size=acc.size + k:=fun k=>by
    induction k with
    | zero=>intro acc;rfl
    | succ k ih=>intro acc;rw[List.replicate_succ,List.foldl_cons,ih,Array.size_append];have:z.cps.size=1:=hz;omega
   rw[this];simp
  refine⟨?_,.str _,H,I.tok _,⟨_,rfl⟩,q⟩
  show ((List.replicate n.toNat z.cps).foldl (·++·) #[]).size≤sizeLine
  rw[hl,sizeLine_eq];omega
end
section
variable {X:Cx} {a b c d:Expr} {ta tb tc td:TE} {pos:Pos}
theorem pt_chain3 {o1 o2 o3:CmpOp} {r r' r'':R2} (h1:OpR X (compareOp o1) r) (h2:OpR X (compareOp o2) r') (h3:OpR X (compareOp o3) r'') (ha:PE X a ta) (hb:PE X b tb) (hc:PE X c tc) (hd:PE X d td)
  (hm:lastMarks [o1,o2,o3] [b,c,d]=false:=by with_unfolding_all rfl):PT X (.Compare a [o1,o2,o3] [b,c,d] pos) (tTest (tChain3 r r' r'' ta tb tc td)):=by
 intro pins s σ H Q I h
 refine isTrue_chain (thn (ha pins s σ H _ I h) fun v s1 ⟨x,H1,I1,r1,q1⟩=>test_link (thn (hb pins s1 σ H1 _ I1 q1) fun u s2 ⟨y,H2,I2,r2,q2⟩ =>
  thn (h1 pins s2 σ H2 x y v u _ I2 r1 r2 q2) fun e s3 ⟨z,H3,I3,r3,k,ek,q3⟩=>?_)) hm
 subst ek
 cases r3
 refine wpAny_truthy_bool ?_
 cases k with
 | false =>
  obtain⟨k',e',q'⟩:=q3
  cases e'
  exact ite_ff ⟨H3,I3,q'⟩
 | true =>
  refine ite_tt (test_link (thn (hc pins s3 σ H3 _ I3 q3) fun u' s4 ⟨y',H4,I4,r4,q4⟩=>thn (h2 pins s4 σ H4 y y' u u' _ I4 r2 r4 q4) fun e s5 ⟨z',H5,I5,r5,k',ek,q5⟩=>?_))
  subst ek
  cases r5
  refine wpAny_truthy_bool ?_
  cases k' with
  | false =>
   obtain⟨k',e',q'⟩:=q5
   cases e'
   exact ite_ff ⟨H5,I5,q'⟩
  | true =>
   refine ite_tt (test_last (thn (hd pins s5 σ H5 _ I5 q5) fun w' s6 ⟨y'',H6,I6,r6,q6⟩=>thn (h3 pins s6 σ H6 y' y'' u' w' _ I6 r4 r6 q6) fun d' s7 ⟨z2,H7,I7,r7,k2,e2,q7⟩=>?_))
   subst e2
   cases r7
   exact wpAny_truthy_bool ⟨H7,I7,q7⟩
end
section
variable {own:List Str} {js:List Nat} {g:TG} {tt:TT} {te:TE} {σ:L2.St} {Q:VK} {H1:Hp}
theorem comp_selS {x:Str} (Sg:L2.St->Prop) (sel:Nat->Option V) (hn:x.length≤1000) (h0:Sg (start3 own js σ))
  (step:∀ i c σ' H',x.cps[i]?=some c->Same H1 H'->Sg σ'->∀ (C:L2.St->V->Hp->Prop) (L:L2.St->Hp->Prop),(∀ σ3 v H5,Sg σ3->Same H' H5->sel i=some v->C σ3 v H5)->(∀ σ3 H5,Sg σ3->Same H' H5->sel i=none->L σ3 H5) ->
   g (.str ⟨#[c]⟩) σ' H' fun σ3 H3=>tt σ3 H3 fun b H4=>if b=true then te σ3 H4 fun v H5=>C σ3 v H5 else L σ3 H4)
  (fin:∀ D H',H1 D=none->Same H1 H'->H' D=some (.lst ((List.range x.length).filterMap sel))->Q (.ref D) H'):CompGo own js g tt te σ Q (Its x) H1:=by
 refine comp_sel x.cps.size Sg sel hn h0 (fun i H' hi s=>hi) (fun H' s=>Nat.le_refl _) (fun i v σ' H' H2 hi s hy sg C L hC hL=>?_) fin
 obtain⟨rfl,c,hc,rfl⟩:=hy
 exact step i c σ' _ hc s sg C L hC hL
end
end L3
namespace Peel
/-- ties by their ends -/
abbrev T2:=Nat × Nat
/-- kept ties of p to places that aren't gone -/
def hit (gone:List Nat) (p:Nat) (t:T2):Bool:=(t.1 == p && !gone.contains t.2) || (t.2 == p && !gone.contains t.1)
def deg (ts:List T2) (gone:List Nat) (p:Nat):Nat:=ts.countP (hit gone p)
def may (ts:List T2) (d:Int) (gone:List Nat) (p:Nat):Bool:=!gone.contains p && decide ((deg ts gone p:Int)≤d)
def next (n:Nat) (ts:List T2) (d:Int) (gone:List Nat):Option Nat:=(List.range n).find? (may ts d gone)
def run (n:Nat) (ts:List T2) (d:Int):Nat->List Nat->List Nat
 | 0,g=>g
 | f + 1,g=>match next n ts d g with
  | none=>g
  | some p=>run n ts d f (g++[p])
section
variable {n:Nat} {ts:List T2} {d:Int} {g:List Nat} {p:Nat}
/-- good: places of the web, none twice -/
def Good (n:Nat) (g:List Nat):Prop:=g.Nodup∧∀ p ∈ g,p < n
theorem len_below:∀ (n:Nat) (g:List Nat),g.Nodup->(∀ p ∈ g,p < n)->g.length≤n
 | 0,[],_,_=>Nat.le_refl _
 | 0,p::_,_,h=>absurd (h p List.mem_cons_self) (Nat.not_lt_zero _)
 | n + 1,g,nd,h=>by
  have h1:=len_below n (g.filter fun p=>p != n) (nd.filter _) fun p hp=>by
   have:=List.mem_filter.mp hp
   have a:=h p this.1
   have b:p≠n:=by simpa using this.2
   omega
  have e:g.length=(g.filter fun p=>p != n).length + g.countP (fun p=>p == n):=by
   rw[← List.countP_eq_length_filter]
   have:=List.length_eq_countP_add_countP (fun p=>p == n) (l:=g)
   have e2:g.countP (fun p=>decide ¬(p == n)=true)=g.countP fun p=>p != n:=List.countP_congr fun x _=>by simp
   rw[e2] at this
   omega
  have c:g.countP (fun p=>p == n)≤1:=by
   have:=List.nodup_iff_count.mp nd n
   exact this
  omega
theorem Good.len (h:Good n g):g.length≤n:=len_below n g h.1 h.2
theorem Good.nil:Good n []:=⟨List.nodup_nil,fun p h=>by cases h⟩
theorem Good.snoc (h:Good n g) (hp:p < n) (np:p ∉ g):Good n (g++[p]):=by
 refine⟨List.nodup_append.mpr ⟨h.1,by simp,fun a ha b hb e=>np ?_⟩,fun q hq=>?_⟩
 ·have:b=p:=by simpa using hb
  subst this;subst e;exact ha
 ·rcases List.mem_append.mp hq with hq | hq
  ·exact h.2 q hq
  ·have:q=p:=by simpa using hq
   subst this;exact hp
/-- all that go, from none on -/
def gone (n:Nat) (ts:List T2) (d:Int):List Nat:=run n ts d n []
end
end Peel
namespace L3
open PySem PySem.Spec PyProof.Rows L2
section
variable {g:TG} {tt:TT} {te:TE} {own:List Str} {js:List Nat} {σ:L2.St} {H1:Hp} {Q:VK}
end
end L3
namespace L3
open PySem PySem.Spec PyProof.Rows L2
/-- l.insert(k, y) -/
def rInsert:V->List V->Hp->VK->Prop:=fun x vs H Q=>∃ (l:Addr) (xs:List V) (k:Nat) (y:V),x=.ref l∧vs=[.int (k:Int),y]∧H l=some (.lst xs)∧k≤xs.length∧xs.length < 1000∧∀ H',But l H H'->H' l=some (.lst (xs.take k++y::xs.drop k))->Q .non H'
theorem mt_insert {X:Cx}:MtM X "list.insert" rInsert:=by
 intro pins s σ H x vs v us Q I rx rv h
 obtain⟨l,xs,k,y,rfl,rfl,hH,hk,hz,q⟩:=h
 cases rx
 obtain⟨u1,u2,rfl,ru1,ru2⟩:=rv.two
 obtain⟨t,rfl⟩:=ru1
 obtain⟨z,its,n,r,hl,e⟩:=I.lstM hH
 have h1:Builtin.List.listFitsIndex (k:Int)=true:=by
  unfold Builtin.List.listFitsIndex
  have a:(-(2 ^ 63:Int))≤(k:Int):=Int.le_trans (by decide) (Int.natCast_nonneg k)
  have b:(k:Int) < 2 ^ 63:=Int.lt_of_le_of_lt (show (k:Int)≤1000 by omega) (by decide)
  rw[decide_eq_true a,decide_eq_true b];rfl
 have h3:its.toArray.size≤sizeLine:=by rw[List.size_toArray,← hl];exact z
 have hk':k≤its.length:=by rw[← hl];exact hk
 have g:(if (k:Int) < 0 then ((k:Int) + (its.toArray.size:Int)).toNat else min (k:Int).toNat its.toArray.size)=k:=by
  rw[if_neg (by omega),Int.toNat_natCast,List.size_toArray,Nat.min_eq_left hk']
 have lz:(xs.take k++y::xs.drop k).length≤sizeLine:=by
  rw[List.length_append,List.length_cons,List.length_take,List.length_drop]
  exact Nat.le_trans (show min k xs.length + (xs.length - k + 1)≤1001 by omega) (by decide)
 generalize (k:Int)=i at h1 g
 refine call_meets F.slot_list_insert ⟨_,e,rfl⟩ F.entry_list_insert (F.args_list_insert_3 _ _ _) (PySem.AutoSeq1.list_insert_list_int_val_1 l its.toArray n i t u2 (by rw[h1];decide) h3) ⟨e,?_⟩
 refine⟨.non,_,I.lset (its':=its.take k++u2::its.drop k) hH e ?_ ((r.take k).append (.cons ru2 (r.drop k))) lz,rfl,q _ But.upd upd_same⟩
 show (its.toArray.extract 0 (if i < 0 then (i + (its.toArray.size:Int)).toNat else min i.toNat its.toArray.size)).push u2++its.toArray.extract (if i < 0 then (i + (its.toArray.size:Int)).toNat else min i.toNat its.toArray.size)=(its.take k++u2::its.drop k).toArray
 rw[g,PySem.W.kl_ins_eq]
end L3
namespace Far
section
variable {B:List Arc} {n s a b:Nat} {ws S:List Nat} {x y:Int} {cs:List (Option (Int × Int))} {as:List (Option Nat)}
theorem Rt.walkC (r:Rt B a ws S b x y):Walk (arcsC B) a b (comb (x,y)):=by
 induction r with
 | one=>exact .nil
 | @snoc ws S u v x y l k r m nv ih =>
  have:=Walk.snoc ih (arcsC_mem.mpr ⟨l,k,m,rfl⟩)
  have e:comb (x + l,y + 2 ^ k)=comb (x,y) + (l * 2 ^ 61 + 2 ^ k):=by unfold comb;simp only;omega
  rw[e];exact this
theorem Rt.split (r:Rt B a ws S b x y):∀ {p q:List Nat} {u:Nat},ws=p++u::q->∃ S1 S2 x1 x2 y1 y2,Rt B a (p++[u]) S1 u x1 y1∧Rt B u (u::q) S2 b x2 y2∧x=x1 + x2∧y=y1 + y2:=by
 induction r with
 | one =>
  intro p q u e
  cases p with
  | nil =>
   injection e with e1 e2
   subst e1 e2
   exact⟨[],[],0,0,0,0,.one,.one,rfl,rfl⟩
  | cons z p=>injection e with e1 e2;cases p <;> cases e2
 | @snoc ws S u0 v x y l k r m nv ih =>
  intro p q u e
  rcases List.eq_nil_or_concat q with rfl | ⟨q',v',rfl⟩
  ·have e':ws++[v]=p++[u]:=e
   obtain⟨e1,e2⟩:=List.append_inj' e' rfl
   cases e2
   subst e1
   exact⟨S++[k],[],x + l,0,y + 2 ^ k,0,r.snoc m nv,.one,by omega,by omega⟩
  ·have e':ws++[v]=(p++u::q')++[v']:=by rw[e,List.append_assoc];simp
   obtain⟨e1,e2⟩:=List.append_inj' e' rfl
   cases e2
   obtain⟨S1,S2,x1,x2,y1,y2,r1,r2,ex,ey⟩:=ih e1
   have nv2:v ∉ u::q':=fun h=>nv (by rw[e1];exact List.mem_append_right _ h)
   have r3:=r2.snoc m nv2
   refine⟨S1,S2++[k],x1,x2 + l,y1,y2 + 2 ^ k,r1,?_,by omega,by omega⟩
   simpa using r3
/-- the least of all walks, and a route -/
def MinW (B:List Arc) (a b:Nat) (ws:List Nat):Prop:=∃ S x y,Rt B a ws S b x y∧∀ L,Walk (arcsC B) a b L->comb (x,y)≤L
theorem MinW.unique (K:Keys B) {ws':List Nat} (h:MinW B a b ws) (h':MinW B a b ws'):ws'=ws:=by
 obtain⟨S,x,y,r,l⟩:=h
 obtain⟨S',x',y',r',l'⟩:=h'
 have e1:=l _ r'.walkC
 have e2:=l' _ r.walkC
 have b1:=r.lt K
 have b2:=r'.lt K
 have e:=comb_inj (c:=(x,y)) (d:=(x',y')) ⟨b1.1,Int.lt_trans b1.2 (by decide)⟩ ⟨b2.1,Int.lt_trans b2.2 (by decide)⟩ (by omega)
 injection e with ex ey
 subst ey
 exact (r.unique K r').1
theorem comb_add (x1 x2 y1 y2:Int):comb (x1 + x2,y1 + y2)=comb (x1,y1) + comb (x2,y2):=by unfold comb;simp only;omega
theorem MinW.sub (h:MinW B a b ws) {p m q:List Nat} {u v:Nat} {m1 m2:List Nat} (e:ws=p++m++q) (e1:m=u::m1) (e2:m=m2++[v]):MinW B u v m:=by
 obtain⟨S,x,y,r,l⟩:=h
 obtain⟨S1,S2,x1,x2,y1,y2,r1,r2,ex,ey⟩:=r.split (p:=p) (u:=u) (q:=m1++q) (by rw[e,e1,List.append_assoc];rfl)
 obtain⟨S3,S4,x3,x4,y3,y4,r3,r4,ex2,ey2⟩:=r2.split (p:=m2) (u:=v) (q:=q) (by
  have:u::(m1++q)=m++q:=by rw[e1];rfl
  rw[this,e2,List.append_assoc];rfl)
 rw[← e2] at r3
 refine⟨S3,x3,y3,r3,fun L w=>?_⟩
 have:=l _ ((r1.walkC.trans w).trans r4.walkC)
 subst ex ey ex2 ey2
 rw[comb_add,comb_add] at this
 omega
theorem MinW.back (K:Keys B) (h:MinW B a b ws):MinW B b a ws.reverse:=by
 obtain⟨S,x,y,r,l⟩:=h
 exact⟨S.reverse,x,y,r.back K,fun L w=>l L (w.back (arcsC_sym K))⟩
theorem MinW.nodup (h:MinW B a b ws):ws.Nodup:=by
 obtain⟨S,x,y,r,l⟩:=h
 exact r.unlike
end
end Far
namespace L3
open PySem PySem.Spec PyProof.Rows L2
end L3
namespace L3
open PySem PySem.Spec PyProof.Rows L2
theorem WK.but {K:PySem.W.Frag} {J J':Hp} {l:Addr} {n:Int} {ts:List Tie} {ks:List Nat} {wv kv:V} {xs:List V} (wk:WK K J n ts ks wv kv) (b:But l J J') (e:J l=some (.lst xs)):WK K J' n ts ks wv kv :=
 ⟨Is.but b e _ (tup_web n ts) wk.1,wk.2.1,Is.but b e _ (tup_keep ks) wk.2.2.1,wk.2.2.2⟩
/-- the ways that were told so far -/
def WaysL (J:Hp) (ts:List Tie) (ks:List Nat) (ys:List V):Prop:=∀ v ∈ ys,∃ t W a b,v=.ref t∧J t=some (.tup (natV W))∧W.length≤24∧Far.MinW (arcsB ts ks) a b W
theorem WaysL.but {J J':Hp} {l:Addr} {ts:List Tie} {ks:List Nat} {ys xs:List V} (h:WaysL J ts ks ys) (b:But l J J') (e:J l=some (.lst xs)):WaysL J' ts ks ys:=fun v hv=>by
 obtain⟨t,W,a,b',e1,e2,r⟩:=h v hv
 exact⟨t,W,a,b',e1,b _ _ (fun z=>by rw[z,e] at e2;cases e2) e2,r⟩
theorem WaysL.same {J J':Hp} {ts:List Tie} {ks:List Nat} {ys:List V} (h:WaysL J ts ks ys) (s:Same J J'):WaysL J' ts ks ys:=fun v hv=>by
 obtain⟨t,W,a,b',e1,e2,r⟩:=h v hv
 exact⟨t,W,a,b',e1,s _ _ e2,r⟩
theorem WaysL.snoc {J:Hp} {ts:List Tie} {ks:List Nat} {ys:List V} {t:Addr} {W:List Nat} {a b:Nat} (h:WaysL J ts ks ys) (e:J t=some (.tup (natV W))) (l:W.length≤24) (m:Far.MinW (arcsB ts ks) a b W):WaysL J ts ks (ys++[.ref t]):=fun v hv=>by
 rcases List.mem_append.mp hv with z | z
 ·exact h v z
 ·rw[List.mem_singleton.mp z];exact⟨t,W,a,b,rfl,e,l,m⟩
end L3
namespace Far
inductive W2 (B:List Arc) (s:Nat):Nat->Int->Int->Prop
 | nil:W2 B s s 0 0
 | snoc {u v:Nat} {x y l:Int} {k:Nat}:W2 B s u x y->(u,v,l,k) ∈ B->W2 B s v (x + l) (y + 2 ^ k)
theorem W2.nonneg {B:List Arc} (K:Keys B) {s v:Nat} {x y:Int} (h:W2 B s v x y):0≤x∧0≤y:=by
 induction h with
 | nil=>exact⟨Int.le_refl _,Int.le_refl _⟩
 | @snoc u v x y l k h m ih =>
  have h1:=K.pos _ _ _ _ m
  have h2:=two_pos k
  omega
end Far
namespace L3
open PySem PySem.Spec PyProof.Rows L2
/-- a web and a keep of it that is a list -/
def WKL (K:PySem.W.Frag) (H:Hp) (n:Int) (ts:List Tie) (ks:List Nat) (wv:V) (kp:Addr):Prop:=Is K H (webD n ts) wv∧WebOk n ts∧H kp=some (.lst ((keepI ks).map V.int))∧KeepOk ts.length ks
theorem WKL.same {K:PySem.W.Frag} {H H':Hp} {n:Int} {ts:List Tie} {ks:List Nat} {wv:V} {kp:Addr} (h:WKL K H n ts ks wv kp) (s:Same H H'):WKL K H' n ts ks wv kp:=⟨Is.same s _ h.1,h.2.1,s _ _ h.2.2.1,h.2.2.2⟩
end L3
namespace Far
def chn (R:Nat->Nat->Prop):List Nat->Prop
 | []=>True
 | [_]=>True
 | a::b::r=>R a b∧chn R (b::r)
section
variable {R:Nat->Nat->Prop}
theorem chn_join:∀ {l m:List Nat} {x y:Nat},chn R (l++[x])->R x y->chn R (y::m)->chn R (l++[x]++y::m)
 | [],m,x,y,_,r,h=>⟨r,h⟩
 | [a],m,x,y,h1,r,h=>⟨h1.1,chn_join (l:=[]) (x:=x) (y:=y) h1.2 r h⟩
 | a::b::l,m,x,y,h1,r,h=>⟨h1.1,chn_join (l:=b::l) (x:=x) (y:=y) h1.2 r h⟩
theorem chn_split:∀ {l m:List Nat} {x:Nat},chn R (l++x::m)->chn R (l++[x])∧chn R (x::m)
 | [],m,x,h=>⟨trivial,h⟩
 | [a],m,x,h=>⟨⟨h.1,trivial⟩,h.2⟩
 | a::b::l,m,x,h=>⟨⟨h.1,(chn_split (l:=b::l) (x:=x) h.2).1⟩,(chn_split (l:=b::l) (x:=x) h.2).2⟩
theorem chn_rev (sy:∀ u v,R u v->R v u):∀ {l:List Nat},chn R l->chn R l.reverse
 | [],_=>trivial
 | [_],_=>trivial
 | a::b::r,h=>by
  have ih:=chn_rev sy h.2
  rw[List.reverse_cons] at ih
  rw[List.reverse_cons,List.reverse_cons]
  exact chn_join (l:=r.reverse) (m:=[]) ih (sy _ _ h.1) trivial
theorem chn_at:∀ {l:List Nat} {i u v:Nat},chn R l->l[i]?=some u->l[i + 1]?=some v->R u v
 | [],i,u,v,_,e,_=>by cases e
 | [a],i,u,v,_,_,e=>by cases e
 | a::b::r,0,u,v,h,e1,e2=>by cases e1;cases e2;exact h.1
 | a::b::r,i + 1,u,v,h,e1,e2=>chn_at (l:=b::r) h.2 e1 e2
theorem Rt.chn {B:List Arc} {a b:Nat} {ws S:List Nat} {x y:Int} (hR:∀ u v l k,(u,v,l,k) ∈ B->R u v) (r:Rt B a ws S b x y):chn R ws:=by
 induction r with
 | one=>exact trivial
 | @snoc ws S u v x y l k r m nv ih =>
  obtain⟨q,e⟩:=r.foot
  rw[e] at ih ⊢
  exact chn_join (m:=[]) ih (hR _ _ _ _ m) trivial
/-- a way made a ring: turned so that h stands first, one way about or the other -/
def RingOf (ws:List Nat) (h:Nat) (tl:List Nat):Prop:=∃ p q,ws=p++h::q∧(tl=q++p∨tl=(q++p).reverse)
theorem RingOf.mem {ws tl:List Nat} {h:Nat} (r:RingOf ws h tl) {x:Nat}:x ∈ h::tl↔x ∈ ws:=by
 obtain⟨p,q,e,t⟩:=r
 rw[e]
 rcases t with t | t
 ·rw[t];simp only [List.mem_cons,List.mem_append];constructor
  ·rintro (z | z | z)
   ·exact .inr (.inl z)
   ·exact .inr (.inr z)
   ·exact .inl z
  ·rintro (z | z | z)
   ·exact .inr (.inr z)
   ·exact .inl z
   ·exact .inr (.inl z)
 ·rw[t];simp only [List.mem_cons,List.mem_append,List.mem_reverse];constructor
  ·rintro (z | z | z)
   ·exact .inr (.inl z)
   ·exact .inr (.inr z)
   ·exact .inl z
  ·rintro (z | z | z)
   ·exact .inr (.inr z)
   ·exact .inl z
   ·exact .inr (.inl z)
theorem RingOf.len {ws tl:List Nat} {h:Nat} (r:RingOf ws h tl):tl.length + 1=ws.length:=by
 obtain⟨p,q,e,t⟩:=r
 rw[e]
 rcases t with t | t
 ·rw[t];simp only [List.length_append,List.length_cons];omega
 ·rw[t];simp only [List.length_append,List.length_cons,List.length_reverse];omega
theorem RingOf.nodup {ws tl:List Nat} {h:Nat} (r:RingOf ws h tl) (nd:ws.Nodup):(h::tl).Nodup:=by
 obtain⟨p,q,e,t⟩:=r
 rw[e] at nd
 have n1:(h::(q++p)).Nodup:=by
  have:(h::q++p).Nodup:=(List.perm_append_comm.nodup_iff).mp nd
  simpa using this
 rcases t with t | t
 ·rw[t];exact n1
 ·rw[t]
  rw[List.nodup_cons] at n1 ⊢
  exact⟨fun z=>n1.1 (List.mem_reverse.mp z),(List.reverse_perm _).nodup_iff.mpr n1.2⟩
theorem RingOf.chn (sy:∀ u v,R u v->R v u) {ws tl:List Nat} {h a b:Nat} {w1 w2:List Nat} (r:RingOf ws h tl) (c:chn R ws) (e1:ws=a::w1) (e2:ws=w2++[b]) (l:R b a):Far.chn R (h::tl++[h]):=by
 obtain⟨p,q,e,t⟩:=r
 have key:Far.chn R (h::(q++p)++[h]):=by
  obtain⟨c1,c2⟩:=chn_split (l:=p) (x:=h) (m:=q) (by rw[← e];exact c)
  obtain⟨q2,eq⟩:∃ q2,h::q=q2++[b]:=by
   rcases List.eq_nil_or_concat q with rfl | ⟨q',z,rfl⟩
   ·have:w2++[b]=p++[h]:=by rw[← e2,e]
    obtain⟨_,z⟩:=List.append_inj' this rfl
    cases z
    exact⟨[],rfl⟩
   ·have:w2++[b]=(p++h::q')++[z]:=by rw[← e2,e];simp
    obtain⟨_,y⟩:=List.append_inj' this rfl
    cases y
    exact⟨h::q',by simp⟩
  cases p with
  | nil =>
   have:a=h:=by rw[e] at e1;injection e1 with z _;exact z.symm
   subst this
   rw[List.append_nil,eq]
   rw[eq] at c2
   exact chn_join (m:=[]) c2 l trivial
  | cons a' p' =>
   have:a=a':=by rw[e] at e1;injection e1 with z _;exact z.symm
   subst this
   have e3:h::(q++a::p')++[h]=(h::q)++(a::(p'++[h])):=by simp
   rw[e3,eq]
   rw[eq] at c2
   exact chn_join c2 l c1
 rcases t with t | t
 ·rw[t];exact key
 ·have e4:h::tl++[h]=(h::(q++p)++[h]).reverse:=by rw[t];simp
  rw[e4]
  exact chn_rev sy key
end
end Far
namespace L3
open PySem PySem.Spec PyProof.Rows L2
/-- two places with a tie of the keep between them -/
def adjK (ts:List Tie) (ks:List Nat) (u v:Nat):Prop:=∃ k,k ∈ ks∧tbN ts u v=some k
theorem tb_comm (ts:List Tie) (u v:Nat):tbN ts u v=tbN ts v u:=by
 unfold tbN
 congr 1
 funext k
 unfold isTB
 rw[Int.min_comm,Int.max_comm]
theorem adjK.sym {ts:List Tie} {ks:List Nat} (u v:Nat) (h:adjK ts ks u v):adjK ts ks v u:=by
 obtain⟨k,hk,e⟩:=h
 exact⟨k,hk,by rw[tb_comm];exact e⟩
/-- a ring in its least turn -/
def Turn (h:Nat) (tl:List Nat):Prop:=(∀ x ∈ tl,h≤x)∧∀ u v p q,tl=u::p->tl=q++[v]->u≤v
end L3
namespace Stb
open PySem
def Asc (xs:Array Nat):Prop:=∀ i j,i < j->j < xs.size->xs.getD i 0 < xs.getD j 0
theorem Asc.list {xs:Array Nat}:Asc xs↔xs.toList.Pairwise (· < ·):=by
 rw[List.pairwise_iff_getElem]
 have g:∀ i (h:i < xs.toList.length),xs.getD i 0=xs.toList[i]:=fun i h=>by
  have h':i < xs.size:=by simpa using h
  rw[Array.getD_eq_getD_getElem?,Array.getElem?_eq_getElem h'];simp
 constructor
 ·intro a i j hi hj ij
  have:=a i j ij (by simpa using hj)
  rw[g i hi,g j hj] at this
  exact this
 ·intro a i j ij hj
  have hj':j < xs.toList.length:=by simpa using hj
  have:=a i j (by omega) hj' ij
  rw[g i (by omega),g j hj']
  exact this
/-- what holds of each table that was made by adding -/
def TI (b:Bool) (t:SetTable):Prop:=Asc t.place∧t.led=b
end Stb
namespace Stb
open PySem PyProof.Rows
/-- whether sets of this world are led -/
def ledOf (w:World):Bool:=!w.params.followText "set-order"
/-- the table of the set at a -/
def TIat (w:World) (h:Heap) (a:Addr):Prop:=∃ o es ep t,h.get? a=some o∧o.data=.set es ep t∧TI (ledOf w) t
abbrev SetT (P:Program) (w:World) (h:Heap) (a:Addr) (S:Int->Bool) (n:Nat):Prop:=h.SetOf (intKind P w) a S n∧TIat w h a
section
variable {prog:Program} {w:World} {A:Around} {E:Value->Shared->Prop} {s:Shared}
theorem SetT.keep {h h':Heap} {a:Addr} {S:Int->Bool} {n:Nat} (x:SetT prog w h a S n) (k:∀ o,h.get? a=some o->h'.get? a=some o):SetT prog w h' a S n:=by
 obtain⟨⟨o,es,ep,t,ho,r⟩,o',es',ep',t',ho',r'⟩:=x
 exact⟨⟨o,es,ep,t,k _ ho,r⟩,o',es',ep',t',k _ ho',r'⟩
end
end Stb
namespace Stb
open PySem PyProof.Rows
section
variable {prog:Program} {w:World} {A:Around} {E:Value->Shared->Prop} {s:Shared}
end
end Stb
namespace Stb
open PySem PyProof.Rows
section
variable {prog:Program} {w:World} {A:Around} {E:Value->Shared->Prop} {s:Shared}
end
end Stb
namespace Stb
open PySem PyProof.Rows
section
variable {prog:Program} {w:World} {A:Around} {E:Value->Shared->Prop} {s:Shared} {a I:Addr} {es:Array (Int × Value)} {ep:Nat} {t:SetTable}
section
variable {Q:Option Value->Shared->Prop} {i:Nat}
end
end
end Stb
namespace Stb
open PySem PyProof.Rows
section
variable {prog:Program} {w:World} {A:Around} {E:Value->Shared->Prop} {s:Shared} {a I:Addr} {es:Array (Int × Value)} {ep:Nat} {t:SetTable}
end
end Stb
namespace Stb
open PySem PyProof.Rows
section
variable {prog:Program} {w:World} {A:Around} {E:Value->Shared->Prop} {s:Shared} {a:Addr} {es:Array (Int × Value)} {ep:Nat} {t:SetTable}
end
end Stb
namespace Srt
open PySem PySem.Spec PyProof.Rows PySem.W
section
variable {prog:Program} {w:World} {A:Around} {E:Value->Shared->Prop} {s:Shared}
end
end Srt
namespace L3
open PySem PySem.Spec PyProof.Rows L2
/-- a set that can be walked -/
def SetO (P:Program) (w:World) (a:Addr) (S:Int->Bool) (n:Nat):HO:=.ext fun h=>Stb.SetT P w h a S n
section
variable {X:Cx}
end
end L3
namespace L3
open PySem PySem.Spec PyProof.Rows L2
end L3
namespace L3
open PySem PySem.Spec PyProof.Rows L2
end L3
namespace L3
open PySem PySem.Spec PyProof.Rows L2
end L3
namespace L3
open PySem PySem.Spec PyProof.Rows L2
section
variable {g:TG} {tt:TT} {te:TE} {own:List Str} {js:List Nat} {σ:L2.St} {H1:Hp} {Q:VK}
end
/-- a row of whole numbers, of so many at the most -/
def RowV (lo hi:Nat) (J:Hp) (v:V):Prop:=∃ (p:Addr) (ns:List Int),v=.ref p∧J p=some (.tup (ns.map V.int))∧lo≤ns.length∧ns.length≤hi
theorem RowV.tk {lo hi:Nat} {J J':Hp} {v:V} (k:TupKeep J J') (h:RowV lo hi J v):RowV lo hi J' v:=let ⟨p,ns,e,e1,r⟩:=h;⟨p,ns,e,k _ _ e1,r⟩
end L3
namespace L3
open PySem PySem.Spec PyProof.Rows L2
end L3
namespace L3
open PySem PySem.Spec PyProof.Rows L2
mutual
theorem Is.tk {K:PySem.W.Frag} {H H':Hp} (e:TupKeep H H'):∀ (d:PyData) {v:V},tupD d=true->Is K H d v->Is K H' d v
 | .none,_,_,h=>h
 | .bool _,_,_,h=>h
 | .int _,_,_,h=>h
 | .str _,_,_,h=>h
 | .tuple ds,_,t,h=>let ⟨q,vs,q1,q2,q3⟩:=h;⟨q,vs,q1,e _ _ q2,IsAll.tk e ds t q3⟩
 | .list ds,_,t,h=>by cases t
 | .dict _,_,t,h=>by cases t
theorem IsAll.tk {K:PySem.W.Frag} {H H':Hp} (e:TupKeep H H'):∀ (ds:List PyData) {vs:List V},tupAll ds=true->IsAll K H ds vs->IsAll K H' ds vs
 | [],_,_,h=>h
 | d::ds,_,t,h=>by
  have t':(tupD d && tupAll ds)=true:=t
  rw[Bool.and_eq_true] at t'
  obtain⟨v,r,q1,q2,q3⟩:=h
  exact⟨v,r,q1,Is.tk e d t'.1 q2,IsAll.tk e ds t'.2 q3⟩
end
end L3
namespace Lr
open Far (chn chn_join chn_split chn_rev chn_at RingOf)
section
variable {R:Nat->Nat->Prop}
theorem chn_mono {R':Nat->Nat->Prop} (h:∀ u v,R u v->R' u v):∀ {l:List Nat},chn R l->chn R' l
 | [],_=>trivial
 | [_],_=>trivial
 | _::_::_,c=>⟨h _ _ c.1,chn_mono h c.2⟩
/-- a ring: h, then tl, and back to h -/
structure Rg (R:Nat->Nat->Prop) (h:Nat) (tl:List Nat):Prop where
 len:2≤tl.length
 nd:(h::tl).Nodup
 ch:chn R (h::tl++[h])
/-- a ring told as it should be: from its least place on, the smaller neighbour first -/
def Cano (h:Nat) (tl:List Nat):Prop:=(∀ v ∈ tl,h < v)∧∃ x m y,tl=x::(m++[y])∧x < y
theorem two_ends {tl:List Nat} (h:2≤tl.length):∃ x m y,tl=x::(m++[y]):=by
 match tl,h with
 | x::y::r,_ =>
  rcases List.eq_nil_or_concat (y::r) with e | ⟨m,z,e⟩
  ·cases e
  ·exact⟨x,m,z,by rw[e,List.concat_eq_append]⟩
theorem least_of:∀ {l:List Nat},l≠[]->∃ m ∈ l,∀ v ∈ l,m≤v
 | [],h=>absurd rfl h
 | [a],_=>⟨a,List.mem_cons_self,fun v hv=>by rw[List.mem_singleton.mp hv];exact Nat.le_refl _⟩
 | a::b::r,_=>by
  obtain⟨m,hm,h⟩:=least_of (l:=b::r) (by simp)
  by_cases c:a≤m
  ·refine⟨a,List.mem_cons_self,fun v hv=>?_⟩
   rcases List.mem_cons.mp hv with z | z
   ·rw[z];exact Nat.le_refl _
   ·exact Nat.le_trans c (h v z)
  ·refine⟨m,List.mem_cons_of_mem _ hm,fun v hv=>?_⟩
   rcases List.mem_cons.mp hv with z | z
   ·rw[z];omega
   ·exact h v z
/-- a ring turned -/
theorem Rg.turn (sy:∀ u v,R u v->R v u) {a:Nat} {w:List Nat} (r:Rg R a w) {h:Nat} {tl:List Nat} (o:RingOf (a::w) h tl):Rg R h tl:=by
 obtain⟨x,m,y,e⟩:=two_ends r.len
 have c:=r.ch
 have c0:chn R (a::w):=(chn_split (l:=a::w) (m:=[]) (x:=a) c |>.1 |> fun _=>by
  rcases List.eq_nil_or_concat w with z | ⟨w',z,ez⟩
  ·rw[z];trivial
  ·rw[ez,List.concat_eq_append] at c ⊢
   have:=(chn_split (l:=a::w') (x:=z) (m:=[a]) (by simpa using c)).1
   simpa using this)
 have cl:R y a:=by
  rw[e] at c
  have:=(chn_split (l:=a::x::m) (x:=y) (m:=[a]) (by simpa using c)).2
  exact this.1
 refine⟨?_,o.nodup r.nd,o.chn sy c0 (a:=a) (b:=y) (w1:=w) (w2:=a::x::m) rfl (by rw[e];simp) cl⟩
 have:=o.len
 have:=r.len
 simp at *
 omega
theorem Rg.cano (sy:∀ u v,R u v->R v u) {a:Nat} {w:List Nat} (r:Rg R a w):∃ h tl,Rg R h tl∧Cano h tl∧tl.length=w.length∧∀ v,v ∈ h::tl↔v ∈ a::w:=by
 obtain⟨h,hm,hl⟩:=least_of (l:=a::w) (by simp)
 obtain⟨p,q,e⟩:=List.append_of_mem hm
 have fin:∀ tl,RingOf (a::w) h tl->(∀ v ∈ tl,h < v)∧tl.length=w.length∧∀ v,v ∈ h::tl↔v ∈ a::w:=fun tl o=>by
  have nd:=o.nodup r.nd
  refine⟨fun v hv=>?_,?_,fun v=>o.mem⟩
  ·have:=hl v (o.mem.mp (List.mem_cons_of_mem _ hv))
   have ne:h≠v:=fun z=>(List.nodup_cons.mp nd).1 (z ▸ hv)
   omega
  ·have:=o.len
   simp at this;omega
 have o1:RingOf (a::w) h (q++p):=⟨p,q,e,.inl rfl⟩
 have o2:RingOf (a::w) h (q++p).reverse:=⟨p,q,e,.inr rfl⟩
 have r1:=r.turn sy o1
 obtain⟨x,m,y,e1⟩:=two_ends r1.len
 have ne:x≠y:=fun z=>by
  have nd:=(List.nodup_cons.mp r1.nd).2
  rw[e1] at nd
  exact (List.nodup_cons.mp nd).1 (by rw[z];simp)
 obtain⟨f1,f2,f3⟩:=fin _ o1
 obtain⟨g1,g2,g3⟩:=fin _ o2
 by_cases lt:x < y
 ·exact⟨h,_,r1,⟨f1,x,m,y,e1,lt⟩,f2,f3⟩
 ·refine⟨h,_,r.turn sy o2,⟨g1,y,m.reverse,x,?_,by omega⟩,g2,g3⟩
  rw[e1];simp
def stepW (rows:Nat->List Nat) (w:List Nat):List (List Nat):=((rows (w.getLast?.getD 0)).filter fun o=>decide (w.headD 0 < o) && !decide (o ∈ w)).map fun o=>w++[o]
def ways (rows:Nat->List Nat) (n:Nat):Nat->List (List Nat)
 | 0=>(List.range n).map fun v=>[v]
 | s + 1=>(ways rows n s).flatMap (stepW rows)
structure PW (R:Nat->Nat->Prop) (n:Nat) (w:List Nat):Prop where
 ne:w≠[]
 nd:w.Nodup
 ch:chn R w
 lt:∀ v ∈ w,v < n
 up:∀ h t,w=h::t->∀ v ∈ t,h < v
theorem snoc_parts {w:List Nat} (h:w≠[]):∃ p x,w=p++[x]:=by
 rcases List.eq_nil_or_concat w with z | ⟨p,x,e⟩
 ·exact absurd z h
 ·exact⟨p,x,by rw[e,List.concat_eq_append]⟩
section
variable {rows:Nat->List Nat} {n:Nat}
end
end
end Lr
namespace Lr
open Far (chn chn_join chn_split chn_rev chn_at RingOf)
/-- at most, as rows of numbers -/
def lle:List Nat->List Nat->Prop
 | [],_=>True
 | _::_,[]=>False
 | a::l,b::m=>a < b∨(a=b∧lle l m)
theorem lle_init:∀ {l m:List Nat} {x y:Nat},l.length=m.length->lle (l++[x]) (m++[y])->lle l m
 | [],_,_,_,_,_=>trivial
 | a::l,[],_,_,e,_=>by cases e
 | a::l,b::m,x,y,e,h=>h.imp id fun z=>⟨z.1,lle_init (by simpa using e) z.2⟩
section
variable {R:Nat->Nat->Prop}
/-- a shortest chain from v to z -/
structure Sh (R:Nat->Nat->Prop) (z v:Nat) (l:List Nat):Prop where
 ch:chn R (v::l)
 last:(v::l).getLast?=some z
 min:∀ l',chn R (v::l')->(v::l').getLast?=some z->l.length≤l'.length
theorem last_cons {u v:Nat} {l:List Nat}:(v::u::l).getLast?=(u::l).getLast?:=by simp
theorem Sh.tail {z v u:Nat} {l:List Nat} (h:Sh R z v (u::l)):Sh R z u l :=
 ⟨h.ch.2,by rw[← last_cons (v:=v)];exact h.last,fun l' c e=>by
  have:=h.min (u::l') ⟨h.ch.1,c⟩ (by rw[last_cons];exact e)
  simpa using this⟩
theorem Sh.nodup {z:Nat}:∀ {l:List Nat} {v:Nat},Sh R z v l->(v::l).Nodup
 | [],v,_=>by simp
 | u::l,v,h=>by
  refine List.nodup_cons.mpr ⟨fun m=>?_,h.tail.nodup⟩
  obtain⟨p,q,e⟩:=List.append_of_mem m
  have c:=h.ch
  have la:=h.last
  rw[e] at c la
  have c2:chn R (v::q):=(chn_split (l:=v::p) (x:=v) (m:=q) (by simpa using c)).2
  have l2:(v::q).getLast?=some z:=by
   rw[← la,← List.cons_append,List.getLast?_append]
   have:(v::q).getLast?=some ((v::q).getLast (by simp)):=List.getLast?_eq_some_getLast (by simp)
   rw[this];rfl
  have:=h.min q c2 l2
  have le:=congrArg List.length e
  simp only [List.length_append,List.length_cons] at this le
  omega
/-- how far, in steps -/
def Ds (R:Nat->Nat->Prop) (z:Nat) (D:Nat->Option Nat):Prop:=∀ v,(∀ m,D v=some m->∃ l,chn R (v::l)∧(v::l).getLast?=some z∧l.length=m)∧∀ l,chn R (v::l)->(v::l).getLast?=some z->∃ m,D v=some m∧m≤l.length
theorem Ds.sh {z:Nat} {D:Nat->Option Nat} (d:Ds R z D) {v m:Nat} {l:List Nat} (e:D v=some m) (c:chn R (v::l)) (la:(v::l).getLast?=some z):Sh R z v l↔l.length=m:=by
 constructor
 ·intro h
  obtain⟨l',c',e',len⟩:=(d v).1 m e
  have h1:=h.min l' c' e'
  obtain⟨m',em,le⟩:=(d v).2 l c la
  rw[e] at em
  cases em
  omega
 ·intro h
  refine⟨c,la,fun l' c' e'=>?_⟩
  obtain⟨m',em,le⟩:=(d v).2 l' c' e'
  rw[e] at em
  cases em
  omega
/-- without the tie between a and b -/
def Rm (R:Nat->Nat->Prop) (a b u v:Nat):Prop:=R u v∧¬ (u=a∧v=b)∧¬ (u=b∧v=a)
theorem Rm.sy (sy:∀ u v,R u v->R v u) {a b:Nat} (u v:Nat) (h:Rm R a b u v):Rm R a b v u:=⟨sy _ _ h.1,fun z=>h.2.2 ⟨z.2,z.1⟩,fun z=>h.2.1 ⟨z.2,z.1⟩⟩
theorem chn_imp {R':Nat->Nat->Prop} {z:Nat}:∀ {l:List Nat},(∀ u v,u ∈ l->R u v->R' u v)->chn R (l++[z])->chn R' (l++[z])
 | [],_,_=>trivial
 | [a],h,c=>⟨h _ _ List.mem_cons_self c.1,trivial⟩
 | a::b::l,h,c=>⟨h _ _ List.mem_cons_self c.1,chn_imp (l:=b::l) (fun u v hu=>h u v (List.mem_cons_of_mem _ hu)) c.2⟩
/-- a ring gives a chain round its first tie -/
theorem Rg.round {h x:Nat} {t:List Nat} (r:Rg R h (x::t)):chn (Rm R h x) (x::(t++[h]))∧(x::(t++[h])).getLast?=some h∧R h x:=by
 have nd:=r.nd
 have c:=r.ch
 have hx:h ∉ x::t:=(List.nodup_cons.mp nd).1
 have xt:x ∉ t:=(List.nodup_cons.mp (List.nodup_cons.mp nd).2).1
 refine⟨?_,by rw[← List.cons_append,List.getLast?_append];simp,c.1⟩
 have len:=r.len
 match t,len with
 | y::t',_ =>
  have c2:chn R (x::y::t'++[h]):=c.2
  refine⟨⟨c2.1,fun z=>hx (by rw[← z.1];simp),fun z=>hx (by rw[← z.2];simp)⟩,?_⟩
  refine chn_imp (l:=y::t') (fun u v hu ruv=>⟨ruv,fun z=>hx (by rw[← z.1];exact List.mem_cons_of_mem _ hu),fun z=>xt (by rw[← z.1];exact hu)⟩) c2.2
/-- and a shortest chain round a tie gives a ring -/
theorem Sh.ring {a b:Nat} {l:List Nat} (ab:R a b) (ne:a≠b) (s:Sh (Rm R a b) a b l):∃ m,l=m++[a]∧Rg R a (b::m):=by
 have la:=s.last
 cases l with
 | nil=>exact absurd (by simpa using la.symm) ne
 | cons y t =>
  obtain⟨m,x,e⟩:=snoc_parts (w:=y::t) (by simp)
  have ex:x=a:=by
   rw[last_cons,e] at la
   simpa using la
  subst ex
  refine⟨m,e,?_⟩
  have c:=s.ch
  rw[e] at c
  have nd:=s.nodup
  rw[e] at nd
  refine⟨?_,?_,?_⟩
  ·cases m with
   | nil=>exact absurd ⟨rfl,rfl⟩ c.1.2.2
   | cons _ _=>simp
  ·have p:(x::b::m).Perm (b::(m++[x])):=(List.perm_append_singleton x (b::m)).symm.trans (by simp)
   exact p.nodup_iff.mpr nd
  ·exact⟨ab,chn_mono (fun u v h=>h.1) c⟩
end
end Lr
namespace Lr
open Far (chn chn_join chn_split chn_rev chn_at RingOf)
structure Ties (R:Nat->Nat->Prop) (ks:List Nat) (ends:Nat->Nat × Nat):Prop where
 sy:∀ u v,R u v->R v u
 of:∀ k ∈ ks,(ends k).1 < (ends k).2∧R (ends k).1 (ends k).2
 to:∀ u v,R u v->u < v->∃ k ∈ ks,ends k=(u,v)
 up:∀ k ∈ ks,∀ j ∈ ks,k≤j->(ends k).1 < (ends j).1∨((ends k).1=(ends j).1∧(ends k).2≤(ends j).2)
section
variable {R:Nat->Nat->Prop} {ks:List Nat} {ends:Nat->Nat × Nat}
/-- a ring told as it should be has its first tie, and a chain round it -/
theorem Ties.first (T:Ties R ks ends) {h:Nat} {tl:List Nat} (r:Rg R h tl) (up:∀ v ∈ tl,h < v):∃ k ∈ ks,∃ x t,tl=x::t∧ends k=(h,x)∧chn (Rm R (ends k).1 (ends k).2) ((ends k).2::(t++[h]))∧((ends k).2::(t++[h])).getLast?=some (ends k).1∧(t++[h]).length=tl.length:=by
 obtain⟨x,m,y,e⟩:=two_ends r.len
 rw[e] at r
 obtain⟨c,la,rx⟩:=r.round
 obtain⟨k,hk,ek⟩:=T.to h x rx (up x (by rw[e];exact List.mem_cons_self))
 refine⟨k,hk,x,m++[y],e,ek,?_,?_,?_⟩
 ·rw[ek];exact c
 ·rw[ek];exact la
 ·rw[e];simp
theorem Ties.none (T:Ties R ks ends) (hno:∀ k ∈ ks,∀ l,chn (Rm R (ends k).1 (ends k).2) ((ends k).2::l)->((ends k).2::l).getLast?=some (ends k).1->False) (h:Nat) (tl:List Nat):¬ Rg R h tl:=fun r=>by
 obtain⟨h',tl',r',cn,_⟩:=r.cano T.sy
 obtain⟨k,hk,x,t,_,_,c,la,_⟩:=T.first r' cn.1
 exact hno k hk _ c la
theorem Ties.least (T:Ties R ks ends) {k0:Nat} (hk0:k0 ∈ ks) {l:List Nat} (sh:Sh (Rm R (ends k0).1 (ends k0).2) (ends k0).1 (ends k0).2 l) (lx:∀ l',Sh (Rm R (ends k0).1 (ends k0).2) (ends k0).1 (ends k0).2 l'->lle l l')
  (hm:∀ k ∈ ks,∀ l',chn (Rm R (ends k).1 (ends k).2) ((ends k).2::l')->((ends k).2::l').getLast?=some (ends k).1->l.length≤l'.length∧(k < k0->l.length < l'.length)) :
  ∃ m,l=m++[(ends k0).1]∧Rg R (ends k0).1 ((ends k0).2::m)∧Cano (ends k0).1 ((ends k0).2::m)∧(∀ h tl,Rg R h tl->((ends k0).2::m).length≤tl.length)∧∀ h tl,Rg R h tl->Cano h tl->tl.length=((ends k0).2::m).length->lle ((ends k0).1::(ends k0).2::m) (h::tl):=by
 obtain⟨ab,rab⟩:=T.of k0 hk0
 obtain⟨m,em,rg⟩:=sh.ring rab (Nat.ne_of_lt ab)
 have ll:l.length=((ends k0).2::m).length:=by rw[em];simp
 have low:∀ h tl,Rg R h tl->(∀ v ∈ tl,h < v)->l.length≤tl.length∧(tl.length=l.length->∃ x t,tl=x::t∧((ends k0).1 < h∨((ends k0).1=h∧(ends k0).2≤x))∧(x=(ends k0).2->h=(ends k0).1->Sh (Rm R (ends k0).1 (ends k0).2) (ends k0).1 (ends k0).2 (t++[h]))):=fun h tl r up=>by
  obtain⟨k,hk,x,t,e,ek,c,la,len⟩:=T.first r up
  have q:=hm k hk _ c la
  rw[len] at q
  refine⟨q.1,fun el=>⟨x,t,e,?_,fun ex eh=>?_⟩⟩
  ·have le:k0≤k:=Nat.le_of_not_lt fun z=>by have:=q.2 z;omega
   have:=T.up k0 hk0 k hk le
   rw[ek] at this
   exact this
  ·rw[ek] at c la
   simp only at c la
   rw[ex,eh] at c la
   refine⟨?_,?_,fun l' c' e'=>?_⟩
   ·rw[eh];exact c
   ·rw[eh];exact la
   ·have:=(hm k0 hk0 l' c' e').1
    rw[len,el];exact this
 have least:∀ v ∈ (ends k0).2::m,(ends k0).1 < v:=by
  obtain⟨h',tl',r',cn,len,mem⟩:=rg.cano T.sy
  obtain⟨_,q⟩:=low h' tl' r' cn.1
  obtain⟨x,t,e,o,_⟩:=q (by rw[len,ll])
  have ha:(ends k0).1 ∈ h'::tl':=(mem _).mpr List.mem_cons_self
  have hle:h'≤(ends k0).1:=by
   rcases List.mem_cons.mp ha with z | z
   ·rw[z];exact Nat.le_refl _
   ·exact Nat.le_of_lt (cn.1 _ z)
  have eh:h'=(ends k0).1:=by omega
  intro v hv
  have hv':v ∈ h'::tl':=(mem v).mpr (List.mem_cons_of_mem _ hv)
  rcases List.mem_cons.mp hv' with z | z
  ·exfalso
   rw[eh] at z
   exact (List.nodup_cons.mp rg.nd).1 (z ▸ hv)
  ·rw[← eh];exact cn.1 v z
 obtain⟨x,m',y,e⟩:=two_ends rg.len
 have ex:x=(ends k0).2:=by injection e with e _;exact e.symm
 have r2:Rg R (ends k0).1 ((ends k0).2::m).reverse:=rg.turn T.sy ⟨[],(ends k0).2::m,rfl,.inr (by simp)⟩
 have cano:Cano (ends k0).1 ((ends k0).2::m):=by
  refine⟨least,x,m',y,e,?_⟩
  obtain⟨_,q⟩:=low _ _ r2 fun v hv=>least v (List.mem_reverse.mp hv)
  obtain⟨x2,t,e2,o,_⟩:=q (by rw[List.length_reverse,ll])
  have ey:x2=y:=by
   rw[e] at e2
   simp at e2
   exact e2.1.symm
  have nd:=(List.nodup_cons.mp rg.nd).2
  rw[e] at nd
  have ne:x≠y:=fun z=>(List.nodup_cons.mp nd).1 (by rw[z];simp)
  omega
 refine⟨m,em,rg,cano,fun h tl r=>?_,fun h tl r cn el=>?_⟩
 ·obtain⟨h',tl',r',cn,len,_⟩:=r.cano T.sy
  have:=(low h' tl' r' cn.1).1
  omega
 ·obtain⟨_,q⟩:=low h tl r cn.1
  obtain⟨x,t,e,o,s2⟩:=q (by omega)
  rcases o with o | ⟨o1,o2⟩
  ·exact .inl o
  ·refine .inr ⟨o1,?_⟩
   rw[e]
   rcases Nat.lt_or_eq_of_le o2 with z | z
   ·exact .inl z
   ·refine .inr ⟨z,?_⟩
    have:=lx _ (s2 z.symm o1.symm)
    rw[em] at this
    refine lle_init ?_ this
    rw[e] at el
    simpa using el.symm
end
section
variable {R:Nat->Nat->Prop} {rows:Nat->List Nat} {n:Nat}
end
end Lr
namespace L3
open PySem PySem.Spec PyProof.Rows L2
section
variable {own:List Str} {js:List Nat} {g:TG} {te:TE} {σ:L2.St} {Q:VK} {H1:Hp}
end
/-- the list at l holds the lists at as, each its own, with these rows -/
structure Bes (H:Hp) (l:Addr) (as:List Addr) (rows:Nat->List V):Prop where
 top:H l=some (.lst (as.map V.ref))
 nd:as.Nodup
 own:l ∉ as
 row:∀ i a,as[i]?=some a->H a=some (.lst (rows i))
theorem Bes.new {H:Hp} {l:Addr} {as:List Addr} (h:H l=some (.lst (as.map V.ref))) (nd:as.Nodup) (no:l ∉ as) (r:∀ a ∈ as,H a=some (.lst [])):Bes H l as fun _=>[]:=⟨h,nd,no,fun _ a e=>r a (List.mem_of_getElem? e)⟩
theorem Bes.same {H H':Hp} {l:Addr} {as:List Addr} {rows:Nat->List V} (b:Bes H l as rows) (S:Same H H'):Bes H' l as rows:=⟨S _ _ b.top,b.nd,b.own,fun i a e=>S _ _ (b.row i a e)⟩
theorem Bes.ix {H:Hp} {l:Addr} {as:List Addr} {rows:Nat->List V} (b:Bes H l as rows) {i:Nat} (h:i < as.length):∃ a,as[i]?=some a∧(as.map V.ref)[i]?=some (.ref a)∧H a=some (.lst (rows i)):=by
 refine⟨as[i],List.getElem?_eq_getElem h,by rw[List.getElem?_map,List.getElem?_eq_getElem h];rfl,b.row i _ (List.getElem?_eq_getElem h)⟩
theorem Bes.put {H H':Hp} {l:Addr} {as:List Addr} {rows:Nat->List V} (b:Bes H l as rows) {i:Nat} {a:Addr} {xs:List V} (ha:as[i]?=some a) (B:But a H H') (e:H' a=some (.lst xs)):Bes H' l as fun j=>if j=i then xs else rows j:=by
 have nl:l≠a:=fun z=>b.own (z ▸ List.mem_of_getElem? ha)
 refine⟨B _ _ nl b.top,b.nd,b.own,fun j c hc=>?_⟩
 by_cases z:j=i
 ·subst z
  rw[hc] at ha;cases ha
  rw[if_pos rfl];exact e
 ·rw[if_neg z]
  refine B _ _ (fun x=>z ?_) (b.row j c hc)
  subst x
  obtain⟨h1,e1⟩:=List.getElem?_eq_some_iff.mp hc
  obtain⟨h2,e2⟩:=List.getElem?_eq_some_iff.mp ha
  have pw:=List.pairwise_iff_getElem.mp b.nd
  rcases Nat.lt_trichotomy j i with z | z | z
  ·exact absurd (e1.trans e2.symm) (pw j i h1 h2 z)
  ·exact z
  ·exact absurd (e2.trans e1.symm) (pw i j h2 h1 z)
/-- two ties with the same ends are one -/
theorem tie_oneB {n:Int} {ts:List Tie} (ok:WebOk n ts) {k k' a b:Nat} {l l':Int} (hk:k < ts.length) (hk':k' < ts.length) (h:(a,b,l) ∈ arcs2 (tieAt ts k)) (h':(a,b,l') ∈ arcs2 (tieAt ts k')):k=k':=by
 have t1:=ok.tie _ (tieAt_in hk).2
 have t2:=ok.tie _ (tieAt_in hk').2
 have E:=fun z=>ends_eq t1.1 t1.2.1 t2.1 t2.2.1 z
 have e:(tieAt ts k).1=(tieAt ts k').1∧(tieAt ts k).2.1=(tieAt ts k').2.1:=by
  rcases arcs2_mem.mp h with e | e <;> rcases arcs2_mem.mp h' with e' | e' <;> injection e with e1 e2 <;> injection e2 with e2 _ <;> injection e' with e3 e4 <;> injection e4 with e4 _
  ·exact E (.inl ⟨e1.symm.trans e3,e2.symm.trans e4⟩)
  ·exact E (.inr ⟨e1.symm.trans e3,e2.symm.trans e4⟩)
  ·exact E (.inr ⟨e2.symm.trans e4,e1.symm.trans e3⟩)
  ·exact E (.inl ⟨e2.symm.trans e4,e1.symm.trans e3⟩)
 exact tie_ends ok hk hk' e.1 e.2
/-- m unlike places beside j -/
def Uniq (ts:List Tie) (ks:List Nat) (j m:Nat):Prop:=∃ cs:List Nat,cs.Nodup∧cs.length=m∧∀ c ∈ cs,∃ k ∈ ks,∃ l,(j,c,l) ∈ arcs2 (tieAt ts k)
theorem Uniq.nil {ts:List Tie} {ks:List Nat} {j:Nat}:Uniq ts ks j 0:=⟨[],List.nodup_nil,rfl,fun c h=>by cases h⟩
theorem Uniq.same {ts:List Tie} {ks ks':List Nat} {j m:Nat} (h:Uniq ts ks j m) (s:∀ k ∈ ks,k ∈ ks'):Uniq ts ks' j m:=let ⟨cs,h1,h2,h3⟩:=h;⟨cs,h1,h2,fun c hc=>let ⟨k,hk,r⟩:=h3 c hc;⟨k,s k hk,r⟩⟩
theorem Uniq.more {n:Int} {ts:List Tie} {ks:List Nat} {j m c k:Nat} {l:Int} (ok:WebOk n ts) (ko:∀ k ∈ ks,k < ts.length) (hk:k < ts.length) (nk:k ∉ ks) (h:Uniq ts ks j m) (e:(j,c,l) ∈ arcs2 (tieAt ts k)):Uniq ts (ks++[k]) j (m + 1):=by
 obtain⟨cs,h1,h2,h3⟩:=h
 have nc:c ∉ cs:=fun z=>by
  obtain⟨k',hk',l',e'⟩:=h3 c z
  exact nk (tie_oneB ok hk (ko k' hk') e e' ▸ hk')
 refine⟨cs++[c],List.nodup_append.mpr ⟨h1,(by simp),fun a ha b hb x=>?_⟩,by rw[List.length_append,h2];rfl,fun d hd=>?_⟩
 ·have:b=c:=by simpa using hb
  subst this;subst x;exact nc ha
 ·rcases List.mem_append.mp hd with z | z
  ·obtain⟨k',hk',r⟩:=h3 d z
   exact⟨k',List.mem_append_left _ hk',r⟩
  ·rw[List.mem_singleton.mp z]
   exact⟨k,List.mem_append_right _ List.mem_cons_self,l,e⟩
theorem Uniq.few {n:Int} {ts:List Tie} {ks:List Nat} {j m:Nat} (ok:WebOk n ts) (ko:KeepOk ts.length ks) (h:Uniq ts ks j m):m≤n.toNat:=by
 obtain⟨cs,h1,h2,h3⟩:=h
 rw[← h2]
 exact Peel.len_below _ cs h1 fun c hc=>by
  obtain⟨k,hk,l,e⟩:=h3 c hc
  exact (arcs_in ok ko _ _ _ (arcs_mem.mpr ⟨k,hk,e⟩)).2
section
variable {X:Cx}
end
end L3
namespace L3
open PySem PySem.Spec PyProof.Rows L2
def Adj (ts:List Tie) (ks:List Nat) (u v:Nat):Prop:=∃ k ∈ ks,(u,v,(tieAt ts k).2.2) ∈ arcs2 (tieAt ts k)
def en (ts:List Tie) (k:Nat):Nat × Nat:=((tieAt ts k).1.toNat,(tieAt ts k).2.1.toNat)
section
variable {n:Int} {ts:List Tie} {ks:List Nat} {u v k:Nat}
end
def IsLR (ts:List Tie) (ks:List Nat) (h:Nat) (tl:List Nat):Prop:=Lr.Rg (Adj ts ks) h tl∧Lr.Cano h tl∧(∀ h' tl',Lr.Rg (Adj ts ks) h' tl'->tl.length≤tl'.length)∧∀ h' tl',Lr.Rg (Adj ts ks) h' tl'->Lr.Cano h' tl'->tl'.length=tl.length->Lr.lle (h::tl) (h'::tl')
theorem lle_anti:∀ {l m:List Nat},l.length=m.length->Lr.lle l m->Lr.lle m l->l=m
 | [],[],_,_,_=>rfl
 | [],_::_,e,_,_=>by cases e
 | _::_,[],e,_,_=>by cases e
 | a::l,b::m,e,h1,h2=>by
  rcases h1 with z | ⟨z,h1⟩
  ·rcases h2 with y | ⟨y,_⟩ <;> omega
  ·subst z
   rcases h2 with y | ⟨_,h2⟩
   ·omega
   ·rw[lle_anti (by simpa using e) h1 h2]
theorem IsLR.one {ts:List Tie} {ks:List Nat} {h h':Nat} {tl tl':List Nat} (a:IsLR ts ks h tl) (b:IsLR ts ks h' tl'):h::tl=h'::tl':=by
 have l1:=a.2.2.1 _ _ b.1
 have l2:=b.2.2.1 _ _ a.1
 have e:tl.length=tl'.length:=Nat.le_antisymm l1 l2
 exact lle_anti (by simp [e]) (a.2.2.2 _ _ b.1 b.2.1 e.symm) (b.2.2.2 _ _ a.1 a.2.1 e)
end L3
namespace L3
open PySem PySem.Spec PyProof.Rows L2
theorem Bes.but {H H':Hp} {l c:Addr} {as:List Addr} {rows:Nat->List V} (b:Bes H l as rows) (nl:l≠c) (na:c ∉ as) (B:But c H H'):Bes H' l as rows:=⟨B _ _ nl b.top,b.nd,b.own,fun i a e=>B _ _ (fun z=>na (z ▸ List.mem_of_getElem? e)) (b.row i a e)⟩
theorem get_set (E:List (Option Nat)) {i v:Nat} (x:Nat) (h:i < E.length):Far.get (E.set i (some x)) v=if v=i then some x else Far.get E v:=by
 unfold Far.get
 rw[List.getD_eq_getElem?_getD,List.getD_eq_getElem?_getD]
 by_cases z:v=i
 ·subst z
  rw[if_pos rfl,List.getElem?_set_self h];rfl
 ·rw[if_neg z,List.getElem?_set_ne (Ne.symm z)]
section
variable {n g:Int} {ts:List Tie} {ks:List Nat} {k:Nat}
end
end L3
namespace L3
open PySem PySem.Spec PyProof.Rows L2
def PapV (H:Hp) (lo hi m:Nat) (v:V):Prop:=∃ p xs,v=.ref p∧H p=some (.tup xs)∧xs.length≤m∧∀ u ∈ xs,RowV lo hi H u
theorem PapV.tk {H H':Hp} {lo hi m:Nat} {v:V} (k:TupKeep H H') (h:PapV H lo hi m v):PapV H' lo hi m v:=let ⟨p,xs,e,e1,l,r⟩:=h;⟨p,xs,e,k _ _ e1,l,fun u hu=>(r u hu).tk k⟩
theorem Same.tk {H H':Hp} (s:Same H H'):TupKeep H H':=fun a xs e=>s _ _ e
end L3
namespace L3
open PySem PySem.Spec PyProof.Rows L2
section
variable {near kept:Nat->Nat->Option Int} {u v:Nat} {r:List (Nat × Nat)} {m:Int × Int × Int} {x y:Int}
end
/-- a web and a keep of it, a tuple or a list -/
def WKE (K:PySem.W.Frag) (H:Hp) (n:Int) (ts:List Tie) (ks:List Nat) (wv:V) (kp:Addr) (tp:Bool):Prop:=Is K H (webD n ts) wv∧WebOk n ts∧H kp=some (if tp=true then .tup (natV ks) else .lst (natV ks))∧KeepOk ts.length ks
theorem WKE.same {K:PySem.W.Frag} {H H':Hp} {n:Int} {ts:List Tie} {ks:List Nat} {wv:V} {kp:Addr} {tp:Bool} (h:WKE K H n ts ks wv kp tp) (s:Same H H'):WKE K H' n ts ks wv kp tp:=⟨Is.same s _ h.1,h.2.1,s _ _ h.2.2.1,h.2.2.2⟩
section
variable {g:TG} {tt:TT} {te:TE} {own:List Str} {js:List Nat} {σ:L2.St} {H1:Hp} {Q:VK}
end
theorem cut_toK (xs:List V) (k:Nat):cutV xs none (some (k:Int))=xs.take k:=by
 unfold cutV
 rw[HT.sIx_none,HT.sIx_nat,List.drop_zero,Nat.sub_zero]
 by_cases z:k≤xs.length
 ·rw[Nat.min_eq_left z]
 ·rw[Nat.min_eq_right (by omega),List.take_of_length_le (Nat.le_refl _),List.take_of_length_le (by omega)]
theorem cut_fromK (xs:List V) (k:Nat):cutV xs (some (k:Int)) none=xs.drop k:=by
 unfold cutV
 rw[HT.sIx_none,HT.sIx_nat]
 by_cases z:k≤xs.length
 ·rw[Nat.min_eq_left z,List.take_of_length_le (by rw[List.length_drop];exact Nat.le_refl _)]
 ·rw[Nat.min_eq_right (by omega),List.drop_eq_nil_of_le (Nat.le_refl _),List.drop_eq_nil_of_le (show xs.length≤k by omega),List.take_nil]
end L3
namespace X9
open PySem PySem.Spec PyProof.Rows
/-- what a change leaves: all but the thing at a, those of X, and slots of those of S -/
structure Chg (S:List Addr) (a:Addr) (X:List Addr) (h h':Heap):Prop where
 keep:∀ b o,b ∉ S->b≠a->b ∉ X->h.get? b=some o->h'.get? b=some o
 slot:∀ b o,b≠a->b ∉ X->h.get? b=some o->∃ sl,h'.get? b=some { o with slots:=sl }
 sz:h.objs.size≤h'.objs.size
/-- an exception on its way: its class, its newest entry -/
structure Fly (h:Heap) (a:Addr) (C:Value) (T:Addr):Prop where
 ex:∃ oe vs,h.get? a=some oe∧oe.cls=C∧oe.data=.fields vs∧vs[1]?=some (.ref T)∧oe.dict=none
 tr:∃ oT ts,h.get? T=some oT∧oT.data=.fields ts∧ts[3]?=some .none
 ne:T≠a
theorem dict_map {o:Obj} {vs:Array Value} {f:Array Value->Array Value} (dv:o.data=.fields vs) (dn:o.dict=none):(o.mapFields f).dict=none:=by
 obtain⟨c,d,dt,sl⟩:=o
 cases dv
 exact dn
section
variable {M:Model} {A:Around} {E:Value->Shared->Prop} {s:Shared}
theorem newEntryS {base:Heap} {env:Env} {outer:List Env} {L a:Addr} {oe:Obj} {vs:Array Value} {hd0:Value} {nx:Bool} {Q:Unit->Shared->Prop}
  (fr:A.frames=some (env::outer)) (ff:s.heap.FunFrames base (env::outer)) (fL:env.frame=some L)
  (ha:s.heap.get? a=some oe) (dv:oe.data=.fields vs) (dn:oe.dict=none) (l1:1 < vs.size)
  (q:∀ h' T,s.heap.objs.size≤T->Chg ((env::outer).filterMap (·.frame)) a [] s.heap h'->Fly h' a oe.cls T->Q () { s with heap:=h' }) :
  wpAny M A (do let x ← frameOf env;let pl ← entryPlaceOf L nx;let b ← EntryCells.newEntry hd0 x .none (rawInt L) .none pl;setField (.ref a) 1 b)
   (fun _ s'=>wpAny M A (setFlight (.ref a) none) Q E s') E s:=by
 have nS:a ∉ (env::outer).filterMap (·.frame):=fun m=>by
  obtain⟨_,o,h1,h2⟩:=ff.mem m
  rw[ha] at h1;cases h1;exact h2 vs dv
 refine wpAny_bind (wpAny_frameOf_fun fr ff fL fun h1 so=>wpAny_bind (wpAny_entryPlaceOf fun pl hp=>?_))
 unfold EntryCells.newEntry newFields
 refine wpAny_bind (wpAny_newObj_type ?_ (hp.sizeOk5 _ _ _ _ _))
 have a1:h1.get? a=some oe:=(so.2.1 a nS).trans ha
 have n1:h1.objs.size≠a:=Nat.ne_of_gt (Heap.lt_size a1)
 generalize eo:({ cls:=.type "traceback",dict:=none,data:=.fields ([hd0,.ref L,.none,rawInt L,.none]++(if pl.isEmpty then List.replicate 6 Value.none else pl)).toArray }:Obj)=tb
 have dtb:∃ ws:Array Value,tb.data=.fields ws∧3 < ws.size:=by
  rw[← eo]
  exact⟨_,rfl,by simp only [List.size_toArray,List.length_append,List.length_cons,List.length_nil];omega⟩
 obtain⟨ws,dws,l3⟩:=dtb
 have nf:tb.isFreed=false:=Obj.isFreed_of_fields dws
 have a2:(h1.push tb).get? a=some oe:=Heap.get?_push_of_some tb a1
 refine wpAny_setField a2 dv l1 ?_
 have d3:=Obj.data_mapFields dv (·.setIfInBounds 1 (Value.ref h1.objs.size))
 have a3:=Heap.get?_update_self (Obj.mapFields (·.setIfInBounds 1 (Value.ref h1.objs.size))) a2 (Obj.isFreed_of_fields d3)
 have t3:((h1.push tb).update a (Obj.mapFields (·.setIfInBounds 1 (Value.ref h1.objs.size)))).get? h1.objs.size=some tb :=
  (Heap.get?_update_other _ _ n1.symm).trans (Heap.get?_push_size h1 nf)
 unfold setFlight
 refine wpAny_bind (wpAny_field a3 d3 (x:=.ref h1.objs.size) (by simp [l1]) ?_)
 rw[if_pos (show (Value.ref h1.objs.size != Value.none)=true by simp)]
 refine wpAny_setField t3 dws l3 (q _ h1.objs.size (Nat.le_of_eq so.1.symm) ⟨fun b o hb ne _ e=>?_,fun b o ne _ e=>?_,?_⟩ ?_)
 ·have e1:h1.get? b=some o:=(so.2.1 b hb).trans e
  rw[Heap.get?_update_other _ _ (Nat.ne_of_gt (Heap.lt_size e1)),Heap.get?_update_other _ _ ne.symm]
  exact Heap.get?_push_of_some tb e1
 ·obtain⟨sl,e1⟩:=so.2.2 b o e
  refine⟨sl,?_⟩
  rw[Heap.get?_update_other _ _ (Nat.ne_of_gt (Heap.lt_size e1)),Heap.get?_update_other _ _ ne.symm]
  exact Heap.get?_push_of_some tb e1
 ·show s.heap.objs.size≤_
  rw[Heap.size_after_update,Heap.size_after_update,Heap.size_push,so.1];exact Nat.le_succ _
 ·refine⟨⟨_,_,(Heap.get?_update_other _ _ n1).trans a3,Obj.cls_mapFields _ _,d3,by simp [l1],dict_map dv dn⟩,⟨_,_,Heap.get?_update_self _ t3 (Obj.isFreed_of_fields (Obj.data_mapFields dws _)),Obj.data_mapFields dws _,by simp [l3]⟩,n1⟩
theorem leave_new {base:Heap} {env:Env} {outer:List Env} {L a:Addr} {oe:Obj} {vs:Array Value} {Q:Unit->Shared->Prop}
  (fr:A.frames=some (env::outer)) (ff:s.heap.FunFrames base (env::outer)) (fL:env.frame=some L) (ha:s.heap.get? a=some oe) (dv:oe.data=.fields vs) (dn:oe.dict=none) (v1:vs[1]?=some .none)
  (q:∀ h' T,s.heap.objs.size≤T->Chg ((env::outer).filterMap (·.frame)) a [] s.heap h'->Fly h' a oe.cls T->Q () { s with heap:=h' }):wpAny M A (leaving env (.ref a)) Q E s:=by
 unfold leaving noteFrame
 simp only [fL]
 refine wpAny_bind (wpAny_bind (wpAny_field ha dv v1 ?_))
 rw[if_neg (by decide)]
 exact newEntryS fr ff fL ha dv dn (Array.getElem?_eq_some_iff.mp v1).1 q
theorem leave_on {base:Heap} {env:Env} {outer:List Env} {L a T0:Addr} {C:Value} {Q:Unit->Shared->Prop}
  (fr:A.frames=some (env::outer)) (ff:s.heap.FunFrames base (env::outer)) (fL:env.frame=some L) (fl:Fly s.heap a C T0)
  (q:∀ h' T,s.heap.objs.size≤T->Chg ((env::outer).filterMap (·.frame)) a [T0] s.heap h'->Fly h' a C T->Q () { s with heap:=h' }):wpAny M A (leaving env (.ref a)) Q E s:=by
 obtain⟨⟨oe,vs,ha,hc,dv,v1,dn⟩,⟨oT,ts,hT,dT,t3⟩,ne⟩:=fl
 subst hc
 unfold leaving noteFrame
 simp only [fL]
 refine wpAny_bind (wpAny_bind (wpAny_field ha dv v1 ?_))
 rw[if_pos (show (Value.ref T0 != Value.none)=true by simp)]
 refine wpAny_bind (wpAny_field hT dT t3 ?_)
 rw[if_neg (show ¬ ((Value.none == rawInt L)=true) by simp [rawInt])]
 refine wpAny_bind (wpAny_setField hT dT (Array.getElem?_eq_some_iff.mp t3).1 ?_)
 have oth:∀ b,b≠T0->(s.heap.update T0 (Obj.mapFields (·.setIfInBounds 3 Value.none))).get? b=s.heap.get? b:=fun b hb=>Heap.get?_update_other _ _ hb.symm
 have rec_:∀ b o,s.heap.get? b=some o->(∀ ws,o.data≠.fields ws)->b≠T0:=fun b o e n z=>by
  rw[z,hT] at e;cases e;exact n ts dT
 refine newEntryS (base:=base) fr (ff.of_keeps fun b o e n=>⟨o,(oth b (rec_ b o e n)).trans e,rfl⟩) fL ((oth a ne.symm).trans ha) dv dn (Array.getElem?_eq_some_iff.mp v1).1 fun h' T lt cg fl'=>?_
 refine q h' T (Nat.le_trans (Nat.le_of_eq (Heap.size_after_update ..).symm) lt) ⟨fun b o hb n1 n2 e=>?_,fun b o n1 n2 e=>?_,Nat.le_trans (Nat.le_of_eq (Heap.size_after_update ..).symm) cg.sz⟩ fl'
 ·exact cg.keep b o hb n1 (by simp) ((oth b (by simpa using n2)).trans e)
 ·exact cg.slot b o n1 (by simp) ((oth b (by simpa using n2)).trans e)
theorem note_on {base:Heap} {env:Env} {outer:List Env} {L a T0:Addr} {C:Value} {Q:Unit->Shared->Prop}
  (fr:A.frames=some (env::outer)) (ff:s.heap.FunFrames base (env::outer)) (fL:env.frame=some L) (fl:Fly s.heap a C T0)
  (q:∀ h' T,s.heap.objs.size≤T->Chg ((env::outer).filterMap (·.frame)) a [T0] s.heap h'->Fly h' a C T->Q () { s with heap:=h' }):wpAny M A (noteFrame (.ref a) env) (fun _ s'=>wpAny M A (setFlight (.ref a) none) Q E s') E s:=by
 obtain⟨⟨oe,vs,ha,hc,dv,v1,dn⟩,⟨oT,ts,hT,dT,t3⟩,ne⟩:=fl
 subst hc
 unfold noteFrame
 simp only [fL]
 refine wpAny_bind (wpAny_field ha dv v1 ?_)
 rw[if_pos (show (Value.ref T0 != Value.none)=true by simp)]
 refine wpAny_bind (wpAny_field hT dT t3 ?_)
 rw[if_neg (show ¬ ((Value.none == rawInt L)=true) by simp [rawInt])]
 refine wpAny_bind (wpAny_setField hT dT (Array.getElem?_eq_some_iff.mp t3).1 ?_)
 have oth:∀ b,b≠T0->(s.heap.update T0 (Obj.mapFields (·.setIfInBounds 3 Value.none))).get? b=s.heap.get? b:=fun b hb=>Heap.get?_update_other _ _ hb.symm
 have rec_:∀ b o,s.heap.get? b=some o->(∀ ws,o.data≠.fields ws)->b≠T0:=fun b o e n z=>by
  rw[z,hT] at e;cases e;exact n ts dT
 refine newEntryS (base:=base) fr (ff.of_keeps fun b o e n=>⟨o,(oth b (rec_ b o e n)).trans e,rfl⟩) fL ((oth a ne.symm).trans ha) dv dn (Array.getElem?_eq_some_iff.mp v1).1 fun h' T lt cg fl'=>?_
 refine q h' T (Nat.le_trans (Nat.le_of_eq (Heap.size_after_update ..).symm) lt) ⟨fun b o hb n1 n2 e=>?_,fun b o n1 n2 e=>?_,Nat.le_trans (Nat.le_of_eq (Heap.size_after_update ..).symm) cg.sz⟩ fl'
 ·exact cg.keep b o hb n1 (by simp) ((oth b (by simpa using n2)).trans e)
 ·exact cg.slot b o n1 (by simp) ((oth b (by simpa using n2)).trans e)
end
end X9
namespace X9
open PySem PySem.Spec PyProof.Rows PySem.W
/-- what is asked of the class of an exception -/
structure XC (K:Frag) (C:Addr):Prop where
 ga:findIn K (.ref C) "__getattribute__"=some (some (.builtin "BaseException.__getattribute__"))
 gt:findIn K (.ref C) "__getattr__"=some none
 cl:findIn K (.ref C) "__class__"=some (some (.builtin "object.__class__"))
 ob:mroIn K C (.type "object")=some true
 be:subIn K (.ref C) (.type "BaseException")=some true
 is:(clsIn K C).isSome=true
section
variable {prog:Program} {w:World} {A:Around} {E:Value->Shared->Prop} {K:Frag} {h:Heap} {g:Array GenState} {d:Drawn} {t:Nat} {os:OsState} {a C:Addr} {o:Obj}
theorem cls_entry {tk:Tok} {Q:Fin->Shared->Prop} (c:XC K C) (X:K.In h) (hx:h.get? a=some o) (hc:o.cls=.ref C) (hd:∃ vs,o.data=.fields vs) (hdn:o.dict=none) (hq:Q (.done (.ret (.ref C))) ⟨h,g,d,t,os⟩) :
  wpAny (model prog w) A (Builtin.«object.__getattribute__» ⟨[.ref a,.str "__class__" tk],[]⟩) Q E ⟨h,g,d,t,os⟩:=by
 have I:InstAt h a o C none:=⟨hx,hc,by obtain⟨vs,e⟩:=hd;unfold notCls;rw[e],by rw[hdn];trivial⟩
 have L0:=I.type (M:=model prog w)
 have L1:=looks_findIn (M:=model prog w) X c.cl
 have hT5:(⟨h,g,d,t,os⟩:Shared).TypeIs (.builtin "object.__class__") "getset_descriptor":=F.typeOf_object_class
 have f5:=F.typeOf_object_class
 have f6:=F.slot_gs_get.lookup
 have f7:=F.slot_gs_set.lookup
 repeat (any_goals (first | assumption | (with_reducible refine wpAny_loadPart_at hx ?_;rw[hc]) | (with_reducible refine L1.at ?_) | wp_step))
 refine class_get X I c.ob ?_
 exact wpAny_pure hq
theorem cls_check {M:Model} {nv:Value} {Q:Unit->Shared->Prop} (c:XC K C) (X:K.In h) (hx:h.get? a=some o) (hc:o.cls=.ref C) (hd:∃ vs,o.data=.fields vs) (hdn:o.dict=none) (hq:Q () ⟨h,g,d,t,os⟩) :
  wpAny M A (checkBuiltinCall "BaseException.__getattribute__" ⟨[.ref a,nv],[]⟩) Q E ⟨h,g,d,t,os⟩:=by
 have hk:builtinKind "BaseException.__getattribute__"=some .slot:=by decide +kernel
 have hs:splitId "BaseException.__getattribute__"=some ("BaseException","__getattribute__"):=by decide +kernel
 have ha:=F.args_bexc_ga (.ref a) nv
 have I:InstAt h a o C none:=⟨hx,hc,by obtain⟨vs,e⟩:=hd;unfold notCls;rw[e],by rw[hdn];trivial⟩
 have L0:=I.type (M:=M)
 have L1:=looks_subIn (M:=M) X c.be
 simp only [checkBuiltinCall,hk,hs]
 refine wpAny_bind ?_
 unfold isInstance
 refine wpAny_bind (L0.at (L1.at ?_))
 repeat (any_goals (first | assumption | wp_step))
theorem cls_by {tk:Tok} {Q:Value->Shared->Prop} (c:XC K C) (X:K.In h) (hx:h.get? a=some o) (hc:o.cls=.ref C) (hd:∃ vs,o.data=.fields vs) (hdn:o.dict=none) (hq:Q (.ref C) ⟨h,g,d,t,os⟩) :
  wpAny (model prog w) A (getAttrBy (.ref a) (.str "__class__" tk) false) Q E ⟨h,g,d,t,os⟩:=by
 have I:InstAt h a o C none:=⟨hx,hc,by obtain⟨vs,e⟩:=hd;unfold notCls;rw[e],by rw[hdn];trivial⟩
 have L0:=I.type (M:=model prog w)
 have L1:=looks_findIn (M:=model prog w) X c.ga
 have L2:=looks_findIn (M:=model prog w) X c.gt
 have f3:=PySem.F.excAttr_ValueError.ga.bind (.ref a)
 have hx2:(Value.builtin "BaseException.__getattribute__" == Value.builtin "object.__getattribute__")=false:=by decide +kernel
 have hx1:(onTheHeap (Value.ref C) && Value.builtin "BaseException.__getattribute__" == Value.builtin "object.__getattribute__")=false:=by rw[hx2];rfl
 unfold getAttrBy
 refine wpAny_holding (wpAny_bind (L0.at (wpAny_bind (L1.at ?_))))
 simp only [hx1]
 rw[if_neg (by decide)]
 unfold getAttrByItsOwn hookBefore
 rw[if_pos (show onTheHeap (Value.ref C)=true from rfl)]
 refine wpAny_bind (L2.at (wpAny_bind (wpAny_attempt (wpAny_holding ?_))))
 unfold callGetattribute
 rw[if_neg (by decide)]
 unfold boundAndCalled
 rw[f3]
 refine wpAny_bind (wpAny_pure ?_)
 refine wpAny_call (codeAny_call_builtin PySem.F.excAttr_ValueError.ga.plain F.entry_bexc_ga (cls_check c X hx hc hd hdn (cls_entry c X hx hc hd hdn ?_)))
 repeat (any_goals (first | assumption | wp_step))
theorem cls_attr {Q:Option Value->Shared->Prop} (c:XC K C) (X:K.In h) (hx:h.get? a=some o) (hc:o.cls=.ref C) (hd:∃ vs,o.data=.fields vs) (hdn:o.dict=none) (hq:Q (some (.ref C)) ⟨h,g,d,t + 1,os⟩) :
  wpAny (model prog w) A (getAttr? (.ref a) "__class__") Q E ⟨h,g,d,t,os⟩:=by
 unfold getAttr? getAttrBy?
 refine wpAny_bind (wpAny_mkText (wpAny_bind (wpAny_attempt (cls_by c X hx hc hd hdn ?_))))
 exact wpAny_pure hq
end
/-- the thing at a is an exception of the class at C -/
def IsX (a C:Addr) (h:Heap):Prop:=∃ o,h.get? a=some o∧o.cls=.ref C∧(∃ vs,o.data=.fields vs)∧o.dict=none
theorem IsX.no {a C:Addr} {h:Heap} (x:IsX a C h):∃ o,InstAt h a o C none:=by
 obtain⟨o,hx,hc,hd,hdn⟩:=x
 exact⟨o,hx,hc,by obtain⟨vs,e⟩:=hd;unfold notCls;rw[e],by rw[hdn];trivial⟩
theorem kitx_exc {K:Frag} {a C:Addr} (c:XC K C):KitX K (.ref a) (.ref C) (IsX a C) where
 ty:=fun _ _ _ x=>let ⟨_,I⟩:=x.no;I.type
 it:=fun _ _ X _=>by
  have z:=c.is
  unfold clsIn at z
  split at z
  ·rename_i e
   intro A' Q' E' s' k q
   unfold isType loadHead
   exact wpAny_bind (wpAny_loadPart (k _ _ (X _ _ e)) (wpAny_pure q))
  ·cases z
 ne:=fun h tp dd its n sl X e=>by
  refine Bool.eq_false_iff.mpr fun q=>?_
  have z:=c.is
  cases Value.ref.inj (beq_iff_eq.mp q)
  unfold clsIn at z
  split at z
  ·rename_i e2
   cases (X _ _ e2).symm.trans e
  ·cases z
 ca:=fun {_ _ _ _ _ s} X x k=>by
  obtain⟨h,g,d,t,os⟩:=s
  obtain⟨o,hx,hc,hd,hdn⟩:=x
  exact cls_attr c X hx hc hd hdn k
end X9
namespace X9
open PySem PySem.Spec PyProof.Rows
theorem find_erase {α:Type} {p:α->Bool}:∀ {l:List α} {i:Nat},(∀ x,l[i]?=some x->p x=false)->(l.eraseIdx i).find? p=l.find? p
 | [],i,_=>by simp
 | a::l,0,h=>by
  have:=h a rfl
  simp [List.find?_cons,this]
 | a::l,i + 1,h=>by
  rw[List.eraseIdx_cons_succ,List.find?_cons,List.find?_cons,find_erase (l:=l) (i:=i) fun x e=>h x (by simpa using e)]
theorem str_one {v:Value} {x y:Str} (h:v.isStr x=true) (n:y≠x):v.isStr y=false:=by
 cases v with
 | str s t =>
  have e:s=x:=by simpa [Value.isStr] using h
  subst e
  simpa [Value.isStr] using fun z=>n z.symm
 | _=>cases h
section
variable {M:Model} {A:Around} {E:Value->Shared->Prop} {s:Shared}
theorem nsDelS {a:Addr} {m:Str->Option Value} {name:Str} {Q:Bool->Shared->Prop} (hn:s.heap.Ns a m) (hs:(m name).isSome=true)
  (hQ:∀ h' m',h'.Ns a m'->(∀ x,x≠name->m' x=m x)->Heap.SameBut a s.heap h'->Q true { s with heap:=h' }):wpAny M A (nsDel a name) Q E s:=by
 obtain⟨o,es,ep,ho,hd,hk,hm⟩:=id hn
 have has:es.any (·.key.isStr name)=true:=by
  rw[← hm name] at hs
  unfold nsFind findBy at hs
  rw[Option.isSome_map,Array.find?_isSome] at hs
  obtain⟨x,hx,hp⟩:=hs
  rw[Array.any_eq_true]
  obtain⟨i,hi,rfl⟩:=Array.mem_iff_getElem.mp hx
  exact⟨i,hi,hp⟩
 have hh:nsHas name o=pure true:=by
  rw[nsHas_eq];unfold nsHasByArray;rw[hd]
  show (if (es.any fun x=>x.key.isStr name)=true then _ else _)=_
  rw[has];rfl
 unfold nsDel
 refine wpAny_bind (wpAny_loadPart ho ?_)
 rw[hh]
 refine wpAny_bind (wpAny_pure ?_)
 rw[if_pos rfl]
 refine wpAny_bind (wpAny_updatePart ho (wpAny_pure ?_))
 obtain⟨cl,d,dt,sl⟩:=o
 subst hd
 cases hi:es.findIdx? (·.key.isStr name) with
 | none =>
  rw[Array.findIdx?_eq_none_iff] at hi
  rw[Array.any_eq_true] at has
  obtain⟨i,h1,h2⟩:=has
  have:=hi _ (Array.getElem_mem h1)
  rw[h2] at this;cases this
 | some i =>
  have e1:(Obj.dropName name ⟨cl,d,.dict es ep,sl⟩)=⟨cl,d,.dict (es.eraseIdxIfInBounds i) (ep + 1),sl⟩:=by
   simp only [Obj.dropName_eq,Obj.dropNameByArray,hi] <;> rfl
  have g:=Heap.get?_update_self (Obj.dropName name) ho (by rw[e1];rfl)
  rw[e1] at g
  refine hQ _ (nsFind (es.eraseIdxIfInBounds i)) ⟨_,_,_,g,rfl,hk.erase i,fun _=>rfl⟩ (fun x nx=>?_) (Heap.SameBut.update ..)
  rw[← hm x]
  unfold nsFind findBy
  rw[← Array.find?_toList,← Array.find?_toList,Array.toList_eraseIdxIfInBounds]
  rw[find_erase]
  intro y hy
  obtain⟨h1,h2,_⟩:=Array.findIdx?_eq_some_iff_getElem.mp hi
  rw[Array.getElem?_toList,Array.getElem?_eq_getElem h1] at hy
  cases hy
  exact str_one h2 nx
/-- the name of an except clause goes; the others stay -/
theorem nameGoesS {env:Env} {n:Str} {pos:Pos} {m:Str->Option Value} {Q:Unit->Shared->Prop} (hl:env.kindOf n=some .local) (hn:s.heap.Ns env.locals m)
  (hp:(env.scope.kind == .class || (env.scope.kind == .module && env.locals != env.globals))=false)
  (h:∀ h' m',h'.Ns env.locals m'->(∀ x,x≠n->m' x=m x)->Heap.SameBut env.locals s.heap h'->Q () { s with heap:=h',toks:=s.toks + 1 }) :
  wpAny M A (do bindName env n .none;unbindBehindTheSuite env n pos) Q E s:=by
 refine wpAny_bind (wpAny_bindName (wpAny_storeName_local hl hn (fun h1 n1 s1=>?_) hp))
 unfold unbindBehindTheSuite
 refine wpAny_onRaise ?_
 unfold unbindName
 refine wpAny_bind (wpAny_point (wpAny_bind ?_))
 unfold deleteName
 simp only [hl,hp]
 rw[if_neg (by decide)]
 refine wpAny_bind (nsDelS n1 (by simp) fun h2 m2 n2 k2 s2=>?_)
 simp only [if_true,Bool.not_true,Bool.false_eq_true,if_false]
 exact wpAny_pure (wpAny_point (h h2 m2 n2 (fun x nx=>by rw[k2 x nx];simp [nx]) (s1.trans s2)))
end
end X9
namespace L3
open PySem PySem.Spec PyProof.Rows L2 X9
/-- how an exception lies behind a call -/
def CX1 (P:Program) (w:World):CXT:=fun outer H s E e s'=>∃ a C T H',e=.ref a∧s'.os=s.os∧AllBare s'.gens∧Un (frs outer) [] H H' s.heap s'.heap∧HOk P w H' s'.heap∧Fly s'.heap a (.ref C) T ∧
 s.heap.get? a=none∧s.heap.get? T=none∧H' a=none∧H' T=none∧E (.ref C) none H'
section
variable {X:Cx} {pins:List (Addr × Obj)} {σ:L2.St} {H:Hp} {s:Shared}
/-- the frames' slots, the exception and its entries have changed: all else stands -/
theorem inv_left (I:Inv X pins σ H s) (hex:X.ex=[]) {h2:Heap} {a:Addr} {Xs:List Addr} (cg:Chg (frs X.stack) a Xs s.heap h2) (ha:X.s₀.heap.get? a=none∧H a=none) (hx:∀ b ∈ Xs,X.s₀.heap.get? b=none∧H b=none) :
  Un X.fs [] X.H₀ H X.s₀.heap h2∧HOk X.prog X.w H h2:=by
 have old:∀ b o,X.s₀.heap.get? b=some o->b≠a∧b ∉ Xs:=fun b o e=>by
  exact⟨fun z=>(by rw[z,ha.1] at e;cases e),fun z=>(by rw[(hx b z).1] at e;cases e)⟩
 have nL:∀ b o,X.s₀.heap.get? b=some o->b≠X.env.locals:=fun b o e z=>by
  have l:=Heap.lt_size e
  exact Nat.lt_irrefl _ (Nat.lt_of_lt_of_le l (z ▸ I.ok.above))
 have ub:Un X.fs [] X.H₀ H X.s₀.heap s.heap:=by have:=I.base;rw[hex] at this;exact this
 refine⟨⟨fun b o e n nf _=>?_,fun b o e n mf _=>?_,ub.free,fun b o e _=>?_,ub.tups,ub.frzs,ub.tbls⟩,fun b u e=>?_⟩
 ·have e1:=ub.keep b o e n nf (by simp)
  refine cg.keep b o (fun z=>?_) (old b o e).1 (old b o e).2 e1
  rcases List.mem_cons.mp (I.stkSub b z) with q | q
  ·exact nL b o e q
  ·exact nf q
 ·obtain⟨sl,e1⟩:=ub.slot b o e n mf (by simp)
  obtain⟨sl',e2⟩:=cg.slot b _ (old b o e).1 (old b o e).2 e1
  exact⟨sl',e2⟩
 ·obtain⟨o',e1⟩:=ub.there b o e (by simp)
  obtain⟨sl,e2⟩:=cg.slot b _ (old b o e).1 (old b o e).2 e1
  exact⟨_,e2⟩
 ·refine (I.hok b u e).stay (fun c v hc q=>?_) (fun _ q=>q) fun _ _ q=>q
  have hc':H c≠none:=by
   rcases hc with z | z
   ·rw[z,e];simp
   ·rw[z];simp
  exact cg.keep c v (fun z=>hc' (I.stkFree c z)) (fun z=>hc' (z ▸ ha.2)) (fun z=>hc' (hx c z).2) q
end
theorem inv_new {X:Cx} {pins:List (Addr × Obj)} {σ:L2.St} {H:Hp} {s:Shared} (I:Inv X pins σ H s) (hex:X.ex=[]) {a:Addr} (h:s.heap.get? a=none):X.s₀.heap.get? a=none:=by
 cases e:X.s₀.heap.get? a with
 | none=>rfl
 | some o =>
  obtain⟨o',e'⟩:=I.base.there a o e (by rw[hex];simp)
  rw[h] at e';cases e'
theorem obj_there {P:Program} {w:World} {H:Hp} {h:Heap} {a:Addr}:∀ {u:HO},ObjOk P w H h a u->∃ o,h.get? a=some o:=by
 intro u x
 induction u with
 | lst xs=>obtain⟨_,_,_,_,e⟩:=x;exact⟨_,e⟩
 | tup xs=>obtain⟨_,_,_,o,e,_⟩:=x;exact⟨o,e⟩
 | dK kvs=>obtain⟨_,_,_,_,o,_,_,e,_⟩:=x;exact⟨o,e⟩
 | dT kvs=>obtain⟨_,_,_,_,o,_,_,e,_⟩:=x;exact⟨o,e⟩
 | set S n=>obtain⟨o,_,_,_,e,_⟩:=x;exact⟨o,e⟩
 | ins C dx fs=>obtain⟨_,_,_,e,_⟩:=x;exact⟨_,e⟩
 | own _=>exact x
 | xd fs=>obtain⟨_,⟨o,_,_,e,_⟩,_⟩:=x;exact⟨o,e⟩
 | rng lo hi=>obtain⟨_,_,_,e⟩:=x;exact⟨_,e⟩
 | frz o u _=>exact⟨_,x.1⟩
 | tbl ps=>exact⟨_,x⟩
 | met f y=>exact⟨_,x⟩
 | ext φ=>exact x.2.1
theorem hok_new {P:Program} {w:World} {H:Hp} {h:Heap} (x:HOk P w H h) {a:Addr} (e:h.get? a=none):H a=none:=by
 cases q:H a with
 | none=>rfl
 | some u=>obtain⟨o,z⟩:=obj_there (x a u q);rw[e] at z;cases z
/-- an exception of a callee goes on -/
theorem passes1 {P:Program} {w:World} {K:PySem.W.Frag} {mg:Str->Option Value} {base:Heap} {N:List Str} {qual:Str} {scope:Scope} {f:Addr} {cd:Value} {A:Around} {outer:List Env} {s:Shared} {H:Hp} {E:XK} :
  Passes (CX1 P w) (cxOf (CX1 P w) P w K mg base N qual scope f cd A outer s H E) E:=by
 intro pins σ H1 s1 e s2 I h
 obtain⟨a,C,T,H2,rfl,os,bare,un,hok,fl,la,lT,na,nT,q⟩:=h
 have I2:Inv (cxOf (CX1 P w) P w K mg base N qual scope f cd A outer s H E) pins σ H2 s2:=I.call' os un hok bare (fun b z=>absurd z (by simp))
 have sz:=I.sz
 show wpAny _ _ (leaving _ _) _ _ _
 refine leave_on (base:=base) I2.ok.frames I2.stack rfl fl fun h' T' lt cg fl'=>?_
 obtain⟨u,ho⟩:=inv_left I2 rfl cg ⟨inv_new I rfl la,na⟩ (fun b hb=>by rw[List.mem_singleton.mp hb];exact⟨inv_new I rfl lT,nT⟩)
 refine⟨a,C,T',H2,rfl,I2.os,I2.bare,u,ho,fl',inv_new I rfl la,inv_new I2 rfl (Heap.get?_none_of_le lt),na,I2.hok.fresh lt,q⟩
/-- a namespace that is written out: whose keys are texts -/
def nsB (K:PySem.W.Frag) (N:Addr) (x:Str):Bool:=match K.lookup N with
 | some ⟨_,_,.dict es _,_⟩=>(es.toList.all fun e=>match e.key with | .str _ _=>true | _=>false) && (es.toList.find? (·.key.isStr x)).isNone
 | _=>false
theorem ns_of {K:PySem.W.Frag} {N:Addr} {x:Str} (e:nsB K N x=true):∃ m:Str->Option Value,m x=none∧∀ h:Heap,K.In h->h.Ns N m:=by
 unfold nsB at e
 split at e
 ·rename_i c d es n sl ho
  obtain⟨e1,e2⟩:=(Bool.and_eq_true _ _).mp e
  refine⟨nsFind es,?_,fun h X=>⟨_,es,n,X _ _ ho,rfl,fun en hen=>?_,fun _=>rfl⟩⟩
  rotate_left
  ·have:=List.all_eq_true.mp e1 en (Array.mem_toList_iff.mpr hen)
   cases k:en.key with
   | str y t=>exact⟨y,t,rfl⟩
   | _=>rw[k] at this;cases this
  ·unfold nsFind findBy
   rw[← Array.find?_toList]
   cases z:es.toList.find? (·.key.isStr x) with
   | none=>rfl
   | some y=>rw[z] at e2;cases e2
 ·cases e
inductive TailK (K:PySem.W.Frag):List Value->Prop
 | base:TailK K [.type "ValueError",.type "Exception",.type "BaseException",.type "object"]
 | own {A:Addr} {c0:Value} {dd:Option Addr} {cd:ClassData} {sl:Array (Option Value)} {tl:List Value}:K.lookup A=some ⟨c0,dd,.cls cd,sl⟩->nsB K cd.ns "__init__"=true->TailK K tl->TailK K (.ref A::tl)
theorem TailK.tail {K:PySem.W.Frag} {h:Heap} {l:List Value} (X:K.In h) (t:TailK K l):OwnTail h [.type "ValueError",.type "Exception",.type "BaseException",.type "object"] l:=by
 induction t with
 | base=>exact .base
 | own a b _ ih=>obtain⟨m,h1,h2⟩:=ns_of b;exact .own (X _ _ a) (h2 h X) h1 ih
/-- a class of exceptions that can be raised with a text -/
def XM (K:PySem.W.Frag) (C:Addr):Prop:=∃ nm q N bs bm hdct sn sub ab col dd k0 k1 k2 k3 k5,K.lookup C=some (excClassObj nm q C N bs bm hdct sn sub ab col dd k0 k1 k2 k3 k5 "ValueError.__new__")∧nsB K N "__init__"=true∧TailK K bm∧bm.contains (.type "BaseException")=true
theorem ps_raise {P:Program} {w:World} {K:PySem.W.Frag} {mg:Str->Option Value} {base:Heap} {N:List Str} {qual:Str} {scope:Scope} {f:Addr} {cd:Value} {A:Around} {outer:List Env} {s:Shared} {H:Hp} {E:XK} {x:Str} {C:Addr} {np cpos pos:Pos} {m:Str} {j:Nat} {p2:Pos}
  (hh:A.handled=none) (hg:Gl (cxOf (CX1 P w) P w K mg base N qual scope f cd A outer s H E) x) (hm:mg x=some (.ref C)) (c:XM K C) (hdb:(x == ("__debug__":Str))=false:=by decide) :
  PS (cxOf (CX1 P w) P w K mg base N qual scope f cd A outer s H E) (.Raise (some (.Call (.Name x np) [.Constant (.str m) j p2] [] cpos)) none pos) (fun _ _ H1=>E (.ref C) none H1):=by
 intro pins s1 σ H1 D I h
 obtain⟨nm,q,NN,bs,bm,hdct,sn,sub,ab,col,dd,k0,k1,k2,k3,k5,hC,hN,hT,hb⟩:=c
 have B:=F.excBase_ValueError
 obtain⟨mN,hni,hns⟩:=ns_of hN
 refine wpAny_Raise_call_subU (nm:=nm) (q:=q) (N:=NN) (bs:=bs) (bm:=bm) (hdct:=hdct) (sn:=sn) (sub:=sub) (ab:=ab) (col:=col) (dd:=dd) (k0:=k0) (k1:=k1) (k2:=k2) (k3:=k3) (k5:=k5) B (by decide) B (mN:=mN) hb hh rfl hni (ld_glob I hg hm ⟨rfl,?_⟩ hdb)
 refine PySem.Calls.evalArgs_plain (x:=eval (.Constant (.str m) j p2) _) (rest:=[]) ?_
 have pa:=pa_cons (X:=cxOf (CX1 P w) P w K mg base N qual scope f cd A outer s H E) (pe_str (x:=m) (j:=j) (pos:=p2)) pa_nil
 refine thn (pa cpos pins s1 σ H1 (fun vs J=>vs.length≤1000∧E (.ref C) none J) I ⟨(by show 1≤1000;decide),h⟩) fun us s2 ⟨vs,H2,I2,r,l1,q2⟩=>?_
 have X2:=I2.kIn
 refine⟨rfl,?_,X2 _ _ hC,hns _ X2,hT.tail X2,fun h' e mx=>?_⟩
 ·show us.length≤sizeLine
  rw[← r.length];exact Nat.le_trans l1 (by decide)
 obtain⟨tt,he,hnt,htt⟩:=mx.there
 have I3:Inv (cxOf (CX1 P w) P w K mg base N qual scope f cd A outer s H E) pins σ H2 { s2 with heap:=h' }:=I2.kept mx.keeps
 show wpAny _ _ (leaving _ _) _ _ _
 refine leave_new (base:=base) I3.ok.frames I3.stack rfl he rfl rfl rfl fun h2 T lt cg fl=>?_
 have fe:=hok_new I2.hok mx.new
 obtain⟨u,ho⟩:=inv_left I3 rfl cg ⟨inv_new I2 rfl mx.new,fe⟩ (fun b hb=>by cases hb)
 exact⟨e,C,T,H2,rfl,I3.os,I3.bare,u,ho,fl,inv_new I2 rfl mx.new,inv_new I3 rfl (Heap.get?_none_of_le lt),fe,I3.hok.fresh lt,q2⟩
def OkX (P:Program) (w:World) (K:PySem.W.Frag) (mg:Str->Option Value) (base:Heap) (k:Nat) (x:Str) (ps:List Str) (sp:Sp):Prop :=
 ∃ (f:Addr) (fd:FuncData),FnOk P w K mg base (CX1 P w) k f fd ps sp∧Binds K fd ps []∧PySem.W.keepIn K (.ref f)=true∧mg x=some (.ref f)
section
variable {P:Program} {w:World} {K:PySem.W.Frag} {mg:Str->Option Value} {base:Heap} {x:Str} {ps N:List Str} {sp:Sp} {k:Nat} {st:Stmt}
theorem OkX.mono {j:Nat} (O:OkX P w K mg base j x ps sp) (h:j≤k):OkX P w K mg base k x ps sp:=let ⟨f,fd,F,r⟩:=O;⟨f,fd,F.mono h,r⟩
theorem mk_okX (D:DefOk K mg x st ps) (S:FnScope N ps (defScope st)) (len:∀ vs H Q E,sp vs H Q E->vs.length=ps.length)
  (hbody:∀ (f:Addr) (cdv:Value) (A:Around) (outer:List Env) (s:Shared) (H:Hp) (vs:List V) (Q:VK) (E:XK),Room k (A.deeper (envOfC x (defScope st) s.heap.objs.size f cdv))->sp vs H Q E ->
   ∃ t,PSs (cxOf (CX1 P w) P w K mg base N x (defScope st) f cdv A outer s H E) (defBody st) t∧t { nx:=fun _ H'=>Q .non H',rt:=Q } (start N vs) H):OkX P w K mg base (k + 1) x ps sp:=by
 obtain⟨f,fd,F,b,m⟩:=D
 have kp:=F.kp
 obtain⟨oc,od,kV,doc,pm,an,cdv,ct,osl,rfl,lk,hcd⟩:=F.ex
 exact⟨f,_,fn_of lk hcd S len fun A outer s H vs Q E hr h=>hbody f cdv A outer s H vs Q E hr h,b,kp,m⟩
/-- a call in a def that may raise, of one that may raise -/
theorem pe_callX {qual:Str} {scope:Scope} {f:Addr} {cd:Value} {A:Around} {outer:List Env} {s:Shared} {H:Hp} {E:XK} {p pos:Pos} {e:Expr} {es:List Expr} {t:TA} (O:OkX P w K mg base k x ps sp)
  (hr:Room k (cxOf (CX1 P w) P w K mg base N qual scope f cd A outer s H E).A) (hg:Gl (cxOf (CX1 P w) P w K mg base N qual scope f cd A outer s H E) x) (ha:PA (cxOf (CX1 P w) P w K mg base N qual scope f cd A outer s H E) (e::es) t)
  (hdb:(x == ("__debug__":Str))=false:=by decide) (he:starEach (e::es) (cxOf (CX1 P w) P w K mg base N qual scope f cd A outer s H E).env=(false,eval e (cxOf (CX1 P w) P w K mg base N qual scope f cd A outer s H E).env)::starEach es (cxOf (CX1 P w) P w K mg base N qual scope f cd A outer s H E).env:=by rfl) (hpl:(backTo pos (starEach es (cxOf (CX1 P w) P w K mg base N qual scope f cd A outer s H E).env)).any (·.1)=false:=by rfl) :
  PE (cxOf (CX1 P w) P w K mg base N qual scope f cd A outer s H E) (.Call (.Name x p) (e::es) [] pos) (tCall sp [] E t):=by
 obtain⟨g,fd,F,b,kp,m⟩:=O
 exact pe_call F hr hg m kp b .nil passes1 ha hdb he hpl
end
theorem PA.nox {X:Cx} {es:List Expr} {t:TA} (h:PA X.nox es t):PA X es t:=fun pos pins s σ H Q I hw =>
 wpAny_mono (h pos pins s σ H Q (I.wish _) hw) (fun _ _ ⟨v,H',I',r,q⟩=>⟨v,H',I'.unwish,r,q⟩) fun _ _ z=>False.elim z
theorem call_try {X:Cx} {k:Nat} {x:Str} {ps:List Str} {sp:Sp} {E:XK} {p pos:Pos} {e:Expr} {es:List Expr} {t:TA} (O:OkX X.prog X.w X.K X.mg X.base k x ps sp) (hr:Room k X.A) (hg:Gl X x) (ha:PA X.nox (e::es) t)
  {pins:List (Addr × Obj)} {s:Shared} {σ:L2.St} {H:Hp} {Q:VK} {Z:Value->Shared->Prop} (I:Inv X pins σ H s) (h:t σ H fun vs H1=>sp vs H1 Q E)
  (hz:∀ H1 s1 ev s',Inv X pins σ H1 s1->CX1 X.prog X.w X.stack H1 s1 E ev s'->Z ev s')
  (hdb:(x == ("__debug__":Str))=false:=by decide) (he:starEach (e::es) X.env=(false,eval e X.env)::starEach es X.env:=by rfl) (hpl:(backTo pos (starEach es X.env)).any (·.1)=false:=by rfl) :
  wpAny (model X.prog X.w) X.A (eval (.Call (.Name x p) (e::es) [] pos) X.env) (EP X pins σ Q) Z s:=by
 obtain⟨f,fd,F,hb,hk,hm⟩:=O
 have ha':PA (X.wish Z) (e::es) t:=PA.nox (X:=X.wish Z) ha
 have I':Inv (X.wish Z) pins σ H s:=I.wish Z
 refine wpAny_Call_Name_kw (ld_glob I hg hm ?_ hdb)
 refine PySem.W.callWith_K (h₀:=X.base) I.ok.mod.kin hk (thn (ha' pos pins s σ H _ I' h) fun us s1 ⟨vs,H1,I1,r,q⟩=>⟨I1.kIn,?_⟩) he hpl
 have J:=I1.unwish
 have hl:us.length=ps.length:=by rw[← r.length];exact F.len _ _ _ _ q
 have bd:=hb s1 us J.kIn (by rw[List.append_nil];exact hl)
 rw[List.append_nil] at bd
 refine wpAny_call (codeAny_mono (F.run X.A X.stack s1 H1 ⟨us,[]⟩ us vs Q E hr J.env0 bd r q) fun rr s2 hq=>?_)
 cases rr with
 | error ev=>exact hz H1 s1 ev s2 J hq
 | ok fl =>
  cases fl with
  | ret u=>exact J.after hq
  | next=>exact False.elim hq
  | brk=>exact False.elim hq
  | cont=>exact False.elim hq
section
variable {X:Cx} {pins:List (Addr × Obj)} {σ:L2.St} {H:Hp} {s:Shared}
/-- a thing that was not there at s -/
structure Off (X:Cx) (pins:List (Addr × Obj)) (H:Hp) (a:Addr):Prop where
 s0:X.s₀.heap.get? a=none
 no:H a=none
 lc:a≠X.env.locals
 cl:∀ x c,X.env.cells.lookup x=some c->c≠a
 pn:∀ p ∈ X.pn++pins,p.1≠a
theorem off_of (I:Inv X pins σ H s) (hex:X.ex=[]) {a:Addr} (h:s.heap.get? a=none) {H':Hp} (n:H' a=none):Off X pins H' a:=by
 refine⟨inv_new I hex h,n,fun z=>?_,fun x c e z=>?_,fun p hp z=>?_⟩
 ·obtain⟨m,⟨o,_,_,ho,_⟩,_⟩:=I.loc
  rw[← z,h] at ho;cases ho
 ·obtain⟨v,o,ho,_⟩:=I.cell x c e
  rw[z,h] at ho;cases ho
 ·have:=(I.pin p hp).1
  rw[z,h] at this;cases this
theorem inv_note (I:Inv X pins σ H s) (hex:X.ex=[]) {h2:Heap} {a:Addr} {Xs:List Addr} {tk:Nat} (cg:Chg (frs X.stack) a Xs s.heap h2) (oa:Off X pins H a) (ox:∀ b ∈ Xs,Off X pins H b) :
  Inv X pins σ H { s with heap:=h2,toks:=tk }:=by
 obtain⟨u,ho⟩:=inv_left I hex cg ⟨oa.s0,oa.no⟩ fun b hb=>⟨(ox b hb).s0,(ox b hb).no⟩
 have nx:∀ b,(∀ z ∈ Xs,b≠z)->b ∉ Xs:=fun b h z=>h b z rfl
 have cellK:∀ x c,X.env.cells.lookup x=some c->∀ v,s.heap.IsCell c v->h2.IsCell c v:=fun x c e v ⟨o,e1,e2⟩=>by
  obtain⟨sl,q⟩:=cg.slot c o (oa.cl x c e) (nx c fun z hz=>(ox z hz).cl x c e) e1
  exact⟨_,q,e2⟩
 refine⟨I.ok,I.os,I.bare,by rw[hex];exact u,?_,fun x c e=>?_,I.free,I.freeC,fun p hp=>?_,ho,I.len⟩
 ·obtain⟨m,⟨o,es,ep,e1,e2,r⟩,hl⟩:=I.loc
  obtain⟨sl,q⟩:=cg.slot _ o oa.lc.symm (nx _ fun z hz=>(ox z hz).lc.symm) e1
  refine⟨m,⟨_,es,ep,q,e2,r⟩,fun i x v h1 h2' h3=>?_⟩
  obtain⟨uu,rr,l⟩:=hl i x v h1 h2' h3
  refine⟨uu,rr,?_⟩
  rcases l with l | ⟨k,c,e,z⟩
  ·exact .inl l
  ·exact .inr ⟨k,c,e,cellK x c e _ z⟩
 ·obtain⟨v,z⟩:=I.cell x c e
  exact⟨v,cellK x c e v z⟩
 ·obtain⟨e,n,ne,nf,d⟩:=I.pin p hp
  refine⟨cg.keep p.1 p.2 (fun z=>?_) (oa.pn p hp) (nx _ fun z hz=>(ox z hz).pn p hp) e,n,ne,nf,d⟩
  rcases List.mem_cons.mp (I.stkSub p.1 z) with q | q
  ·exact ne q
  ·exact nf q
/-- an exception that is at rest is tracked -/
theorem inv_track (I:Inv X pins σ H s) {a:Addr} {φ:Heap->Prop} (oa:Off X pins H a) (hφ:φ s.heap) (he:∃ o,s.heap.get? a=some o) (st:∀ h1 h2:Heap,φ h1->(∀ o,h1.get? a=some o->h2.get? a=some o)->φ h2):Inv X pins σ (upd H a (.ext φ)) s:=by
 have neK:∀ b u,H b=some u->b≠a:=fun b u e z=>by rw[z,oa.no] at e;cases e
 refine⟨I.ok,I.os,I.bare,⟨I.base.keep,I.base.slot,fun b o e n hx=>?_,I.base.there,fun b xs e=>?_,fun b o u e=>?_,fun b ps e=>?_⟩,I.loc,I.cell,?_,fun x c e=>?_,fun p hp=>?_,fun b u e=>?_,I.len⟩
 ·rw[upd_ne (fun z=>by rw[z,oa.s0] at e;cases e)];exact I.base.free b o e n hx
 ·have:=I.base.tups b xs e
  rw[upd_ne (neK b _ this)];exact this
 ·have:=I.base.frzs b o u e
  rw[upd_ne (neK b _ this)];exact this
 ·obtain⟨more,this⟩:=I.base.tbls b ps e
  exact⟨more,by rw[upd_ne (neK b _ this)];exact this⟩
 ·rw[upd_ne oa.lc.symm];exact I.free
 ·rw[upd_ne (oa.cl x c e)];exact I.freeC x c e
 ·obtain⟨e,n,ne,nf,d⟩:=I.pin p hp
  exact⟨e,by rw[upd_ne (oa.pn p hp)];exact n,ne,nf,d⟩
 ·by_cases z:b=a
  ·subst z
   rw[upd_same] at e
   cases e
   exact⟨hφ,he,st⟩
  ·rw[upd_ne z] at e
   refine (I.hok b u e).stay (fun _ _ _ q=>q) (fun c q=>?_) fun c xs q=>?_
   ·rw[upd_ne (neK c _ q)];exact q
   ·rw[upd_ne (neK c _ q)];exact q
/-- within an except suite -/
abbrev Cx.within (X:Cx) (v:Value):Cx:={ X with A:=X.A.mark (some v),calm:=false,xe:=fun _ _=>False }
theorem Inv.within (I:Inv X pins σ H s) (v:Value):Inv (Cx.within X v) pins σ H s :=
 ⟨⟨I.ok.mod,I.ok.kind,I.ok.glob,I.ok.blt,I.ok.above,I.ok.inj,I.ok.has,I.ok.cab,fun z=>(by cases z),I.ok.frames,I.ok.stk,I.ok.exf,I.ok.bs,I.ok.bsz,I.ok.noex,I.ok.exfs,I.ok.funs,I.ok.frf⟩,I.os,I.bare,I.base,I.loc,I.cell,I.free,I.freeC,I.pin,I.hok,I.len⟩
theorem Inv.without (hd:X.calm=true->X.A.handled=none) {v:Value} (I:Inv (Cx.within X v) pins σ H s):Inv X pins σ H s :=
 ⟨⟨I.ok.mod,I.ok.kind,I.ok.glob,I.ok.blt,I.ok.above,I.ok.inj,I.ok.has,I.ok.cab,hd,I.ok.frames,I.ok.stk,I.ok.exf,I.ok.bs,I.ok.bsz,I.ok.noex,I.ok.exfs,I.ok.funs,I.ok.frf⟩,I.os,I.bare,I.base,I.loc,I.cell,I.free,I.freeC,I.pin,I.hok,I.len⟩
end
/-- what is wanted of an exception that is caught by its base B and put in slot i (its name, slot j, goes) -/
def caughtE (K:PySem.W.Frag) (B:Addr) (i j:Nat) (nx:L2.St->Hp->Prop) (σ:L2.St):XK:=fun C _ H=>∃ c,C=.ref c∧PySem.W.exmOne K (.ref c) (.ref B)=some true ∧
 ∀ a,H a=none->nx (((σ.set j (some (.ref a))).set i (some (.ref a))).set j none) (upd H a (.ext (IsX a c)))
theorem isx_stay {a c:Addr} (h1 h2:Heap) (x:IsX a c h1) (k:∀ o,h1.get? a=some o->h2.get? a=some o):IsX a c h2:=let ⟨o,e,r⟩:=x;⟨o,k o e,r⟩
theorem fly_isx {h:Heap} {a c T:Addr} (f:Fly h a (.ref c) T):IsX a c h:=let ⟨⟨o,vs,e,ec,ed,_,en⟩,_,_⟩:=f;⟨o,e,ec,⟨vs,ed⟩,en⟩
theorem handle_as {X:Cx} {pins:List (Addr × Obj)} {σ:L2.St} {H1:Hp} {s1 s2:Shared} {ev:Value} {D:Ends} {Z:Value->Shared->Prop} {B:Addr} {i j:Nat} {tn en cn:Str} {tp cp ep apos hpos:Pos}
  (hex:X.ex=[]) (hst:X.stack=X.env::X.outer) (hfr:X.env.frame=some X.env.locals) (hcm:X.A.handled=none) (hN:X.N.Nodup) (hi:X.N[i]?=some cn) (hj:X.N[j]?=some en) (hij:i≠j)
  (li:X.env.scope.names.lookup cn=some .local) (lj:X.env.scope.names.lookup en=some .local) (hg:Gl X tn) (hm:X.mg tn=some (.ref B)) (hdb:(tn == ("__debug__":Str))=false) (hdc:(en == ("__debug__":Str))=false) (hcc:(en == ("__classdict__":Str))=false)
  (hsw:swapsWith (.Name en ep) (some (.Name cn cp)) apos.line X.env=pure false)
  (I:Inv X pins σ H1 s1) (h:CX1 X.prog X.w X.stack H1 s1 (caughtE X.K B i j D.nx σ) ev s2) :
  wpAny (model X.prog X.w) X.A (noteFrame ev X.env) (fun _ s3=>wpAny (model X.prog X.w) X.A (setFlight ev none) (fun _ s4=>wpAny (model X.prog X.w) X.A (handleBy ev X.env [.ExceptHandler (some (.Name tn tp)) (some en) [.Assign [.Name cn cp] (.Name en ep) apos] hpos]) (SP X pins D) Z s4) Z s3) Z s2:=by
 obtain⟨a,C0,T,H2,rfl,os,bare,un,hok,fl,la,lT,na,nT,c,ec,ex,nx⟩:=h
 have e0:c=C0:=by injection ec with z;exact z.symm
 subst e0
 have I2:Inv X pins σ H2 s2:=I.call' os un hok bare (fun b z=>absurd z (by simp))
 have oa:Off X pins H2 a:=off_of I hex la na
 have oT:Off X pins H2 T:=off_of I hex lT nT
 have ff:=I2.stack
 have fr:=I2.ok.frames
 rw[hst] at ff fr
 refine note_on (base:=X.base) fr ff hfr fl fun h3 T3 lt cg fl3=>?_
 rw[show (X.env::X.outer).filterMap (·.frame)=frs X.stack by rw[hst];rfl] at cg
 have I3:Inv X pins σ H2 { s2 with heap:=h3 }:=inv_note I2 hex cg oa fun b hb=>by rw[List.mem_singleton.mp hb];exact oT
 have oT3:Off X pins H2 T3:=off_of I2 hex (Heap.get?_none_of_le lt) (I2.hok.fresh lt)
 have W3:=Inv.within I3 (.ref a)
 refine wpAny_handleBy_cons (codeAny_handlers_test ?_) (by intro q;cases q)
 refine ld_glob (X:=Cx.within X (.ref a)) W3 hg hm ?_ hdb
 have LT:PySem.W.Looks (model X.prog X.w) h3 (typeOf (.ref a)) (.ref c):=let ⟨_,J⟩:=(fly_isx fl3).no;J.type
 refine (PySem.W.exm_one I3.kIn LT ex).at ?_
 show codeAny _ _ _ _ _
 refine codeAny_handlers_suite_as ?_
 obtain⟨⟨oe,vs,ha,hc,dv,v1,dn⟩,⟨oT',ts,hT,dT,t3⟩,ne⟩:=fl3
 refine wpAny_setFlight_none ha dv v1 hT dT (Array.getElem?_eq_some_iff.mp t3).1 ?_
 have cg4:Chg (frs X.stack) a [T3] h3 (h3.update T3 (Obj.mapFields (·.setIfInBounds 3 .none))):=by
  refine⟨fun b o _ _ n e=>?_,fun b o _ n e=>⟨o.slots,?_⟩,Nat.le_of_eq (Heap.size_after_update ..).symm⟩
  ·rw[Heap.get?_update_other _ _ (fun z=>n (by simp [z]))];exact e
  ·rw[Heap.get?_update_other _ _ (fun z=>n (by simp [z]))];exact e
 have I4:Inv X pins σ H2 { s2 with heap:=h3.update T3 (Obj.mapFields (·.setIfInBounds 3 .none)) }:=inv_note I3 hex cg4 oa fun b hb=>by rw[List.mem_singleton.mp hb];exact oT3
 have x4:IsX a c (h3.update T3 (Obj.mapFields (·.setIfInBounds 3 .none))):=⟨oe,(Heap.get?_update_other _ _ ne).trans ha,hc,⟨vs,dv⟩,dn⟩
 have I5:Inv X pins σ (upd H2 a (.ext (IsX a c))) _:=inv_track I4 oa x4 (let ⟨o,e,_⟩:=x4;⟨o,e⟩) isx_stay
 have W5:=Inv.within I5 (.ref a)
 refine store_ok (X:=Cx.within X (.ref a)) (v:=.ref a) W5 hN hj (.inl lj) rfl (fun s6 W6=>?_) (.inr lj)
 have as_:=pss_one (ps_set (X:=Cx.within X (.ref a)) (i:=i) (pos:=apos) (pos':=cp) hN hi (.inl li) (pe_var (X:=Cx.within X (.ref a)) (i:=j) (pos:=ep) hj (.inl lj) hdc hcc) hsw (.inr li))
 refine wpAny_mono (as_ pins s6 _ _ { nx:=fun τ J=>τ=(σ.set j (some (.ref a))).set i (some (.ref a))∧J=upd H2 a (.ext (IsX a c)),rt:=fun _ _=>False } W6 ⟨_,?_,rfl,rfl⟩) (fun fl s7 q=>?_) fun _ _ z=>z.elim
 ·have jl:j < σ.length:=by rw[I2.len];exact (List.getElem?_eq_some_iff.mp hj).1
  rw[List.getElem?_set_self jl]
 cases fl with
 | next =>
  obtain⟨τ,J,W7,rfl,rfl⟩:=q
  have I7:=Inv.without (X:=X) (fun _=>hcm) W7
  obtain⟨m,hn,hl⟩:=I7.loc
  have hcls:(X.env.scope.kind == .class || (X.env.scope.kind == .module && X.env.locals != X.env.globals))=false:=by rw[I7.ok.kind];rfl
  show wpAny _ _ _ _ _ _
  refine nameGoesS lj hn hcls fun h8 m8 n8 k8 sb=>?_
  refine⟨((σ.set j (some (.ref a))).set i (some (.ref a))).set j none,_,?_,nx a na⟩
  have trk:HOk X.prog X.w (upd H2 a (.ext (IsX a c))) h8:=fun b ob e=>(I7.hok b ob e).stay (fun cc w' hc' q=>(sb.2 cc (fun z=>by
   subst z
   rcases hc' with z | z
   ·rw[← z,I7.free] at e;cases e
   ·rw[I7.free] at z;cases z)).trans q) (fun _ q=>q) fun _ _ q=>q
  obtain⟨oL,_,_,hoL,_⟩:=id hn
  refine⟨I7.ok,I7.os,I7.bare,⟨fun b o e n hb hx=>?_,fun b o e n hb hx=>?_,I7.base.free,fun b o e hx=>?_,I7.base.tups,I7.base.frzs,I7.base.tbls⟩,⟨m8,n8,fun k y v e1 e2 e3=>?_⟩,fun y cc e=>?_,I7.free,I7.freeC,fun p hp=>?_,trk,by simpa using I7.len⟩
  ·exact (sb.2 b (Nat.ne_of_lt (Nat.lt_of_lt_of_le (Heap.lt_size e) I7.ok.above))).trans (I7.base.keep b o e n hb hx)
  ·obtain⟨sl,e1⟩:=I7.base.slot b o e n hb hx
   exact⟨sl,(sb.2 b (Nat.ne_of_lt (Nat.lt_of_lt_of_le (Heap.lt_size e) I7.ok.above))).trans e1⟩
  ·obtain⟨o',e1⟩:=I7.base.there b o e hx
   exact⟨o',(sb.2 b (Nat.ne_of_lt (Nat.lt_of_lt_of_le (Heap.lt_size e) I7.ok.above))).trans e1⟩
  ·by_cases hk:k=j
   ·subst hk
    have jl:k < ((σ.set k (some (.ref a))).set i (some (.ref a))).length:=by rw[List.length_set,List.length_set,I2.len];exact (List.getElem?_eq_some_iff.mp hj).1
    rw[List.getElem?_set_self jl] at e2;cases e2
   ·rw[List.getElem?_set_ne (Ne.symm hk)] at e2
    obtain⟨u',r',q⟩:=hl k y v e1 e2 e3
    refine⟨u',r',?_⟩
    rcases q with ⟨kk,e⟩ | ⟨kk,cc,e,z⟩
    ·exact .inl ⟨kk,by rw[k8 y (fun e=>hk (nodup_ix hN e1 (e ▸ hj)))];exact e⟩
    ·exact .inr ⟨kk,cc,e,z.sameBut sb (I7.cne y cc e)⟩
  ·obtain⟨w',z⟩:=I7.cell y cc e
   exact⟨w',z.sameBut sb (I7.cne y cc e)⟩
  ·obtain⟨e,n,ne',nf,d⟩:=I7.pin p hp
   exact⟨(sb.2 p.1 ne').trans e,n,ne',nf,d⟩
 | ret v=>obtain⟨_,_,_,_,_,z⟩:=q;exact z.elim
 | brk=>obtain⟨_,_,_,z⟩:=q;exact z.elim
 | cont=>obtain⟨_,_,_,z⟩:=q;exact z.elim
section
variable {X:Cx}
theorem call_isiX:CallR X (.builtin "isinstance") (fun xs H Q=>∃ a c C b,xs=[.ref a,.ref C]∧H a=some (.ext (IsX a c))∧XC X.K c∧PySem.W.kitOne X.K (.ref c) (.ref C)=some b∧Q (.bl b) H):=by
 intro pins s σ H xs us Q I r h
 obtain⟨a,c,C,b,rfl,ha,xc,e,q⟩:=h
 obtain⟨u,v,rfl,ru,rv⟩:=r.two
 cases ru;cases rv
 exact PySem.W.kia_one (kitx_exc xc) I.kIn (I.hok _ _ ha).1 e (by intro z;cases z) fun tk=>⟨.bl b,H,I.tok tk,rfl,q⟩
theorem call_isiXB {n:String}:CallR X (.builtin "isinstance") (fun xs H Q=>∃ a c b,xs=[.ref a,.ty n]∧H a=some (.ext (IsX a c))∧XC X.K c∧PySem.W.kitOne X.K (.ref c) (.type n)=some b∧Q (.bl b) H):=by
 intro pins s σ H xs us Q I r h
 obtain⟨a,c,b,rfl,ha,xc,e,q⟩:=h
 obtain⟨u,v,rfl,ru,rv⟩:=r.two
 cases ru;cases rv
 exact PySem.W.kia_one (kitx_exc xc) I.kIn (I.hok _ _ ha).1 e (by intro z;cases z) fun tk=>⟨.bl b,H,I.tok tk,rfl,q⟩
theorem vals_refs:∀ {cs:List Addr} {us:List Value},Vals (cs.map V.ref) us->us=cs.map Value.ref
 | [],_,.nil=>rfl
 | c::cs,_,.cons r t=>by cases r;rw[vals_refs t];rfl
theorem call_isiXT:CallR X (.builtin "isinstance") (fun xs H Q=>∃ (a c p:Addr) (cs:List Addr) (b:Bool),xs=[.ref a,.ref p]∧H a=some (.ext (IsX a c))∧H p=some (.tup (cs.map V.ref))∧XC X.K c∧PySem.W.kitAny X.K (.ref c) (cs.map Value.ref)=some b∧Q (.bl b) H):=by
 intro pins s σ H xs us Q I r h
 obtain⟨a,c,p,cs,b,rfl,ha,hp,xc,e,q⟩:=h
 obtain⟨u,v,rfl,ru,rv⟩:=r.two
 cases ru;cases rv
 obtain⟨_,its,rr,o,e1,e2,⟨n,e3⟩,e4⟩:=(show ObjOk X.prog X.w H s.heap p (.tup (cs.map V.ref)) from I.hok _ _ hp)
 have:=vals_refs rr
 subst this
 obtain⟨oc,od,dt,sl⟩:=o
 cases e2;cases e3;cases e4
 exact PySem.W.kia_tup (kitx_exc xc) I.kIn (I.hok _ _ ha).1 e1 e (by intro z;cases z) fun tk=>⟨.bl b,H,I.tok tk,rfl,q⟩
end
end L3
namespace X9
open PySem PySem.Spec PyProof.Rows
/-- an exception on its way, with its newest entry, whatever that says of the flight -/
structure FlyA (h:Heap) (a:Addr) (C:Value) (T:Addr):Prop where
 ex:∃ oe vs,h.get? a=some oe∧oe.cls=C∧oe.data=.fields vs∧vs[1]?=some (.ref T)∧oe.dict=none
 tr:∃ oT ts v,h.get? T=some oT∧oT.data=.fields ts∧ts[3]?=some v
 ne:T≠a
theorem Fly.any {h:Heap} {a:Addr} {C:Value} {T:Addr} (f:Fly h a C T):FlyA h a C T:=⟨f.ex,let ⟨o,t,h1,h2,h3⟩:=f.tr;⟨o,t,_,h1,h2,h3⟩,f.ne⟩
theorem Chg.refl {S:List Addr} {a:Addr} {X:List Addr} {h:Heap}:Chg S a X h h:=⟨fun _ _ _ _ _ e=>e,fun b o _ _ e=>⟨o.slots,by rw[e]⟩,Nat.le_refl _⟩
theorem Chg.trans {S:List Addr} {a:Addr} {X Y:List Addr} {h h1 h2:Heap} (c:Chg S a X h h1) (d:Chg S a Y h1 h2):Chg S a (X++Y) h h2 :=
 ⟨fun b o nS na nX e=>d.keep b o nS na (fun z=>nX (List.mem_append_right _ z)) (c.keep b o nS na (fun z=>nX (List.mem_append_left _ z)) e),fun b o na nX e=>by
  obtain⟨sl,e1⟩:=c.slot b o na (fun z=>nX (List.mem_append_left _ z)) e
  obtain⟨sl2,e2⟩:=d.slot b _ na (fun z=>nX (List.mem_append_right _ z)) e1
  exact⟨sl2,e2⟩,Nat.le_trans c.sz d.sz⟩
theorem Chg.at (S:List Addr) (a T:Addr) (h:Heap) (f:Obj->Obj):Chg S a [T] h (h.update T f):=by
 have oth:∀ b,b ∉ [T]->(h.update T f).get? b=h.get? b:=fun b hb=>Heap.get?_update_other _ _ (fun z=>hb (by rw[z];exact List.mem_singleton.mpr rfl))
 exact⟨fun b o _ _ n e=>(oth b n).trans e,fun b o _ n e=>⟨o.slots,(oth b n).trans e⟩,Nat.le_of_eq (Heap.size_after_update ..).symm⟩
section
variable {M:Model} {A:Around} {E:Value->Shared->Prop} {s:Shared}
theorem newEntryA {base:Heap} {env:Env} {outer:List Env} {L a:Addr} {oe:Obj} {vs:Array Value} {hd0:Value} {nx:Bool} {Q:Unit->Shared->Prop}
  (fr:A.frames=some (env::outer)) (ff:s.heap.FunFrames base (env::outer)) (fL:env.frame=some L)
  (ha:s.heap.get? a=some oe) (dv:oe.data=.fields vs) (dn:oe.dict=none) (l1:1 < vs.size)
  (q:∀ h' T,s.heap.objs.size≤T->Chg ((env::outer).filterMap (·.frame)) a [] s.heap h'->FlyA h' a oe.cls T->Q () { s with heap:=h' }) :
  wpAny M A (do let x ← frameOf env;let pl ← entryPlaceOf L nx;let b ← EntryCells.newEntry hd0 x .none (rawInt L) .none pl;setField (.ref a) 1 b) Q E s:=by
 have nS:a ∉ (env::outer).filterMap (·.frame):=fun m=>by
  obtain⟨_,o,h1,h2⟩:=ff.mem m
  rw[ha] at h1;cases h1;exact h2 vs dv
 refine wpAny_bind (wpAny_frameOf_fun fr ff fL fun h1 so=>wpAny_bind (wpAny_entryPlaceOf fun pl hp=>?_))
 unfold EntryCells.newEntry newFields
 refine wpAny_bind (wpAny_newObj_type ?_ (hp.sizeOk5 _ _ _ _ _))
 have a1:h1.get? a=some oe:=(so.2.1 a nS).trans ha
 have n1:h1.objs.size≠a:=Nat.ne_of_gt (Heap.lt_size a1)
 generalize eo:({ cls:=.type "traceback",dict:=none,data:=.fields ([hd0,.ref L,.none,rawInt L,.none]++(if pl.isEmpty then List.replicate 6 Value.none else pl)).toArray }:Obj)=tb
 have dtb:∃ ws:Array Value,tb.data=.fields ws∧3 < ws.size:=by
  rw[← eo]
  exact⟨_,rfl,by simp only [List.size_toArray,List.length_append,List.length_cons,List.length_nil];omega⟩
 obtain⟨ws,dws,l3⟩:=dtb
 have nf:tb.isFreed=false:=Obj.isFreed_of_fields dws
 have a2:(h1.push tb).get? a=some oe:=Heap.get?_push_of_some tb a1
 refine wpAny_setField a2 dv l1 ?_
 have d3:=Obj.data_mapFields dv (·.setIfInBounds 1 (Value.ref h1.objs.size))
 have a3:=Heap.get?_update_self (Obj.mapFields (·.setIfInBounds 1 (Value.ref h1.objs.size))) a2 (Obj.isFreed_of_fields d3)
 have t3:((h1.push tb).update a (Obj.mapFields (·.setIfInBounds 1 (Value.ref h1.objs.size)))).get? h1.objs.size=some tb :=
  (Heap.get?_update_other _ _ n1.symm).trans (Heap.get?_push_size h1 nf)
 refine q _ h1.objs.size (Nat.le_of_eq so.1.symm) ⟨fun b o hb ne _ e=>?_,fun b o ne _ e=>?_,?_⟩ ?_
 ·have e1:h1.get? b=some o:=(so.2.1 b hb).trans e
  rw[Heap.get?_update_other _ _ ne.symm]
  exact Heap.get?_push_of_some tb e1
 ·obtain⟨sl,e1⟩:=so.2.2 b o e
  refine⟨sl,?_⟩
  rw[Heap.get?_update_other _ _ ne.symm]
  exact Heap.get?_push_of_some tb e1
 ·show s.heap.objs.size≤_
  rw[Heap.size_after_update,Heap.size_push,so.1];exact Nat.le_succ _
 ·exact⟨⟨_,_,a3,Obj.cls_mapFields _ _,d3,by simp [l1],dict_map dv dn⟩,⟨_,_,ws[3],t3,dws,by simp [l3]⟩,n1⟩
/-- the frame is noted; it may be so already -/
theorem note_A {base:Heap} {env:Env} {outer:List Env} {L a T0:Addr} {C:Value} {Q:Unit->Shared->Prop}
  (fr:A.frames=some (env::outer)) (ff:s.heap.FunFrames base (env::outer)) (fL:env.frame=some L) (fl:FlyA s.heap a C T0)
  (q:∀ h' T,(T=T0∨s.heap.objs.size≤T)->Chg ((env::outer).filterMap (·.frame)) a [T0] s.heap h'->FlyA h' a C T->Q () { s with heap:=h' }):wpAny M A (noteFrame (.ref a) env) Q E s:=by
 have fl0:=fl
 obtain⟨⟨oe,vs,ha,hc,dv,v1,dn⟩,⟨oT,ts,v,hT,dT,t3⟩,ne⟩:=fl
 subst hc
 unfold noteFrame
 simp only [fL]
 refine wpAny_bind (wpAny_field ha dv v1 ?_)
 rw[if_pos (show (Value.ref T0 != Value.none)=true by simp)]
 refine wpAny_bind (wpAny_field hT dT t3 ?_)
 refine wpAny_ite_split (fun _=>wpAny_pure (q _ T0 (.inl rfl) Chg.refl fl0)) fun _=>?_
 refine wpAny_bind (wpAny_setField hT dT (Array.getElem?_eq_some_iff.mp t3).1 ?_)
 have oth:∀ b,b≠T0->(s.heap.update T0 (Obj.mapFields (·.setIfInBounds 3 Value.none))).get? b=s.heap.get? b:=fun b hb=>Heap.get?_update_other _ _ hb.symm
 have rec_:∀ b o,s.heap.get? b=some o->(∀ ws,o.data≠.fields ws)->b≠T0:=fun b o e n z=>by
  rw[z,hT] at e;cases e;exact n ts dT
 refine newEntryA (base:=base) fr (ff.of_keeps fun b o e n=>⟨o,(oth b (rec_ b o e n)).trans e,rfl⟩) fL ((oth a ne.symm).trans ha) dv dn (Array.getElem?_eq_some_iff.mp v1).1 fun h' T lt cg fl'=>?_
 refine q h' T (.inr (Nat.le_trans (Nat.le_of_eq (Heap.size_after_update ..).symm) lt)) ⟨fun b o hb n1 n2 e=>?_,fun b o n1 n2 e=>?_,Nat.le_trans (Nat.le_of_eq (Heap.size_after_update ..).symm) cg.sz⟩ fl'
 ·exact cg.keep b o hb n1 (by simp) ((oth b (by simpa using n2)).trans e)
 ·exact cg.slot b o n1 (by simp) ((oth b (by simpa using n2)).trans e)
/-- what is told of the flight -/
theorem flight_A {a T:Addr} {C:Value} {f:Option Addr} {S:List Addr} {Q:Unit->Shared->Prop} (fl:FlyA s.heap a C T)
  (q:∀ h',Chg S a [T] s.heap h'->FlyA h' a C T->(f=none->Fly h' a C T)->Q () { s with heap:=h' }):wpAny M A (setFlight (.ref a) f) Q E s:=by
 obtain⟨⟨oe,vs,ha,hc,dv,v1,dn⟩,⟨oT,ts,v,hT,dT,t3⟩,ne⟩:=fl
 unfold setFlight
 refine wpAny_bind (wpAny_field ha dv v1 ?_)
 rw[if_pos (show (Value.ref T != Value.none)=true by simp)]
 have l3:=(Array.getElem?_eq_some_iff.mp t3).1
 refine wpAny_setField hT dT l3 ?_
 obtain⟨x,hx⟩:∃ x,x=f.elim Value.none fun f=>rawInt f:=⟨_,rfl⟩
 rw[← hx]
 have dd:=Obj.data_mapFields dT (·.setIfInBounds 3 x)
 have hT':=Heap.get?_update_self (Obj.mapFields (·.setIfInBounds 3 x)) hT (Obj.isFreed_of_fields dd)
 have ha':(s.heap.update T (Obj.mapFields (·.setIfInBounds 3 x))).get? a=some oe:=(Heap.get?_update_other _ _ ne).trans ha
 refine q _ (Chg.at ..) ⟨⟨oe,vs,ha',hc,dv,v1,dn⟩,⟨_,_,x,hT',dd,by simp [l3]⟩,ne⟩ fun e=>⟨⟨oe,vs,ha',hc,dv,v1,dn⟩,⟨_,_,hT',dd,?_⟩,ne⟩
 subst e
 rw[hx]
 simp [l3]
theorem leave_A {base:Heap} {env:Env} {outer:List Env} {L a T0:Addr} {C:Value} {Q:Unit->Shared->Prop}
  (fr:A.frames=some (env::outer)) (ff:s.heap.FunFrames base (env::outer)) (fL:env.frame=some L) (fl:FlyA s.heap a C T0)
  (q:∀ h' T,(T=T0∨s.heap.objs.size≤T)->Chg ((env::outer).filterMap (·.frame)) a [T0,T] s.heap h'->Fly h' a C T->Q () { s with heap:=h' }):wpAny M A (leaving env (.ref a)) Q E s:=by
 unfold leaving
 refine wpAny_bind (note_A (base:=base) fr ff fL fl fun h1 T hT c1 f1=>?_)
 exact flight_A (s:={ s with heap:=h1 }) (S:=(env::outer).filterMap (·.frame)) f1 fun h2 c2 _ f2=>q h2 T hT (c1.trans c2) (f2 rfl)
end
end X9
namespace X9
open PySem PySem.Spec PyProof.Rows
theorem FlyA.but {h h':Heap} {a T:Addr} {C:Value} (f:FlyA h a C T) (ka:h'.get? a=h.get? a) (kT:h'.get? T=h.get? T):FlyA h' a C T:=by
 obtain⟨⟨oe,vs,ha,r⟩,⟨oT,ts,v,hT,r'⟩,ne⟩:=f
 exact⟨⟨oe,vs,ka.trans ha,r⟩,⟨oT,ts,v,kT.trans hT,r'⟩,ne⟩
theorem Chg.but {S:List Addr} {a c:Addr} {h h':Heap} (sb:Heap.SameBut c h h'):Chg S a [c] h h' :=
 ⟨fun b o _ _ n e=>(sb.2 b (by simpa using n)).trans e,fun b o _ n e=>⟨o.slots,(sb.2 b (by simpa using n)).trans e⟩,Nat.le_of_eq sb.1.symm⟩
theorem ff_of {h h' base:Heap}:∀ {l:List Env},(∀ b ∈ l.filterMap (·.frame),∀ o,h.get? b=some o->(∀ vs,o.data≠.fields vs)->∃ o',h'.get? b=some o'∧o'.data=o.data)->h.FunFrames base l->h'.FunFrames base l
 | [],_,_=>trivial
 | env::rest,k,hl=>by
  obtain⟨hk,⟨L,o,hf,hn,ho,hd⟩,hr⟩:=hl
  obtain⟨o',ho',hd'⟩:=k L (List.mem_filterMap.mpr ⟨env,List.mem_cons_self,hf⟩) o ho hd
  exact⟨hk,⟨L,o',hf,hn,ho',by rw[hd'];exact hd⟩,ff_of (fun b hb=>k b (by
   obtain⟨e,he,hb⟩:=List.mem_filterMap.mp hb
   exact List.mem_filterMap.mpr ⟨e,List.mem_cons_of_mem _ he,hb⟩)) hr⟩
end X9
namespace L3
open PySem PySem.Spec PyProof.Rows L2 X9
/-- a context of a def that may raise -/
structure XX (X:Cx) (E:XK):Prop where
 stk:X.stack=X.env::X.outer
 frm:X.env.frame=some X.env.locals
 ex:X.ex=[]
 xe:∀ e s',wpAny (model X.prog X.w) X.A (leaving X.env e) (fun _ s''=>CX1 X.prog X.w X.outer X.H₀ X.s₀ E e s'') (fun e' s''=>CX1 X.prog X.w X.outer X.H₀ X.s₀ E e' s'') s'->X.xe e s'
theorem xx_of {P:Program} {w:World} {K:PySem.W.Frag} {mg:Str->Option Value} {base:Heap} {N:List Str} {qual:Str} {scope:Scope} {f:Addr} {cd:Value} {A:Around} {outer:List Env} {s:Shared} {H:Hp} {E:XK}:XX (cxOf (CX1 P w) P w K mg base N qual scope f cd A outer s H E) E:=⟨rfl,rfl,rfl,fun _ _ h=>h⟩
section
variable {prog:Program} {w:World} {A:Around} {R:Result->Shared->Prop} {s:Shared}
/-- a list comprehension of one clause, turn by turn; what it lays by may raise -/
theorem comp_turnsX {elt tg iter:Expr} {ifs:List Expr} {scope:Scope} {pos:Pos} {it acc:Value} {env:Env} (W:Nat->Shared->Prop)
  (step:∀ n s,W n s->wpAny (model prog w) A (pyNext it) (fun r s1=>(r=none∧R (.ok .next) s1)∨∃ v,r=some v ∧
   wpAny (model prog w) A (letOwnedTupleGo tg it v) (fun _ s2=>wpAny (model prog w) A (assign tg env v) (fun _ s3 =>
    wpAny (model prog w) A (testsOf ifs env) (fun ok s4=>if ok=true then wpAny (model prog w) A (eval elt env) (fun x s5 =>
     wpAny (model prog w) A (call (.builtin "list.append") [acc,x]) (fun _ s6=>∃ m,m < n∧W m s6) Fls s5) (notedBy (model prog w) A env fun e s'=>R (.error e) s') s4 else ∃ m,m < n∧W m s4) Fls s3) Fls s2) Fls s1) Fls s)
  (n:Nat) (h:W n s):codeAny (model prog w) A (.compLoop (.ListComp elt [⟨tg,iter,ifs,0⟩] scope pos) 0 it acc env) R s:=by
 refine codeAny_loop rfl W (fun k s1 hk=>?_) n h
 show wpAny _ A ((compTurn (.ListComp elt [⟨tg,iter,ifs,0⟩] scope pos) 0 it acc env).onRaise (fun x=>do noteFrame x env;theTreesLotGoes x)) _ _ s1
 refine wpAny_noted ?_
 rw[compTurn_list]
 refine wpAny_bind (wpAny_standAt (wpAny_bind (wpAny_mono (step k s1 hk) (fun r s2 h2=>?_) fun _ _ z=>z.elim)))
 rcases h2 with ⟨rfl,h2⟩ | ⟨v,rfl,h2⟩
 ·exact wpAny_pure h2
 ·refine wpAny_bind (wpAny_mono h2 (fun _ s3 h3=>?_) fun _ _ z=>z.elim)
  refine wpAny_bind (wpAny_mono h3 (fun _ s4 h4=>?_) fun _ _ z=>z.elim)
  refine wpAny_bind (wpAny_mono h4 (fun ok s5 h5=>?_) fun _ _ z=>z.elim)
  cases ok with
  | false=>exact wpAny_pure ⟨rfl,h5⟩
  | true =>
   refine wpAny_bind (wpAny_bind (wpAny_mono h5 (fun x s6 h6=>?_) fun _ _ z=>z))
   refine wpAny_bind (wpAny_mono h6 (fun _ s7 h7=>?_) fun _ _ z=>z.elim)
   exact wpAny_pure (wpAny_pure ⟨rfl,h7⟩)
end
section
variable {X:Cx} {elt tg iter:Expr} {ifs:List Expr} {scope sc0:Scope} {pos:Pos} {own fr N:List Str} {js:List Nat} {wi:TI} {g:TG} {tt:TT} {te:TE}
theorem comp_coreX {E:XK} {pins:List (Addr × Obj)} {s:Shared} {σ:L2.St} {H:Hp} {Q:VK} {use:Option (Value->Sem Unit)} {Qo:Value->Shared->Prop} {cpos:Pos}
  (hc:X.calm=true) (hi:PI X tg iter wi) (hg:∀ fp pins s3 H3,PG (cxComp X own fr scope fp pins s3 H3) tg g) (ht:∀ fp pins s3 H3,PTs (cxComp X own fr scope fp pins s3 H3) ifs tt)
  (G:XX X E) (he:∀ fp pins s3 H3 Z,Passes (CX1 X.prog X.w) ((cxComp X own fr scope fp pins s3 H3).wish Z) E->PE ((cxComp X own fr scope fp pins s3 H3).wish Z) elt te) (hok:compOk N sc0 scope fr js=true) (hN:X.N=N) (hsc:X.env.scope=sc0)
  (hs:∀ x,foldedSetIterable iter X.env x=pure x) (I:Inv X pins σ H s) (h:tComp own js wi g tt te σ H Q)
  (fin:∀ (C D:Addr) (s6:Shared) (H6:Hp) (m6:Str->Option Value),Inv X pins σ H6 s6->FpOk X pins H6 C->s6.heap.Ns C m6->Q (.ref D) H6->compPost (model X.prog X.w) X.A X.xe use Qo (.ref D) C (.ok .next) s6) :
  wpAny (model X.prog X.w) X.A (comprehension (.ListComp elt [⟨tg,iter,ifs,0⟩] scope pos) scope X.env cpos (newList []) false (eval iter X.env) use) Qo X.xe s:=by
 have hok':=hok
 unfold compOk at hok'
 simp only [Bool.and_eq_true,decide_eq_true_eq,List.all_eq_true] at hok'
 obtain⟨⟨⟨hk,hall⟩,hlen⟩,hfr⟩:=hok'
 have hcell:∀ y ∈ scope.names,y.2≠.cell:=fun y hy=>(hall y hy).1.1
 have hloc:∀ y ∈ scope.names,y.2=.local->scope.names.lookup y.1=some .local:=fun y hy e=>by
  have q:=(hall y hy).2
  simp only [Bool.or_eq_true,decide_eq_true_eq] at q
  rcases q with q | q
  ·exact absurd e q
  ·exact q
 have hfree:∀ y ∈ scope.names,y.2=.free->∃ c,X.env.cells.lookup y.1=some c:=fun y hy e=>by
  have q:=(hall y hy).1.2
  simp only [Bool.or_eq_true,decide_eq_true_eq] at q
  rw[← hsc] at q
  rcases q with (q | q) | q
  ·exact absurd e q
  ·exact I.ok.has y.1 (.inl q)
  ·exact I.ok.has y.1 (.inr q)
 refine wpAny_comprehension_free (use:=use) rfl hs (closure_is hfree) hk hloc (thn (hi pins s σ H _ I h) fun v s1 h1=>thn h1 fun itv s2 h2=>?_)
 obtain⟨it,fp,tn,J,H2,e,I2,T,st2,f2,rd⟩:=h2
 subst e
 have hD2:H2 s2.heap.objs.size=none:=I2.fresh
 obtain⟨W,⟨m0,w0⟩,turn⟩:=rd s2.heap.objs.size hD2
  -- the new list
 refine wpAny_newList ?_ (Nat.zero_le _)
 have I3:Inv X pins σ (upd H2 s2.heap.objs.size (.lst [])) { s2 with heap:=s2.heap.push { cls:=.type "list",data:=.seq ([]:List Value).toArray } }:=I2.lnew (t':=s2.toks) .nil (Nat.zero_le _)
 generalize hs3:({ s2 with heap:=s2.heap.push { cls:=.type "list",data:=.seq ([]:List Value).toArray } }:Shared)=s3 at I3
 generalize hD:s2.heap.objs.size=D at *
 have fpl:∀ b ∈ fp,b < D:=fun b hb=>by
  obtain⟨o,ho,_⟩:=T.obj _ _ st2 b hb
  rw[← hD];exact Heap.lt_size ho
 have k23:∀ b o,s2.heap.get? b=some o->s3.heap.get? b=some o:=fun b o e=>by rw[← hs3];exact Heap.get?_push_of_some _ e
 have hD3:s3.heap.objs.size=D + 1:=by rw[← hs3,← hD];exact Heap.size_push ..
 have f3:∀ b ∈ fp,FpOk X pins (upd H2 D (.lst [])) b:=fun b hb=>by
  obtain⟨f0,f⟩:=f2 b hb
  exact⟨by rw[upd_ne (Nat.ne_of_lt (fpl b hb))];exact f0,f⟩
 refine wpAny_newFunctionEnv hcell (by intro y hy;simp at hy) (fun h4 hns4 hsb4=>?_) hk
 have k34:∀ b o,s3.heap.get? b=some o->h4.get? b=some o:=fun b o e=>hsb4.extBut b o (Nat.ne_of_lt (Heap.lt_size e)) (Heap.get?_push_of_some _ e)
 have I4:=inv_comp (own:=own) (t4:=s3.toks + ([]:List (Str × Value)).length) hN hsc hok I3 f3 (fun b hb=>Nat.lt_of_lt_of_le (fpl b hb) (by rw[hD3];exact Nat.le_succ _)) k34 hns4
 have tn4:tn 0 h4:=T.keep 0 s2.heap h4 st2 fun b hb o e=>k34 b o (k23 b o e)
 have I4o:=I4.ok
 have fpS:∀ {H'':Hp},(∀ b ∈ fp,H'' b=none)->∀ b ∈ fp,FpOk (cxComp X own fr scope fp pins s3 (upd H2 D (.lst []))) [] H'' b:=fun hn b hb =>
  ⟨hn b hb,(I4o.exf b hb).1,I4o.exfs b hb,.inl hb,(I4o.exf b hb).2,fun p hp=>(f2 b hb).2.2.2.2.2 p (by
   have:p ∈ (X.pn++pins)++([]:List (Addr × Obj)):=hp
   simpa using this)⟩
 have toX:∀ {pins':List (Addr × Obj)} {σ':L2.St} {H5:Hp} {s6:Shared},Inv (cxComp X own fr scope fp pins s3 (upd H2 D (.lst []))) pins' σ' H5 s6->Inv X pins σ H5 s6:=fun {pins' σ' H5 s6} I6=>by
  have u1:Un (frs X.stack) fp H2 H5 s2.heap s6.heap:=(Un.laid k23 (Nat.le_of_eq hD) hD2).trans I6.base
  exact I2.call' (s':=s6) (ch:=fp) (by
   have:=I6.os
   rw[← hs3] at this
   exact this) u1 I6.hok I6.bare fun b hb=>by
    obtain⟨_,g1,_,g3,g4,g5⟩:=f2 b hb
    exact⟨g3,g1,g4,g5⟩
 have hp:Passes (CX1 X.prog X.w) ((cxComp X own fr scope fp pins s3 (upd H2 D (.lst []))).wish (notedBy (model X.prog X.w) X.A (compEnvC scope (clOf X.env.cells scope.names []) s3.heap.objs.size X.env) fun e s'=>compPost (model X.prog X.w) X.A X.xe use Qo (.ref D) s3.heap.objs.size (.error e) s')) E:=by
  intro pins' σ' H1 s1 e s2' I' h
  obtain⟨a,C,T,H',rfl,os,bare,un,hok,fl,la,lT,na,nT,q⟩:=h
  have I'':=I'.call' os un hok bare (fun b z=>absurd z (by simp))
  have J1:Inv (cxComp X own fr scope fp pins s3 (upd H2 D (.lst []))) pins' σ' H1 s1:=I'.unwish
  have J2:Inv (cxComp X own fr scope fp pins s3 (upd H2 D (.lst []))) pins' σ' H' s2':=I''.unwish
  have IX1:=toX J1
  have IX2:=toX J2
  have hC3:s3.heap.get? s3.heap.objs.size=none:=Heap.get?_none_of_le (Nat.le_refl _)
  obtain⟨m1,⟨o1,es1,ep1,ho1,_⟩,_⟩:=J1.loc
  have ho1':s1.heap.get? s3.heap.objs.size=some o1:=ho1
  obtain⟨m,⟨o2,es2,ep2,ho2,hd2,hk2,hf2⟩,_⟩:=J2.loc
  have ho2':s2'.heap.get? s3.heap.objs.size=some o2:=ho2
  have nCa:s3.heap.objs.size≠a:=fun z=>by rw[z,la] at ho1';cases ho1'
  have nCT:s3.heap.objs.size≠T:=fun z=>by rw[z,lT] at ho1';cases ho1'
  have fr:X.A.frames=some (X.env::X.outer):=by rw[← G.stk];exact IX2.ok.frames
  have ff:s2'.heap.FunFrames X.base (X.env::X.outer):=by rw[← G.stk];exact IX2.stack
  have nCf:s3.heap.objs.size ∉ frs X.stack:=fun z=>by
   have:=(I3.stack.mem z).2
   obtain⟨o,e,_⟩:=this
   rw[hC3] at e;cases e
  show wpAny _ _ (noteFrame (.ref a) X.env) _ _ s2'
  refine note_A (base:=X.base) fr ff G.frm fl.any fun h1 T1 hT1 c1 f1=>?_
  have c1':Chg (frs X.stack) a [T] s2'.heap h1:=by rw[G.stk];exact c1
  have nCT1:T1≠s3.heap.objs.size:=by
   rcases hT1 with z | z
   ·rw[z];exact nCT.symm
   ·exact fun y=>absurd (Nat.lt_of_lt_of_le (Heap.lt_size ho2') (y ▸ z)) (Nat.lt_irrefl _)
  obtain⟨sl,hC1⟩:=c1'.slot _ _ nCa (by simpa using nCT) ho2'
  have post:∃ m,h1.Ns s3.heap.objs.size m∧∀ h',Heap.SameBut s3.heap.objs.size h1 h'->∀ cenv:Env,cenv.locals=s3.heap.objs.size->wpAny (model X.prog X.w) X.A (PySem.passOn "comprehension.variables-let-go" (.ref a) cenv:Sem Value) (fun _ _=>False) X.xe { s2' with heap:=h' }:=by
   refine⟨m,⟨_,es2,ep2,hC1,hd2,hk2,hf2⟩,fun h2 sb cenv _=>?_⟩
   have f2':FlyA h2 a (.ref C) T1:=f1.but (sb.2 a nCa.symm) (sb.2 T1 nCT1)
   have f2e:=f2'.ex
   obtain⟨oe,vs,ha,hc',dv,v1,dn⟩:=f2e
   unfold PySem.passOn
   refine wpAny_bind (wpAny_field (s:={ s2' with heap:=h2 }) ha dv v1 ?_)
   have nz:(Value.ref T1 == Value.none)=false:=rfl
   rw[nz]
   refine wpAny_ite_split (fun z=>absurd z (by decide)) fun _=>?_
   refine wpAny_bind (flight_A (s:={ s2' with heap:=h2 }) (S:=frs X.stack) f2' fun h3 c3 f3 _=>wpAny_throw (G.xe _ _ ?_))
   have cc:Chg (frs X.stack) a ([T]++[s3.heap.objs.size]++[T1]) s2'.heap h3:=(c1'.trans (Chg.but sb)).trans c3
   have nfl:∀ b ∈ frs X.stack,b≠a∧b ∉ [T]++[s3.heap.objs.size]++[T1]:=fun b hb=>by
    obtain⟨_,o,e,n⟩:=IX1.stack.mem hb
    refine⟨fun z=>(by rw[z,la] at e;cases e),fun z=>?_⟩
    rcases List.mem_append.mp z with z | z
    ·rcases List.mem_append.mp z with z | z
     ·rw[List.mem_singleton.mp z,lT] at e;cases e
     ·exact nCf (List.mem_singleton.mp z ▸ hb)
    ·rw[List.mem_singleton.mp z] at e hb
     rcases hT1 with y | y
     ·rw[y,lT] at e;cases e
     ·obtain⟨_,o',e',_⟩:=IX2.stack.mem hb
      exact absurd (Nat.lt_of_lt_of_le (Heap.lt_size e') y) (Nat.lt_irrefl _)
   have ff3:h3.FunFrames X.base (X.env::X.outer):=ff_of (fun b hb o e _=>by
    have hb':b ∈ frs X.stack:=by rw[G.stk];exact hb
    obtain⟨sl,e'⟩:=cc.slot b o (nfl b hb').1 (nfl b hb').2 e
    exact⟨_,e',rfl⟩) ff
   refine leave_A (s:={ s2' with heap:=h3 }) (base:=X.base) fr ff3 G.frm f3 fun h4 T4 hT4 c4 fl4=>?_
   have c4':Chg (frs X.stack) a [T1,T4] h3 h4:=by rw[G.stk];exact c4
   have hT:X.s₀.heap.get? T=none∧H' T=none:=⟨inv_new IX1 G.ex lT,nT⟩
   have big:∀ {b:Addr},s2'.heap.objs.size≤b->X.s₀.heap.get? b=none∧H' b=none:=fun le=>⟨inv_new IX2 G.ex (Heap.get?_none_of_le le),IX2.hok.fresh le⟩
   have hT1':X.s₀.heap.get? T1=none∧H' T1=none:=by
    rcases hT1 with y | y
    ·rw[y];exact hT
    ·exact big y
   have hT4':X.s₀.heap.get? T4=none∧H' T4=none:=by
    rcases hT4 with y | y
    ·rw[y];exact hT1'
    ·exact big (Nat.le_trans cc.sz y)
   have hCC:X.s₀.heap.get? s3.heap.objs.size=none∧H' s3.heap.objs.size=none:=⟨inv_new I3 G.ex hC3,J2.free⟩
   have cg:=cc.trans c4'
   obtain⟨u,ho⟩:=inv_left IX2 G.ex cg ⟨inv_new IX1 G.ex la,na⟩ (fun b hb=>by
    simp only [List.mem_append,List.mem_cons,List.not_mem_nil,or_false] at hb
    rcases hb with ((rfl | rfl) | rfl) | rfl | rfl
    ·exact hT
    ·exact hCC
    ·exact hT1'
    ·exact hT1'
    ·exact hT4')
   exact⟨a,C,T4,H',rfl,IX2.os,IX2.bare,u,ho,fl4,inv_new IX1 G.ex la,hT4'.1,na,hT4'.2,q⟩
  cases use <;> exact post
 have loop : codeAny (model X.prog X.w) X.A (.compLoop (.ListComp elt [⟨tg, iter, ifs, 0⟩] scope pos) 0 (.ref it) (.ref D) (compEnvC scope (clOf X.env.cells scope.names []) s3.heap.objs.size X.env))
     (compPost (model X.prog X.w) X.A X.xe use Qo (.ref D) s3.heap.objs.size) { s3 with heap:=h4,toks:=s3.toks + ([]:List (Str × Value)).length }:=by
  refine comp_turnsX (fun n s'=>∃ i ys σ' H',Inv (cxComp X own fr scope fp pins s3 (upd H2 D (.lst []))) [] σ' H' s'∧tn i s'.heap∧(∀ b ∈ fp,H' b=none)∧H' D=some (.lst ys)∧W i n ys σ' H')
   ?step m0 ⟨0,[],_,_,I4,tn4,fun b hb=>(f3 b hb).1,upd_same,w0⟩
  rintro n s5 ⟨i,ys,σ5,H5,I5,tn5,fr5,d5,w5⟩
  rcases turn i n ys σ5 H5 w5 d5 with ⟨stop,q⟩ | ⟨go,stp⟩
  ·refine thn (T.done (cxComp X own fr scope fp pins s3 (upd H2 D (.lst []))) rfl rfl rfl hc i [] s5 σ5 H5 Fls I5 (fpS fr5) tn5 stop) fun r s6 ⟨hr,I6⟩=>.inl ⟨hr,?_⟩
   obtain⟨m6,hn6,_⟩:=id I6.loc
   have u1:Un (frs X.stack) fp H2 H5 s2.heap s6.heap:=(Un.laid k23 (Nat.le_of_eq hD) hD2).trans I6.base
   have fC:H5 s3.heap.objs.size=none:=I6.free
   have IX:Inv X pins σ H5 s6:=I2.call' (s':=s6) (ch:=fp) (by
    have:=I6.os
    rw[← hs3] at this
    exact this) u1 I6.hok I6.bare fun b hb=>by
     obtain⟨_,g1,_,g3,g4,g5⟩:=f2 b hb
     exact⟨g3,g1,g4,g5⟩
   exact fin s3.heap.objs.size D s6 H5 m6 IX (I2.fpOk (by rw[hD3,hD];exact Nat.le_succ _) fC) hn6 q
  ·refine thn (T.item (cxComp X own fr scope fp pins s3 (upd H2 D (.lst []))) rfl rfl rfl hc i [] s5 σ5 H5 Fls I5 (fpS fr5) tn5 go) fun r s6 ⟨u,hr,h6⟩=>.inr ⟨u,hr,thn h6 fun _ s7 ⟨x,H7,I7,r7,y7,tn7,fr7⟩=>?_⟩
   have I7':=I7.pinned (fpS fr7) (T.obj _ _ tn7)
   refine thn (hg fp pins s3 (upd H2 D (.lst [])) _ s7 σ5 H7 x u _ I7' r7 (stp x H7 y7)) fun _ s8 ⟨σ8,H8,I8,q8⟩=>?_
   refine thn (ht fp pins s3 (upd H2 D (.lst [])) _ s8 σ8 H8 _ I8 q8) fun ok s9 ⟨H9,I9,q9⟩=>?_
   have back:∀ {σ':L2.St} {H':Hp} {s':Shared},Inv (cxComp X own fr scope fp pins s3 (upd H2 D (.lst []))) ([]++pinsAt fp s7.heap) σ' H' s'->tn (i + 1) s'.heap∧∀ b ∈ fp,H' b=none:=fun {σ' H' s'} J=>by
    refine⟨T.keep _ _ _ tn7 fun b hb o e=>(J.pin (b,o) (List.mem_append_right _ (List.mem_append_right _ (mem_pinsAt hb e)))).1,fun b hb=>?_⟩
    obtain⟨o,e,_⟩:=T.obj _ _ tn7 b hb
    exact (J.pin (b,o) (List.mem_append_right _ (List.mem_append_right _ (mem_pinsAt hb e)))).2.1
   cases ok with
   | false =>
    rw[if_neg Bool.false_ne_true] at q9
    obtain⟨d9,m',hm,w9⟩:=q9
    rw[if_neg Bool.false_ne_true]
    exact⟨m',hm,i + 1,ys,σ8,H9,I9.unpinned,(back I9).1,(back I9).2,d9,w9⟩
   | true =>
    rw[if_pos rfl] at q9 ⊢
    refine thn (he fp pins s3 (upd H2 D (.lst [])) _ hp _ s9 σ8 H9 _ (I9.wish _) q9) fun xv s10 ⟨v,H10,I10',r10,d10,len,m',hm,w10⟩=>?_
    have I10:=I10'.unwish
    refine thn (mt_append (X:=cxComp X own fr scope fp pins s3 (upd H2 D (.lst []))) _ s10 σ8 H10 (.ref D) [v] (.ref D) [xv] (fun _ H'=>H'=upd H10 D (.lst (ys++[v]))) I10 rfl (.cons r10 .nil) ⟨D,ys,v,rfl,rfl,d10,len,rfl⟩) fun _ s11 ⟨_,H11,I11,_,e11⟩=>?_
    subst e11
    exact⟨m',hm,i + 1,ys++[v],σ8,_,I11.unpinned,(back I11).1,(back I11).2,upd_same,w10⟩
 exact codeAny_compStart_list loop (T.self X.A 0 _ _ _ tn4 loop)
theorem pe_compX {E:XK} (hc:X.calm=true) (G:XX X E) (hi:PI X tg iter wi) (hg:∀ fp pins s3 H3,PG (cxComp X own fr scope fp pins s3 H3) tg g) (ht:∀ fp pins s3 H3,PTs (cxComp X own fr scope fp pins s3 H3) ifs tt)
  (he:∀ fp pins s3 H3 Z,Passes (CX1 X.prog X.w) ((cxComp X own fr scope fp pins s3 H3).wish Z) E->PE ((cxComp X own fr scope fp pins s3 H3).wish Z) elt te) (hok:compOk N sc0 scope fr js=true:=by decide +kernel) (hN:X.N=N:=by rfl) (hsc:X.env.scope=sc0:=by rfl)
  (hs:∀ x,foldedSetIterable iter X.env x=pure x:=by intro _;rfl):PE X (.ListComp elt [⟨tg,iter,ifs,0⟩] scope pos) (tComp own js wi g tt te):=by
 intro pins s σ H Q I h
 rw[eval_ListComp]
 refine comp_coreX hc hi hg ht G he hok hN hsc hs I h fun C D s6 H6 m6 I6 f6 n6 q6=>⟨m6,n6,fun h7 sb=>⟨.ref D,H6,?_,rfl,q6⟩⟩
 obtain⟨f0,f1,_,f3,f4,f5⟩:=f6
 exact I6.turned (it:=C) (t':=s6.toks) (fun b o hb e=>sb.extBut b o hb e) f0 f1 f3 f4 f5
/-- a call in a block within a def that may raise, of one that may raise -/
theorem pe_callXP {E:XK} {k:Nat} {x:Str} {ps:List Str} {sp:Sp} {p pos:Pos} {e:Expr} {es:List Expr} {t:TA} (O:OkX X.prog X.w X.K X.mg X.base k x ps sp) (hr:Room k X.A) (hg:Gl X x) (hp:Passes (CX1 X.prog X.w) X E) (ha:PA X (e::es) t)
  (hdb:(x == ("__debug__":Str))=false:=by decide) (he:starEach (e::es) X.env=(false,eval e X.env)::starEach es X.env:=by rfl) (hpl:(backTo pos (starEach es X.env)).any (·.1)=false:=by rfl) :
  PE X (.Call (.Name x p) (e::es) [] pos) (tCall sp [] E t):=by
 obtain⟨g,fd,F,b,kp,m⟩:=O
 exact pe_call F hr hg m kp b .nil hp ha hdb he hpl
theorem pe_callD0 {k:Nat} {x:Str} {sp:Sp} {p pos:Pos} (O:Ok X.prog X.w X.K X.mg X.base k x [] sp) (hr:Room k X.A) (hg:Gl X x) (hdb:(x == ("__debug__":Str))=false:=by decide):PE X (.Call (.Name x p) [] [] pos) (tCall sp [] E0 tNil):=by
 obtain⟨f,fd,F,b,kp,m⟩:=O
 exact pe_call0 F hr hg m kp b .nil pass0 hdb
/-- a written list as the one argument: by rfl with its things in sight the unfolding never ends -/
theorem star_List {elts es:List Expr} {p:Pos} {env:Env}:starEach (.List elts p::es) env=(false,eval (.List elts p) env)::starEach es env:=by rfl
theorem pe_bmL {T id:String} {name:Str} {r:V->List V->Hp->VK->Prop} {o:Expr} {to te:TE} {elts:List Expr} {p apos cpos:Pos} (pa:PlainAttrs T) (slot:Slot T name id) (hty:typeOf (.builtin id)=pure (.type "method_descriptor")) (hm:MtR X id r) (ho:PE X o to) (ha:PE X (.List elts p) te)
  (hbase:attributeBase o name X.env (eval o X.env)=eval o X.env:=by rfl) (hline:(apos.endLine == cpos.line)=true:=by rfl) :
  PE X (.Call (.Attribute o name apos) [.List elts p] [] cpos) (tBM X.K T r to (tCons te tNil)) :=
 pe_bm pa slot hty hm ho (pa_cons ha pa_nil star_List) hbase (by rw[star_List];rfl) hline star_List (by rfl)
theorem star_Tuple {elts es:List Expr} {c:Nat} {p:Pos} {env:Env}:starEach (.Tuple elts c p::es) env=(false,eval (.Tuple elts c p) env)::starEach es env:=by rfl
theorem pa_consT {elts es:List Expr} {c:Nat} {p:Pos} {te:TE} {t:TA} (ha:PE X (.Tuple elts c p) te) (hr:PA X es t):PA X (.Tuple elts c p::es) (tCons te t):=pa_cons ha hr star_Tuple
theorem pa_consL {elts es:List Expr} {p:Pos} {te:TE} {t:TA} (ha:PE X (.List elts p) te) (hr:PA X es t):PA X (.List elts p::es) (tCons te t):=pa_cons ha hr star_List
theorem ba_consT {elts es:List Expr} {c:Nat} {p:Pos} {te:TE} {t:TA} (a:BE X (.Tuple elts c p) te) (b:BA X es t):BA X (.Tuple elts c p::es) (tCons te t):=⟨pa_consT a.h b.h⟩
theorem ba_consL {elts es:List Expr} {p:Pos} {te:TE} {t:TA} (a:BE X (.List elts p) te) (b:BA X es t):BA X (.List elts p::es) (tCons te t):=⟨pa_consL a.h b.h⟩
theorem be_bmL {T id:String} {name:Str} {r:V->List V->Hp->VK->Prop} {o:Expr} {to te:TE} {elts:List Expr} {p apos cpos:Pos} (pa:PlainAttrs T) (slot:Slot T name id) (hty:typeOf (.builtin id)=pure (.type "method_descriptor")) (hm:MtR X id r) (ho:PE X o to) (ha:BE X (.List elts p) te)
  (hbase:attributeBase o name X.env (eval o X.env)=eval o X.env:=by rfl) (hline:(apos.endLine == cpos.line)=true:=by rfl) :
  BE X (.Call (.Attribute o name apos) [.List elts p] [] cpos) (tBM X.K T r to (tCons te tNil)):=⟨pe_bmL pa slot hty hm ho ha.h hbase hline⟩
theorem ba_consC {cv:Const} {c:Nat} {p:Pos} {es:List Expr} {te:TE} {t:TA} (a:BE X (.Constant cv c p) te) (b:BA X es t):BA X (.Constant cv c p::es) (tCons te t):=⟨pa_cons a.h b.h (by rfl)⟩
theorem ba_consB {l r:Expr} {op:Operator} {p:Pos} {es:List Expr} {te:TE} {t:TA} (a:BE X (.BinOp l op r p) te) (b:BA X es t):BA X (.BinOp l op r p::es) (tCons te t):=⟨pa_cons a.h b.h (by rfl)⟩
theorem ba_consN {x:Str} {p:Pos} {es:List Expr} {te:TE} {t:TA} (a:BE X (.Name x p) te) (b:BA X es t):BA X (.Name x p::es) (tCons te t):=⟨pa_cons a.h b.h (by rfl)⟩
theorem ba_consD {ks:List (Option Expr)} {vs:List Expr} {p:Pos} {es:List Expr} {te:TE} {t:TA} (a:BE X (.Dict ks vs p) te) (b:BA X es t):BA X (.Dict ks vs p::es) (tCons te t):=⟨pa_cons a.h b.h (by rfl)⟩
theorem bs_if {c:Expr} {a b:List Stmt} {tc:TT} {t u:TS} {pos:Pos} (hc:PT X c tc) (ha:BSs X a t) (hb:BSs X b u):BS X (.If c a b pos) (tIfS tc t u):=⟨ps_if hc ha.h hb.h⟩
theorem bss_nil:BSs X [] tNext:=⟨pss_nil⟩
theorem bs_ret {e:Expr} {te:TE} {pos:Pos} (he:BE X e te):BS X (.Return (some e) pos) (tRet te):=⟨ps_ret he.h⟩
theorem be_ix {a b:Expr} {ta tb:TE} {pos:Pos} {r:R2} (hr:IxR X r) (ha:BE X a ta) (hb:BE X b tb) (hs:PlainIx b):BE X (.Subscript a b pos) (tOp r ta tb):=⟨pe_ix hr ha.h hb.h hs⟩
theorem bs_forB {tg iter:Expr} {body:List Stmt} {wi:TI} {g:TG} {tb:TS} {pos:Pos} (hp:PassesOwn (model X.prog X.w) X.A X.env X.xe) (hc:X.calm=true) (hi:PI X tg iter wi) (hg:PG X tg g) (hb:BSs X body tb)
  (hs:∀ x,foldedSetIterable iter X.env x=pure x:=by intro _;rfl):BS X (.For tg iter body [] pos) (tFor wi g tb):=⟨ps_for hp hc hi hg hb.h hs⟩
end
end L3
namespace L3
open PySem PySem.Spec PyProof.Rows L2 X9
/-- an expression that may raise: what comes of it is asked at the state where it stands -/
def PEX (X:Cx) (e:Expr) (t:XK->TE):Prop:=∀ (E:XK) (pins:List (Addr × Obj)) (s:Shared) (σ:L2.St) (H:Hp) (Q:VK) (Z:Value->Shared->Prop),Inv X pins σ H s->t E σ H Q ->
 (∀ H1 s1 ev s',Inv X pins σ H1 s1->CX1 X.prog X.w X.stack H1 s1 E ev s'->Z ev s')->wpAny (model X.prog X.w) X.A (eval e X.env) (EP X pins σ Q) Z s
section
variable {X:Cx} {p pos:Pos} {e:Expr} {es:List Expr}
theorem pex_call {k:Nat} {x:Str} {ps:List Str} {sp:Sp} {t:TA} (O:OkX X.prog X.w X.K X.mg X.base k x ps sp) (hr:Room k X.A) (hg:Gl X x) (ha:PA X.nox (e::es) t)
  (hdb:(x == ("__debug__":Str))=false:=by decide) (he:starEach (e::es) X.env=(false,eval e X.env)::starEach es X.env:=by rfl) (hpl:(backTo pos (starEach es X.env)).any (·.1)=false:=by rfl) :
  PEX X (.Call (.Name x p) (e::es) [] pos) (fun E=>tCall sp [] E t):=fun E pins s σ H Q Z I h hz=>by
 refine call_try O hr hg ha I ?_ hz hdb he hpl
 unfold tCall at h
 simp only [List.append_nil] at h
 exact h
def tTryS (K:PySem.W.Frag) (B:Addr) (m i j:Nat) (t:XK->TE):TS:=fun D σ H=>t (caughtE K B i j D.nx σ) σ H fun v H1=>D.nx (σ.set m (some v)) H1
/-- try: x = e except B as e: caught = e -/
theorem ps_trySet {k:Nat} {t:XK->TE} {B:Addr} {m i j:Nat} {xn tn en cn:Str} {tp cp ep apos hpos xpos np tpos:Pos}
  (hx:PEX X e t) (hr:Room k X.A) (hN:X.N.Nodup) (hm:X.mg tn=some (.ref B)) (hmm:X.N[m]?=some xn:=by rfl) (hi:X.N[i]?=some cn:=by rfl) (hj:X.N[j]?=some en:=by rfl) (hij:i≠j:=by decide)
  (lm:X.env.scope.names.lookup xn=some .local:=by rfl) (li:X.env.scope.names.lookup cn=some .local:=by rfl) (lj:X.env.scope.names.lookup en=some .local:=by rfl) (hgt:Gl X tn:=by rfl)
  (hex:X.ex=[]:=by rfl) (hst:X.stack=X.env::X.outer:=by rfl) (hfr:X.env.frame=some X.env.locals:=by rfl)
  (hdt:(tn == ("__debug__":Str))=false:=by decide) (hdc:(en == ("__debug__":Str))=false:=by decide) (hcc:(en == ("__classdict__":Str))=false:=by decide)
  (hsw:swapsWith (.Name en ep) (some (.Name cn cp)) apos.line X.env=pure false:=by rfl) (hs:swapsWith e (some (.Name xn np)) xpos.line X.env=pure false:=by rfl) :
  PS X (.Try [.Assign [.Name xn np] e xpos] [.ExceptHandler (some (.Name tn tp)) (some en) [.Assign [.Name cn cp] (.Name en ep) apos] hpos] [] [] tpos) (tTryS X.K B m i j t):=by
 intro pins s σ H D I h
 refine wpAny_Try_except (wpAny_execs_cons (wpAny_Assign_Name (thn (hx _ pins s σ H _ _ I h (fun H1 s1 ev s2 J q=>handle_as hex hst hfr hr.hd hN hi hj hij li lj hgt hm hdt hdc hcc hsw J q)) fun v s1 ⟨y,H1,I1,r1,q1⟩=>?_) hs))
 exact store_ok I1 hN hmm (.inl lm) r1 (fun s2 I2=>wpAny_execs_nil (wpAny_execs_nil ⟨_,H1,I2,q1⟩)) (.inr lm)
end
end L3
namespace Hx
open PySem PySem.W
/-- a statement of the top: its number, the first address and the first token it takes, the module's name (statement, token), for a class the chunk of its base -/
structure Ch where
 i:Nat
 a:Nat
 t:Nat
 j:Nat
 u:Nat
 b:Nat:=0
def stt (p:Program) (i:Nat):Stmt:=p.main.body.getD i (.Pass ⟨0,0,0,0⟩)
def fileS:Str:=Str.ofString "/claim/cut.py"
def mdV (p:Program) (c:Ch):Value:=match stt p c.j with
 | .Assign _ (.Constant (.str x) _ _) _=>.str x c.u
 | _=>.str (Str.ofString "__main__") c.u
def sT (xs:List Value):Obj:=⟨.type "tuple",none,.seq xs.toArray 0,#[]⟩
def fE (xs:List Value):Obj:=⟨.none,none,.fields xs.toArray,#[]⟩
def tks:List Str->Nat->List Value
 | [],_=>[]
 | v::r,t=>.str v t::tks r (t + 1)
def z:Value:=.int 0 0
def cdO (nm q:Str) (t:Nat) (l:Int) (na fl:Int) (k:Value) (fn:Bool) (tb vs cs tp:Value) (u:Nat):Obj :=
 ⟨.type "code",none,.fields #[.str nm t,.str q (t + 1),.str fileS (t + 2),.int l 0,.int na 0,z,z,.int fl 0,k,.bool fn,.int 181 0,tb,.none,vs,cs,tp,.int u 0,.int l 0,.str fileS (u + 1)],#[]⟩
def ent (P:Params) (s:Str) (t:Nat) (v:Value):DictEntry:=⟨PyData.keyHash P s,.str s t,v⟩
def dO (es:List DictEntry) (n:Nat):Obj:=⟨.type "dict",none,.dict es.toArray n,#[]⟩
structure Got where
 os:List Obj
 en:List DictEntry
 tb:List Value
def fO (P:Params) (md:Value) (a t:Nat) (name:Str) (args:Arguments) (body:List Stmt) (scope:Scope) (bind:Str) (pos:Pos):Got :=
 let fd:FuncData:=⟨name,bind,args,.stmts body,scope,0,[],.none,.none,.none,.none,none,.none,.none,0⟩
 let k (vs cs:Value) (b u:Nat) (h:List Obj):Got :=
  ⟨h++[⟨.none,none,.func fd,#[]⟩,cdO name bind t pos.line args.args.length 3 (.ref a) true (.ref (a + 1)) vs cs (.ref b) u,
   ⟨.type "function",none,.func ⟨name,bind,args,.stmts body,scope,3,[],.none,.none,.none,md,none,.ref (b + 1),.none,0⟩,#[]⟩],
   [ent P name (u + 2) (.ref (b + 2))],[.int pos.line 0,.int pos.col 0,.ref (b + 1)]⟩
 match localNames args scope (.stmts body) with
 | none=>k .none .none (a + 2) (t + 3) [sT [],fE []]
 | some (vs,cs)=>k (.ref (a + 2)) (.ref (a + 3)) (a + 4) (t + 3 + vs.length + cs.length) [sT [],fE [],sT (tks vs (t + 3)),sT (tks cs (t + 3 + vs.length))]
/-- the base class's address, and its bases; none: ValueError -/
def mro0:List Value:=[.type "ValueError",.type "Exception",.type "BaseException",.type "object"]
def clO (P:Params) (md:Value) (a t:Nat) (base:Option Nat) (sub:List Value) (name bind:Str) (pos:Pos):Got :=
 let l:Int:=pos.line
 let w:=base.isNone
 let C:=a + 9 - (if w then 0 else 0)
 let bs:Value:=match base with | none=>.type "ValueError" | some b=>.ref b
 let e1:=ent P (Str.ofString "__module__") (t + 7) md
 let e2:=ent P (Str.ofString "__firstlineno__") (t + 11) (.int l (t + 10))
 let e3:=ent P (Str.ofString "__static_attributes__") (t + 12) (.ref (a + 7))
 ⟨[sT [bs],⟨.type "builtin_function_or_method",none,.fields #[.builtin "type.__prepare__",.type "type"],#[]⟩,
  dO [e1,ent P (Str.ofString "__qualname__") (t + 9) (.str bind (t + 8)),e2,e3] 4,sT [],fE [],
  cdO name bind (t + 2) l 0 0 (.ref (a + 3)) false (.ref (a + 4)) .none .none .none (t + 5),
  ⟨.type "frame",none,.plain,#[some (.ref (a + 5)),some (.ref 3),some (.ref (a + 2)),none,some md,none,some (.ref 0)]⟩,sT [],
  dO (e1::e2::e3::(if w then [ent P (Str.ofString "__weakref__") (t + 14) (.ref (a + 10)),ent P (Str.ofString "__doc__") (t + 15) .none] else [ent P (Str.ofString "__doc__") (t + 13) .none])) (if w then 3 else 2),
  ⟨.type "type",none,.cls ⟨name,[bs],.ref C::(match base with | none=>mro0 | some b=>.ref b::mro0),a + 8,bind,true,[],sub,false,none,false⟩,
   #[some (.ref a),none,some (.str name t),some (.str bind (t + 8)),some (.builtin "ValueError.__new__"),some (.bool true)]⟩] ++
  (if w then [⟨.type "getset_descriptor",none,.fields #[.str (Str.ofString "__weakref__") (t + 13),.ref C,.builtin "ExceptionGroup.__weakref__",.none],#[]⟩] else []) ++
  [⟨.type "super",none,.fields #[.ref C,.ref C,.ref C],#[]⟩,⟨.type "builtin_function_or_method",none,.fields #[.builtin "object.__init_subclass__",.ref C],#[]⟩],
  [ent P name (t + (if w then 17 else 15)) (.ref C)],[.int l 0,.int pos.col 0,.ref (a + 5)]⟩
/-- what a statement leaves, where the chunks cs are behind it -/
def got (p:Program) (P:Params) (cs:List Ch) (c:Ch):Got:=match stt p c.i with
 | .FunctionDef name args body _ _ _ scope _ bind pos=>fO P (mdV p c) c.a c.t name args body scope bind pos
 | .ClassDef name _ _ _ _ _ _ _ bind _ pos=>clO P (mdV p c) c.a c.t (if c.b == 0 then none else some c.b) (cs.filterMap fun d=>if d.b == c.a + 9 then some (.ref (d.a + 9)) else none) name bind pos
 | _=>⟨[],[],[]⟩
/-- the module's name as the last statement set it -/
def nameNow (p:Program) (cs:List Ch):Option Value:=match cs.getLast? with
 | some c=>some (mdV p { c with j:=c.j,u:=c.u })
 | none=>none
def setName (P:Params) (v:Option Value):List DictEntry->List DictEntry
 | e::r=>(match v with | some v=>{ e with val:=v } | none=>e)::r
 | []=>[]
def globO (p:Program) (P:Params) (cs:List Ch) (en:List DictEntry):Obj->Obj
 | ⟨c,d,.dict es n,s⟩=>⟨c,d,.dict (setName P (nameNow p cs) es.toList++en).toArray (n + en.length),s⟩
 | o=>o
/-- the objects behind the chunks cs, where B are those of the boot -/
def objs (p:Program) (P:Params) (B:List Obj) (cs:List Ch):List Obj :=
 let gs:=cs.map (got p P cs)
 match B with
 | b0::b1::b2::b3::r=>b0::b1::b2::globO p P cs (gs.flatMap (·.en)) b3::(r++(sT []::fE (gs.flatMap (·.tb)) ::
  cdO (Str.ofString "<module>") (Str.ofString "<module>") 182 1 0 0 (.ref 11) false (.ref 12) .none .none .none 185 ::
  ⟨.type "frame",none,.plain,#[some (.ref 13),some (.ref 3),some (.ref 3),none,some (.str (Str.ofString "__main__") 164),none,some (.ref 0)]⟩::gs.flatMap (·.os)))
 | _=>[]
def spl:List Obj->List Obj × List Obj
 | []=>([],[])
 | x::r=>(x::(spl r).2,(spl r).1)
def braun:Nat->List Obj->BT
 | 0,_=>.nil
 | _ + 1,[]=>.nil
 | f + 1,o::r=>.node o (braun f (spl r).1) (braun f (spl r).2)
/-- where a piece ends: the statements behind, the next address, the next token -/
structure Cut where
 k:Nat
 n:Nat
 t:Nat
def hpT (p:Program) (B:Params->List Obj) (cs:List Ch) (c:Cut) (P:Params):Heap:=absHeap (braun 12 (objs p P (B P) (cs.take c.k))) c.n {}
def stT (p:Program) (B:Params->List Obj) (D:Drawn) (cs:List Ch) (c:Cut) (w:World) (os:OsState):SharedT :=
 ⟨braun 12 (objs p w.params (B w.params) (cs.take c.k)),c.n,{},Array.mk [],D,c.t,os⟩
def env (p:Program):Env:={ scope:=p.main.scope,locals:=mainNs,globals:=mainNs,cells:=[],code:=.ref 13,frame:=some 14 }
def cE (p:Program):Code:=.body p.main.body (env p)
def pos0:Pos:=⟨0,0,0,0⟩
def posOf (p:Program):Nat->Pos
 | 0=>pos0
 | k + 1=>match stt p k with
  | .Assign [.Name _ q] _ _=>q
  | .FunctionDef _ _ _ _ _ _ _ _ _ q=>q
  | .ClassDef _ _ _ _ _ _ _ _ _ _ q=>q
  | _=>pos0
def ann0:Option Value:=some (.ref 6)
def PieceT (p:Program) (B:Params->List Obj) (D:Drawn) (cs:List Ch) (a b:Cut) (N:Nat):Prop:=∀ w:World,
 (fun os=>segRunT treeTable p w 11 ann0 1 N (stT p B D cs a w os) (piecesOf ((p.main.body.drop a.k).take (b.k - a.k)) (env p) (cE p) (posOf p a.k) [topFrame pos0]))=fun os=>some (Flow.next,stT p B D cs b w os,cE p,posOf p b.k)
def PreT (p:Program) (B:Params->List Obj) (D:Drawn) (h:Params->Heap) (t:Nat) (cs:List Ch) (a:Cut):Prop:=∀ w:World,
 (fun os=>topGo treeTable p w 11 ann0 12 ⟨h w.params,Array.mk [],D,t,os⟩ (topStub p))=fun os=>some ((stT p B D cs a w os).abs,⟨denote treeTable (cE p),cE p,pos0,[topFrame pos0]⟩)
def BlockT (p:Program):Prop:=∀ (w:World) (s:Shared),segRun treeTable p w 11 ann0 1 1 s (blockOf p.main.body (env p) (cE p) pos0 [topFrame pos0])=some (.next,s,cE p,pos0)
noncomputable def boots (P:Params):List Obj:=[boot_o_0 P,boot_o_1 P,boot_o_2 P,boot_o_3 P,boot_o_4 P,boot_o_5 P,boot_o_6 P,boot_o_7 P,boot_o_8 P,boot_o_9 P,boot_o_10 P]
/-- the statements of the view -/
def qv (p:Program) (is:List Nat):Program:={ p with main:={ p.main with body:=is.map (stt p) } }
def nmO:Stmt->Option Str
 | .FunctionDef n ..=>some n
 | .ClassDef n ..=>some n
 | _=>none
def lz (p:Program) (is:List Nat) (n:Nat):List Str:=(List.range n).filterMap fun i=>if is.contains i then none else nmO (stt p i)
/-- what the law's run never changes: the globals, each def's code and object, each class with its names -/
def kk (a:Nat) (g:Got):List (Nat × Obj):=match g.os with
 | [_,_,_,c,f]=>[(a + 3,c),(a + 4,f)]
 | [_,_,_,_,_,c,f]=>[(a + 5,c),(a + 6,f)]
 | _::_::_::_::_::_::_::_::d::C::_=>[(a + 8,d),(a + 9,C)]
 | _=>[]
def Kf (p:Program) (B:Params->List Obj) (cs:List Ch) (P:Params):Frag :=
 let gs:=cs.map (got p P cs)
 (3,globO p P cs (gs.flatMap (·.en)) ((B P).getD 3 (sT [])))::(cs.zip gs).flatMap fun c=>kk c.1.a c.2
def LookA (p:Program) (B:Params->List Obj) (D:Drawn) (h:Params->Heap) (cs:List Ch) (c:Cut):Prop:=∀ w:World,(fun os =>
  (staticsOk (importedModules p.main.body) (h w.params) (hpT p B cs c w.params) && namesBound p (hpT p B cs c w.params) && gensDone ⟨hpT p B cs c w.params,Array.mk [],D,c.t,os⟩ && laidKept (h w.params) (hpT p B cs c w.params)))=fun _:OsState=>true
def LookB (p:Program) (B:Params->List Obj) (D:Drawn) (cs:List Ch) (c:Cut) (is:List Nat) (rc:WRecords):Prop:=∀ w:World,(fun os =>
  openSeen (qv p is) (lz p is c.k) (importedModules p.main.body) (fun s=>xlAt (qv p is) [] s && recOk rc s) true ⟨hpT p B cs c w.params,Array.mk [],D,c.t,os⟩)=fun _:OsState=>openGood (qv p is) (lz p is c.k)
def LookC (p:Program) (B:Params->List Obj) (cs:List Ch) (c:Cut) (as:List Nat):Prop:=∀ w:World,as.map (hpT p B cs c w.params).get?=(Kf p B cs w.params).map fun p=>some p.2
section
variable {p:Program} {D:Drawn} {cs:List Ch}
theorem fin_any {w:World} {s:Shared} {c:Code} {q:Pos}:topRun treeTable p w 11 ann0 2 s ⟨doneF .next,c,q,[topFrame pos0]⟩=some s:=rfl
theorem chain_end {w:World} {os:OsState} {c:Cut} (h:p.main.body.drop c.k=[]) :
  topRun treeTable p w 11 ann0 2 (stT p boots boot_drawn cs c w os).abs (restOf (p.main.body.drop c.k) (env p) (cE p) (posOf p c.k) [topFrame pos0])=some (stT p boots boot_drawn cs c w os).abs:=by
 rw[h];exact piece_nil fin_any
theorem chain {w:World} {os:OsState} {a b:Cut} {N M:Nat} {r:Shared} (h:PieceT p boots boot_drawn cs a b N) (le:a.k≤b.k)
  (k:topRun treeTable p w 11 ann0 M (stT p boots boot_drawn cs b w os).abs (restOf (p.main.body.drop b.k) (env p) (cE p) (posOf p b.k) [topFrame pos0])=some r) :
  topRun treeTable p w 11 ann0 (N + M) (stT p boots boot_drawn cs a w os).abs (restOf (p.main.body.drop a.k) (env p) (cE p) (posOf p a.k) [topFrame pos0])=some r:=by
 have e:p.main.body.drop a.k=(p.main.body.drop a.k).take (b.k - a.k)++p.main.body.drop b.k:=by
  have x:=(List.take_append_drop (b.k - a.k) (p.main.body.drop a.k)).symm
  rw[List.drop_drop,Nat.add_sub_cancel' le] at x;exact x
 rw[e];exact piece_app (segRun_of (congrFun (h w) os)) k
theorem run_all {w:World} {os:OsState} {M:Nat} {r:Shared} (pre:PreT p boots boot_drawn boot_heap boot_toks cs ⟨0,15,187⟩) (bl:BlockT p)
  (k:topRun treeTable p w 11 ann0 M (stT p boots boot_drawn cs ⟨0,15,187⟩ w os).abs (restOf (p.main.body.drop 0) (env p) (cE p) (posOf p 0) [topFrame pos0])=some r) :
  topRun treeTable p w 11 ann0 (12 + (1 + M)) ⟨boot_heap w.params,Array.mk [],boot_drawn,boot_toks,os⟩ (topStub p)=some r :=
 go_top (congrFun (pre w) os) (piece_block (bl w _) k)
theorem left_of {is as:List Nat} {rc:WRecords} {c:Cut} {M N:Nat} {e:∀ P,as=(Kf p boots cs P).map (·.1)}
  (op:opening p=plainProg p.main.scope.names) (hN:Nat.ble 600 N=true) (fe:∀ s,fenceModules? p s=some s)
  (size:∀ w:World,((boot_heap w.params).isNs mainGlobals && (Array.mk []:Array GenState).size == 0,(boot_heap w.params).objs.size,(boot_heap w.params).nsMap mainGlobals "__annotations__")=(true,11,ann0))
  (run:∀ (w:World) (os:OsState),topRun treeTable p w 11 ann0 M ⟨boot_heap w.params,Array.mk [],boot_drawn,boot_toks,os⟩ (topStub p)=some (stT p boots boot_drawn cs c w os).abs) (le:Nat.ble M N=true)
  (hA:LookA p boots boot_drawn boot_heap cs c) (hB:LookB p boots boot_drawn cs c is rc) (hC:LookC p boots cs c as) :
  LeftO p (qv p is) (lz p is c.k) (fun s=>xlAt (qv p is) [] s && recOk rc s) (Hook.obs (kHook (Kf p boots cs) as e)) (Hook.val (kHook (Kf p boots cs) as e)) N :=
 LeftO.of_pieces (H₀:=boot_heap) (H₁:=hpT p boots cs c) (boot_open op hN fe) size run le fun w=>funext fun os=>by
  have a:=congrFun (hA w) os
  have b:=congrFun (hB w) os
  have c:=hC w
  exact looks_pair a (looks_pair b c)
end
end Hx
namespace Me
open PySem PySem.Spec PyProof.Rows L2 L3
def top (i:Nat):Stmt:=PySem.Challenge.pw_thinways_k87_texts_of_no_web.main.body.getD i (.Pass ⟨0,0,0,0⟩)
abbrev s_is_whole:Stmt:=top 16
theorem sc_is_whole:FnScope ["thing"] ["thing"] (defScope s_is_whole):=⟨rfl,rfl,rfl,by decide +kernel,rfl,by decide +kernel,by decide +kernel⟩
abbrev s_is_wholes:Stmt:=top 17
theorem sc_is_wholes:FnScope ["thing"] ["thing"] (defScope s_is_wholes):=⟨rfl,rfl,rfl,by decide +kernel,rfl,by decide +kernel,by decide +kernel⟩
abbrev s_is_rising:Stmt:=top 18
theorem sc_is_rising:FnScope ["parts"] ["parts"] (defScope s_is_rising):=⟨rfl,rfl,rfl,by decide +kernel,rfl,by decide +kernel,by decide +kernel⟩
abbrev s_is_size:Stmt:=top 20
theorem sc_is_size:FnScope ["thing"] ["thing"] (defScope s_is_size):=⟨rfl,rfl,rfl,by decide +kernel,rfl,by decide +kernel,by decide +kernel⟩
abbrev s_is_length:Stmt:=top 21
theorem sc_is_length:FnScope ["thing"] ["thing"] (defScope s_is_length):=⟨rfl,rfl,rfl,by decide +kernel,rfl,by decide +kernel,by decide +kernel⟩
abbrev s_is_triple:Stmt:=top 22
theorem sc_is_triple:FnScope ["thing"] ["thing"] (defScope s_is_triple):=⟨rfl,rfl,rfl,by decide +kernel,rfl,by decide +kernel,by decide +kernel⟩
abbrev s_is_tie:Stmt:=top 23
theorem sc_is_tie:FnScope ["n","thing"] ["n","thing"] (defScope s_is_tie):=⟨rfl,rfl,rfl,by decide +kernel,rfl,by decide +kernel,by decide +kernel⟩
abbrev s_is_web:Stmt:=top 24
theorem sc_is_web:FnScope ["thing","n","ties"] ["thing"] (defScope s_is_web):=⟨rfl,rfl,rfl,by decide +kernel,rfl,by decide +kernel,by decide +kernel⟩
abbrev s_is_written:Stmt:=top 26
theorem sc_is_written:FnScope ["text"] ["text"] (defScope s_is_written):=⟨rfl,rfl,rfl,by decide +kernel,rfl,by decide +kernel,by decide +kernel⟩
abbrev s_need_text:Stmt:=top 27
theorem sc_need_text:FnScope ["thing"] ["thing"] (defScope s_need_text):=⟨rfl,rfl,rfl,by decide +kernel,rfl,by decide +kernel,by decide +kernel⟩
abbrev s_read_number:Stmt:=top 28
theorem sc_read_number:FnScope ["text"] ["text"] (defScope s_read_number):=⟨rfl,rfl,rfl,by decide +kernel,rfl,by decide +kernel,by decide +kernel⟩
abbrev s_read_tie:Stmt:=top 29
theorem sc_read_tie:FnScope ["word","ends","colon","length","a","dash","b"] ["word"] (defScope s_read_tie):=⟨rfl,rfl,rfl,by decide +kernel,rfl,by decide +kernel,by decide +kernel⟩
abbrev s_read_web:Stmt:=top 30
theorem sc_read_web:FnScope ["thing","words","web"] ["thing"] (defScope s_read_web):=⟨rfl,rfl,rfl,by decide +kernel,rfl,by decide +kernel,by decide +kernel⟩
abbrev s__law_pot:Stmt:=top 32
theorem sc__law_pot:FnScope ["script","k","cell","prime"] ["script","k"] (defScope s__law_pot):=⟨rfl,rfl,rfl,by decide +kernel,rfl,by decide +kernel,by decide +kernel⟩
abbrev s__law_take:Stmt:=top 33
theorem sc__law_take:FnScope ["pot","many","found"] ["pot","many"] (defScope s__law_take):=⟨rfl,rfl,rfl,by decide +kernel,rfl,by decide +kernel,by decide +kernel⟩
abbrev s__law_length:Stmt:=top 34
theorem sc__law_length:FnScope ["pot","way"] ["pot","way"] (defScope s__law_length):=⟨rfl,rfl,rfl,by decide +kernel,rfl,by decide +kernel,by decide +kernel⟩
abbrev s__law_tied:Stmt:=top 35
theorem sc__law_tied:FnScope ["pot","n","style","a","b","beside"] ["pot","n","style","a","b"] (defScope s__law_tied):=⟨rfl,rfl,rfl,by decide +kernel,rfl,by decide +kernel,by decide +kernel⟩
abbrev s__law_order:Stmt:=top 36
theorem sc__law_order:FnScope ["pot","many","left","found","turn"] ["pot","many"] (defScope s__law_order):=⟨rfl,rfl,rfl,by decide +kernel,rfl,by decide +kernel,by decide +kernel⟩
abbrev s__law_web:Stmt:=top 37
theorem sc__law_web:FnScope ["pot","most","n","style","way","names","ties","b","a","one","other"] ["pot","most"] (defScope s__law_web):=⟨rfl,rfl,rfl,by decide +kernel,rfl,by decide +kernel,by decide +kernel⟩
abbrev s__law_written:Stmt:=top 38
theorem sc__law_written:FnScope ["web","found","a","b","length"] ["web"] (defScope s__law_written):=⟨rfl,rfl,rfl,by decide +kernel,rfl,by decide +kernel,by decide +kernel⟩
abbrev s__law_number:Stmt:=top 39
theorem sc__law_number:FnScope ["word"] ["word"] (defScope s__law_number):=⟨rfl,rfl,rfl,by decide +kernel,rfl,by decide +kernel,by decide +kernel⟩
abbrev s__law_tie:Stmt:=top 40
theorem sc__law_tie:FnScope ["word","first","rest"] ["word"] (defScope s__law_tie):=⟨rfl,rfl,rfl,by decide +kernel,rfl,by decide +kernel,by decide +kernel⟩
abbrev s__law_read:Stmt:=top 41
theorem sc__law_read:FnScope ["text","words","n","ahead","found","word","a","b","length"] ["text"] (defScope s__law_read):=⟨rfl,rfl,rfl,by decide +kernel,rfl,by decide +kernel,by decide +kernel⟩
abbrev s__law_signs:Stmt:=top 42
theorem sc__law_signs:FnScope [] [] (defScope s__law_signs):=⟨rfl,rfl,rfl,by decide +kernel,rfl,by decide +kernel,by decide +kernel⟩
abbrev s__law_word:Stmt:=top 43
theorem sc__law_word:FnScope ["pot","n","some"] ["pot","n"] (defScope s__law_word):=⟨rfl,rfl,rfl,by decide +kernel,rfl,by decide +kernel,by decide +kernel⟩
abbrev s__law_other:Stmt:=top 44
theorem sc__law_other:FnScope ["pot","n","text","way","signs","sign","at","words"] ["pot","n","text"] (defScope s__law_other):=⟨rfl,rfl,rfl,by decide +kernel,rfl,by decide +kernel,by decide +kernel⟩
abbrev s__law_told:Stmt:=top 45
theorem sc__law_told:FnScope ["thing","caught","found","e"] ["thing"] (defScope s__law_told):=⟨rfl,rfl,rfl,by decide +kernel,rfl,by decide +kernel,by decide +kernel⟩
abbrev s_law:Stmt:=top 46
theorem sc_law:FnScope ["script","k","pot","web","text","turn","some","other","words","most"] ["script"] (defScope s_law):=⟨rfl,rfl,rfl,by decide +kernel,rfl,by decide +kernel,by decide +kernel⟩
section
variable {P:Program} {w:World} {K:PySem.W.Frag} {mg:Str->Option Value} {base:Heap}
theorem ok__law_take (T:Bi mg) (D:DefOk K mg "_law_take" s__law_take ["pot","many"]):Ok P w K mg base 1 "_law_take" ["pot","many"] spTake:=by
 refine mk_ok (k:=0) D sc__law_take (fun vs H Q E h=>?_) (fun f cdv A outer s H vs Q E hr h=>?_)
 ·obtain⟨p,m,rfl,_⟩:=h
  rfl
 obtain⟨p,m,rfl,⟨a,b,hp,ha,hb,hb2⟩,hm,hm2,q⟩:=h
 have nd:=sc__law_take.nd
 refine⟨_,(pss_cons (ps_if (pt_cmpR op_gt (pe_ix ix_list (pv 0) pe_int (fun _ _=>rfl)) pe_int (nomark _)) (pss_cons (ps_set (i:=2) nd rfl (Or.inl rfl) (pe_op op_mod (pe_ix ix_list (pv 0) pe_int (fun _ _=>rfl)) (pv 1))) (pss_cons (ps_asg (pe_op op_fdiv (pe_ix ix_list (pv 0) pe_int (fun _ _=>rfl)) (pv 1)) (pg_sub (pv 0) pe_int set_list)) (pss_one (ps_ret (pv 2))))) pss_nil) (pss_cons (ps_asg (pe_op op_mod (pe_op op_add (pe_op op_mul (pe_ix ix_list (pv 0) pe_int (fun _ _=>rfl)) pe_int) pe_int) pe_int) (pg_sub (pv 0) pe_int set_list)) (pss_one (ps_ret (pe_op op_mod (pe_op op_fdiv (pe_op op_mod (pe_op op_pow (pe_ix ix_list (pv 0) pe_int (fun _ _=>rfl)) pe_int) pe_int) pe_int) (pv 1)))))),?_⟩
 refine⟨_,rfl,p,_,_,_,rfl,rfl,SqL.of hp,rfl,_,_,rfl,rfl,_,rfl,?_⟩
 refine ite2 (fun c=>?_) (fun c=>?_)
 ·refine⟨_,rfl,p,_,_,_,rfl,rfl,SqL.of hp,rfl,_,rfl,_,_,rfl,rfl,hm,?_⟩
  refine⟨_,rfl,p,_,_,_,rfl,rfl,SqL.of hp,rfl,_,rfl,_,_,rfl,rfl,⟨hm,hm2⟩,?_⟩
  refine⟨_,rfl,p,_,0,0,rfl,rfl,hp,rfl,_,rfl,?_⟩
  refine q _ _ (Int.emod_nonneg _ (by omega)) (Int.emod_lt_of_pos _ hm) But.upd ⟨a / m,b,upd_same,Int.ediv_nonneg ha (by omega),hb,hb2⟩
 ·refine⟨_,rfl,p,_,_,_,rfl,rfl,SqL.of hp,rfl,_,_,rfl,rfl,.inr ⟨by decide,by decide⟩,_,_,rfl,rfl,_,_,rfl,rfl,(by show (0:Int) < 2147483647;decide),?_⟩
  refine⟨_,rfl,p,_,1,1,rfl,rfl,hp,rfl,?_⟩
  have n1:0≤(b * 48271 + 12820163) % 2147483647:=Int.emod_nonneg _ (by decide)
  have n2:(b * 48271 + 12820163) % 2147483647 < 2147483647:=Int.emod_lt_of_pos _ (by decide)
  refine⟨_,rfl,p,_,_,_,rfl,rfl,SqL.of upd_same,rfl,_,_,rfl,rfl,⟨by decide,by decide,by omega⟩,_,_,rfl,rfl,(by show (0:Int) < 2147483629;decide),_,_,rfl,rfl,⟨by decide,by decide⟩,_,rfl,_,_,rfl,rfl,hm,?_⟩
  exact q _ _ (Int.emod_nonneg _ (by omega)) (Int.emod_lt_of_pos _ hm) But.upd ⟨a,_,upd_same,ha,n1,n2⟩
theorem ok__law_pot (T:Bi mg) (D:DefOk K mg "_law_pot" s__law_pot ["script","k"]):Ok P w K mg base 1 "_law_pot" ["script","k"] (spPot K):=by
 refine mk_ok (k:=0) D sc__law_pot (fun vs H Q E h=>?_) (fun f cdv A outer s H vs Q E hr h=>?_)
 ·obtain⟨a,k,ns,rfl,_⟩:=h
  rfl
 obtain⟨a,k,ns,rfl,hS,hk0,hk1,q⟩:=h
 have nd:=sc__law_pot.nd
 have hl:(ns.map V.int).length=ns.length:=List.length_map _
 refine⟨_,(pss_cons (ps_set (i:=2) nd rfl (Or.inl rfl) pe_int) (pss_cons (ps_if (pt_cmpR op_lt (pv 1) (pe_callB call_len_seq rfl T.z_len (by decide +kernel) (pa_cons (pv 0) pa_nil)) (nomark _)) (pss_one (ps_set (i:=2) nd rfl (Or.inl rfl) (pe_op op_mod (pe_ix ix_list (pv 0) (pv 1) (fun _ _=>rfl)) (pe_op op_mulB (pe_op op_mulB (pe_op op_pow pe_int pe_int) (pe_op op_pow pe_int pe_int)) (pe_op op_pow pe_int pe_int))))) pss_nil) (pss_cons (ps_set (i:=3) nd rfl (Or.inl rfl) (pe_ix ix_list (pe_lst (pa_cons pe_int (pa_cons pe_int (pa_cons pe_int (pa_cons pe_int (pa_cons pe_int pa_nil)))))) (pe_op op_mod (pv 1) pe_int) (fun _ _=>rfl))) (pss_one (ps_ret (pe_lst (pa_cons (pe_callB (call_max2 rfl) rfl T.z_max (by decide +kernel) (pa_cons pe_int (pa_cons (pe_op op_sub (pv 2) (pe_op op_pow pe_int pe_int)) pa_nil))) (pa_cons (pe_op op_mod (pe_op op_pow (pe_op op_add (pe_op op_add (pe_op op_mod (pv 2) (pv 3)) (pe_op op_mul pe_int (pv 1))) pe_int) pe_int) pe_int) pa_nil)))))))),?_⟩
  -- behind the test: cell is some number that is not below nought
 have rest : ∀ (cell : Int), 0 ≤ cell → ∀ (σ : L2.St), σ = [some (.ref a), some (.int k), some (.int cell), none] →
     (tSeq (tAsg (tOp (rIxL K) (tLst (tCons (tC (.int 2147483629)) (tCons (tC (.int 2147483587)) (tCons (tC (.int 2147483579)) (tCons (tC (.int 2147483563)) (tCons (tC (.int 2147483549)) tNil)))))) (tOp (rI (fun _ j=>0 < j) fun i j=>.int (i % j)) (tVar 1) (tC (.int 5)))) (gName 3))
       (tRet (tLst (tCons (tCB (fun xs H Q=>∃ i j,xs=[.int i,.int j]∧Q (.int (if j > i then j else i)) H) (tCons (tC (.int 0)) (tCons (tOp (rI0 fun i j=>.int (i - j)) (tVar 2) (tOp (rI CPow fun i j=>.int (i ^ j.toNat)) (tC (.int 10)) (tC (.int 18)))) tNil)))
         (tCons (tOp (rI (fun _ j=>0 < j) fun i j=>.int (i % j)) (tOp (rI CPow fun i j=>.int (i ^ j.toNat)) (tOp (rI0 fun i j=>.int (i + j)) (tOp (rI0 fun i j=>.int (i + j)) (tOp (rI (fun _ j=>0 < j) fun i j=>.int (i % j)) (tVar 2) (tVar 3)) (tOp (rI CMul fun i j=>.int (i * j)) (tC (.int 7919)) (tVar 1))) (tC (.int 11))) (tC (.int 3))) (tC (.int 2147483647))) tNil)))))
       { nx:=fun _ H'=>Q .non H',rt:=Q } σ H:=by
  intro cell hc σ hσ
  subst hσ
  refine⟨(by show 5≤sizeLine;decide),fun l hl=>?_⟩
  refine⟨_,rfl,_,_,rfl,rfl,(by show (0:Int) < 5;decide),?_⟩
  have m0:0≤k % 5:=Int.emod_nonneg _ (by decide)
  have m1:k % 5 < 5:=Int.emod_lt_of_pos _ (by decide)
  have pr:∃ v:Int,atI [V.int 2147483629,V.int 2147483587,V.int 2147483579,V.int 2147483563,V.int 2147483549] (k % 5)=some (.int v)∧2147483549≤v∧v≤2147483629:=by
   have:k % 5=0∨k % 5=1∨k % 5=2∨k % 5=3∨k % 5=4:=by omega
   rcases this with e | e | e | e | e <;> rw[e] <;> exact⟨_,rfl,by decide,by decide⟩
  obtain⟨v,hv,v1,v2⟩:=pr
  refine⟨l,_,_,_,rfl,rfl,SqL.of upd_same,hv,?_⟩
  have S1:Same H (upd H l (.lst [V.int 2147483629,V.int 2147483587,V.int 2147483579,V.int 2147483563,V.int 2147483549])):=same_new hl
  refine⟨_,rfl,_,_,rfl,rfl,⟨by decide,by decide,by decide⟩,_,_,rfl,rfl,_,_,rfl,?_⟩
  refine⟨_,rfl,_,rfl,_,_,rfl,rfl,(by show (0:Int) < v;omega),_,rfl,_,_,rfl,rfl,.inl ⟨by decide,by decide⟩,_,_,rfl,rfl,_,_,rfl,rfl,_,_,rfl,rfl,⟨by decide,by decide,?_⟩,_,_,rfl,rfl,(by show (0:Int) < 2147483647;decide),?_⟩
  ·have c0:0≤cell % v:=Int.emod_nonneg _ (by omega)
   have c1:cell % v < v:=Int.emod_lt_of_pos _ (by omega)
   omega
  refine⟨(by show 2≤sizeLine;decide),fun l2 hl2=>?_⟩
  refine q l2 _ (S1.trans (same_new hl2)) (S1.free hl2) ⟨_,_,upd_same,?_,Int.emod_nonneg _ (by decide),Int.emod_lt_of_pos _ (by decide)⟩
  split <;> omega
 refine⟨_,rfl,_,rfl,a,_,rfl,.inl hS,_,_,rfl,rfl,_,rfl,?_⟩
 refine ite2 (fun c=>?_) (fun c=>?_)
 ·have c':k < (((ns.map V.int).length:Nat):Int):=of_decide_eq_true c
  rw[hl] at c'
  obtain⟨v,hv⟩:∃ v:Int,atI (ns.map V.int) k=some (.int v):=by
   have hk:k.toNat < ns.length:=by omega
   have ek:k=((k.toNat:Nat):Int):=by omega
   have z:atI (ns.map V.int) ((k.toNat:Nat):Int)=some (.int ns[k.toNat]):=atI_nat (by rw[List.getElem?_map,List.getElem?_eq_getElem hk] <;> rfl)
   rw[← ek] at z
   exact⟨_,z⟩
  refine⟨_,rfl,_,rfl,a,_,_,_,rfl,rfl,hS,hv,?_⟩
  refine⟨_,_,rfl,rfl,⟨by decide,by decide,by decide⟩,_,_,rfl,rfl,⟨by decide,by decide,by decide⟩,_,_,rfl,rfl,mulB,_,_,rfl,rfl,⟨by decide,by decide,by decide⟩,_,_,rfl,rfl,mulB2,_,_,rfl,rfl,posB,?_⟩
  exact rest _ (Int.emod_nonneg _ (by have:=posB;omega)) _ rfl
 ·exact rest 5 (by decide) _ rfl
theorem ok__law_length (T:Bi mg) (D:DefOk K mg "_law_length" s__law_length ["pot","way"]) (O__law_take:Ok P w K mg base 1 "_law_take" ["pot","many"] spTake):Ok P w K mg base 2 "_law_length" ["pot","way"] spLength:=by
 refine mk_ok (k:=1) D sc__law_length (fun vs H Q E h=>?_) (fun f cdv A outer s H vs Q E hr h=>?_)
 ·obtain⟨p,y,rfl,_⟩:=h
  rfl
 obtain⟨p,y,rfl,hp,hy0,hy5,q⟩:=h
 have nd:=sc__law_length.nd
 refine⟨_,(pss_cons (ps_if (pt_cmpR op_lt (pv 1) pe_int (nomark _)) (pss_one (ps_ret (pe_ix ix_list (pe_lst (pa_cons pe_int (pa_cons (pe_op op_add pe_int (pe_callD O__law_take hr rfl (pa_cons (pv 0) (pa_cons pe_int pa_nil)))) pa_nil))) (pv 1) (fun _ _=>rfl)))) pss_nil) (pss_cons (ps_if (pt_cmpR op_eq (pv 1) pe_int (nomark _)) (pss_one (ps_ret (pe_op op_add pe_int (pe_callD O__law_take hr rfl (pa_cons (pv 0) (pa_cons pe_int pa_nil)))))) pss_nil) (pss_cons (ps_if (pt_cmpR op_eq (pv 1) pe_int (nomark _)) (pss_one (ps_ret (pe_ix ix_list (pe_lst (pa_cons pe_int (pa_cons pe_int (pa_cons pe_int (pa_cons (pe_op op_pow pe_int pe_int) (pa_cons (pe_op op_sub (pe_op op_pow pe_int pe_int) pe_int) (pa_cons (pe_op op_pow pe_int pe_int) pa_nil))))))) (pe_callD O__law_take hr rfl (pa_cons (pv 0) (pa_cons pe_int pa_nil))) (fun _ _=>rfl)))) pss_nil) (pss_one (ps_ret (pe_op op_add pe_int (pe_op op_mul (pe_callD O__law_take hr rfl (pa_cons (pv 0) (pa_cons (pe_op op_pow pe_int pe_int) pa_nil))) (pe_callD O__law_take hr rfl (pa_cons (pv 0) (pa_cons (pe_op op_add (pe_op op_pow pe_int pe_int) pe_int) pa_nil)))))))))),?_⟩
 refine⟨_,rfl,_,_,rfl,rfl,_,rfl,?_⟩
 refine ite2 (fun c=>?_) (fun c=>?_)
 ·have c':y < 2:=of_decide_eq_true c
  refine⟨_,rfl,p,3,rfl,hp,by decide,by decide,fun r H1 r0 r1 b1 p1=>?_⟩
  refine⟨_,_,rfl,rfl,(by show 2≤sizeLine;decide),fun l hl=>?_⟩
  have at_:∃ v:Int,atI [V.int 1,V.int (1 + r)] y=some (.int v)∧1≤v∧v≤10 ^ 18:=by
   have:y=0∨y=1:=by omega
   rcases this with e | e <;> rw[e]
   ·exact⟨1,rfl,by decide +kernel,by decide +kernel⟩
   ·exact⟨1 + r,rfl,by omega,by omega⟩
  obtain⟨v,hv,v0,v1⟩:=at_
  refine⟨_,rfl,l,_,_,_,rfl,rfl,SqL.of upd_same,hv,?_⟩
  obtain⟨a',b',e',z⟩:=p1
  exact q v _ v0 v1 (b1.trans (But.new hl)) ⟨a',b',(same_new hl) _ _ e',z⟩
 refine⟨_,rfl,rfl,_,rfl,?_⟩
 refine ite2 (fun c2=>?_) (fun c2=>?_)
 ·refine⟨_,rfl,p,50,rfl,hp,by decide,by decide,fun r H1 r0 r1 b1 p1=>?_⟩
  exact⟨_,_,rfl,rfl,q _ _ (by omega) (by omega) b1 p1⟩
 refine⟨_,rfl,rfl,_,rfl,?_⟩
 refine ite2 (fun c3=>?_) (fun c3=>?_)
 ·refine⟨_,_,rfl,rfl,⟨by decide,by decide,by decide⟩,_,_,rfl,rfl,⟨by decide,by decide,by decide⟩,_,_,rfl,rfl,_,_,rfl,rfl,⟨by decide,by decide,by decide⟩,(by show 6≤sizeLine;decide),fun l hl=>?_⟩
  have hp':Pot (upd H l (.lst [V.int 1,V.int 2,V.int 3,V.int ((10:Int) ^ (18:Int).toNat),V.int ((10:Int) ^ (18:Int).toNat - 1),V.int ((10:Int) ^ (17:Int).toNat)])) p:=by
   obtain⟨a',b',e',z⟩:=hp
   exact⟨a',b',(same_new hl) _ _ e',z⟩
  have lp:l≠p:=by
   obtain⟨a',b',e',z⟩:=hp
   exact fun e=>by rw[e,e'] at hl;cases hl
  refine⟨_,rfl,p,6,rfl,hp',by decide,by decide,fun r H1 r0 r1 b1 p1=>?_⟩
  have at_:∃ v:Int,atI [V.int 1,V.int 2,V.int 3,V.int ((10:Int) ^ (18:Int).toNat),V.int ((10:Int) ^ (18:Int).toNat - 1),V.int ((10:Int) ^ (17:Int).toNat)] r=some (.int v)∧1≤v∧v≤10 ^ 18:=by
   have:r=0∨r=1∨r=2∨r=3∨r=4∨r=5:=by omega
   rcases this with e | e | e | e | e | e <;> rw[e] <;> exact⟨_,rfl,by decide +kernel,by decide +kernel⟩
  obtain⟨v,hv,v0,v1⟩:=at_
  refine⟨l,_,_,_,rfl,rfl,SqL.of (b1 _ _ lp upd_same),hv,?_⟩
  exact q v _ v0 v1 ((But.new hl).trans b1) p1
 ·refine⟨_,rfl,_,_,rfl,rfl,⟨by decide,by decide,by decide⟩,p,_,rfl,hp,by decide,by decide,fun r H1 r0 r1 b1 p1=>?_⟩
  refine⟨_,rfl,_,_,rfl,rfl,⟨by decide,by decide,by decide⟩,_,_,rfl,rfl,p,_,rfl,p1,by decide,by decide,fun r2 H2 r20 r21 b2 p2=>?_⟩
  have e9:((10:Int) ^ (9:Int).toNat)=1000000000:=by decide
  rw[e9] at r1 r21
  refine⟨_,_,rfl,rfl,.inl ⟨by omega,by omega⟩,_,_,rfl,rfl,?_⟩
  have m0:0≤r * r2:=Int.mul_nonneg r0 r20
  have m1:r * r2≤999999999 * 1000000000:=Int.mul_le_mul (by omega) (by omega) r20 (by decide)
  exact q _ _ (by omega) (by omega) (b1.trans b2) p2
theorem ok__law_tied (T:Bi mg) (D:DefOk K mg "_law_tied" s__law_tied ["pot","n","style","a","b"]) (O__law_take:Ok P w K mg base 1 "_law_take" ["pot","many"] spTake):Ok P w K mg base 2 "_law_tied" ["pot","n","style","a","b"] spTied:=by
 refine mk_ok (k:=1) D sc__law_tied (fun vs H Q E h=>?_) (fun f cdv A outer s H vs Q E hr h=>?_)
 ·obtain⟨p,n,y,a,b,rfl,_⟩:=h
  rfl
 obtain⟨p,n,y,a,b,rfl,hp,q⟩:=h
 have nd:=sc__law_tied.nd
 have q0:∀ k,Q (.bl k) H:=fun k=>q k H But.refl hp
 refine⟨_,(pss_cons (ps_set (i:=5) nd rfl (Or.inl rfl) (pe_or (pe_cmpR op_eq (pe_op op_sub (pv 4) (pv 3)) pe_int (nomark _)) (pe_one (pe_cmpR op_eq (pe_op op_sub (pv 4) (pv 3)) (pe_op op_sub (pv 1) pe_int) (nomark _))))) (pss_cons (ps_if (pt_cmpR op_lt (pv 2) pe_int (nomark _)) (pss_one (ps_ret (pe_or (pv 5) (pe_one (pe_and (pe_cmpR op_eq (pv 2) pe_int (nomark _)) (pe_one (pe_cmpR op_eq (pe_callD O__law_take hr rfl (pa_cons (pv 0) (pa_cons pe_int pa_nil))) pe_int (nomark _)))))))) pss_nil) (pss_cons (ps_if (pt_cmpR op_lt (pv 2) pe_int (nomark _)) (pss_one (ps_ret (pe_cmpR op_eq (pe_cmpR op_gt (pe_callD O__law_take hr rfl (pa_cons (pv 0) (pa_cons pe_int pa_nil))) pe_int (nomark _)) (pe_cmpR op_eq (pv 2) pe_int (nomark _)) (nomark _)))) pss_nil) (pss_cons (ps_if (pt_cmpR op_eq (pv 2) pe_int (nomark _)) (pss_one (ps_ret (pe_or (pe_cmpR op_eq (pe_op op_sub (pv 4) (pv 3)) pe_int (nomark _)) (pe_one (pe_and (pe_cmpR op_eq (pe_op op_sub (pv 4) (pv 3)) pe_int (nomark _)) (pe_one (pe_cmpR op_gt (pe_op op_mod (pv 4) pe_int) pe_int (nomark _)))))))) pss_nil) (pss_cons (ps_if (pt_cmpR op_lt (pv 2) pe_int (nomark _)) (pss_one (ps_ret (pe_and (pe_cmpR op_eq (pe_cmpR op_eq (pe_op op_mod (pv 3) pe_int) (pe_op op_mod (pv 4) pe_int) (nomark _)) (pe_cmpR op_eq (pv 2) pe_int (nomark _)) (nomark _)) (pe_one (pe_cmpR op_gt (pe_callD O__law_take hr rfl (pa_cons (pv 0) (pa_cons pe_int pa_nil))) pe_int (nomark _)))))) pss_nil) (pss_one (ps_ret pe_bl))))))),?_⟩
 refine⟨_,rfl,_,rfl,_,_,rfl,rfl,rfl,_,rfl,?_⟩
 refine ite2 (fun c=>?_) (fun c=>?_)
 all_goals (try refine⟨_,rfl,_,rfl,_,_,rfl,rfl,_,rfl,_,_,rfl,rfl,rfl,?_⟩)
 all_goals
  refine⟨_,rfl,_,_,rfl,rfl,_,rfl,?_⟩
  refine ite2 (fun c1=>?_) (fun c1=>?_)
  ·refine⟨_,rfl,_,rfl,?_⟩
   refine ite2 (fun d=>?_) (fun d=>?_)
   ·exact q0 _
   ·refine⟨_,rfl,rfl,_,rfl,?_⟩
    refine ite2 (fun d=>?_) (fun d=>?_)
    ·exact⟨_,rfl,p,_,rfl,hp,by decide,by decide,fun r H' _ _ b1 p1=>⟨rfl,q _ _ b1 p1⟩⟩
    ·exact q0 _
  refine⟨_,rfl,_,_,rfl,rfl,_,rfl,?_⟩
  refine ite2 (fun c2=>?_) (fun c2=>?_)
  ·exact⟨_,rfl,p,_,rfl,hp,by decide,by decide,fun r H' _ _ b1 p1=>⟨_,_,rfl,rfl,_,rfl,rfl,rfl,q _ _ b1 p1⟩⟩
  refine⟨_,rfl,rfl,_,rfl,?_⟩
  refine ite2 (fun c3=>?_) (fun c3=>?_)
  ·refine⟨_,rfl,_,rfl,_,_,rfl,rfl,rfl,_,rfl,?_⟩
   refine ite2 (fun d=>?_) (fun d=>?_)
   ·exact q0 _
   ·refine⟨_,rfl,_,rfl,_,_,rfl,rfl,rfl,_,rfl,?_⟩
    refine ite2 (fun d=>?_) (fun d=>?_)
    ·exact⟨_,rfl,_,_,rfl,rfl,(by show (0:Int) < 3;decide),_,_,rfl,rfl,q0 _⟩
    ·exact q0 _
  refine⟨_,rfl,_,_,rfl,rfl,_,rfl,?_⟩
  refine ite2 (fun c4=>?_) (fun c4=>?_)
  ·refine⟨_,rfl,_,_,rfl,rfl,(by show (0:Int) < 2;decide),_,rfl,_,_,rfl,rfl,(by show (0:Int) < 2;decide),rfl,_,rfl,rfl,rfl,_,rfl,?_⟩
   refine ite2 (fun d=>?_) (fun d=>?_)
   ·exact⟨_,rfl,p,_,rfl,hp,by decide,by decide,fun r H' _ _ b1 p1=>⟨_,_,rfl,rfl,q _ _ b1 p1⟩⟩
   ·exact q0 _
  ·exact q0 _
theorem ok__law_order (T:Bi mg) (D:DefOk K mg "_law_order" s__law_order ["pot","many"]) (O__law_take:Ok P w K mg base 1 "_law_take" ["pot","many"] spTake):Ok P w K mg base 2 "_law_order" ["pot","many"] spOrder:=by
 refine mk_ok (k:=1) D sc__law_order (fun vs H Q E h=>?_) (fun f cdv A outer s H vs Q E hr h=>?_)
 ·obtain⟨p,m,rfl,_⟩:=h
  rfl
 obtain⟨p,m,rfl,hp,hm0,hm1,q⟩:=h
 have nd:=sc__law_order.nd
 refine⟨_,(pss_cons (ps_set (i:=2) nd rfl (Or.inl rfl) (pe_callTy (call_list_rng rfl) rfl T.z_list (by decide +kernel) (pa_cons (pe_callTy call_range rfl T.z_range (by decide +kernel) (pa_cons (pv 1) pa_nil)) pa_nil))) (pss_cons (ps_set (i:=3) nd rfl (Or.inl rfl) (pe_lst pa_nil)) (pss_cons (ps_for PassesOwn.never rfl (pi_range1 rfl T.z_range (pa_cons (pv 1) pa_nil)) (pg_name (i:=4) nd rfl (Or.inl rfl)) (pss_one (ps_expr (pe_bm PySem.F.plainAttrs_list PySem.F.slot_list_append PySem.F.type_list_append mt_append (pv 3) (pa_cons (pe_bm PySem.F.plainAttrs_list PySem.F.slot_list_pop PySem.F.type_list_pop mt_popAt (pv 2) (pa_cons (pe_callD O__law_take hr rfl (pa_cons (pv 0) (pa_cons (pe_callB call_len_seq rfl T.z_len (by decide +kernel) (pa_cons (pv 2) pa_nil)) pa_nil))) pa_nil)) pa_nil))))) (pss_one (ps_ret (pv 3)))))),?_⟩
 refine⟨_,rfl,m,rfl,fun g hg=>?_⟩
 refine⟨g,m,rfl,upd_same,hm0,hm1,fun l hl=>?_⟩
 refine⟨(by show 0≤sizeLine;decide),fun l2 hl2=>?_⟩
 obtain⟨H0,eH0⟩:∃ H0,H0=upd (upd (upd H g (.rng 0 m)) l (.lst ((List.range m.toNat).map fun i:Nat=>V.int (i:Int)))) l2 (.lst []):=⟨_,rfl⟩
 rw[← eH0]
 have S1:Same H (upd H g (.rng 0 m)):=same_new hg
 have S2:=S1.trans (same_new (o:=.lst ((List.range m.toNat).map fun i:Nat=>V.int (i:Int))) hl)
 have S3:Same H H0:=by rw[eH0];exact S2.trans (same_new hl2)
 have fl:H l=none:=S1.free hl
 have fl2:H l2=none:=S2.free hl2
 have ll2:l≠l2:=fun e=>by rw[← e,upd_same] at hl2;cases hl2
 have el:H0 l=some (.lst ((List.range m.toNat).map fun i:Nat=>V.int (i:Int))):=by rw[eH0,upd_ne ll2,upd_same]
 have el2:H0 l2=some (.lst []):=by rw[eH0,upd_same]
 have hp0:Pot H0 p:=by
  obtain⟨a,b,e,z⟩:=hp
  exact⟨a,b,S3 _ _ e,z⟩
 have nlp:l≠p:=by
  obtain⟨a,b,e,z⟩:=hp
  exact fun x=>by rw[x,e] at fl;cases fl
 have nl2p:l2≠p:=by
  obtain⟨a,b,e,z⟩:=hp
  exact fun x=>by rw[x,e] at fl2;cases fl2
 refine⟨_,rfl,m,rfl,by omega,by omega,?_⟩
 refine for_range (n:=m.toNat) (fun i σ H'=>∃ (t:Option V) (ls ms:List Int),σ=[some (.ref p),some (.int m),some (.ref l),some (.ref l2),t]∧H' l=some (.lst (ls.map V.int))∧H' l2=some (.lst (ms.map V.int))∧Pot H' p ∧
  (∀ b o,b≠p->H b=some o->H' b=some o)∧(ms++ls).Perm ((List.range m.toNat).map fun i:Nat=>(i:Int))∧ms.length=i) ?start ?turn ?fin
 case start=>exact⟨none,(List.range m.toNat).map fun i:Nat=>(i:Int),[],rfl,by rw[el,List.map_map];rfl,el2,hp0,fun b o _ e=>S3 b o e,List.Perm.refl _,rfl⟩
 case turn =>
  rintro i σ H' hi ⟨t,ls,ms,rfl,e1,e2,hp',kp,pm,hl'⟩
  have hlen:ls.length=m.toNat - i:=by
   have:=pm.length_eq
   rw[List.length_append,List.length_map,List.length_range] at this
   omega
  refine⟨_,rfl,.inl ⟨rfl,_,SqL.of e2⟩,_,rfl,.inl ⟨rfl,_,SqL.of e1⟩,_,rfl,_,rfl,l,_,rfl,.inl (SqL.of e1),?_⟩
  refine⟨p,_,rfl,hp',(by rw[List.length_map];omega),(by rw[List.length_map];omega),fun r H1 r0 r1 b1 p1=>?_⟩
  rw[List.length_map] at r1
  have hr1:r.toNat < ls.length:=by omega
  have er:r=((r.toNat:Nat):Int):=by omega
  have six:seqIndex? r (ls.map V.int).length=some r.toNat:=(ixN_seq (by unfold ixN;rw[if_pos r0,if_pos (by rw[List.length_map];omega)])).1
  refine⟨l,_,r,r.toNat,.int ls[r.toNat],rfl,rfl,b1 _ _ nlp e1,by omega,by omega,six,by rw[List.getElem?_map,List.getElem?_eq_getElem hr1];rfl,?_⟩
  refine⟨l2,_,_,rfl,rfl,by rw[upd_ne ll2.symm];exact b1 _ _ nl2p e2,?_,?_⟩
  ·rw[List.length_map]
   exact Nat.lt_of_le_of_lt (by omega:ms.length≤1000) (by decide)
  ·refine⟨_,ls.eraseIdx r.toNat,ms++[ls[r.toNat]],rfl,?_,?_,?_,?_,?_,by rw[List.length_append,List.length_singleton];omega⟩
   ·rw[upd_ne ll2,upd_same,map_erase]
   ·rw[upd_same,List.map_append];rfl
   ·obtain⟨a,b,e,z⟩:=p1
    exact⟨a,b,by rw[upd_ne nl2p.symm,upd_ne nlp.symm];exact e,z⟩
   ·intro b o hb e
    have n1:b≠l:=fun x=>by rw[x,fl] at e;cases e
    have n2:b≠l2:=fun x=>by rw[x,fl2] at e;cases e
    rw[upd_ne n2,upd_ne n1]
    exact b1 _ _ hb (kp _ _ hb e)
   ·refine List.Perm.trans ?_ pm
    rw[List.append_assoc]
    refine List.Perm.append_left _ ?_
    show (ls[r.toNat]::ls.eraseIdx r.toNat).Perm ls
    exact erase_perm ls r.toNat hr1
 case fin =>
  rintro σ H' ⟨t,ls,ms,rfl,e1,e2,hp',kp,pm,hl'⟩
  have hlen:ls=[]:=by
   have:=pm.length_eq
   rw[List.length_append,List.length_map,List.length_range] at this
   exact List.eq_nil_of_length_eq_zero (by omega)
  subst hlen
  rw[List.append_nil] at pm
  exact⟨_,rfl,q l2 H' ms kp hp' fl2 nl2p e2 pm⟩
/-- between the turns of the web's loops -/
def WInv (H:Hp) (p ln lt:Addr) (m n st wy:Int) (ms:List Int) (b a:Nat) (σ:L2.St) (H':Hp):Prop :=
 ∃ (t7 t8 t9 t10:Option V) (ys:List V) (ties:List Tie),σ=[some (.ref p),some (.int m),some (.int n),some (.int st),some (.int wy),some (.ref ln),some (.ref lt),t7,t8,t9,t10] ∧
  H' ln=some (.lst (ms.map V.int))∧H' lt=some (.lst ys)∧TieL H' ys ties∧Pot H' p∧(∀ b o,b≠p->H b=some o->H' b=some o)∧Grown n.toNat ms b a ties
theorem ok__law_web (T:Bi mg) (D:DefOk K mg "_law_web" s__law_web ["pot","most"]) (O__law_take:Ok P w K mg base 2 "_law_take" ["pot","many"] spTake) (O__law_order:Ok P w K mg base 2 "_law_order" ["pot","many"] spOrder)
  (O__law_tied:Ok P w K mg base 2 "_law_tied" ["pot","n","style","a","b"] spTied) (O__law_length:Ok P w K mg base 2 "_law_length" ["pot","way"] spLength):Ok P w K mg base 3 "_law_web" ["pot","most"] (spWeb K):=by
 refine mk_ok (k:=2) D sc__law_web (fun vs H Q E h=>?_) (fun f cdv A outer s H vs Q E hr h=>?_)
 ·obtain⟨p,m,rfl,_⟩:=h
  rfl
 obtain⟨p,m,rfl,hp,hm0,hm1,q⟩:=h
 have nd:=sc__law_web.nd
 refine⟨_,(pss_cons (ps_set (i:=2) nd rfl (Or.inl rfl) (pe_op op_add pe_int (pe_callD O__law_take hr rfl (pa_cons (pv 0) (pa_cons (pv 1) pa_nil))))) (pss_cons (ps_set (i:=3) nd rfl (Or.inl rfl) (pe_callD O__law_take hr rfl (pa_cons (pv 0) (pa_cons pe_int pa_nil)))) (pss_cons (ps_set (i:=4) nd rfl (Or.inl rfl) (pe_callD O__law_take hr rfl (pa_cons (pv 0) (pa_cons pe_int pa_nil)))) (pss_cons (ps_set (i:=5) nd rfl (Or.inl rfl) (pe_callD O__law_order hr rfl (pa_cons (pv 0) (pa_cons (pv 2) pa_nil)))) (pss_cons (ps_set (i:=6) nd rfl (Or.inl rfl) (pe_lst pa_nil)) (pss_cons (ps_for PassesOwn.never rfl (pi_range1 rfl T.z_range (pa_cons (pv 2) pa_nil)) (pg_name (i:=7) nd rfl (Or.inl rfl)) (pss_one (ps_for PassesOwn.never rfl (pi_range1 rfl T.z_range (pa_cons (pv 7) pa_nil)) (pg_name (i:=8) nd rfl (Or.inl rfl)) (pss_one (ps_if (PW.pt (pw_and (pt_val (pe_callD O__law_tied hr rfl (pa_cons (pv 0) (pa_cons (pv 2) (pa_cons (pv 3) (pa_cons (pv 8) (pa_cons (pv 7) pa_nil))))))) (pw_and1 (pt_cmpR op_lt (pe_callB call_len_seq rfl T.z_len (by decide +kernel) (pa_cons (pv 6) pa_nil)) pe_int (nomark _))))) (pss_cons (ps_asg (pe_callB call_sortedI rfl T.z_sorted (by decide +kernel) (pa_cons (pe_lst (pa_cons (pe_ix ix_list (pv 5) (pv 8) (fun _ _=>rfl)) (pa_cons (pe_ix ix_list (pv 5) (pv 7) (fun _ _=>rfl)) pa_nil))) pa_nil)) (pg_lst (n:=2) rfl (pgs_cons (pg_name (i:=9) nd rfl (Or.inl rfl)) (pgs_cons (pg_name (i:=10) nd rfl (Or.inl rfl)) pgs_nil)))) (pss_one (ps_expr (pe_bm PySem.F.plainAttrs_list PySem.F.slot_list_append PySem.F.type_list_append mt_append (pv 6) (pa_cons (pe_tup (pa_cons (pv 9) (pa_cons (pv 10) (pa_cons (pe_callD O__law_length hr rfl (pa_cons (pv 0) (pa_cons (pv 4) pa_nil))) pa_nil)))) pa_nil))))) pss_nil))))) (pss_one (ps_ret (pe_tup (pa_cons (pv 2) (pa_cons (pe_callTy call_tuple_of rfl T.z_tuple (by decide +kernel) (pa_cons (pe_callB call_sortedT rfl T.z_sorted (by decide +kernel) (pa_cons (pv 6) pa_nil)) pa_nil)) pa_nil))))))))))),?_⟩
 refine⟨_,rfl,_,rfl,p,m,rfl,hp,by omega,by omega,fun r1 H1 r10 r11 b1 p1=>?_⟩
 refine⟨_,_,rfl,rfl,?_⟩
 refine⟨_,rfl,p,8,rfl,p1,by decide,by decide,fun st H2 _ _ b2 p2=>?_⟩
 refine⟨_,rfl,p,5,rfl,p2,by decide,by decide,fun wy H3 wy0 wy1 b3 p3=>?_⟩
 refine⟨_,rfl,_,rfl,p,_,rfl,p3,by omega,by omega,fun ln H4 ms b4 p4 f4 n4 e4 pm=>?_⟩
 obtain⟨n,en⟩:∃ n:Int,n=1 + r1:=⟨_,rfl⟩
 rw[← en] at pm
 have bt4:But p H H4:=b1.trans (b2.trans (b3.trans b4))
 have fln:H ln=none:=by
  cases e:H ln with
  | none=>rfl
  | some u=>rw[(b1.trans (b2.trans b3)) _ _ n4 e] at f4;cases f4
 refine⟨(by show 0≤sizeLine;decide),fun lt hlt=>?_⟩
 have flt:H lt=none:=by
  by_cases z:lt=p
  ·obtain⟨a',b',e',_⟩:=p4;rw[z,e'] at hlt;cases hlt
  ·cases e:H lt with
   | none=>rfl
   | some u=>rw[bt4 _ _ z e] at hlt;cases hlt
 have nlt:lt≠p:=by
  obtain⟨a',b',e',_⟩:=p4
  exact fun x=>by rw[x,e'] at hlt;cases hlt
 have nln:ln≠lt:=fun x=>by rw[← x,e4] at hlt;cases hlt
 have pm0:Perm0 n.toNat ms:=Perm0.of pm
 refine⟨_,rfl,n,by rw[en],by omega,by omega,?_⟩
 refine for_range (n:=n.toNat) (fun i σ H'=>WInv H p ln lt m n st wy ms i 0 σ H') ?start ?turn ?fin
 case start =>
  refine⟨none,none,none,none,[],[],by rw[en];rfl,by rw[upd_ne nln];exact e4,upd_same,.nil,?_,fun b o hb e=>?_,Grown.start⟩
  ·obtain⟨a',b',e',z⟩:=p4
   exact⟨a',b',by rw[upd_ne nlt.symm];exact e',z⟩
  ·rw[upd_ne (fun x=>by rw[x,flt] at e;cases e)]
   exact bt4 _ _ hb e
 case turn =>
  rintro i σ H' hi ⟨t7,t8,t9,t10,ys,ties,rfl,g1,g2,g3,g4,g5,g6⟩
  refine⟨_,rfl,_,rfl,by omega,by omega,?_⟩
  have ei:((0 + (i:Int)):Int).toNat=i:=by omega
  rw[ei]
  refine for_range (n:=i) (fun k σ H''=>(∃ t7,σ[7]?=some (some (.int (0 + (i:Int))))∧t7=())∧WInv H p ln lt m n st wy ms i k σ H'') ?start2 ?turn2 ?fin2
  case start2=>exact⟨⟨(),rfl,rfl⟩,some (.int (0 + (i:Int))),t8,t9,t10,ys,ties,rfl,g1,g2,g3,g4,g5,g6⟩
  case fin2 =>
   rintro σ H'' ⟨_,t7,t8,t9,t10,ys,ties,rfl,g1,g2,g3,g4,g5,g6⟩
   exact⟨t7,t8,t9,t10,ys,ties,rfl,g1,g2,g3,g4,g5,g6.down⟩
  case turn2 =>
   rintro k σ K1 hk ⟨⟨_,h7,_⟩,t7,t8,t9,t10,ys,ties,rfl,g1,g2,g3,g4,g5,g6⟩
   have e7:t7=some (.int (0 + (i:Int))):=by simpa using h7
   subst e7
   have again : ∀ {u8 u9 u10 : Option V} {ys' : List V} {ts : List Tie} {J : Hp}, J ln = some (.lst (ms.map V.int)) → J lt = some (.lst ys') → TieL J ys' ts → Pot J p → (∀ b o, b ≠ p → H b = some o → J b = some o) → Grown n.toNat ms i (k + 1) ts →
       (∃ t7,([some (.ref p),some (.int m),some (.int n),some (.int st),some (.int wy),some (.ref ln),some (.ref lt),some (.int (0 + (i:Int))),u8,u9,u10]:L2.St)[7]?=some (some (.int (0 + (i:Int))))∧t7=())∧WInv H p ln lt m n st wy ms i (k + 1) [some (.ref p),some (.int m),some (.int n),some (.int st),some (.int wy),some (.ref ln),some (.ref lt),some (.int (0 + (i:Int))),u8,u9,u10] J :=
    fun a1 a2 a3 a4 a5 a6=>⟨⟨(),rfl,rfl⟩,_,_,_,_,_,_,rfl,a1,a2,a3,a4,a5,a6⟩
   refine⟨_,rfl,_,rfl,_,rfl,_,rfl,_,rfl,p,_,_,_,_,rfl,g4,fun kk K2 c2 d2=>⟨kk,rfl,?_⟩⟩
   have nlnp:ln≠p:=n4
   have l1:K2 ln=some (.lst (ms.map V.int)):=c2 _ _ nlnp g1
   have l2:K2 lt=some (.lst ys):=c2 _ _ nlt g2
   have tup2:∀ a xs,K1 a=some (.tup xs)->K2 a=some (.tup xs):=fun a xs e=>c2 _ _ (fun x=>by
    obtain⟨a',b',e',_⟩:=g4
    rw[x,e'] at e;cases e) e
   have l3:TieL K2 ys ties:=g3.keep tup2
   have l5:∀ b o,b≠p->H b=some o->K2 b=some o:=fun b o hb e=>c2 _ _ hb (g5 _ _ hb e)
   have ylen:ys.length=ties.length:=Paired.length g3
   cases kk with
   | false =>
    refine iteF (iteF ?_)
    exact again l1 l2 l3 d2 l5 g6.skip
   | true =>
    refine iteT ?_
    refine⟨_,rfl,lt,_,rfl,.inl (SqL.of l2),_,_,rfl,rfl,_,rfl,?_⟩
    refine ite2 (fun c=>?_) (fun c=>?_)
    case refine_2=>exact again l1 l2 l3 d2 l5 g6.skip
    have c':((ys.length:Nat):Int) < 60:=of_decide_eq_true c
    have hkn:k < n.toNat:=by omega
    have at_:∀ j:Nat,j < n.toNat->atI (ms.map V.int) (j:Int)=some (.int (ms.getD j 0)):=fun j hj=>by
     have hj':j < ms.length:=by rw[pm0.len];exact hj
     refine atI_nat ?_
     rw[List.getElem?_map,List.getElem?_eq_getElem hj']
     simp [List.getD,hj']
    have ak:atI (ms.map V.int) (0 + (k:Int))=some (.int (ms.getD k 0)):=by rw[Int.zero_add];exact at_ k hkn
    have ai:atI (ms.map V.int) (0 + (i:Int))=some (.int (ms.getD i 0)):=by rw[Int.zero_add];exact at_ i hi
    refine⟨_,rfl,_,rfl,ln,_,_,_,rfl,rfl,SqL.of l1,ak,_,rfl,_,rfl,ln,_,_,_,rfl,rfl,SqL.of l1,ai,(by show 2≤sizeLine;decide),fun s1 hs1=>?_⟩
    refine⟨s1,[ms.getD k 0,ms.getD i 0],rfl,SqL.of upd_same,(by show 2 < 64;decide),fun zs pz wz s2 hs2=>?_⟩
    obtain⟨x,y,rfl,hxy,hor⟩:=two_sorted pz wz
    refine⟨s2,_,rfl,SqL.of upd_same,rfl,?_⟩
    refine⟨_,_,rfl,_,_,rfl,rfl,?_⟩
    have n1:∀ b o,K2 b=some o->b≠s1:=fun b o e=>ne_of_none e hs1
    have n2:∀ b o,K2 b=some o->b≠s2:=fun b o e=>ne_of_none (same_new hs1 b o e) hs2
    have up:∀ b o,K2 b=some o->upd (upd K2 s1 (.lst [.int (ms.getD k 0),.int (ms.getD i 0)])) s2 (.lst [.int x,.int y]) b=some o:=fun b o e=>by rw[upd_ne (n2 b o e),upd_ne (n1 b o e)];exact e
    refine⟨_,rfl,.inl ⟨rfl,_,SqL.of (up _ _ l2)⟩,_,rfl,_,rfl,_,rfl,_,rfl,?_⟩
    refine⟨p,wy,rfl,?_,wy0,wy1,fun len K5 ln0 ln1 c5 d5=>?_⟩
    ·obtain⟨a',b',e',z⟩:=d2
     exact⟨a',b',up _ _ e',z⟩
    refine⟨(by show 3≤sizeLine;decide),fun tp htp=>?_⟩
    have pl:∃ xs,K2 p=some (.lst xs):=d2.lst
    have up5:∀ b o,b≠p->K2 b=some o->upd K5 tp (.tup [.int x,.int y,.int len]) b=some o:=fun b o hb e=>by
     have e5:=c5 b o hb (up b o e)
     rw[upd_ne (ne_of_none e5 htp)];exact e5
    refine⟨lt,_,_,rfl,rfl,up5 _ _ nlt l2,?_,?_⟩
    ·exact Nat.lt_of_le_of_lt (by omega:ys.length≤1000) (by decide)
    have k5:∀ b o,b≠p->b≠lt->K2 b=some o->upd (upd K5 tp (.tup [.int x,.int y,.int len])) lt (.lst (ys++[.ref tp])) b=some o:=fun b o hb hb2 e=>by rw[upd_ne hb2];exact up5 b o hb e
    have ntp:tp≠lt:=fun z=>by
     have:=c5 _ _ nlt (up _ _ l2)
     rw[← z,htp] at this;cases this
    refine again (k5 _ _ nlnp nln l1) upd_same (TieL.snoc (TieL.keep l3 fun a xs e=>k5 _ _ ?_ ?_ e) ?_) ?_ (fun b o hb e=>k5 _ _ hb (fun z=>by rw[z,flt] at e;cases e) (l5 _ _ hb e))
     (g6.add (x:=x) (y:=y) (l:=len) pm0 hk hi (by omega) ln0 ln1 hor hxy)
    ·intro z
     obtain⟨xs',e'⟩:=pl
     rw[z,e'] at e;cases e
    ·intro z
     rw[z,l2] at e;cases e
    ·rw[upd_ne ntp,upd_same];rfl
    ·obtain⟨a',b',e',z⟩:=d5
     exact⟨a',b',by rw[upd_ne nlt.symm,upd_ne (ne_of_none e' htp)];exact e',z⟩
 case fin =>
  rintro σ H' ⟨t7,t8,t9,t10,ys,ties,rfl,g1,g2,g3,g4,g5,g6⟩
  have ylen:ys.length=ties.length:=Paired.length g3
  have few:=g6.few
  refine⟨_,rfl,_,rfl,lt,ys,ties.map tieI,rfl,SqL.of g2,by omega,paired_keys (fun y t ⟨a,e1,e2⟩=>⟨a,e1,SqT.of e2⟩) g3,fun k hk=>?_,fun qs pq wq l hl=>?_⟩
  ·obtain⟨t,_,rfl⟩:=List.mem_map.mp hk
   exact fun z=>by cases z
  obtain⟨ts,pt,tl,wt⟩:=tie_out g3 pq wq
  refine⟨l,_,rfl,.inl ⟨SqL.of upd_same,fun l' hl'=>?_⟩⟩
  refine⟨(by show 2≤sizeLine;decide),fun v hv=>?_⟩
  have S1:Same H' (upd H' l (.lst (qs.map (·.1)))):=same_new hl
  have S2:=S1.trans (same_new (o:=.tup (qs.map (·.1))) hl')
  have S3:=S2.trans (same_new (o:=.tup [.int n,.ref l']) hv)
  refine q (.ref v) _ n ts (fun b o hb e=>S3 _ _ (g5 _ _ hb e)) ?_ ⟨by omega,by omega,rise_of wt ((pt.pairwise_iff (fun {a b} h z=>h ⟨z.1.symm,z.2.symm⟩)).mpr g6.nd),by have:=pt.length_eq;omega,fun t ht=>?_⟩ (by omega) ?_
  ·obtain⟨a',b',e',z⟩:=g4
   exact⟨a',b',S3 _ _ e',z⟩
  ·have:=g6.ok t (pt.mem_iff.mp ht)
   have e:((n.toNat:Nat):Int)=n:=by omega
   rw[e] at this
   exact this
  ·refine⟨v,_,rfl,upd_same,_,_,rfl,rfl,_,_,rfl,⟨l',qs.map (·.1),rfl,?_,?_⟩,rfl⟩
   ·exact (same_new hv) _ _ upd_same
   ·exact TieL.is (tl.keep fun a xs e=>S3 _ _ e)
theorem ok_is_whole (T:Bi mg) (D:DefOk K mg "is_whole" s_is_whole ["thing"]):Ok P w K mg base 1 "is_whole" ["thing"] (spD1 K (fun _=>True) wholeB):=by
 refine mk_ok (k:=0) D sc_is_whole (fun vs H Q E h=>?_) (fun f cdv A outer s H vs Q E hr h=>?_)
 ·obtain⟨d,v,rfl,_⟩:=h
  rfl
 obtain⟨d,v,rfl,hd,_,q⟩:=h
 have nd:=sc_is_whole.nd
 have q0:=q H (Same.refl H)
 have ty:=ty_of hd
 refine⟨_,(pss_one (ps_ret (pe_and (pe_callB (call_isi (n:="int")) rfl T.z_isinstance (by decide +kernel) (pa_cons (pv 0) (pa_cons (pe_bltn (v:=.ty "int") rfl T.z_int (by decide +kernel) rfl) pa_nil))) (pe_one (pe_not (pe_callB (call_isi (n:="bool")) rfl T.z_isinstance (by decide +kernel) (pa_cons (pv 0) (pa_cons (pe_bltn (v:=.ty "bool") rfl T.z_bool (by decide +kernel) rfl) pa_nil)))))))),?_⟩
 cases d with
 | int i=>exact⟨_,rfl,_,_,_,rfl,ty,rfl,_,rfl,iteT ⟨_,rfl,_,_,_,rfl,ty,rfl,_,rfl,q0⟩⟩
 | bool b=>exact⟨_,rfl,_,_,_,rfl,ty,rfl,_,rfl,iteT ⟨_,rfl,_,_,_,rfl,ty,rfl,_,rfl,q0⟩⟩
 | none=>exact⟨_,rfl,_,_,_,rfl,ty,rfl,_,rfl,iteF q0⟩
 | str x=>exact⟨_,rfl,_,_,_,rfl,ty,rfl,_,rfl,iteF q0⟩
 | tuple ds=>exact⟨_,rfl,_,_,_,rfl,ty,rfl,_,rfl,iteF q0⟩
 | list ds=>exact⟨_,rfl,_,_,_,rfl,ty,rfl,_,rfl,iteF q0⟩
 | dict ds=>exact⟨_,rfl,_,_,_,rfl,ty,rfl,_,rfl,iteF q0⟩
theorem ok_is_wholes (T:Bi mg) (D:DefOk K mg "is_wholes" s_is_wholes ["thing"]) (O_is_whole:Ok P w K mg base 1 "is_whole" ["thing"] (spD1 K (fun _=>True) wholeB)):Ok P w K mg base 2 "is_wholes" ["thing"] (spD1 K few wholesB):=by
 refine mk_ok (k:=1) D sc_is_wholes (fun vs H Q E h=>?_) (fun f cdv A outer s H vs Q E hr h=>?_)
 ·obtain⟨d,v,rfl,_⟩:=h
  rfl
 obtain⟨d,v,rfl,hd,hfew,q⟩:=h
 have nd:=sc_is_wholes.nd
 have q0:=q H (Same.refl H)
 have ty:=ty_of hd
 refine⟨_,(pss_one (ps_ret (pe_and (pe_callB (call_isi (n:="tuple")) rfl T.z_isinstance (by decide +kernel) (pa_cons (pv 0) (pa_cons (pe_bltn (v:=.ty "tuple") rfl T.z_tuple (by decide +kernel) rfl) pa_nil))) (pe_one (pe_callB (call_all rfl) rfl T.z_all (by decide +kernel) (pa_cons (pe_comp (N:=["thing"]) (sc0:=defScope s_is_wholes) (own:=["part"]) (fr:=[]) (js:=[]) rfl (pi_tup (pv 0)) (fun _ _ _ _=>(pg_name (i:=0) (by show List.Nodup [("part":Str)];decide +kernel) rfl (Or.inl rfl))) (fun _ _ _ _=>pts_nil) (fun _ _ _ _=>(pe_callD O_is_whole hr rfl (pa_cons (pv 0) pa_nil)))) pa_nil)))))),?_⟩
 cases d with
 | int i=>exact⟨_,rfl,_,_,_,rfl,ty,rfl,_,rfl,iteF q0⟩
 | bool b=>exact⟨_,rfl,_,_,_,rfl,ty,rfl,_,rfl,iteF q0⟩
 | none=>exact⟨_,rfl,_,_,_,rfl,ty,rfl,_,rfl,iteF q0⟩
 | str x=>exact⟨_,rfl,_,_,_,rfl,ty,rfl,_,rfl,iteF q0⟩
 | list ds=>exact⟨_,rfl,_,_,_,rfl,ty,rfl,_,rfl,iteF q0⟩
 | dict ds=>exact⟨_,rfl,_,_,_,rfl,ty,rfl,_,rfl,iteF q0⟩
 | tuple ds =>
  refine⟨_,rfl,_,_,_,rfl,ty,rfl,_,rfl,iteT ?_⟩
  obtain⟨p,vs,rfl,hp,hall⟩:=hd
  have hl:=hall.length
  have hf:ds.length≤1000:=hfew
  refine⟨_,rfl,p,rfl,⟨_,SqT.of hp⟩,?_⟩
  refine comp_tup hp (fun σ'=>σ'.length=1) (fun i v _=>v=.bl (wholeB (ds.getD i .none))) (by omega) (by rfl) (fun _ _ _ _ _ h=>h) (fun i x σ' H' hx s sg C hC=>?_) (fun L ys H' hL s hH hly hys=>?_)
  ·obtain⟨d,hdi,hdx⟩:=hall.get' hx
   match σ',sg with
   | [o],_ =>
    refine⟨_,rfl,d,x,rfl,Is.same s d hdx,trivial,fun H5 s5=>hC _ _ _ rfl s5 ?_⟩
    simp [List.getD,hdi]
  ·refine⟨L,_,rfl,SqL.of (by rw[hH,bools_of (hly.trans hl) hys]),?_⟩
   have e:((List.range ds.length).map fun i=>wholeB (ds.getD i .none)).all id=ds.all wholeB:=by
    have:((List.range ds.length).map fun i=>wholeB (ds.getD i .none))=ds.map wholeB:=by
     have:=congrArg (List.map wholeB) (L3.range_getD ds .none)
     rw[List.map_map] at this
     exact this
    rw[this,List.all_map]
    rfl
   rw[e]
   exact q H' s
theorem ok_is_size (T:Bi mg) (D:DefOk K mg "is_size" s_is_size ["thing"]) (O_is_whole:Ok P w K mg base 1 "is_whole" ["thing"] (spD1 K (fun _=>True) wholeB)):Ok P w K mg base 2 "is_size" ["thing"] (spD1 K (fun _=>True) sizeB):=by
 refine mk_ok (k:=1) D sc_is_size (fun vs H Q E h=>?_) (fun f cdv A outer s H vs Q E hr h=>?_)
 ·obtain⟨d,v,rfl,_⟩:=h
  rfl
 obtain⟨d,v,rfl,hd,_,q⟩:=h
 have nd:=sc_is_size.nd
 refine⟨_,(pss_one (ps_ret (pe_and (pe_callD O_is_whole hr rfl (pa_cons (pv 0) pa_nil)) (pe_one (pe_chain op_le op_le pe_int (pv 0) pe_int))))),?_⟩
 refine⟨_,rfl,d,v,rfl,hd,trivial,fun H1 s1=>⟨_,rfl,?_⟩⟩
 have q0:=q H1 s1
 cases d with
 | int n =>
  have e:v=.int n:=hd
  subst e
  refine iteT ⟨_,rfl,_,_,rfl,rfl,_,rfl,ite2 (fun c=>⟨_,_,rfl,rfl,?_⟩) (fun c=>?_)⟩
  ·have e:sizeB (.int n)=decide (n≤24):=by show (decide (1≤n) && decide (n≤24))=_;rw[show decide (1≤n)=true from c];rfl
   rw[e] at q0;exact q0
  ·have e:sizeB (.int n)=false:=by show (decide (1≤n) && decide (n≤24))=_;rw[show decide (1≤n)=false from Bool.eq_false_iff.mpr c];rfl
   rw[e] at q0;exact q0
 | bool b=>exact iteF q0
 | none=>exact iteF q0
 | str x=>exact iteF q0
 | tuple ds=>exact iteF q0
 | list ds=>exact iteF q0
 | dict ds=>exact iteF q0
theorem ok_is_length (T:Bi mg) (D:DefOk K mg "is_length" s_is_length ["thing"]) (O_is_whole:Ok P w K mg base 1 "is_whole" ["thing"] (spD1 K (fun _=>True) wholeB)):Ok P w K mg base 2 "is_length" ["thing"] (spD1 K (fun _=>True) lengthB):=by
 refine mk_ok (k:=1) D sc_is_length (fun vs H Q E h=>?_) (fun f cdv A outer s H vs Q E hr h=>?_)
 ·obtain⟨d,v,rfl,_⟩:=h
  rfl
 obtain⟨d,v,rfl,hd,_,q⟩:=h
 have nd:=sc_is_length.nd
 refine⟨_,(pss_one (ps_ret (pe_and (pe_callD O_is_whole hr rfl (pa_cons (pv 0) pa_nil)) (pe_one (pe_chain op_le op_le pe_int (pv 0) (pe_op op_pow pe_int pe_int)))))),?_⟩
 refine⟨_,rfl,d,v,rfl,hd,trivial,fun H1 s1=>⟨_,rfl,?_⟩⟩
 have q0:=q H1 s1
 cases d with
 | int n =>
  have e:v=.int n:=hd
  subst e
  refine iteT ⟨_,rfl,_,_,rfl,rfl,_,rfl,ite2 (fun c=>⟨_,_,rfl,rfl,⟨by decide,by decide,by decide⟩,_,_,rfl,rfl,?_⟩) (fun c=>?_)⟩
  ·have e:lengthB (.int n)=decide (n≤(10:Int) ^ (18:Int).toNat):=by show (decide (1≤n) && decide (n≤10 ^ 18))=_;rw[show decide (1≤n)=true from c];rfl
   rw[e] at q0;exact q0
  ·have e:lengthB (.int n)=false:=by show (decide (1≤n) && decide (n≤10 ^ 18))=_;rw[show decide (1≤n)=false from Bool.eq_false_iff.mpr c];rfl
   rw[e] at q0;exact q0
 | bool b=>exact iteF q0
 | none=>exact iteF q0
 | str x=>exact iteF q0
 | tuple ds=>exact iteF q0
 | list ds=>exact iteF q0
 | dict ds=>exact iteF q0
theorem ok_is_triple (T:Bi mg) (D:DefOk K mg "is_triple" s_is_triple ["thing"]) (O_is_wholes:Ok P w K mg base 2 "is_wholes" ["thing"] (spD1 K few wholesB)):Ok P w K mg base 3 "is_triple" ["thing"] (spD1 K few tripleB):=by
 refine mk_ok (k:=2) D sc_is_triple (fun vs H Q E h=>?_) (fun f cdv A outer s H vs Q E hr h=>?_)
 ·obtain⟨d,v,rfl,_⟩:=h
  rfl
 obtain⟨d,v,rfl,hd,hfew,q⟩:=h
 have nd:=sc_is_triple.nd
 refine⟨_,(pss_one (ps_ret (pe_and (pe_callD O_is_wholes hr rfl (pa_cons (pv 0) pa_nil)) (pe_one (pe_cmpR op_eq (pe_callB call_len_seq rfl T.z_len (by decide +kernel) (pa_cons (pv 0) pa_nil)) pe_int (nomark _)))))),?_⟩
 refine⟨_,rfl,d,v,rfl,hd,hfew,fun H1 s1=>⟨_,rfl,?_⟩⟩
 have q0:=q H1 s1
 cases d with
 | tuple ds =>
  obtain⟨p,vs,rfl,hp,hall⟩:=hd
  have hl:=hall.length
  refine ite2 (fun c=>?_) (fun c=>?_)
  ·refine⟨_,rfl,p,_,rfl,.inr (SqT.of (s1 _ _ hp)),rfl,?_⟩
   have e:tripleB (.tuple ds)=decide (V.int ((vs.length:Nat):Int)=V.int 3):=by
    show (ds.all wholeB && decide (ds.length=3))=_
    rw[show ds.all wholeB=true from c,hl,Bool.true_and,Bool.eq_iff_iff]
    simp only [decide_eq_true_eq,V.int.injEq]
    omega
   rw[e] at q0;exact q0
  ·have e:tripleB (.tuple ds)=false:=by
    show (ds.all wholeB && decide (ds.length=3))=_
    rw[show ds.all wholeB=false from Bool.eq_false_iff.mpr c];rfl
   rw[e] at q0;exact q0
 | int n=>exact iteF q0
 | bool b=>exact iteF q0
 | none=>exact iteF q0
 | str x=>exact iteF q0
 | list ds=>exact iteF q0
 | dict ds=>exact iteF q0
theorem ok_is_tie (T:Bi mg) (D:DefOk K mg "is_tie" s_is_tie ["n","thing"]) (O_is_triple:Ok P w K mg base 3 "is_triple" ["thing"] (spD1 K few tripleB)) (O_is_length:Ok P w K mg base 3 "is_length" ["thing"] (spD1 K (fun _=>True) lengthB)) :
  Ok P w K mg base 4 "is_tie" ["n","thing"] (spTie K):=by
 refine mk_ok (k:=3) D sc_is_tie (fun vs H Q E h=>?_) (fun f cdv A outer s H vs Q E hr h=>?_)
 ·obtain⟨n,d,v,rfl,_⟩:=h
  rfl
 obtain⟨n,d,v,rfl,hd,hfew,q⟩:=h
 have nd:=sc_is_tie.nd
 refine⟨_,(pss_one (ps_ret (pe_and (pe_callD O_is_triple hr rfl (pa_cons (pv 1) pa_nil)) (pe_and (pe_chain3 op_le op_lt op_lt pe_int (pe_ix ix_tup (pv 1) pe_int (fun _ _=>rfl)) (pe_ix ix_tup (pv 1) pe_int (fun _ _=>rfl)) (pv 0)) (pe_one (pe_callD O_is_length hr rfl (pa_cons (pe_ix ix_tup (pv 1) pe_int (fun _ _=>rfl)) pa_nil))))))),?_⟩
 refine⟨_,rfl,d,v,rfl,hd,hfew,fun H1 s1=>⟨_,rfl,?_⟩⟩
 have q0:=q H1 s1
 cases d with
 | tuple ds =>
  refine ite2 (fun c=>?_) (fun c=>?_)
  ·obtain⟨a,b,l,rfl⟩:=triple_of c
   obtain⟨p,vs,rfl,hp,hall⟩:=hd
   have ev:vs=[.int a,.int b,.int l]:=IsAll.of_ints (ns:=[a,b,l]) hall
   subst ev
   have hp1:=s1 _ _ hp
   refine⟨_,rfl,p,_,_,_,rfl,rfl,SqT.of hp1,rfl,_,_,rfl,rfl,_,rfl,ite2 (fun c1=>?_) (fun c1=>?_)⟩
   ·refine⟨_,rfl,p,_,_,_,rfl,rfl,SqT.of hp1,rfl,_,_,rfl,rfl,_,rfl,ite2 (fun c2=>?_) (fun c2=>?_)⟩
    ·refine⟨_,rfl,_,_,rfl,rfl,_,rfl,ite2 (fun c3=>?_) (fun c3=>?_)⟩
     ·refine⟨_,rfl,p,_,_,_,rfl,rfl,SqT.of hp1,rfl,.int l,.int l,rfl,rfl,trivial,fun H2 s2=>?_⟩
      have e:tieB n (.tuple [.int a,.int b,.int l])=lengthB (.int l):=by
       show (decide (0≤a) && decide (a < b) && decide (b < n) && decide (1≤l) && decide (l≤10 ^ 18))=(decide (1≤l) && decide (l≤10 ^ 18))
       rw[show decide (0≤a)=true from c1,show decide (a < b)=true from c2,show decide (b < n)=true from c3];rfl
      have q2:=q H2 (s1.trans s2)
      rw[e] at q2
      exact q2
     ·have e:tieB n (.tuple [.int a,.int b,.int l])=false:=by
       show (decide (0≤a) && decide (a < b) && decide (b < n) && decide (1≤l) && decide (l≤10 ^ 18))=_
       rw[show decide (b < n)=false from Bool.eq_false_iff.mpr c3];simp
      rw[e] at q0;exact q0
    ·have e:tieB n (.tuple [.int a,.int b,.int l])=false:=by
      show (decide (0≤a) && decide (a < b) && decide (b < n) && decide (1≤l) && decide (l≤10 ^ 18))=_
      rw[show decide (a < b)=false from Bool.eq_false_iff.mpr c2];simp
     rw[e] at q0;exact⟨_,rfl,iteF q0⟩
   ·have e:tieB n (.tuple [.int a,.int b,.int l])=false:=by
     show (decide (0≤a) && decide (a < b) && decide (b < n) && decide (1≤l) && decide (l≤10 ^ 18))=_
     rw[show decide (0≤a)=false from Bool.eq_false_iff.mpr c1];simp
    rw[e] at q0;exact⟨_,rfl,iteF q0⟩
  ·rw[not_triple c] at q0
   exact q0
 | int n=>exact iteF q0
 | bool b=>exact iteF q0
 | none=>exact iteF q0
 | str x=>exact iteF q0
 | list ds=>exact iteF q0
 | dict ds=>exact iteF q0
theorem iteB2 {b:Bool} {A B:Prop} (h1:b=true->B) (h2:b=false->A):if (!b)=true then A else B:=by
 cases b with
 | true=>exact iteF (h1 rfl)
 | false=>exact iteT (h2 rfl)
theorem ok_is_rising (T:Bi mg) (D:DefOk K mg "is_rising" s_is_rising ["parts"]):Ok P w K mg base 1 "is_rising" ["parts"] spRising:=by
 refine mk_ok (k:=0) D sc_is_rising (fun vs H Q E h=>?_) (fun f cdv A outer s H vs Q E hr h=>?_)
 ·obtain⟨p,ys,es,rfl,_⟩:=h
  rfl
 obtain⟨p,ys,es,rfl,hp,hT,hn,q⟩:=h
 have nd:=sc_is_rising.nd
 refine⟨_,(pss_one (ps_ret (pe_callB (call_all rfl) rfl T.z_all (by decide +kernel) (pa_cons (pe_comp (N:=["parts"]) (sc0:=defScope s_is_rising) (own:=["low","high"]) (fr:=[]) (js:=[]) rfl (pi_zip false false rfl T.z_zip (pa_cons (pv 0) (pa_cons (pe_slice sl_list (pv 0) (po_some pe_int) po_none) pa_nil))) (fun _ _ _ _=>(pg_tupC (n:=2) rfl (pgs_cons (pg_name (i:=0) (by show List.Nodup [("low":Str),("high":Str)];decide +kernel) rfl (Or.inl rfl)) (pgs_cons (pg_name (i:=1) (by show List.Nodup [("low":Str),("high":Str)];decide +kernel) rfl (Or.inl rfl)) pgs_nil)))) (fun _ _ _ _=>pts_nil) (fun _ _ _ _=>(pe_cmpR (op_ltTC hr.units0) (pv 0) (pv 1) (nomark _)))) pa_nil)))),?_⟩
 refine⟨_,rfl,_,rfl,_,rfl,p,_,rfl,SqL.of hp,fun p2 hp2=>?_⟩
 have S1:Same H (upd H p2 (.lst (cutV ys (some 1) none))):=same_new hp2
 refine⟨p,p2,rfl,⟨_,SqL.of (S1 _ _ hp)⟩,⟨_,SqL.of upd_same⟩,?_⟩
 have e2':upd H p2 (.lst (cutV ys (some 1) none)) p2=some (.lst (ys.drop 1)):=by rw[upd_same,cut1]
 refine comp_zip (xs:=ys) (zs:=ys.drop 1) (S1 _ _ hp) e2' (fun σ'=>σ'.length=2) (fun i v _=>v=.bl (HT.lexLt (e2 (es.getD i (0,0))) (e2 ((es.drop 1).getD i (0,0))))) (by omega) (by rfl) (fun _ _ _ _ _ h=>h) (fun i x z U σ' H' hx hz s hU sg C hC=>?_) (fun L zs H' hL s hH hly hys=>?_)
 ·match σ',sg with
  | [o1,o2],_ =>
   refine⟨U,_,rfl,SqT.of upd_same,rfl,_,_,rfl,_,_,rfl,rfl,?_⟩
   obtain⟨a,rfl,ha⟩:=hT.get hx
   obtain⟨b,rfl,hb⟩:=hT.drop1.get hz
   have up:∀ c o,H c=some o->upd H' U (.tup [.ref a,.ref b]) c=some o:=fun c o e=>same_new hU _ _ (s _ _ (S1 _ _ e))
   refine⟨_,rfl,_,rfl,a,b,_,_,rfl,rfl,SqT.of (up _ _ ha),SqT.of (up _ _ hb),?_⟩
   exact hC _ _ _ rfl (same_new hU) rfl
 ·have hl:ys.length=es.length:=Paired.length hT
  refine⟨L,_,rfl,SqL.of (by rw[hH,bools_of hly hys]),?_⟩
  have q':=q H' (S1.trans s)
  unfold risingB at q'
  have el:min es.length (es.drop 1).length=min ys.length (ys.drop 1).length:=by rw[List.length_drop,List.length_drop,hl]
  rw[el] at q'
  exact q'
theorem ok_is_web (T:Bi mg) (D:DefOk K mg "is_web" s_is_web ["thing"]) (O_is_size:Ok P w K mg base 4 "is_size" ["thing"] (spD1 K (fun _=>True) sizeB)) (O_is_tie:Ok P w K mg base 4 "is_tie" ["n","thing"] (spTie K)) (O_is_rising:Ok P w K mg base 4 "is_rising" ["parts"] spRising) :
  Ok P w K mg base 5 "is_web" ["thing"] (spWebT K):=by
 refine mk_ok (k:=4) D sc_is_web (fun vs H Q E h=>?_) (fun f cdv A outer s H vs Q E hr h=>?_)
 ·obtain⟨n,ts,v,rfl,_⟩:=h
  rfl
 obtain⟨n,ts,v,rfl,hd,hn,q⟩:=h
 have nd:=sc_is_web.nd
 obtain⟨p,vs,rfl,hp,v1,r1,rfl,e1,v2,r2,rfl,⟨g,ws,rfl,hg,hall⟩,e3⟩:=hd
 have e1':v1=.int n:=e1
 have e3':r2=[]:=e3
 refine⟨_,(pss_cons (ps_if (PW.pt (pw_or (pt_not (pt_val (pe_callB (call_isi (n:="tuple")) rfl T.z_isinstance (by decide +kernel) (pa_cons (pv 0) (pa_cons (pe_bltn (v:=.ty "tuple") rfl T.z_tuple (by decide +kernel) rfl) pa_nil))))) (pw_or1 (pt_cmpR op_ne (pe_callB call_len_seq rfl T.z_len (by decide +kernel) (pa_cons (pv 0) pa_nil)) pe_int (nomark _))))) (pss_one (ps_ret pe_bl)) pss_nil) (pss_cons (ps_asg (pv 0) (pg_tup (n:=2) rfl (pgs_cons (pg_name (i:=1) nd rfl (Or.inr rfl)) (pgs_cons (pg_name (i:=2) nd rfl (Or.inl rfl)) pgs_nil)))) (pss_cons (ps_if (PW.pt (pw_or (pt_not (pt_val (pe_callD O_is_size hr rfl (pa_cons (pv 1) pa_nil)))) (pw_or (pt_not (pt_val (pe_callB (call_isi (n:="tuple")) rfl T.z_isinstance (by decide +kernel) (pa_cons (pv 2) (pa_cons (pe_bltn (v:=.ty "tuple") rfl T.z_tuple (by decide +kernel) rfl) pa_nil))))) (pw_or1 (pt_cmpR op_gt (pe_callB call_len_seq rfl T.z_len (by decide +kernel) (pa_cons (pv 2) pa_nil)) pe_int (nomark _)))))) (pss_one (ps_ret pe_bl)) pss_nil) (pss_cons (ps_if (pt_not (pt_val (pe_callB (call_all rfl) rfl T.z_all (by decide +kernel) (pa_cons (pe_comp (N:=["thing","n","ties"]) (sc0:=defScope s_is_web) (own:=["tie"]) (fr:=["n"]) (js:=[1]) rfl (pi_tup (pv 2)) (fun _ _ _ _=>(pg_name (i:=0) (by show List.Nodup [("tie":Str),("n":Str)];decide +kernel) rfl (Or.inl rfl))) (fun _ _ _ _=>pts_nil) (fun _ _ _ _=>(pe_callD O_is_tie hr rfl (pa_cons (pv 1) (pa_cons (pv 0) pa_nil))))) pa_nil)))) (pss_one (ps_ret pe_bl)) pss_nil) (pss_one (ps_ret (pe_callD O_is_rising hr rfl (pa_cons (pe_comp (N:=["thing","n","ties"]) (sc0:=defScope s_is_web) (own:=["tie"]) (fr:=[]) (js:=[]) rfl (pi_tup (pv 2)) (fun _ _ _ _=>(pg_name (i:=0) (by show List.Nodup [("tie":Str)];decide +kernel) rfl (Or.inl rfl))) (fun _ _ _ _=>pts_nil) (fun _ _ _ _=>(pe_slice sl_tupC (pv 0) po_none (po_some pe_int)))) pa_nil)))))))),?_⟩
 subst e1' e3'
 have hl:ws.length=ts.length:=by have:=hall.length;rw[List.length_map] at this;exact this
 refine⟨_,rfl,_,_,_,rfl,TyOf.tup hp,rfl,_,rfl,iteF ⟨_,rfl,p,_,rfl,.inr (SqT.of hp),rfl,_,rfl,iteNS rfl ?_⟩⟩
 refine⟨_,rfl,p,_,rfl,SqT.of hp,rfl,_,_,rfl,_,_,rfl,rfl,?_⟩
 refine⟨_,rfl,.int n,.int n,rfl,rfl,trivial,fun H1 s1=>⟨_,rfl,?_⟩⟩
 refine iteB2 (fun c1=>?_) (fun c1=>iteT ?_)
 case refine_2 =>
  have e:webB n ts=false:=by unfold webB;rw[c1];rfl
  have q1:=q H1 s1
  rw[e] at q1;exact q1
 have hg1:=s1 _ _ hg
 refine⟨_,rfl,_,_,_,rfl,TyOf.tup hg1,rfl,_,rfl,iteF ⟨_,rfl,g,_,rfl,.inr (SqT.of hg1),_,_,rfl,rfl,_,rfl,ite2 (fun c2=>?_) (fun c2=>?_)⟩⟩
 ·have c2':(60:Int) < ((ws.length:Nat):Int):=of_decide_eq_true c2
  have e:webB n ts=false:=by
   unfold webB
   rw[decide_eq_false (show ¬ ts.length≤60 by omega)];simp
  have q1:=q H1 s1
  rw[e] at q1;exact q1
 have c2':ts.length≤60:=by
  have:=of_decide_eq_false (Bool.eq_false_iff.mpr c2)
  omega
 refine⟨_,rfl,g,rfl,⟨_,SqT.of hg1⟩,?_⟩
 refine comp_tup hg1 (fun σ'=>∃ o,σ'=[o,some (.int n)]) (fun i v _=>v=.bl (tieB n (tieD (ts.getD i (0,0,0))))) (by omega) (by exact⟨none,rfl⟩) (fun _ _ _ _ _ h=>h) (fun i x σ' H' hx s2 sg C hC=>?_) (fun L ys H2 hL s2 hH hly hys=>?_)
 ·obtain⟨o,rfl⟩:=sg
  obtain⟨d,hdi,hdx⟩:=hall.get' hx
  have ed:d=tieD (ts.getD i (0,0,0)):=by
   rw[List.getElem?_map] at hdi
   cases ht:ts[i]? with
   | none=>rw[ht] at hdi;cases hdi
   | some t=>rw[ht] at hdi;simp [List.getD,ht];simpa using hdi.symm
  subst ed
  exact⟨_,rfl,_,rfl,n,_,x,rfl,Is.same (s1.trans s2) _ hdx,(by show 3≤1000;decide),fun H5 s5=>hC _ _ _ ⟨_,rfl⟩ s5 rfl⟩
 refine⟨L,_,rfl,SqL.of (by rw[hH,bools_of (hly.trans hl) hys]),_,rfl,?_⟩
 have eall:((List.range ts.length).map fun i=>tieB n (tieD (ts.getD i (0,0,0)))).all id=ts.all fun t=>tieB n (tieD t):=by
  have z:=congrArg (List.map fun t=>tieB n (tieD t)) (L3.range_getD ts (0,0,0))
  rw[List.map_map] at z
  have z':((List.range ts.length).map fun i=>tieB n (tieD (ts.getD i (0,0,0))))=ts.map fun t=>tieB n (tieD t):=z
  rw[z',List.all_map]
  rfl
 have s12:Same H H2:=s1.trans s2
 refine iteB2 (fun c3=>?_) (fun c3=>?_)
 case refine_2 =>
  rw[eall] at c3
  have e:webB n ts=false:=by unfold webB;rw[c3];simp
  have q1:=q H2 s12
  rw[e] at q1;exact q1
 rw[eall] at c3
 have hg2:=s12 _ _ hg
 refine⟨_,rfl,g,rfl,⟨_,SqT.of hg2⟩,?_⟩
 refine comp_tup hg2 (fun σ'=>σ'.length=1) (fun i v H=>∃ a,v=.ref a∧H a=some (.tup [.int (ts.getD i (0,0,0)).1,.int (ts.getD i (0,0,0)).2.1])) (by omega) (by rfl) (fun i v H H' k ⟨a,h1,h2⟩=>⟨a,h1,k _ _ h2⟩) (fun i x σ' H' hx s3 sg C hC=>?_) (fun L2 zs H3 hL3 s3 hH3 hlz hzs=>?_)
 ·match σ',sg with
  | [o],_ =>
   obtain⟨d,hdi,hdx⟩:=hall.get' hx
   have ed:d=tieD (ts.getD i (0,0,0)):=by
    rw[List.getElem?_map] at hdi
    cases ht:ts[i]? with
    | none=>rw[ht] at hdi;cases hdi
    | some t=>rw[ht] at hdi;simp [List.getD,ht];simpa using hdi.symm
   subst ed
   obtain⟨a,xs,rfl,ha,hxs⟩:=Is.same (s12.trans s3) _ hdx
   have ex:xs=(tieI (ts.getD i (0,0,0))).map V.int:=IsAll.of_ints hxs
   subst ex
   refine⟨_,rfl,_,rfl,a,_,rfl,SqT.of ha,?_,fun b hb=>?_⟩
   ·exact fun z=>absurd z.2 (by show ¬ HT.sIx 3 3 (some 2)=3;decide)
   ·exact hC _ _ _ rfl (same_new hb) ⟨b,rfl,upd_same⟩
 ·have len2:zs.length=ts.length:=hlz.trans hl
  refine⟨L2,zs,ts.map endsOf,rfl,hH3,?_,by omega,fun H' s4=>?_⟩
  ·have mk:∀ (zs:List V) (ts:List Tie),zs.length=ts.length->(∀ i v,zs[i]?=some v->∃ a,v=.ref a∧H3 a=some (.tup [.int (ts.getD i (0,0,0)).1,.int (ts.getD i (0,0,0)).2.1]))->TwoL H3 zs (ts.map endsOf):=by
    intro zs
    induction zs with
    | nil=>intro ts hl _;have:ts=[]:=List.eq_nil_of_length_eq_zero hl.symm;subst this;exact .nil
    | cons z r ih =>
     intro ts hl h
     match ts,hl with
     | t::us,hl=>exact .cons (h 0 z rfl) (ih us (by simpa using hl) fun i v hv=>h (i + 1) v (by simpa using hv))
   exact mk zs ts len2 hzs
  ·have e:webB n ts=risingB (ts.map endsOf):=by
    unfold webB
    rw[c1,c3,decide_eq_true c2'];rfl
   have q1:=q H' (s12.trans (s3.trans s4))
   rw[e] at q1;exact q1
def tieT (t:Tie):List Nat:=Tx.digs t.1.toNat++45::(Tx.digs t.2.1.toNat++58::Tx.digs t.2.2.toNat)
def webT (n:Int) (ts:List Tie):List Nat:=Tx.jn 32 (Tx.digs n.toNat::ts.map tieT)
theorem atT86 {α:Type} {xs:List α} {i:Int} {x:α} (h0:0≤i) (h:xs[i.toNat]?=some x):atI xs i=some x:=by
 have hl:=(List.getElem?_eq_some_iff.mp h).1
 unfold atI ixN
 rw[if_pos h0,if_pos (by omega)]
 exact h
theorem at0 {α:Type} {l:List α} {v:α} (h:l[0]?=some v):atI l 0=some v:=atT86 (i:=0) (by decide) h
theorem log_ok {i:Int} (h0:0≤i) (h:i≤10 ^ 18):i.natAbs.log2 < 1920:=by
 by_cases z:i.natAbs=0
 ·rw[z];decide
 ·refine (Nat.log2_lt z).mpr (Nat.lt_of_lt_of_le (show i.natAbs < 10 ^ 19 by omega) ?_)
  decide +kernel
def tieOk (t:Tie):Prop:=0≤t.1∧t.1≤10 ^ 18∧0≤t.2.1∧t.2.1≤10 ^ 18∧0≤t.2.2∧t.2.2≤10 ^ 18
theorem tie_okW {n:Int} {ts:List Tie} (ok:WebOk n ts) {t:Tie} (h:t ∈ ts):tieOk t:=by
 have:=ok.tie t h
 have n24:=ok.n24
 unfold tieOk
 omega
theorem digs_19 {i:Int} (h0:0≤i) (h:i≤10 ^ 18):(Tx.digs i.toNat).length≤19:=Tx.digs_len 18 i.toNat (by omega)
theorem tieT_len {t:Tie} (h:tieOk t):(tieT t).length≤59:=by
 obtain⟨a0,a1,b0,b1,c0,c1⟩:=h
 have h1:=digs_19 a0 a1
 have h2:=digs_19 b0 b1
 have h3:=digs_19 c0 c1
 unfold tieT
 rw[List.length_append,List.length_cons,List.length_append,List.length_cons]
 omega
theorem sum_len {α:Type} {f:α->List Nat} {m:Nat}:∀ {l:List α},(∀ x ∈ l,(f x).length≤m)->((l.map f).map fun w=>w.length + 1).sum≤l.length * (m + 1)
 | [],_=>Nat.zero_le _
 | x::l,h=>by
  have h1:=h x List.mem_cons_self
  have h2:=sum_len (l:=l) fun y hy=>h y (List.mem_cons_of_mem _ hy)
  rw[List.map_cons,List.map_cons,List.sum_cons,List.length_cons,Nat.succ_mul]
  omega
theorem jn_len:∀ (ws:List (List Nat)),(Tx.jn 32 ws).length≤(ws.map fun w=>w.length + 1).sum
 | []=>Nat.zero_le _
 | [w]=>by simp [Tx.jn]
 | w::v::r=>by
  have ih:=jn_len (v::r)
  rw[Tx.jn,List.length_append,List.length_cons,List.map_cons,List.sum_cons]
  omega
def spWebTx (K:PySem.W.Frag):Sp:=fun vs H Q _=>∃ (n:Int) (ts:List Tie) (v:V),vs=[v]∧Is K H (webD n ts) v∧WebOk n ts∧∀ H',Same H H'->Q (.str (Tx.ofL (webT n ts))) H'
theorem jn_snoc {c:Nat} {v:List Nat}:∀ (l:List (List Nat)) (w:List Nat),Tx.jn c (w::(l++[v]))=Tx.jn c (w::l)++c::v
 | [],w=>rfl
 | u::l,w=>by
  have ih:=jn_snoc (c:=c) (v:=v) l u
  rw[List.cons_append,Tx.jn,ih,Tx.jn]
  simp
theorem webT_take {n:Int} {ts:List Tie} (ok:WebOk n ts) (i:Nat):(Tx.jn 32 (Tx.digs n.toNat::(ts.take i).map tieT)).length≤4000:=by
 have h1:=digs_19 (i:=n) (by have:=ok.n1;omega) (by have:=ok.n24;omega)
 have h2:=sum_len (f:=tieT) (m:=59) (l:=ts.take i) fun t ht=>tieT_len (tie_okW ok (List.mem_of_mem_take ht))
 have h3:=jn_len (Tx.digs n.toNat::(ts.take i).map tieT)
 have few:=ok.few
 have lt:(ts.take i).length≤60:=Nat.le_trans (List.length_take_le' _ _) few
 rw[List.map_cons,List.sum_cons] at h3
 have:(ts.take i).length * (59 + 1)≤60 * 60:=Nat.mul_le_mul_right 60 lt
 omega
theorem ok__law_written86 (T:Bi mg) (D:DefOk K mg "_law_written" s__law_written ["web"]):Ok P w K mg base 1 "_law_written" ["web"] (spWebTx K):=by
 refine mk_ok (k:=0) D sc__law_written (fun vs H Q E h=>?_) (fun f cdv A outer s H vs Q E hr h=>?_)
 ·obtain⟨n,ts,v,rfl,_⟩:=h
  rfl
 obtain⟨n,ts,v,rfl,isw,ok,q⟩:=h
 have nd:=sc__law_written.nd
 obtain⟨g0,g,ws,rfl,hg0,hg,hall,hlw⟩:=web_parts isw
 have few60:=ok.few
 have n1:=ok.n1
 have n24:=ok.n24
 have e0:(" ":Str)=Tx.ofL [32]:=by decide +kernel
 have e1:("-":Str)=Tx.ofL [45]:=by decide +kernel
 have e2:(":":Str)=Tx.ofL [58]:=by decide +kernel
 refine⟨_,(pss_cons (ps_set (i:=1) nd rfl (Or.inl rfl) (pe_callTy call_str_int rfl T.z_str (by decide +kernel) (pa_cons (pe_ix ix_tup (pv 0) pe_int (fun _ _=>rfl)) pa_nil))) (pss_cons (ps_for PassesOwn.never rfl (pi_tup (pe_ix ix_tup (pv 0) pe_int (fun _ _=>rfl))) (pg_tup (n:=3) rfl (pgs_cons (pg_name (i:=2) nd rfl (Or.inl rfl)) (pgs_cons (pg_name (i:=3) nd rfl (Or.inl rfl)) (pgs_cons (pg_name (i:=4) nd rfl (Or.inl rfl)) pgs_nil)))) (pss_one (ps_set (i:=1) nd rfl (Or.inl rfl) (pe_op op_add_str (pe_op op_add_str (pe_op op_add_str (pe_op op_add_str (pe_op op_add_str (pe_op op_add_str (pv 1) pe_str) (pe_callTy call_str_int rfl T.z_str (by decide +kernel) (pa_cons (pv 2) pa_nil))) pe_str) (pe_callTy call_str_int rfl T.z_str (by decide +kernel) (pa_cons (pv 3) pa_nil))) pe_str) (pe_callTy call_str_int rfl T.z_str (by decide +kernel) (pa_cons (pv 4) pa_nil)))))) (pss_one (ps_ret (pv 1))))),?_⟩
 refine⟨_,rfl,g0,_,_,_,rfl,rfl,SqT.of hg0,rfl,n,rfl,log_ok (by omega) (by omega),?_⟩
 refine⟨_,rfl,g0,_,_,_,rfl,rfl,SqT.of hg0,rfl,g,rfl,⟨_,SqT.of hg⟩,?_⟩
 refine for_tup (xs:=ws) (fun i σ J=>∃ (y2 y3 y4:Option V),σ=[some (.ref g0),some (.str (Tx.ofL (Tx.jn 32 (Tx.digs n.toNat::(ts.take i).map tieT)))),y2,y3,y4]∧J=H) ⟨none,none,none,by rw[Tx.num_text (by omega)];rfl,rfl⟩ (fun i σ J _ h=>?_) (fun i x σ J hx h=>?_) (fun σ J h=>?_)
 ·obtain⟨y2,y3,y4,rfl,rfl⟩:=h
  exact SqT.of hg
 ·obtain⟨y2,y3,y4,rfl,rfl⟩:=h
  have hi:i < ts.length:=by have:=(List.getElem?_eq_some_iff.mp hx).1;omega
  have et:ts[i]?=some ts[i]:=List.getElem?_eq_getElem hi
  obtain⟨d,hd,ix⟩:=hall.get' hx
  rw[List.getElem?_map,et] at hd
  cases hd
  obtain⟨p,xs,rfl,hp,hxs⟩:=ix
  rw[IsAll.of_ints hxs] at hp
  have to:=tie_okW ok (List.getElem_mem hi)
  have ln:=webT_take ok i
  have tn:(ts.take (i + 1)).map tieT=(ts.take i).map tieT++[tieT ts[i]]:=by
   rw[List.take_add_one,et,List.map_append];rfl
  rw[tn,jn_snoc]
  generalize Tx.jn 32 (Tx.digs n.toNat::(ts.take i).map tieT)=fnd at *
  generalize ts[i]=t at *
  obtain⟨a0,a1,b0,b1,c0,c1⟩:=id to
  have l1:=digs_19 a0 a1
  have l2:=digs_19 b0 b1
  have l3:=digs_19 c0 c1
  refine⟨p,_,rfl,SqT.of hp,rfl,_,_,rfl,_,_,rfl,_,_,rfl,rfl,?_⟩
  have L:∀ {x y:List Nat},x.length + y.length≤10000->(Tx.ofL x).length + (Tx.ofL y).length≤sizeLine:=fun h=>by
   rw[Tx.ofL_len,Tx.ofL_len];exact Nat.le_trans h (by decide)
  refine⟨_,rfl,Tx.ofL fnd,Tx.ofL [32],rfl,congrArg V.str e0,L (by simp;omega),?_⟩
  rw[Tx.ofL_app]
  refine⟨_,rfl,t.1,rfl,log_ok a0 a1,_,Tx.ofL (Tx.digs t.1.toNat),rfl,congrArg V.str (Tx.num_text a0),L (by simp;omega),?_⟩
  rw[Tx.ofL_app]
  refine⟨_,Tx.ofL [45],rfl,congrArg V.str e1,L (by simp;omega),?_⟩
  rw[Tx.ofL_app]
  refine⟨_,rfl,t.2.1,rfl,log_ok b0 b1,_,Tx.ofL (Tx.digs t.2.1.toNat),rfl,congrArg V.str (Tx.num_text b0),L (by simp;omega),?_⟩
  rw[Tx.ofL_app]
  refine⟨_,Tx.ofL [58],rfl,congrArg V.str e2,L (by simp;omega),?_⟩
  rw[Tx.ofL_app]
  refine⟨_,rfl,t.2.2,rfl,log_ok c0 c1,_,Tx.ofL (Tx.digs t.2.2.toNat),rfl,congrArg V.str (Tx.num_text c0),L (by simp;omega),?_⟩
  rw[Tx.ofL_app]
  have e:fnd++[32]++Tx.digs t.1.toNat++[45]++Tx.digs t.2.1.toNat++[58]++Tx.digs t.2.2.toNat=fnd++32::tieT t:=by simp [tieT]
  rw[e]
  exact⟨_,_,_,rfl,rfl⟩
 ·obtain⟨y2,y3,y4,rfl,rfl⟩:=h
  rw[hlw,List.take_length]
  exact⟨_,rfl,q J (Same.refl J)⟩
/-- a number as it is written -/
def isWr (x:Str):Bool:=decide (1≤x.length∧x.length≤60) && x.cps.toList.all (fun c=>decide (48≤c∧c≤57)) && (decide (x.cps.toList=[48]) || !decide (x.cps.toList[0]?=some 48))
def spIsW:Sp:=fun vs H Q _=>∃ x:Str,vs=[.str x]∧x.length≤10000∧∀ H',Same H H'->Q (.bl (isWr x)) H'
theorem figs_are (c:Nat):(!(Builtin.Str.occurrences ("0123456789":Str) ⟨#[c]⟩ 0 ("0123456789":Str).length 1).isEmpty)=decide (48≤c∧c≤57):=by
 rw[StrLaws.found_one]
 have e:("0123456789":Str).cps.toList=[48,49,50,51,52,53,54,55,56,57]:=by decide +kernel
 rw[e]
 refine decide_eq_decide.mpr ?_
 simp only [List.mem_cons,List.not_mem_nil,or_false]
 omega
theorem ok_is_written (T:Bi mg) (D:DefOk K mg "is_written" s_is_written ["text"]):Ok P w K mg base 1 "is_written" ["text"] spIsW:=by
 refine mk_ok (k:=0) D sc_is_written (fun vs H Q E h=>?_) (fun f cdv A outer s H vs Q E hr h=>?_)
 ·obtain⟨x,rfl,_⟩:=h
  rfl
 obtain⟨x,rfl,xl,q⟩:=h
 have nd:=sc_is_written.nd
 have hz:x.length≤sizeLine:=Nat.le_trans xl (by decide)
 have nol:¬ (1≤x.length∧x.length≤60)->isWr x=false:=fun z=>by unfold isWr;rw[decide_eq_false z];rfl
 refine⟨_,(pss_cons (ps_if (PW.pt (pw_or (pt_not (pt_chain op_le op_le pe_int (pe_callB call_len_str rfl T.z_len (by decide +kernel) (pa_cons (pv 0) pa_nil)) pe_int)) (pw_or1 (pt_not (pt_val (pe_callB (call_all rfl) rfl T.z_all (by decide +kernel) (pa_cons (pe_comp (N:=["text"]) (sc0:=defScope s_is_written) (own:=["sign"]) (fr:=[]) (js:=[]) rfl (pi_str (pv 0)) (fun _ _ _ _=>(pg_name (i:=0) (by show List.Nodup [("sign":Str)];decide +kernel) rfl (Or.inl rfl))) (fun _ _ _ _=>pts_nil) (fun _ _ _ _=>(pe_cmpR op_in_str (pv 0) pe_str (by with_unfolding_all rfl)))) pa_nil))))))) (pss_one (ps_ret pe_bl)) pss_nil) (pss_one (ps_ret (pe_or (pe_cmpR op_eq (pv 0) pe_str (nomark _)) (pe_one (pe_cmpR op_ne (pe_ix ix_str (pv 0) pe_int (fun _ _=>rfl)) pe_str (nomark _))))))),?_⟩
 refine⟨_,rfl,x,rfl,hz,?_⟩
 refine⟨_,_,rfl,rfl,_,rfl,?_⟩
 by_cases c1:1≤x.length
 case neg =>
  rw[decide_eq_false (by omega)]
  refine iteF ⟨_,rfl,iteT (iteT ?_)⟩
  rw[nol (fun z=>c1 z.1)] at q
  exact q H (Same.refl H)
 rw[decide_eq_true (by omega)]
 refine iteT ⟨_,_,rfl,rfl,_,rfl,?_⟩
 by_cases c2:x.length≤60
 case neg =>
  rw[decide_eq_false (by omega)]
  refine iteT (iteT ?_)
  rw[nol (fun z=>c2 z.2)] at q
  exact q H (Same.refl H)
 rw[decide_eq_true (by omega)]
 refine iteF ?_
 refine⟨_,rfl,x,rfl,?_⟩
 refine comp_str (fun σ'=>∃ o,σ'=[o]) (fun i v _=>∃ c,x.cps.toList[i]?=some c∧v=.bl (decide (48≤c∧c≤57))) (by omega) (by exact⟨none,rfl⟩) (fun _ _ _ _ _ h=>h) (fun i c σ' H' hc s2 sg C hC=>?_) (fun L ys J2 hL S2 hH hly hys=>?_)
 ·obtain⟨o,rfl⟩:=sg
  refine⟨_,rfl,_,_,rfl,rfl,?_⟩
  rw[figs_are]
  exact hC _ _ _ ⟨_,rfl⟩ (Same.refl _) ⟨c,by simpa using hc,rfl⟩
 have ey:ys=(x.cps.toList.map fun c=>decide (48≤c∧c≤57)).map V.bl:=by
  have lx:x.cps.toList.length=x.length:=Array.length_toList
  refine List.ext_getElem? fun i=>?_
  by_cases hi:i < x.length
  ·have e1:ys[i]?=some ys[i]:=List.getElem?_eq_getElem (by omega)
   obtain⟨c,hc,ev⟩:=hys i _ e1
   rw[e1,ev,List.getElem?_map,List.getElem?_map,hc];rfl
  ·rw[List.getElem?_eq_none (by omega),List.getElem?_eq_none (by simp only [List.length_map];omega)]
 refine⟨L,_,rfl,SqL.of (by rw[hH,ey]),?_⟩
 have ea:(x.cps.toList.map fun c=>decide (48≤c∧c≤57)).all id=x.cps.toList.all (fun c=>decide (48≤c∧c≤57)):=by rw[List.all_map];rfl
 rw[ea]
 cases ed:x.cps.toList.all (fun c=>decide (48≤c∧c≤57)) with
 | false =>
  refine⟨_,rfl,iteT ?_⟩
  have:isWr x=false:=by unfold isWr;rw[ed,Bool.and_false];rfl
  rw[this] at q
  exact q J2 S2
 | true =>
  refine⟨_,rfl,iteF ?_⟩
  have ew:isWr x=(decide (x.cps.toList=[48]) || !decide (x.cps.toList[0]?=some 48)):=by unfold isWr;rw[ed,decide_eq_true ⟨c1,c2⟩];rfl
  have e0:("0":Str)=Tx.ofL [48]:=by decide +kernel
  have dx:∀ l:List Nat,decide (V.str x=V.str (Tx.ofL l))=decide (x.cps.toList=l):=fun l=>by
   refine decide_eq_decide.mpr ⟨fun z=>?_,fun z=>?_⟩
   ·injection z with z;rw[z,Tx.list_ofL]
   ·rw[← z,Tx.ofL_list]
  refine⟨_,rfl,rfl,?_⟩
  have ee:decide (V.str x=V.str ("0":Str))=decide (x.cps.toList=[48]):=by rw[e0];exact dx [48]
  refine⟨_,rfl,?_⟩
  rw[ee]
  by_cases c3:x.cps.toList=[48]
  ·rw[decide_eq_true c3]
   rw[decide_eq_true c3] at ew
   rw[show isWr x=true from ew] at q
   exact iteT (q J2 S2)
  ·rw[decide_eq_false c3]
   rw[decide_eq_false c3,Bool.false_or] at ew
   have h0:x.cps.toList[0]?=some (x.cps.toList.getD 0 0):=by
    rw[List.getD_eq_getElem?_getD,List.getElem?_eq_getElem (by rw[Array.length_toList];exact c1)];rfl
   refine iteF ⟨_,rfl,x,0,x.cps.toList.getD 0 0,rfl,rfl,hz,at0 h0,rfl,?_⟩
   have e2:decide (V.str (⟨#[x.cps.toList.getD 0 0]⟩:Str)=V.str ("0":Str))=decide (x.cps.toList[0]?=some 48):=by
    rw[e0,h0]
    refine decide_eq_decide.mpr ⟨fun z=>?_,fun z=>?_⟩
    ·injection z with z
     have:=congrArg (fun s:Str=>s.cps.toList) z
     simp [Tx.ofL] at this
     rw[← this];simp
    ·injection z with z
     rw[z];rfl
   rw[e2,← ew]
   exact q J2 S2
theorem num_isW {m:Nat} (h:m < 10 ^ 19):isWr (Tx.ofL (Tx.digs m))=true:=by
 have hl:=Tx.digs_len 18 m h
 have hn:=Tx.digs_ne m
 have h1:1≤(Tx.digs m).length:=List.length_pos_iff.mpr hn
 unfold isWr
 rw[Tx.list_ofL,Tx.ofL_len,decide_eq_true ⟨h1,by omega⟩]
 have ha:(Tx.digs m).all (fun c=>decide (48≤c∧c≤57))=true:=List.all_eq_true.mpr fun c hc=>decide_eq_true (Tx.digs_fig m c hc)
 rw[ha]
 by_cases z:m=0
 ·rw[z,Tx.digs_low (by decide)];rfl
 ·obtain⟨c,r,e,hc⟩:=Tx.digs_head m z
  rw[e]
  simp [hc]
theorem iteTq {b:Bool} {A B:Prop} (e:b=true) (h:A):if b=true then A else B:=by rw[if_pos e];exact h
theorem iteFq {b:Bool} {A B:Prop} (e:b=false) (h:B):if b=true then A else B:=by rw[e];exact h
theorem digs_back:∀ (l:List Nat),l≠[]->(∀ c ∈ l,48≤c∧c≤57)->(l.length=1∨l[0]?≠some 48)->∃ m,l=Tx.digs m:=by
 intro l
 induction h:l.length generalizing l with
 | zero=>intro hn;exact absurd (List.eq_nil_of_length_eq_zero h) hn
 | succ k ih =>
  intro hn hd h0
  obtain⟨u,d,rfl⟩:∃ u d,l=u++[d]:=⟨l.dropLast,l.getLast hn,(List.dropLast_concat_getLast hn).symm⟩
  have dd:=hd d (by simp)
  have ul:u.length=k:=by rw[List.length_append] at h;simpa using h
  by_cases z:u=[]
  ·subst z
   refine⟨d - 48,?_⟩
   rw[Tx.digs_low (by omega),show 48 + (d - 48)=d by omega];rfl
  ·have kpos:0 < u.length:=List.length_pos_iff.mpr z
   have hu0:u[0]?≠some 48:=by
    rcases h0 with h0 | h0
    ·omega
    ·rw[List.getElem?_append_left kpos] at h0;exact h0
   obtain⟨m,rfl⟩:=ih u ul z (fun c hc=>hd c (List.mem_append_left _ hc)) (.inr hu0)
   have m0:m≠0:=fun e=>by rw[e,Tx.digs_low (by decide)] at hu0;exact hu0 rfl
   refine⟨10 * m + (d - 48),?_⟩
   rw[Tx.digs_step (m:=10 * m + (d - 48)) (by omega),show (10 * m + (d - 48)) / 10=m by omega,show (10 * m + (d - 48)) % 10=d - 48 by omega,Tx.digs_low (m:=d - 48) (by omega),show 48 + (d - 48)=d by omega]
theorem digs_one {a b:Nat} (h:Tx.digs a=Tx.digs b) (l:(Tx.digs a).length≤640):a=b:=by
 have h1:=Tx.num_read l
 have h2:=Tx.num_read (m:=b) (by rw[← h];exact l)
 rw[h] at h1
 rw[h1] at h2
 have:=Option.some.inj h2
 omega
/-- the number that is written -/
noncomputable def numW (x:Str):Nat:=Classical.epsilon fun m=>x=Tx.ofL (Tx.digs m)
theorem isWr_num {x:Str} (h:isWr x=true):x=Tx.ofL (Tx.digs (numW x))∧(Tx.digs (numW x)).length≤60:=by
 unfold isWr at h
 simp only [Bool.and_eq_true,decide_eq_true_eq,List.all_eq_true,Bool.or_eq_true,Bool.not_eq_true',decide_eq_false_iff_not] at h
 obtain⟨⟨⟨h1,h2⟩,h3⟩,h4⟩:=h
 have lx:x.cps.toList.length=x.length:=Array.length_toList
 obtain⟨m,e⟩:=digs_back x.cps.toList (fun z=>by rw[z] at lx;simp at lx;omega) h3 (by
  rcases h4 with h4 | h4
  ·left;rw[h4];rfl
  ·exact .inr h4)
 have ex:x=Tx.ofL (Tx.digs m):=by rw[← e,Tx.ofL_list]
 have q:x=Tx.ofL (Tx.digs (numW x)):=Classical.epsilon_spec (p:=fun m=>x=Tx.ofL (Tx.digs m)) ⟨m,ex⟩
 refine⟨q,?_⟩
 have:=congrArg Str.length q
 rw[Tx.ofL_len] at this
 omega
theorem numW_digs {m:Nat} (l:(Tx.digs m).length≤640):numW (Tx.ofL (Tx.digs m))=m:=by
 have q:Tx.ofL (Tx.digs m)=Tx.ofL (Tx.digs (numW (Tx.ofL (Tx.digs m)))):=Classical.epsilon_spec (p:=fun k=>Tx.ofL (Tx.digs m)=Tx.ofL (Tx.digs k)) ⟨m,rfl⟩
 have:=congrArg (fun s:Str=>s.cps.toList) q
 rw[Tx.list_ofL,Tx.list_ofL] at this
 exact (digs_one this l).symm
theorem isWr_read {x:Str} (h:isWr x=true):PySem.intText? x=some (numW x:Int)∧x.length≤60:=by
 obtain⟨e,l⟩:=isWr_num h
 have:=Tx.num_read (m:=numW x) (by omega)
 rw[← e] at this
 refine⟨this,?_⟩
 have:=congrArg Str.length e
 rw[Tx.ofL_len] at this
 omega
theorem split_ne (x:Str) (c:Nat):Txt.split x ⟨#[c]⟩≠[]:=by
 unfold Txt.split
 split
 ·simp
 ·split
  ·simp
  ·intro z
   have:=congrArg List.length z
   rw[length_partsBetween] at this
   simp at this
/-- a text of signs -/
def TxO (x:Str):Prop:=∀ c ∈ x.cps.toList,c < 1114112
theorem TxO.app {x y:Str} (h:TxO x) (k:TxO y):TxO (x++y):=fun c hc=>by
 rw[Str.cps_append,Array.toList_append] at hc
 exact (List.mem_append.mp hc).elim (h c) (k c)
theorem TxO.sub {x:Str} (h:TxO x) (i j:Nat):TxO (PySem.Builtin.Str.strSub x i j):=fun c hc=>by
 rw[StrLaws.strSub_toList] at hc
 exact h c (List.mem_of_mem_drop (List.mem_of_mem_take hc))
theorem TxO.slice {x:Str} (h:TxO x) (lo hi:Option Int):TxO (Txt.slice x lo hi):=fun c hc=>by
 unfold Txt.slice at hc
 split at hc
 ·exact h c hc
 ·rw[List.toList_toArray] at hc
  obtain⟨i,_,e⟩:=List.mem_filterMap.mp hc
  exact h c (Array.mem_toList_iff.mpr (Array.mem_of_getElem? e))
theorem TxO.split {x:Str} (h:TxO x) {c:Nat} {w:Str} (hw:w ∈ Txt.split x ⟨#[c]⟩):TxO w:=by
 unfold Txt.split at hw
 split at hw
 ·rw[List.mem_singleton.mp hw];exact h
 ·split at hw
  ·rw[List.mem_singleton.mp hw];exact h
  ·rw[StrLaws.partsBetween_eq] at hw
   have key:∀ (l:List Nat) (a:Nat),∀ y ∈ StrLaws.partsFrom x (⟨#[c]⟩:Str).length a l,TxO y:=by
    intro l
    induction l with
    | nil=>intro a y hy;rw[List.mem_singleton.mp hy];exact h.sub _ _
    | cons p r ih =>
     intro a y hy
     rcases List.mem_cons.mp hy with rfl | hy
     ·exact h.sub _ _
     ·exact ih _ _ hy
   exact key _ _ _ hw
theorem TxO.jn {c:Nat} (hc:c < 1114112):∀ {ws:List (List Nat)},(∀ w ∈ ws,∀ d ∈ w,d < 1114112)->∀ d ∈ Tx.jn c ws,d < 1114112
 | [],_=>fun d hd=>by cases hd
 | [w],h=>h w List.mem_cons_self
 | w::v::r,h=>fun d hd=>by
  rw[Tx.jn] at hd
  rcases List.mem_append.mp hd with hd | hd
  ·exact h w List.mem_cons_self d hd
  ·rcases List.mem_cons.mp hd with rfl | hd
   ·exact hc
   ·exact TxO.jn hc (ws:=v::r) (fun u hu=>h u (List.mem_cons_of_mem _ hu)) d hd
theorem TxO.digs (m:Nat):∀ d ∈ Tx.digs m,d < 1114112:=fun d hd=>by have:=Tx.digs_fig m d hd;omega
def strD:PyData->Bool
 | .str _=>true
 | _=>false
def spNeedX (K:PySem.W.Frag) (cT:Addr):Sp:=fun vs H Q E=>∃ d v,vs=[v]∧Is K H d v∧(strD d=false->E (.ref cT) none H)∧(strD d=true->Q .non H)
theorem ok_need_textX {cT:Addr} (T:Bi mg) (D:DefOk K mg "need_text" s_need_text ["thing"]) (m_NoText:mg "NoText"=some (.ref cT)) (xm_NoText:XM K cT):OkX P w K mg base 1 "need_text" ["thing"] (spNeedX K cT):=by
 refine mk_okX (k:=0) D sc_need_text (fun vs H Q E h=>?_) (fun f cdv A outer s H vs Q E hr h=>?_)
 ·obtain⟨d,v,rfl,_⟩:=h
  rfl
 obtain⟨d,v,rfl,isd,qE,q⟩:=h
 have nd:=sc_need_text.nd
 have ty:=ty_of isd
 refine⟨_,(pss_one (ps_if (pt_not (pt_val (pe_callB (call_isi (n:="str")) rfl T.z_isinstance (by decide +kernel) (pa_cons (pv 0) (pa_cons (pe_bltn (v:=.ty "str") rfl T.z_str (by decide +kernel) rfl) pa_nil))))) (pss_one (ps_raise hr.hd rfl m_NoText xm_NoText)) pss_nil)),?_⟩
 cases d with
 | str x=>exact⟨_,rfl,_,_,true,rfl,ty,rfl,_,rfl,iteF (q rfl)⟩
 | int i=>exact⟨_,rfl,_,_,false,rfl,ty,rfl,_,rfl,iteT (qE rfl)⟩
 | bool b=>exact⟨_,rfl,_,_,false,rfl,ty,rfl,_,rfl,iteT (qE rfl)⟩
 | none=>exact⟨_,rfl,_,_,false,rfl,ty,rfl,_,rfl,iteT (qE rfl)⟩
 | tuple x=>exact⟨_,rfl,_,_,false,rfl,ty,rfl,_,rfl,iteT (qE rfl)⟩
 | list x=>exact⟨_,rfl,_,_,false,rfl,ty,rfl,_,rfl,iteT (qE rfl)⟩
 | dict x=>exact⟨_,rfl,_,_,false,rfl,ty,rfl,_,rfl,iteT (qE rfl)⟩
def spReadX (cT:Addr):Sp:=fun vs H Q E=>∃ x:Str,vs=[.str x]∧x.length≤10000∧(isWr x=false->∀ H',Same H H'->E (.ref cT) none H')∧(isWr x=true->∀ H',Same H H'->Q (.int (numW x:Int)) H')
theorem ok_read_numberX {cT:Addr} (T:Bi mg) (D:DefOk K mg "read_number" s_read_number ["text"]) (m_NoText:mg "NoText"=some (.ref cT)) (xm_NoText:XM K cT) (O_is_written:Ok P w K mg base 1 "is_written" ["text"] spIsW):OkX P w K mg base 2 "read_number" ["text"] (spReadX cT):=by
 refine mk_okX (k:=1) D sc_read_number (fun vs H Q E h=>?_) (fun f cdv A outer s H vs Q E hr h=>?_)
 ·obtain⟨x,rfl,_⟩:=h
  rfl
 obtain⟨x,rfl,xl,qE,q⟩:=h
 have nd:=sc_read_number.nd
 refine⟨_,(pss_cons (ps_if (pt_not (pt_val (pe_callD O_is_written hr rfl (pa_cons (pv 0) pa_nil)))) (pss_one (ps_raise hr.hd rfl m_NoText xm_NoText)) pss_nil) (pss_one (ps_ret (pe_callTy call_intT rfl T.z_int (by decide +kernel) (pa_cons (pv 0) pa_nil))))),?_⟩
 refine⟨_,rfl,x,rfl,xl,fun J1 S1=>⟨_,rfl,?_⟩⟩
 cases e:isWr x with
 | false=>exact iteT (qE e J1 S1)
 | true =>
  obtain⟨r1,r2⟩:=isWr_read e
  exact iteF ⟨_,rfl,x,_,rfl,r1,by omega,q e J1 S1⟩
theorem sub_len (x:Str) (i j:Nat):(PySem.Builtin.Str.strSub x i j).length≤x.length:=by
 have:=congrArg List.length (StrLaws.strSub_toList x i j)
 rw[Array.length_toList,List.length_take,List.length_drop,Array.length_toList] at this
 show (PySem.Builtin.Str.strSub x i j).cps.size≤x.cps.size
 omega
theorem split_words_len {x w:Str} {c:Nat} (h:w ∈ Txt.split x ⟨#[c]⟩):w.length≤x.length:=by
 unfold Txt.split at h
 split at h
 ·rw[List.mem_singleton.mp h];exact Nat.le_refl _
 ·split at h
  ·rw[List.mem_singleton.mp h];exact Nat.le_refl _
  ·rw[StrLaws.partsBetween_eq] at h
   have key:∀ (l:List Nat) (a:Nat),∀ y ∈ StrLaws.partsFrom x (⟨#[c]⟩:Str).length a l,y.length≤x.length:=by
    intro l
    induction l with
    | nil =>
     intro a y hy
     rw[List.mem_singleton.mp hy]
     exact sub_len _ _ _
    | cons p r ih =>
     intro a y hy
     rcases List.mem_cons.mp hy with rfl | hy
     ·exact sub_len _ _ _
     ·exact ih _ _ hy
   exact key _ _ _ h
theorem part_none {x:Str} {c:Nat} (h:c ∉ x.cps.toList):Txt.partition x ⟨#[c]⟩=(x,Str.empty,Str.empty):=by
 rcases StrLaws.occ_head x ⟨#[c]⟩ 1 (Nat.le_refl _) with ⟨e,_⟩ | ⟨i,r',eo,ha,hn⟩
 ·unfold Txt.partition
  rw[e]
 ·exact absurd (List.mem_of_getElem? ((StrLaws.subAt_one x c i).mp ha)) h
theorem jn_ex (c:Nat):∀ l:List Nat,∃ ws:List (List Nat),ws≠[]∧(∀ w ∈ ws,c ∉ w)∧l=Tx.jn c ws∧ws.length=l.count c + 1
 | []=>⟨[[]],by simp,fun w hw=>by rw[List.mem_singleton.mp hw];simp,rfl,rfl⟩
 | d::l=>by
  obtain⟨ws,hne,hf,e,hl⟩:=jn_ex c l
  match ws,hne with
  | w::r,_ =>
   by_cases z:d=c
   ·refine⟨[]::w::r,by simp,fun v hv=>?_,?_,?_⟩
    ·rcases List.mem_cons.mp hv with rfl | hv
     ·simp
     ·exact hf v hv
    ·rw[Tx.jn,← e,z];rfl
    ·rw[List.length_cons,hl,z,List.count_cons_self]
   ·refine⟨(d::w)::r,by simp,fun v hv=>?_,?_,?_⟩
    ·rcases List.mem_cons.mp hv with rfl | hv
     ·intro y
      rcases List.mem_cons.mp y with y | y
      ·exact z y.symm
      ·exact hf w List.mem_cons_self y
     ·exact hf v (List.mem_cons_of_mem _ hv)
    ·cases r with
     | nil=>rw[Tx.jn] at e ⊢;rw[e]
     | cons v r=>rw[Tx.jn] at e ⊢;rw[e];rfl
    ·rw[List.count_cons_of_ne (fun y=>z (by simpa using y))];exact hl
theorem split_is {c:Nat} (hc:c < 256) (x:Str):∃ ws:List (List Nat),ws≠[]∧(∀ w ∈ ws,c ∉ w)∧x.cps.toList=Tx.jn c ws∧Txt.split x ⟨#[c]⟩=ws.map Tx.ofL∧ws.length=x.cps.toList.count c + 1:=by
 obtain⟨ws,h1,h2,h3,h4⟩:=jn_ex c x.cps.toList
 exact⟨ws,h1,h2,h3,Tx.split_words hc h1 h2 h3,h4⟩
theorem split_cnt {c:Nat} (hc:c < 256) (x:Str):(Txt.split x ⟨#[c]⟩).length=x.cps.toList.count c + 1:=by
 obtain⟨ws,_,_,_,e,l⟩:=split_is hc x
 rw[e,List.length_map,l]
noncomputable def numL (w:Str):Int:=if isWr w=true then (numW w:Int) else -1
theorem numL_neg {w:Str} (h:isWr w=false):numL w=-1:=by unfold numL;rw[h];rfl
theorem numL_pos {w:Str} (h:isWr w=true):numL w=(numW w:Int):=by unfold numL;rw[if_pos h]
theorem numL_wr {w:Str} (h:0≤numL w):isWr w=true:=by
 cases e:isWr w with
 | true=>rfl
 | false=>rw[numL_neg e] at h;omega
theorem wr_digits {w:Str} (h:isWr w=true):∀ c ∈ w.cps.toList,48≤c∧c≤57:=by
 unfold isWr at h
 simp only [Bool.and_eq_true,List.all_eq_true,decide_eq_true_eq] at h
 exact h.1.2
theorem wr_empty:isWr Str.empty=false:=by decide +kernel
noncomputable def tieR (x:Str):Option Tie :=
 let p:=Txt.partition x ⟨#[58]⟩
 let q:=Txt.partition p.1 ⟨#[45]⟩
 if isWr q.1=true∧isWr q.2.2=true∧isWr p.2.2=true then some ((numW q.1:Int),(numW q.2.2:Int),(numW p.2.2:Int)) else none
noncomputable def tieL (x:Str):Tie :=
 let f:=Txt.split x ⟨#[45]⟩
 let r:=Txt.split (f.getLastD Str.empty) ⟨#[58]⟩
 if f.length=2∧r.length=2 then (numL (f.getD 0 Str.empty),numL (r.getD 0 Str.empty),numL (r.getD 1 Str.empty)) else (-1,-1,-1)
/-- a tie as it is written -/
structure NF (x a b c:Str):Prop where
 e:x.cps.toList=(a.cps.toList++45::b.cps.toList)++58::c.cps.toList
 wa:isWr a=true
 wb:isWr b=true
 wc:isWr c=true
theorem free_of {w:Str} (h:isWr w=true) {c:Nat} (hc:c < 48∨57 < c):c ∉ w.cps.toList:=fun z=>by have:=wr_digits h c z;omega
theorem NF.prog {x a b c:Str} (h:NF x a b c):tieR x=some ((numW a:Int),(numW b:Int),(numW c:Int)):=by
 have p1:=Tx.part_word (x:=x) (c:=58) (w:=a.cps.toList++45::b.cps.toList) (r:=c.cps.toList) (fun z=>by
  rcases List.mem_append.mp z with z | z
  ·exact free_of h.wa (by decide) z
  ·rcases List.mem_cons.mp z with z | z
   ·cases z
   ·exact free_of h.wb (by decide) z) h.e
 have p2:=Tx.part_word (x:=Tx.ofL (a.cps.toList++45::b.cps.toList)) (c:=45) (w:=a.cps.toList) (r:=b.cps.toList) (free_of h.wa (by decide)) (by rw[Tx.list_ofL])
 unfold tieR
 simp only [p1,p2,Tx.ofL_list]
 rw[if_pos ⟨h.wa,h.wb,h.wc⟩]
theorem NF.law {x a b c:Str} (h:NF x a b c):tieL x=((numW a:Int),(numW b:Int),(numW c:Int)):=by
 have s1:=Tx.split_words (x:=x) (c:=45) (ws:=[a.cps.toList,b.cps.toList++58::c.cps.toList]) (by decide) (by simp) (fun w hw=>by
  simp only [List.mem_cons,List.not_mem_nil,or_false] at hw
  rcases hw with rfl | rfl
  ·exact free_of h.wa (by decide)
  ·intro z
   rcases List.mem_append.mp z with z | z
   ·exact free_of h.wb (by decide) z
   ·rcases List.mem_cons.mp z with z | z
    ·cases z
    ·exact free_of h.wc (by decide) z) (by rw[h.e];simp [Tx.jn])
 have s2:=Tx.split_words (x:=Tx.ofL (b.cps.toList++58::c.cps.toList)) (c:=58) (ws:=[b.cps.toList,c.cps.toList]) (by decide) (by simp) (fun w hw=>by
  simp only [List.mem_cons,List.not_mem_nil,or_false] at hw
  rcases hw with rfl | rfl
  ·exact free_of h.wb (by decide)
  ·exact free_of h.wc (by decide)) (by rw[Tx.list_ofL];simp [Tx.jn])
 unfold tieL
 simp only [s1,List.map_cons,List.map_nil,Tx.ofL_list]
 show (if (2:Nat)=2∧(Txt.split (Tx.ofL (b.cps.toList++58::c.cps.toList)) ⟨#[58]⟩).length=2 then (numL a,numL ((Txt.split (Tx.ofL (b.cps.toList++58::c.cps.toList)) ⟨#[58]⟩).getD 0 Str.empty),numL ((Txt.split (Tx.ofL (b.cps.toList++58::c.cps.toList)) ⟨#[58]⟩).getD 1 Str.empty)) else (-1,-1,-1))=_
 rw[s2]
 simp only [List.map_cons,List.map_nil,Tx.ofL_list]
 rw[if_pos ⟨trivial,rfl⟩]
 show (numL a,numL b,numL c)=_
 rw[numL_pos h.wa,numL_pos h.wb,numL_pos h.wc]
theorem first_of {c:Nat}:∀ {l:List Nat},c ∈ l->∃ u r,l=u++c::r∧c ∉ u
 | d::l,h=>by
  by_cases z:d=c
  ·exact⟨[],l,by rw[z];rfl,by simp⟩
  ·obtain⟨u,r,e,hu⟩:=first_of ((List.mem_cons.mp h).resolve_left fun y=>z y.symm)
   exact⟨d::u,r,by rw[e];rfl,fun y=>(List.mem_cons.mp y).elim (fun y=>z y.symm) hu⟩
theorem tieR_nf {x:Str} {t:Tie} (h:tieR x=some t):∃ a b c,NF x a b c:=by
 unfold tieR at h
 simp only at h
 split at h
 case isFalse=>cases h
 rename_i hw
 obtain⟨h1,h2,h3⟩:=hw
 by_cases c1:58 ∈ x.cps.toList
 ·obtain⟨u,r,e,hu⟩:=first_of c1
  rw[Tx.part_word hu e] at h1 h2 h3
  simp only at h1 h2 h3
  by_cases c2:45 ∈ (Tx.ofL u).cps.toList
  ·obtain⟨v,s,e2,hv⟩:=first_of c2
   rw[Tx.part_word hv e2] at h1 h2
   refine⟨Tx.ofL v,Tx.ofL s,Tx.ofL r,?_,h1,h2,h3⟩
   rw[Tx.list_ofL] at e2
   rw[Tx.list_ofL,Tx.list_ofL,Tx.list_ofL,← e2,← e]
  ·rw[part_none c2] at h2
   rw[wr_empty] at h2;cases h2
 ·rw[part_none c1] at h3
  rw[wr_empty] at h3;cases h3
theorem tieL_nf {x:Str} (h0:0≤(tieL x).1) (h1:0≤(tieL x).2.1) (h2:0≤(tieL x).2.2):∃ a b c,NF x a b c:=by
 unfold tieL at h0 h1 h2
 simp only at h0 h1 h2
 split at h0
 case isFalse=>exact absurd h0 (by decide)
 rename_i hl
 rw[if_pos hl] at h1 h2
 obtain⟨l1,l2⟩:=hl
 obtain⟨ws,_,_,e,es,_⟩:=split_is (c:=45) (by decide) x
 rw[es] at h0 h1 h2 l1 l2
 rw[List.length_map] at l1
 match ws,l1 with
 | [a,r],_ =>
  simp only [List.map_cons,List.map_nil] at h0 h1 h2 l2
  obtain⟨vs,_,_,e2,es2,_⟩:=split_is (c:=58) (by decide) (Tx.ofL r)
  have el:[Tx.ofL a,Tx.ofL r].getLastD Str.empty=Tx.ofL r:=rfl
  rw[el,es2] at h1 h2 l2
  rw[List.length_map] at l2
  match vs,l2 with
  | [b,c],_ =>
   refine⟨Tx.ofL a,Tx.ofL b,Tx.ofL c,?_,numL_wr h0,numL_wr h1,numL_wr h2⟩
   rw[Tx.list_ofL] at e2
   rw[e,e2]
   simp [Tx.jn,Tx.list_ofL]
theorem tie_alike {x:Str}:(∀ t,tieR x=some t->tieL x=t)∧(0≤(tieL x).1->0≤(tieL x).2.1->0≤(tieL x).2.2->tieR x=some (tieL x)):=by
 constructor
 ·intro t h
  obtain⟨a,b,c,nf⟩:=tieR_nf h
  rw[nf.prog] at h
  rw[nf.law]
  exact Option.some.inj h
 ·intro h0 h1 h2
  obtain⟨a,b,c,nf⟩:=tieL_nf h0 h1 h2
  rw[nf.prog,nf.law]
def spReadTX (cT:Addr):Sp:=fun vs H Q E=>∃ x:Str,vs=[.str x]∧x.length≤9000∧(tieR x=none->∀ H',Same H H'->E (.ref cT) none H')∧(∀ t,tieR x=some t->∀ l H',Same H H'->H' l=some (.tup ((tieI t).map V.int))->Q (.ref l) H')
theorem part_len (x:Str) (c:Nat):(Txt.partition x ⟨#[c]⟩).1.length≤x.length∧(Txt.partition x ⟨#[c]⟩).2.2.length≤x.length:=by
 have lx:x.cps.toList.length=x.length:=Array.length_toList
 by_cases h:c ∈ x.cps.toList
 ·obtain⟨u,r,e,hu⟩:=first_of h
  rw[Tx.part_word hu e]
  rw[e,List.length_append,List.length_cons] at lx
  show (Tx.ofL u).length≤_∧(Tx.ofL r).length≤_
  rw[Tx.ofL_len,Tx.ofL_len]
  omega
 ·rw[part_none h]
  exact⟨Nat.le_refl _,Nat.zero_le _⟩
theorem ok_read_tieX {cT:Addr} (T:Bi mg) (D:DefOk K mg "read_tie" s_read_tie ["word"]) (m_NoText:mg "NoText"=some (.ref cT)) (xm_NoText:XM K cT) (O_read_number:OkX P w K mg base 2 "read_number" ["text"] (spReadX cT)):OkX P w K mg base 3 "read_tie" ["word"] (spReadTX cT):=by
 refine mk_okX (k:=2) D sc_read_tie (fun vs H Q E h=>?_) (fun f cdv A outer s H vs Q E hr h=>?_)
 ·obtain⟨x,rfl,_⟩:=h
  rfl
 obtain⟨x,rfl,xl,qE,q⟩:=h
 have nd:=sc_read_tie.nd
 have e1:("-":Str)=⟨#[45]⟩:=by decide +kernel
 have e2:(":":Str)=⟨#[58]⟩:=by decide +kernel
 have l1:=part_len x 58
 have l2:=part_len (Txt.partition x ⟨#[58]⟩).1 45
 refine⟨_,(pss_cons (ps_asg (pe_bm PySem.F.plainAttrs_str PySem.F.slot_str_partition PySem.F.type_str_partition mt_part (pv 0) (pa_cons pe_str pa_nil)) (pg_tup (n:=3) rfl (pgs_cons (pg_name (i:=1) nd rfl (Or.inl rfl)) (pgs_cons (pg_name (i:=2) nd rfl (Or.inl rfl)) (pgs_cons (pg_name (i:=3) nd rfl (Or.inl rfl)) pgs_nil))))) (pss_cons (ps_asg (pe_bm PySem.F.plainAttrs_str PySem.F.slot_str_partition PySem.F.type_str_partition mt_part (pv 1) (pa_cons pe_str pa_nil)) (pg_tup (n:=3) rfl (pgs_cons (pg_name (i:=4) nd rfl (Or.inl rfl)) (pgs_cons (pg_name (i:=5) nd rfl (Or.inl rfl)) (pgs_cons (pg_name (i:=6) nd rfl (Or.inl rfl)) pgs_nil))))) (pss_one (ps_ret (pe_tupG (pa_cons (pe_callX O_read_number hr rfl (pa_cons (pv 4) pa_nil)) (pa_cons (pe_callX O_read_number hr rfl (pa_cons (pv 6) pa_nil)) (pa_cons (pe_callX O_read_number hr rfl (pa_cons (pv 3) pa_nil)) pa_nil)))))))),?_⟩
 refine⟨_,rfl,rfl,x,58,rfl,congrArg (fun z:Str=>[V.str z]) e2,by omega,fun u1 J1 S1 f1 h1=>?_⟩
 refine⟨u1,_,rfl,SqT.of h1,rfl,_,_,rfl,_,_,rfl,_,_,rfl,rfl,?_⟩
 refine⟨_,rfl,rfl,_,45,rfl,congrArg (fun z:Str=>[V.str z]) e1,by omega,fun u2 J2 S2 f2 h2=>?_⟩
 refine⟨u2,_,rfl,SqT.of h2,rfl,_,_,rfl,_,_,rfl,_,_,rfl,rfl,?_⟩
 have bad:¬ (isWr (Txt.partition (Txt.partition x ⟨#[58]⟩).1 ⟨#[45]⟩).1=true∧isWr (Txt.partition (Txt.partition x ⟨#[58]⟩).1 ⟨#[45]⟩).2.2=true∧isWr (Txt.partition x ⟨#[58]⟩).2.2=true)->∀ H',Same H H'->E (.ref cT) none H':=fun z=>qE (by unfold tieR;simp only;rw[if_neg z])
 refine⟨_,rfl,_,rfl,by omega,fun e J3 S3=>bad (fun z=>by rw[z.1] at e;cases e) J3 (S1.trans (S2.trans S3)),fun wa J3 S3=>?_⟩
 refine⟨_,rfl,_,rfl,by omega,fun e J4 S4=>bad (fun z=>by rw[z.2.1] at e;cases e) J4 (S1.trans (S2.trans (S3.trans S4))),fun wb J4 S4=>?_⟩
 refine⟨_,rfl,_,rfl,by omega,fun e J5 S5=>bad (fun z=>by rw[z.2.2] at e;cases e) J5 (S1.trans (S2.trans (S3.trans (S4.trans S5)))),fun wc J5 S5=>?_⟩
 refine⟨(by show 3≤1000;decide),fun l J6 S6 f6 h6=>?_⟩
 exact q ((numW (Txt.partition (Txt.partition x ⟨#[58]⟩).1 ⟨#[45]⟩).1:Int),(numW (Txt.partition (Txt.partition x ⟨#[58]⟩).1 ⟨#[45]⟩).2.2:Int),(numW (Txt.partition x ⟨#[58]⟩).2.2:Int)) (by unfold tieR;simp only;rw[if_pos ⟨wa,wb,wc⟩]) l J6 (S1.trans (S2.trans (S3.trans (S4.trans (S5.trans S6))))) h6
noncomputable def webR (x:Str):Option (Int × List Tie) :=
 let ws:=Txt.split x ⟨#[32]⟩
 if isWr (ws.headD Str.empty)=true∧(∀ w ∈ ws.drop 1,tieR w≠none)∧webB (numW (ws.headD Str.empty):Int) ((ws.drop 1).map fun w=>(tieR w).getD (0,0,0))=true then some ((numW (ws.headD Str.empty):Int),(ws.drop 1).map fun w=>(tieR w).getD (0,0,0)) else none
def TxF (x:Str):Prop:=x.length≤9000∧x.cps.toList.count 32≤900∧TxO x
def spReadWX (K:PySem.W.Frag) (cT:Addr):Sp:=fun vs H Q E=>∃ d v,vs=[v]∧Is K H d v∧(strD d=false->∀ H',Same H H'->E (.ref cT) none H') ∧
 ∀ x,d=.str x->TxF x∧(webR x=none->∀ H',Same H H'->E (.ref cT) none H')∧(∀ n ts,webR x=some (n,ts)->∀ u H',Same H H'->Is K H' (webD n ts) u->Q u H')
theorem ok_read_webX {cT:Addr} (T:Bi mg) (D:DefOk K mg "read_web" s_read_web ["thing"]) (m_NoText:mg "NoText"=some (.ref cT)) (xm_NoText:XM K cT) (O_need_text:OkX P w K mg base 5 "need_text" ["thing"] (spNeedX K cT)) (O_read_number:OkX P w K mg base 5 "read_number" ["text"] (spReadX cT)) (O_read_tie:OkX P w K mg base 5 "read_tie" ["word"] (spReadTX cT)) (O_is_web:Ok P w K mg base 5 "is_web" ["thing"] (spWebT K)) :
  OkX P w K mg base 6 "read_web" ["thing"] (spReadWX K cT):=by
 refine mk_okX (k:=5) D sc_read_web (fun vs H Q E h=>?_) (fun f cdv A outer s H vs Q E hr h=>?_)
 ·obtain⟨d,v,rfl,_⟩:=h
  rfl
 obtain⟨d,v,rfl,isd,qE,q⟩:=h
 have nd:=sc_read_web.nd
 refine⟨_,(pss_cons (ps_expr (pe_callX O_need_text hr rfl (pa_cons (pv 0) pa_nil))) (pss_cons (ps_set (i:=1) nd rfl (Or.inl rfl) (pe_bm PySem.F.plainAttrs_str PySem.F.slot_str_split PySem.F.type_str_split mt_split (pv 0) (pa_cons pe_str pa_nil))) (pss_cons (ps_set (i:=2) nd rfl (Or.inl rfl) (pe_tupG (pa_cons (pe_callX O_read_number hr rfl (pa_cons (pe_ix ix_list (pv 1) pe_int (fun _ _=>rfl)) pa_nil)) (pa_cons (pe_callTy call_tupleG rfl T.z_tuple (by decide +kernel) (pa_cons (pe_compX (N:=["thing","words","web"]) (sc0:=defScope s_read_web) (own:=["word"]) (fr:=[]) (js:=[]) rfl xx_of (pi_list (pe_slice sl_list (pv 1) (po_some pe_int) po_none)) (fun _ _ _ _=>(pg_name (i:=0) (by show List.Nodup [("word":Str)];decide +kernel) rfl (Or.inl rfl))) (fun _ _ _ _=>pts_nil) (fun _ _ _ _ _ hZ=>(pe_callXP O_read_tie hr rfl hZ (pa_cons (pv 0) pa_nil)))) pa_nil)) pa_nil)))) (pss_cons (ps_if (pt_not (pt_val (pe_callD O_is_web hr rfl (pa_cons (pv 2) pa_nil)))) (pss_one (ps_raise hr.hd rfl m_NoText xm_NoText)) pss_nil) (pss_one (ps_ret (pv 2))))))),?_⟩
 refine⟨_,rfl,d,v,rfl,isd,fun e=>qE e H (Same.refl H),fun e=>?_⟩
 obtain⟨x,rfl⟩:∃ x,d=.str x:=by cases d <;> first | exact⟨_,rfl⟩ | cases e
 cases isd
 obtain⟨⟨xl,xc,xo⟩,qN,qS⟩:=q x rfl
 have e0:(" ":Str)=⟨#[32]⟩:=by decide +kernel
 have cnt:=split_cnt (c:=32) (by decide) x
 have sl:∀ w ∈ Txt.split x ⟨#[32]⟩,w.length≤9000:=fun w hw=>Nat.le_trans (split_words_len hw) xl
 have no:¬ (isWr ((Txt.split x ⟨#[32]⟩).headD Str.empty)=true∧(∀ w ∈ (Txt.split x ⟨#[32]⟩).drop 1,tieR w≠none)∧webB (numW ((Txt.split x ⟨#[32]⟩).headD Str.empty):Int) (((Txt.split x ⟨#[32]⟩).drop 1).map fun w=>(tieR w).getD (0,0,0))=true)->∀ H',Same H H'->E (.ref cT) none H':=fun z=>qN (by unfold webR;simp only;rw[if_neg z])
 have yes:isWr ((Txt.split x ⟨#[32]⟩).headD Str.empty)=true->(∀ w ∈ (Txt.split x ⟨#[32]⟩).drop 1,tieR w≠none)->webB (numW ((Txt.split x ⟨#[32]⟩).headD Str.empty):Int) (((Txt.split x ⟨#[32]⟩).drop 1).map fun w=>(tieR w).getD (0,0,0))=true->webR x=some ((numW ((Txt.split x ⟨#[32]⟩).headD Str.empty):Int),((Txt.split x ⟨#[32]⟩).drop 1).map fun w=>(tieR w).getD (0,0,0)):=fun a b c=>by unfold webR;simp only;rw[if_pos ⟨a,b,c⟩]
 refine⟨_,rfl,rfl,x,32,rfl,congrArg (fun z:Str=>[V.str z]) e0,by omega,fun lw J2 S2 f2 h2=>?_⟩
 have hne:=split_ne x 32
 generalize Txt.split x ⟨#[32]⟩=ws at *
 obtain⟨w0,r,rfl⟩:∃ w0 r,ws=w0::r:=by
  cases ws with
  | nil=>exact absurd rfl hne
  | cons w r=>exact⟨w,r,rfl⟩
 simp only [List.headD_cons,List.drop_succ_cons,List.drop_zero] at no yes
 rw[List.length_cons] at cnt
 refine⟨_,rfl,lw,_,_,_,rfl,rfl,SqL.of h2,at0 rfl,w0,rfl,Nat.le_trans (sl w0 List.mem_cons_self) (by decide),fun e J S=>no (fun z=>by rw[z.1] at e;cases e) J (S2.trans S),fun hw0 J3 S3=>?_⟩
 have h3:=S3 _ _ h2
 refine⟨_,rfl,_,rfl,lw,_,rfl,SqL.of h3,fun lr hlr=>?_⟩
 have ec:cutV ((w0::r).map V.str) (some 1) none=r.map V.str:=by
  rw[cut1];rfl
 rw[ec]
 have Sr:Same J3 (upd J3 lr (.lst (r.map V.str))):=same_new hlr
 have h4:(upd J3 lr (.lst (r.map V.str))) lr=some (.lst (r.map V.str)):=upd_same
 refine⟨lr,rfl,⟨_,SqL.of h4⟩,?_⟩
 refine comp_lst h4 (fun σ'=>∃ o,σ'=[o]) (fun i v J=>∃ w t l,r[i]?=some w∧tieR w=some t∧v=.ref l∧J l=some (.tup ((tieI t).map V.int))) (by rw[List.length_map];omega) (by exact⟨none,rfl⟩) (fun i v H H' k h=>?_) (fun i y σ' H' hy s5 sg C hC=>?_) (fun L ys J5 hL S5 hH hly hys=>?_)
 ·obtain⟨w,t,l,h1,h2,h3,h4⟩:=h
  exact⟨w,t,l,h1,h2,h3,k _ _ h4⟩
 ·obtain⟨o,rfl⟩:=sg
  rw[List.getElem?_map] at hy
  obtain⟨w,hw,rfl⟩:=Option.map_eq_some_iff.mp hy
  have wm:w ∈ r:=List.mem_of_getElem? hw
  exact⟨_,rfl,w,rfl,sl w (List.mem_cons_of_mem _ wm),fun e J S=>no (fun z=>z.2.1 w wm e) J (S2.trans (S3.trans (Sr.trans (s5.trans S)))),fun t et l J S el=>hC _ _ _ ⟨_,rfl⟩ S ⟨w,t,l,hw,et,rfl,el⟩⟩
 rw[List.length_map] at hly
 have all:∀ w ∈ r,tieR w≠none:=fun w hw=>by
  obtain⟨i,hi,rfl⟩:=List.mem_iff_getElem.mp hw
  obtain⟨w',t,l,h1,h2,_⟩:=hys i ys[i] (List.getElem?_eq_getElem (by omega))
  rw[List.getElem?_eq_getElem hi] at h1
  cases h1
  rw[h2];simp
 refine⟨L,_,rfl,hH,fun lt J6 S6 f6 h6=>⟨(by show 2≤1000;decide),fun lv J7 S7 f7 h7=>?_⟩⟩
 generalize hts:(r.map fun w=>(tieR w).getD (0,0,0))=ts at *
 have tl:ts.length=r.length:=by rw[← hts,List.length_map]
 have isv:Is K J7 (webD (numW w0:Int) ts) (.ref lv):=by
  refine⟨lv,_,rfl,h7,_,_,rfl,rfl,_,_,rfl,⟨lt,ys,rfl,S7 _ _ h6,?_⟩,rfl⟩
  refine IsAll.of (by rw[List.length_map];omega) fun i d x hd hx=>?_
  obtain⟨w,t,l,h1,h2,rfl,hl⟩:=hys i x hx
  rw[List.getElem?_map,← hts,List.getElem?_map,h1] at hd
  simp only [Option.map_some,h2,Option.getD_some] at hd
  cases hd
  exact⟨l,_,rfl,(S6.trans S7) _ _ hl,IsAll.ints _⟩
 have S:=S2.trans (S3.trans (Sr.trans (S5.trans (S6.trans S7))))
 refine⟨_,rfl,(numW w0:Int),ts,_,rfl,isv,by omega,fun J8 S8=>⟨_,rfl,?_⟩⟩
 cases eW:webB (numW w0:Int) ts with
 | false=>exact iteT (no (fun z=>by rw[z.2.2] at eW;cases eW) J8 (S.trans S8))
 | true=>exact iteF ⟨_,rfl,qS _ _ (yes hw0 all eW) _ J8 (S.trans S8) (Is.same S8 _ isv)⟩
theorem glueC (c:Nat):∀ (ws:List (List Nat)),Txt.join (Tx.ofL [c]) (ws.map Tx.ofL)=Tx.ofL (Tx.jn c ws)
 | []=>rfl
 | [w]=>rfl
 | w::v::r=>by
  have ih:=glueC c (v::r)
  unfold Txt.join at ih ⊢
  rw[StrLaws.glued_eq_join] at ih ⊢
  show Tx.ofL w++Tx.ofL [c]++Str.join (Tx.ofL [c]) ((v::r).map Tx.ofL)=_
  rw[ih,Tx.ofL_app,Tx.ofL_app,Tx.jn]
  simp
def tot (ys:List Str):Nat:=(ys.map fun w=>w.length + 1).sum
theorem tot_le {m:Nat}:∀ {l:List Str},(∀ x ∈ l,x.length≤m)->tot l≤l.length * (m + 1)
 | [],_=>Nat.zero_le _
 | x::l,h=>by
  have h1:=h x List.mem_cons_self
  have h2:=tot_le (l:=l) fun y hy=>h y (List.mem_cons_of_mem _ hy)
  unfold tot at h2 ⊢
  rw[List.map_cons,List.sum_cons,List.length_cons,Nat.succ_mul]
  omega
theorem tot_app (a b:List Str):tot (a++b)=tot a + tot b:=by unfold tot;rw[List.map_append,List.sum_append]
theorem jnC_len (c:Nat):∀ (ws:List (List Nat)),(Tx.jn c ws).length≤(ws.map fun w=>w.length + 1).sum
 | []=>Nat.zero_le _
 | [w]=>by simp [Tx.jn]
 | w::v::r=>by
  have ih:=jnC_len c (v::r)
  rw[Tx.jn,List.length_append,List.length_cons,List.map_cons,List.sum_cons]
  omega
theorem join_len (c:Nat) (ys:List Str):(Txt.join (Tx.ofL [c]) ys).length≤tot ys:=by
 have e:ys=(ys.map fun y=>y.cps.toList).map Tx.ofL:=by
  rw[List.map_map]
  have:(Tx.ofL ∘ fun y:Str=>y.cps.toList)=id:=funext fun y=>Tx.ofL_list y
  rw[this,List.map_id]
 rw[e,glueC,Tx.ofL_len]
 refine Nat.le_trans (jnC_len c _) ?_
 rw[← e]
 unfold tot
 rw[List.map_map]
 refine Nat.le_of_eq (congrArg List.sum (List.map_congr_left fun y _=>?_))
 show y.cps.toList.length + 1=_
 rw[Array.length_toList];rfl
theorem joinOkC {c:Nat} {ys:List Str} (h:tot ys≤10000):JoinOk (Tx.ofL [c]) ys=true:=by
 have e:∀ (ys:List Str) (a:Nat),ys.foldl (fun acc x=>acc + x.length + (Tx.ofL [c]).length) a=a + tot ys:=by
  intro ys
  induction ys with
  | nil=>intro a;simp [tot]
  | cons w r ih =>
   intro a
   rw[List.foldl_cons,ih]
   unfold tot
   rw[List.map_cons,List.sum_cons,Tx.ofL_len]
   show a + w.length + 1 + _=_
   omega
 unfold JoinOk
 rw[List.foldl_toArray,e,Nat.zero_add]
 unfold Builtin.Str.tooLong
 have:¬ sizeLine < tot ys:=Nat.not_lt.mpr (Nat.le_trans h (by decide))
 simp [this]
theorem small_len {m:Nat} (h:m < 100):(Tx.digs m).length≤2:=Tx.digs_len 1 m h
theorem figs_all {x:Str}:(x.cps.toList.filter fun c=>!decide (48≤c∧c≤57))=[]↔x.cps.toList.all (fun c=>decide (48≤c∧c≤57))=true:=by
 rw[List.filter_eq_nil_iff,List.all_eq_true]
 exact⟨fun h c hc=>by have:=h c hc;simpa using this,fun h c hc=>by rw[h c hc];simp⟩
theorem pick_range {α β:Type} (l:List α) (f:α->Option β):(List.range l.length).filterMap (fun i=>(l[i]?).bind f)=l.filterMap f:=by
 have e:(List.range l.length).map (fun i=>l[i]?)=l.map some:=List.ext_getElem (by simp) fun i h1 h2=>by simp at h1 ⊢
 have h:=congrArg (List.filterMap fun o:Option α=>o.bind f) e
 rw[List.filterMap_map,List.filterMap_map] at h
 exact h
theorem isAll_strs {K:PySem.W.Frag} {H:Hp}:∀ l:List Str,IsAll K H (l.map PyData.str) (l.map V.str)
 | []=>rfl
 | x::r=>⟨_,_,rfl,rfl,isAll_strs r⟩
theorem lay_strs:∀ l:List Str,(∀ x ∈ l,TxO x)->PyData.canLayAll0 (l.map PyData.str)=true
 | [],_=>rfl
 | x::r,h=>by
  show (x.cps.all (· < 0x110000) && PyData.canLayAll0 (r.map PyData.str))=true
  rw[lay_strs r fun y hy=>h y (List.mem_cons_of_mem _ hy),Bool.and_true,Array.all_eq_true_iff_forall_mem]
  exact fun c hc=>decide_eq_true (h x List.mem_cons_self c (Array.mem_toList_iff.mpr hc))
theorem eqv_strs:∀ l:List Str,PyData.eqv (.list (l.map PyData.str)) (.list [])=l.isEmpty
 | []=>rfl
 | x::r=>rfl
def spNumL (K:PySem.W.Frag):Sp:=fun vs H Q _=>∃ x:Str,vs=[.str x]∧x.length≤9000∧TxO x∧∀ H',Same H H'->Q (.int (numL x)) H'
theorem ok__law_number87 (T:Bi mg) (D:DefOk K mg "_law_number" s__law_number ["word"]):Ok P w K mg base 1 "_law_number" ["word"] (spNumL K):=by
 refine mk_ok (k:=0) D sc__law_number (fun vs H Q E h=>?_) (fun f cdv A outer s H vs Q E hr h=>?_)
 ·obtain⟨x,rfl,_⟩:=h
  rfl
 obtain⟨v,rfl,vl,xo,q⟩:=h
 have nd:=sc__law_number.nd
 have units:∀ {u:Nat},u≤4->(A.deeper (envOfC "_law_number" (defScope s__law_number) s.heap.objs.size f cdv)).units + u < cLine:=fun {u} hu=>by have:=hr.units;omega
 have vsz:v.length≤sizeLine:=Nat.le_trans vl (by decide)
 have no:isWr v=false->∀ J,Same H J->Q (.int (-1)) J:=fun z J S=>by rw[← numL_neg z];exact q J S
 refine⟨_,(pss_cons (ps_if (PW.pt (pw_or (pt_cmpR op_eq (pv 0) pe_str (nomark _)) (pw_or (pt_cmpR op_gt (pe_callB call_len_str rfl T.z_len (by decide +kernel) (pa_cons (pv 0) pa_nil)) pe_int (nomark _)) (pw_or1 (pt_cmpR op_neD (pe_comp (N:=["word"]) (sc0:=defScope s__law_number) (own:=["sign"]) (fr:=[]) (js:=[]) rfl (pi_str (pv 0)) (fun _ _ _ _=>(pg_name (i:=0) (by show List.Nodup [("sign":Str)];decide +kernel) rfl (Or.inl rfl))) (fun _ _ _ _=>(pts_one (pt_cmpR op_notIn_str (pv 0) pe_str (by with_unfolding_all rfl)))) (fun _ _ _ _=>(pv 0))) (pe_lstG pa_nil) (nomark _)))))) (pss_one (ps_ret (pe_un un_neg pe_int))) pss_nil) (pss_cons (ps_if (PW.pt (pw_and (pt_cmpR op_eq (pe_ix ix_str (pv 0) pe_int (fun _ _=>rfl)) pe_str (nomark _)) (pw_and1 (pt_cmpR op_ne (pv 0) pe_str (nomark _))))) (pss_one (ps_ret (pe_un un_neg pe_int))) pss_nil) (pss_one (ps_ret (pe_callTy call_intT rfl T.z_int (by decide +kernel) (pa_cons (pv 0) pa_nil)))))),?_⟩
 refine⟨_,rfl,rfl,_,rfl,?_⟩
 by_cases c0:v.length=0
 ·have ev:v=("":Str):=by rw[← Tx.ofL_list v,List.eq_nil_of_length_eq_zero (l:=v.cps.toList) (by rw[Array.length_toList];exact c0)];rfl
  refine iteTq (decide_eq_true (congrArg V.str ev)) (iteT ⟨_,rfl,no ?_ H (Same.refl H)⟩)
  unfold isWr
  rw[c0];rfl
 refine iteFq (decide_eq_false fun z=>c0 (by injection z with z;rw[z];rfl)) ?_
 refine⟨_,rfl,v,rfl,vsz,_,_,rfl,rfl,_,rfl,?_⟩
 by_cases c2:v.length > 60
 ·refine iteTq (decide_eq_true (by omega)) (iteT ⟨_,rfl,no ?_ H (Same.refl H)⟩)
  unfold isWr
  rw[decide_eq_false (show ¬ (1≤v.length∧v.length≤60) by omega)];rfl
 refine iteFq (decide_eq_false (by omega)) ?_
 refine⟨_,rfl,v,rfl,?_⟩
 refine comp_selS (fun σ'=>∃ o,σ'=[o]) (fun i=>(v.cps.toList[i]?).bind fun d=>if 48≤d∧d≤57 then none else some (V.str ⟨#[d]⟩)) (by omega) (by exact⟨none,rfl⟩) (fun i d σ' H' hd s2 sg C L hC hL=>?_) (fun Lc J3 hLc S3 hH=>?_)
 ·obtain⟨o,rfl⟩:=sg
  refine⟨_,rfl,_,_,rfl,rfl,?_⟩
  rw[figs_are]
  have ed:v.cps.toList[i]?=some d:=by simpa using hd
  by_cases cd:48≤d∧d≤57
  ·rw[decide_eq_true cd]
   exact⟨_,rfl,iteF (hL _ _ ⟨_,rfl⟩ (Same.refl _) (by rw[ed];simp [cd]))⟩
  ·rw[decide_eq_false cd]
   exact⟨_,rfl,iteT ⟨_,rfl,hC _ _ _ ⟨_,rfl⟩ (Same.refl _) (by rw[ed];simp [cd])⟩⟩
 have ef:(List.range v.length).filterMap (fun i=>(v.cps.toList[i]?).bind fun d=>if 48≤d∧d≤57 then none else some (V.str ⟨#[d]⟩))=((v.cps.toList.filter fun d=>!decide (48≤d∧d≤57)).map fun d=>(⟨#[d]⟩:Str)).map V.str:=by
  rw[show v.length=v.cps.toList.length from Array.length_toList.symm,pick_range,List.map_map,← List.filterMap_eq_map,List.filterMap_filter]
  refine congrArg (fun f=>List.filterMap f v.cps.toList) (funext fun d=>?_)
  by_cases cd:48≤d∧d≤57
  ·simp [cd]
  ·simp [cd]
 rw[ef] at hH
 refine⟨(by show 0≤1000;decide),fun Le J4 S4 f4 e4=>?_⟩
 generalize hbad:((v.cps.toList.filter fun d=>!decide (48≤d∧d≤57)).map fun d=>(⟨#[d]⟩:Str))=bd at hH
 refine⟨.list (bd.map .str),.list [],⟨Lc,_,rfl,S4 _ _ hH,isAll_strs _⟩,⟨Le,_,rfl,e4,rfl⟩,lay_strs bd (fun z hz=>by
  rw[← hbad] at hz
  obtain⟨d,hd,rfl⟩:=List.mem_map.mp hz
  intro c' hc'
  rw[show c'=d by simpa using hc']
  exact xo d (List.mem_filter.mp hd).1),rfl,units (Nat.le_trans (Nat.min_le_right _ _) (by decide)),_,rfl,?_⟩
 rw[eqv_strs]
 have S34:=S3.trans S4
 have wfig:bd=[]↔v.cps.toList.all (fun d=>decide (48≤d∧d≤57))=true:=by rw[← hbad,List.map_eq_nil_iff];exact figs_all
 cases eb:v.cps.toList.all (fun d=>decide (48≤d∧d≤57)) with
 | false =>
  have:bd.isEmpty=false:=by
   cases bd with
   | nil=>rw[wfig.mp rfl] at eb;cases eb
   | cons=>rfl
  rw[this]
  refine iteT ⟨_,rfl,no ?_ J4 S34⟩
  unfold isWr
  rw[eb];simp
 | true =>
 rw[wfig.mpr eb]
 refine iteF ?_
 have e0:("0":Str)=Tx.ofL [48]:=by decide +kernel
 have dx:∀ (z:Str) (l:List Nat),decide (V.str z=V.str (Tx.ofL l))=decide (z.cps.toList=l):=fun z l=>by
  refine decide_eq_decide.mpr ⟨fun y=>?_,fun y=>?_⟩
  ·injection y with y;rw[y,Tx.list_ofL]
  ·rw[← y,Tx.ofL_list]
 have lv:v.cps.toList.length=v.length:=Array.length_toList
 have h0:v.cps.toList[0]?=some (v.cps.toList.getD 0 0):=by
  rw[List.getD_eq_getElem?_getD,List.getElem?_eq_getElem (by omega)];rfl
 have ew:isWr v=(decide (v.cps.toList=[48]) || !decide (v.cps.toList[0]?=some 48)):=by unfold isWr;rw[eb,decide_eq_true ⟨by omega,by omega⟩];rfl
 have rd:isWr v=true->∃ n,PySem.intText? v=some (n:Int):=fun z=>⟨_,(isWr_read z).1⟩
 refine⟨_,rfl,v,0,v.cps.toList.getD 0 0,rfl,rfl,vsz,at0 h0,rfl,_,rfl,?_⟩
 have eh:decide (V.str (⟨#[v.cps.toList.getD 0 0]⟩:Str)=V.str ("0":Str))=decide (v.cps.toList[0]?=some 48):=by
  rw[e0,dx,h0]
  refine decide_eq_decide.mpr ⟨fun z=>by simp at z;rw[← z];simp,fun z=>by simp at z;rw[← z];simp⟩
 rw[eh]
 have n0:decide (V.str v=V.str ("0":Str))=decide (v.cps.toList=[48]):=by rw[e0];exact dx v [48]
 by_cases hW:isWr v=true
 case neg =>
  have hF:isWr v=false:=Bool.eq_false_iff.mpr hW
  have hF':=hF
  rw[ew] at hF
  obtain⟨z1,z2⟩:=Bool.or_eq_false_iff.mp hF
  have z3:v.cps.toList[0]?=some 48:=by simpa using z2
  refine iteTq (decide_eq_true z3) ⟨_,rfl,rfl,_,rfl,?_⟩
  rw[n0,z1]
  exact iteT ⟨_,rfl,no hF' J4 S34⟩
 have hr2:=isWr_read hW
 have q4:=q J4 S34
 rw[numL_pos hW] at q4
 rw[ew] at hW
 by_cases z1:v.cps.toList[0]?=some 48
 case' pos =>
  refine iteTq (decide_eq_true z1) ⟨_,rfl,rfl,_,rfl,?_⟩
  rw[n0,show decide (v.cps.toList=[48])=true by rw[z1] at hW;simpa using hW]
  refine iteF ?_
 case' neg=>refine iteFq (decide_eq_false z1) ?_
 all_goals exact⟨_,rfl,v,_,rfl,hr2.1,by omega,q4⟩
def spTieL:Sp:=fun vs H Q _=>∃ x:Str,vs=[.str x]∧x.length≤9000∧TxO x∧∀ l H',Same H H'->H' l=some (.tup ((tieI (tieL x)).map V.int))->Q (.ref l) H'
theorem last_strs {ys:List Str} (ne:ys≠[]):atI (ys.map V.str) (-1)=some (.str (ys.getLastD Str.empty)):=by
 have l:=List.length_pos_iff.mpr ne
 unfold atI ixN
 rw[List.length_map,if_neg (by omega),if_pos (by omega),Option.bind_some,show (-1 + (ys.length:Int)).toNat=ys.length - 1 by omega,List.getElem?_map,← List.getLast?_eq_getElem?,List.getLastD_eq_getLast?,List.getLast?_eq_some_getLast ne];rfl
theorem ok__law_tie87 (T:Bi mg) (D:DefOk K mg "_law_tie" s__law_tie ["word"]) (O__law_number:Ok P w K mg base 1 "_law_number" ["word"] (spNumL K)):Ok P w K mg base 2 "_law_tie" ["word"] spTieL:=by
 refine mk_ok (k:=1) D sc__law_tie (fun vs H Q E h=>?_) (fun f cdv A outer s H vs Q E hr h=>?_)
 ·obtain⟨x,rfl,_⟩:=h
  rfl
 obtain⟨x,rfl,xl,xo,q⟩:=h
 have nd:=sc__law_tie.nd
 have e1:("-":Str)=⟨#[45]⟩:=by decide +kernel
 have e2:(":":Str)=⟨#[58]⟩:=by decide +kernel
 refine⟨_,(pss_cons (ps_set (i:=1) nd rfl (Or.inl rfl) (pe_bm PySem.F.plainAttrs_str PySem.F.slot_str_split PySem.F.type_str_split mt_split (pv 0) (pa_cons pe_str pa_nil))) (pss_cons (ps_set (i:=2) nd rfl (Or.inl rfl) (pe_bm PySem.F.plainAttrs_str PySem.F.slot_str_split PySem.F.type_str_split mt_split (pe_ix ix_list (pv 1) (pe_un un_neg pe_int) (fun _ _=>rfl)) (pa_cons pe_str pa_nil))) (pss_cons (ps_if (PW.pt (pw_or (pt_cmpR op_ne (pe_callB call_len_seq rfl T.z_len (by decide +kernel) (pa_cons (pv 1) pa_nil)) pe_int (nomark _)) (pw_or1 (pt_cmpR op_ne (pe_callB call_len_seq rfl T.z_len (by decide +kernel) (pa_cons (pv 2) pa_nil)) pe_int (nomark _))))) (pss_one (ps_ret (pe_tupG (pa_cons (pe_un un_neg pe_int) (pa_cons (pe_un un_neg pe_int) (pa_cons (pe_un un_neg pe_int) pa_nil)))))) pss_nil) (pss_one (ps_ret (pe_tupG (pa_cons (pe_callD O__law_number hr rfl (pa_cons (pe_ix ix_list (pv 1) pe_int (fun _ _=>rfl)) pa_nil)) (pa_cons (pe_callD O__law_number hr rfl (pa_cons (pe_ix ix_list (pv 2) pe_int (fun _ _=>rfl)) pa_nil)) (pa_cons (pe_callD O__law_number hr rfl (pa_cons (pe_ix ix_list (pv 2) pe_int (fun _ _=>rfl)) pa_nil)) pa_nil))))))))),?_⟩
 refine⟨_,rfl,rfl,x,45,rfl,congrArg (fun z:Str=>[V.str z]) e1,by omega,fun l1 J1 S1 f1 h1=>?_⟩
 have ne1:=split_ne x 45
 have so1:∀ w ∈ Txt.split x ⟨#[45]⟩,w.length≤9000∧TxO w:=fun w hw=>⟨Nat.le_trans (split_words_len hw) xl,xo.split hw⟩
 have eT:tieL x=if (Txt.split x ⟨#[45]⟩).length=2∧(Txt.split ((Txt.split x ⟨#[45]⟩).getLastD Str.empty) ⟨#[58]⟩).length=2 then (numL ((Txt.split x ⟨#[45]⟩).getD 0 Str.empty),numL ((Txt.split ((Txt.split x ⟨#[45]⟩).getLastD Str.empty) ⟨#[58]⟩).getD 0 Str.empty),numL ((Txt.split ((Txt.split x ⟨#[45]⟩).getLastD Str.empty) ⟨#[58]⟩).getD 1 Str.empty)) else (-1,-1,-1):=rfl
 generalize Txt.split x ⟨#[45]⟩=ws at *
 have lm:ws.getLastD Str.empty ∈ ws:=by
  rw[List.getLastD_eq_getLast?,List.getLast?_eq_some_getLast ne1];exact List.getLast_mem ne1
 obtain⟨ll,lo⟩:=so1 _ lm
 have at9:=last_strs ne1
 generalize ws.getLastD Str.empty=y at *
 refine⟨_,rfl,_,rfl,l1,_,_,_,rfl,rfl,SqL.of h1,at9,rfl,y,58,rfl,congrArg (fun z:Str=>[V.str z]) e2,by omega,fun l2 J2 S2 f2 h2=>?_⟩
 have so2:∀ w ∈ Txt.split y ⟨#[58]⟩,w.length≤9000∧TxO w:=fun w hw=>⟨Nat.le_trans (split_words_len hw) ll,lo.split hw⟩
 generalize Txt.split y ⟨#[58]⟩=rs at *
 have h1':=S2 _ _ h1
 refine⟨_,rfl,l1,_,rfl,.inl (SqL.of h1'),rfl,_,rfl,?_⟩
 have lw:(ws.map V.str).length=ws.length:=List.length_map _
 have lr:(rs.map V.str).length=rs.length:=List.length_map _
 have bad:¬ (ws.length=2∧rs.length=2)->∀ l H',Same J2 H'->H' l=some (.tup [.int (-1),.int (-1),.int (-1)])->Q (.ref l) H':=fun z l H' S e=>by
  rw[if_neg z] at eT
  exact q l H' (S1.trans (S2.trans S)) (by rw[eT];exact e)
 by_cases c1:ws.length=2
 case neg =>
  refine iteTq (by rw[lw,decide_eq_false fun z=>c1 (by injection z with z;omega)];rfl) (iteT ?_)
  exact⟨_,rfl,_,rfl,_,rfl,(by show 3≤1000;decide),fun l J S _ e=>bad (fun z=>c1 z.1) l J S e⟩
 refine iteFq (by rw[lw,c1];rfl) ?_
 refine⟨_,rfl,l2,_,rfl,.inl (SqL.of h2),rfl,_,rfl,?_⟩
 by_cases c2:rs.length=2
 case neg =>
  refine iteTq (by rw[lr,decide_eq_false fun z=>c2 (by injection z with z;omega)];rfl) ?_
  exact⟨_,rfl,_,rfl,_,rfl,(by show 3≤1000;decide),fun l J S _ e=>bad (fun z=>c2 z.2) l J S e⟩
 refine iteFq (by rw[lr,c2];rfl) ?_
 rw[if_pos ⟨c1,c2⟩] at eT
 match ws,rs,c1,c2 with
 | [a,y2],[b,c],_,_ =>
  refine⟨_,rfl,l1,_,_,_,rfl,rfl,SqL.of h1',rfl,a,rfl,(so1 a (by simp)).1,(so1 a (by simp)).2,fun J3 S3=>?_⟩
  refine⟨_,rfl,l2,_,_,_,rfl,rfl,SqL.of (S3 _ _ h2),rfl,b,rfl,(so2 b (by simp)).1,(so2 b (by simp)).2,fun J4 S4=>?_⟩
  refine⟨_,rfl,l2,_,_,_,rfl,rfl,SqL.of (S4 _ _ (S3 _ _ h2)),rfl,c,rfl,(so2 c (by simp)).1,(so2 c (by simp)).2,fun J5 S5=>?_⟩
  refine⟨(by show 3≤1000;decide),fun l J6 S6 _ e=>q l J6 (S1.trans (S2.trans (S3.trans (S4.trans (S5.trans S6))))) ?_⟩
  rw[eT];exact e
noncomputable def dataW:Option (Int × List Tie)->PyData
 | some (n,ts)=>webD n ts
 | none=>.none
noncomputable def toldW:PyData->PyData
 | .str x=>dataW (webR x)
 | _=>.none
structure XF87 (K:PySem.W.Frag) (cE cT cW c1 c2 c3 c4 c5 c6 c7 c8 c9 c10 cM:Addr):Prop where
 xt:X9.XC K cT
 mt:PySem.W.exmOne K (.ref cT) (.ref cE)=some true
 vt:PySem.W.kitOne K (.ref cT) (.type "ValueError")=some true
 tt:PySem.W.kitOne K (.ref cT) (.ref cT)=some true
 na:PySem.W.kitAny K (.ref cT) ([c1,c2,c3,c4,c5,c6,c7,c8,c9,c10].map Value.ref)=some false
 nb:PySem.W.kitAny K (.ref cT) ([cW,cM].map Value.ref)=some false
def spTold87 (K:PySem.W.Frag):Sp:=fun vs H Q _=>∃ (d:PyData) (v:V),vs=[v]∧Is K H d v∧(∀ x,d=.str x->TxF x)∧∀ u H',Same H H'->Is K H' (toldW d) u->Q u H'
theorem ok__law_told87 {cE cT cW c1 c2 c3 c4 c5 c6 c7 c8 c9 c10 cM:Addr} (T:Bi mg) (D:DefOk K mg "_law_told" s__law_told ["thing"]) (m_ThinError:mg "ThinError"=some (.ref cE)) (m_NoText:mg "NoText"=some (.ref cT)) (m_NoWeb:mg "NoWeb"=some (.ref cW))
  (m_NoBack:mg "NoBack"=some (.ref c1)) (m_NoFalls:mg "NoFalls"=some (.ref c2)) (m_NoLength:mg "NoLength"=some (.ref c3)) (m_NoLevels:mg "NoLevels"=some (.ref c4)) (m_NoLine:mg "NoLine"=some (.ref c5)) (m_NoOrder:mg "NoOrder"=some (.ref c6)) (m_NoPlain:mg "NoPlain"=some (.ref c7)) (m_NoShare:mg "NoShare"=some (.ref c8)) (m_NoTie:mg "NoTie"=some (.ref c9)) (m_NoTimes:mg "NoTimes"=some (.ref c10)) (m_TooMany:mg "TooMany"=some (.ref cM))
  (z_ValueError:mg "ValueError"=none) (X:XF87 K cE cT cW c1 c2 c3 c4 c5 c6 c7 c8 c9 c10 cM) (O_read_web:OkX P w K mg base 6 "read_web" ["thing"] (spReadWX K cT)):Ok P w K mg base 7 "_law_told" ["thing"] (spTold87 K):=by
 refine mk_ok (k:=6) D sc__law_told (fun vs H Q E h=>?_) (fun f cdv A outer s H vs Q E hr h=>?_)
 ·obtain⟨d,v,rfl,_⟩:=h
  rfl
 obtain⟨d,v,rfl,isd,fit,q⟩:=h
 have nd:=sc__law_told.nd
 refine⟨_,(pss_cons (ps_set (i:=1) nd rfl (Or.inl rfl) pe_non) (pss_cons (ps_set (i:=2) nd rfl (Or.inl rfl) pe_non) (pss_cons (ps_trySet (m:=2) (i:=1) (j:=3) (pex_call O_read_web hr rfl (pa_cons (pv 0) pa_nil)) hr nd m_ThinError) (pss_cons (ps_if (pt_cmpR op_isN (pv 1) pe_non (nomark _)) (pss_one (ps_ret (pv 2))) pss_nil) (pss_cons (ps_if (pt_val (pe_callB call_isiXT rfl T.z_isinstance (by decide +kernel) (pa_cons (pv 1) (pa_cons (pe_tupG (pa_cons (pe_glob (v:=V.ref _) rfl m_NoBack rfl) (pa_cons (pe_glob (v:=V.ref _) rfl m_NoFalls rfl) (pa_cons (pe_glob (v:=V.ref _) rfl m_NoLength rfl) (pa_cons (pe_glob (v:=V.ref _) rfl m_NoLevels rfl) (pa_cons (pe_glob (v:=V.ref _) rfl m_NoLine rfl) (pa_cons (pe_glob (v:=V.ref _) rfl m_NoOrder rfl) (pa_cons (pe_glob (v:=V.ref _) rfl m_NoPlain rfl) (pa_cons (pe_glob (v:=V.ref _) rfl m_NoShare rfl) (pa_cons (pe_glob (v:=V.ref _) rfl m_NoTie rfl) (pa_cons (pe_glob (v:=V.ref _) rfl m_NoTimes rfl) pa_nil))))))))))) pa_nil)))) (pss_one (ps_ret pe_str)) pss_nil) (pss_cons (ps_if (PW.pt (pw_or (pt_val (pe_callB call_isiXT rfl T.z_isinstance (by decide +kernel) (pa_cons (pv 1) (pa_cons (pe_tupG (pa_cons (pe_glob (v:=V.ref _) rfl m_NoWeb rfl) (pa_cons (pe_glob (v:=V.ref _) rfl m_TooMany rfl) pa_nil))) pa_nil)))) (pw_or (pt_not (pt_val (pe_callB call_isiX rfl T.z_isinstance (by decide +kernel) (pa_cons (pv 1) (pa_cons (pe_glob (v:=V.ref _) rfl m_NoText rfl) pa_nil))))) (pw_or1 (pt_not (pt_val (pe_callB (call_isiXB (n:="ValueError")) rfl T.z_isinstance (by decide +kernel) (pa_cons (pv 1) (pa_cons (pe_bltn (v:=.ty "ValueError") rfl z_ValueError (by decide +kernel) rfl) pa_nil))))))))) (pss_one (ps_ret pe_str)) pss_nil) (pss_one (ps_ret pe_non)))))))),?_⟩
 refine (fun z=>⟨_,rfl,d,v,rfl,isd,fun e H1 S1=>z H1 S1 ?t1,fun x ex=>⟨fit x ex,fun e H1 S1=>z H1 S1 ?t2,fun n ts e u H1 S1 isu=>?t3⟩⟩) (?mn:∀ H1,Same H H1->toldW d=.none->_)
 case t1=>cases d <;> first | rfl | cases e
 case t2=>rw[ex];show dataW (webR x)=_;rw[e];rfl
 case t3 =>
  refine⟨_,rfl,rfl,_,rfl,iteT ⟨_,rfl,q _ H1 S1 ?_⟩⟩
  rw[ex];show Is K H1 (dataW (webR x)) _;rw[e];exact isu
 case mn =>
  intro H1 S1 e
  refine⟨cT,rfl,X.mt,fun a ha=>?_⟩
  have Sa:Same H (upd H1 a (.ext (X9.IsX a cT))):=S1.trans (same_new ha)
  refine⟨_,rfl,rfl,_,rfl,iteF ?_⟩
  refine⟨_,rfl,(by show 10≤1000;decide),fun p1 J1 T1 f1 e1=>?_⟩
  refine⟨a,cT,p1,[c1,c2,c3,c4,c5,c6,c7,c8,c9,c10],false,rfl,T1 _ _ upd_same,e1,X.xt,X.na,_,rfl,iteF ?_⟩
  refine⟨_,rfl,(by show 2≤1000;decide),fun p2 J2 T2 f2 e2=>?_⟩
  refine⟨a,cT,p2,[cW,cM],false,rfl,T2 _ _ (T1 _ _ upd_same),e2,X.xt,X.nb,_,rfl,iteF ?_⟩
  refine⟨_,rfl,a,cT,cT,_,rfl,T2 _ _ (T1 _ _ upd_same),X.xt,X.tt,_,rfl,iteF ?_⟩
  refine⟨_,rfl,a,cT,_,rfl,T2 _ _ (T1 _ _ upd_same),X.xt,X.vt,_,rfl,iteF ?_⟩
  exact q _ J2 (Sa.trans (T1.trans T2)) (by rw[e];rfl)
def aheadP (ts:List Tie):Int × Int:=(ts.getLast?.map endsOf).getD (-1,-1)
theorem ahead_snoc (ts:List Tie) (t:Tie):aheadP (ts++[t])=endsOf t:=by
 unfold aheadP;rw[List.getLast?_concat];rfl
theorem lexLe_two (a b c d:Int):HT.lexLe [a,b] [c,d]=false↔lt2 (c,d) (a,b):=by
 show (if a=c then (if b=d then true else decide (b≤d)) else decide (a≤c))=false↔(c < a∨(c=a∧d < b))
 by_cases h1:a=c
 ·rw[if_pos h1]
  by_cases h2:b=d
  ·rw[if_pos h2]
   exact⟨fun z=>Bool.noConfusion z,fun z=>by omega⟩
  ·rw[if_neg h2,decide_eq_false_iff_not];omega
 ·rw[if_neg h1,decide_eq_false_iff_not];omega
theorem rise_snoc {ts:List Tie} {t:Tie} (h:(ts.map endsOf).Pairwise lt2) (l:lt2 (aheadP ts) (endsOf t)):((ts++[t]).map endsOf).Pairwise lt2:=by
 rw[List.map_append]
 refine List.pairwise_append.mpr ⟨h,by simp,fun x hx y hy=>?_⟩
 have ey:y=endsOf t:=by simpa using hy
 subst ey
 obtain⟨u,hu,rfl⟩:=List.mem_map.mp hx
 have ne:ts≠[]:=fun z=>by rw[z] at hu;cases hu
 unfold aheadP at l
 rw[List.getLast?_eq_some_getLast ne] at l
 have l':lt2 (endsOf (ts.getLast ne)) (endsOf t):=l
 have e:=List.dropLast_concat_getLast ne
 generalize ts.getLast ne=z at *
 rw[← e] at h hu
 rw[List.map_append] at h
 rcases List.mem_append.mp hu with hu | hu
 ·have:=(List.pairwise_append.mp h).2.2 _ (List.mem_map.mpr ⟨u,hu,rfl⟩) (endsOf z) (by simp)
  unfold lt2 at *;omega
 ·rw[show u=z by simpa using hu];exact l'
theorem rise_last {ts:List Tie} {t:Tie} (h:((ts++[t]).map endsOf).Pairwise lt2) (h0:0≤t.1):lt2 (aheadP ts) (endsOf t):=by
 unfold aheadP
 cases e:ts.getLast? with
 | none=>left;show (-1:Int) < t.1;omega
 | some u =>
  rw[List.map_append] at h
  exact (List.pairwise_append.mp h).2.2 _ (List.mem_map.mpr ⟨_,List.mem_of_getLast? e,rfl⟩) _ (by simp)
theorem tieB_iff (n:Int) (t:Tie):tieB n (tieD t)=true↔0≤t.1∧t.1 < t.2.1∧t.2.1 < n∧1≤t.2.2∧t.2.2≤10 ^ 18:=by
 show (decide (0≤t.1) && decide (t.1 < t.2.1) && decide (t.2.1 < n) && decide (1≤t.2.2) && decide (t.2.2≤10 ^ 18))=true↔_
 simp only [Bool.and_eq_true,decide_eq_true_eq]
 omega
theorem webB_iff (n:Int) (ts:List Tie):webB n ts=true↔(1≤n∧n≤24)∧ts.length≤60∧(∀ t ∈ ts,tieB n (tieD t)=true)∧(ts.map endsOf).Pairwise lt2:=by
 unfold webB
 rw[Bool.and_eq_true,Bool.and_eq_true,Bool.and_eq_true,rising_iff,List.all_eq_true,decide_eq_true_eq,show sizeB (.int n)=(decide (1≤n) && decide (n≤24)) from rfl,Bool.and_eq_true,decide_eq_true_eq,decide_eq_true_eq]
 exact⟨fun ⟨⟨⟨a,b⟩,c⟩,d⟩=>⟨a,b,c,d⟩,fun ⟨a,b,c,d⟩=>⟨⟨⟨a,b⟩,c⟩,d⟩⟩
theorem webR_iff {x w0:Str} {r:List Str} (e:Txt.split x ⟨#[32]⟩=w0::r):(isWr w0=true∧(∀ w ∈ r,tieR w≠none)∧webB (numW w0:Int) (r.map fun w=>(tieR w).getD (0,0,0))=true->webR x=some ((numW w0:Int),r.map fun w=>(tieR w).getD (0,0,0))) ∧
  (¬ (isWr w0=true∧(∀ w ∈ r,tieR w≠none)∧webB (numW w0:Int) (r.map fun w=>(tieR w).getD (0,0,0))=true)->webR x=none):=by
 unfold webR
 simp only [e,List.headD_cons,List.drop_succ_cons,List.drop_zero]
 exact⟨fun z=>if_pos z,fun z=>if_neg z⟩
def spReadL87 (K:PySem.W.Frag):Sp:=fun vs H Q _=>∃ x:Str,vs=[.str x]∧TxF x∧∀ u H',Same H H'->Is K H' (dataW (webR x)) u->Q u H'
theorem ok__law_read87 (T:Bi mg) (D:DefOk K mg "_law_read" s__law_read ["text"]) (O__law_number:Ok P w K mg base 2 "_law_number" ["word"] (spNumL K)) (O__law_tie:Ok P w K mg base 2 "_law_tie" ["word"] spTieL):Ok P w K mg base 3 "_law_read" ["text"] (spReadL87 K):=by
 refine mk_ok (k:=2) D sc__law_read (fun vs H Q E h=>?_) (fun f cdv A outer s H vs Q E hr h=>?_)
 ·obtain⟨x,rfl,_⟩:=h
  rfl
 obtain⟨x,rfl,⟨xl,xc,xo⟩,q⟩:=h
 have nd:=sc__law_read.nd
 have e0:(" ":Str)=⟨#[32]⟩:=by decide +kernel
 have cnt:=split_cnt (c:=32) (by decide) x
 have sl:∀ w ∈ Txt.split x ⟨#[32]⟩,w.length≤9000∧TxO w:=fun w hw=>⟨Nat.le_trans (split_words_len hw) xl,xo.split hw⟩
 refine⟨_,(BSs.h (bss_cons (bs_set (i:=1) nd rfl (Or.inl rfl) (BE.mk (pe_bm PySem.F.plainAttrs_str PySem.F.slot_str_split PySem.F.type_str_split mt_split (pv 0) (pa_cons pe_str pa_nil)))) (bss_cons (bs_set (i:=2) nd rfl (Or.inl rfl) (BE.mk (pe_callD O__law_number hr rfl (pa_cons (pe_ix ix_list (pv 1) pe_int (fun _ _=>rfl)) pa_nil)))) (bss_cons (bs_if (PW.pt (pw_or (pt_cmpR op_lt (pv 2) pe_int (nomark _)) (pw_or (pt_cmpR op_gt (pv 2) pe_int (nomark _)) (pw_or1 (pt_cmpR op_gt (pe_callB call_len_seq rfl T.z_len (by decide +kernel) (pa_cons (pv 1) pa_nil)) pe_int (nomark _)))))) (bss_one (bs_ret (BE.mk pe_non))) bss_nil) (bss_cons (bs_set (i:=3) nd rfl (Or.inl rfl) (be_tupG (ba_cons (BE.mk (pe_un un_neg pe_int)) (ba_cons (BE.mk (pe_un un_neg pe_int)) ba_nil)))) (bss_cons (bs_set (i:=4) nd rfl (Or.inl rfl) (be_lstG ba_nil)) (bss_cons (bs_forB PassesOwn.never rfl (pi_list (pe_slice sl_list (pv 1) (po_some pe_int) po_none)) (pg_name (i:=5) nd rfl (Or.inl rfl)) (bss_cons (BS.mk (ps_asg (pe_callD O__law_tie hr rfl (pa_cons (pv 5) pa_nil)) (pg_tup (n:=3) rfl (pgs_cons (pg_name (i:=6) nd rfl (Or.inl rfl)) (pgs_cons (pg_name (i:=7) nd rfl (Or.inl rfl)) (pgs_cons (pg_name (i:=8) nd rfl (Or.inl rfl)) pgs_nil)))))) (bss_cons (bs_if (PW.pt (pw_or (pt_not (pt_chain3 op_le op_lt op_lt pe_int (pv 6) (pv 7) (pv 2))) (pw_or (pt_not (pt_chain op_le op_le pe_int (pv 8) (pe_op op_pow pe_int pe_int))) (pw_or1 (pt_cmpR (op_leT hr.units0) (pe_tupG (pa_cons (pv 6) (pa_cons (pv 7) pa_nil))) (pv 3) (nomark _)))))) (bss_one (bs_ret (BE.mk pe_non))) bss_nil) (bss_cons (bs_set (i:=3) nd rfl (Or.inl rfl) (be_tupG (ba_cons (BE.mk (pv 6)) (ba_cons (BE.mk (pv 7)) ba_nil)))) (bss_one (BS.mk (ps_expr (pe_bm PySem.F.plainAttrs_list PySem.F.slot_list_append PySem.F.type_list_append mt_appendG (pv 4) (pa_cons (pe_tupG (pa_cons (pv 6) (pa_cons (pv 7) (pa_cons (pv 8) pa_nil)))) pa_nil))))))))) (bss_one (bs_ret (be_tupG (ba_cons (BE.mk (pv 2)) (ba_cons (BE.mk (pe_callTy call_tupleG rfl T.z_tuple (by decide +kernel) (pa_cons (pv 4) pa_nil))) ba_nil)))))))))))),?_⟩
 refine⟨_,rfl,rfl,x,32,rfl,congrArg (fun z:Str=>[V.str z]) e0,by omega,fun lw J2 S2 f2 h2=>?_⟩
 have hne:=split_ne x 32
 obtain⟨w0,r,ews⟩:∃ w0 r,Txt.split x ⟨#[32]⟩=w0::r:=by
  cases h:Txt.split x ⟨#[32]⟩ with
  | nil=>exact absurd h hne
  | cons w r=>exact⟨w,r,rfl⟩
 obtain⟨rYes,rNo⟩:=webR_iff ews
 rw[ews] at h2 sl cnt
 rw[List.length_cons] at cnt
 have none_:∀ J,Same H J->¬ (isWr w0=true∧(∀ w ∈ r,tieR w≠none)∧webB (numW w0:Int) (r.map fun w=>(tieR w).getD (0,0,0))=true)->Q .non J:=fun J S z=>q _ J S (by rw[rNo z];rfl)
 refine⟨_,rfl,lw,_,_,_,rfl,rfl,SqL.of h2,at0 rfl,w0,rfl,(sl w0 List.mem_cons_self).1,(sl w0 List.mem_cons_self).2,fun J3 S3=>?_⟩
 have h3:=S3 _ _ h2
 have S23:=S2.trans S3
 have tl:(r.map fun w=>(tieR w).getD (0,0,0)).length=r.length:=List.length_map _
 have nlim:isWr w0=true->numL w0=(numW w0:Int):=numL_pos
 refine⟨_,rfl,_,_,rfl,rfl,_,rfl,?_⟩
 by_cases c1:numL w0 < 1
 ·refine iteTq (decide_eq_true c1) (iteT (none_ J3 S23 fun z=>?_))
  have:=(webB_iff _ _).mp z.2.2
  rw[nlim z.1] at c1;omega
 refine iteFq (decide_eq_false c1) ⟨_,rfl,_,_,rfl,rfl,_,rfl,?_⟩
 by_cases c2:numL w0 > 24
 ·refine iteTq (decide_eq_true c2) (iteT (none_ J3 S23 fun z=>?_))
  have:=(webB_iff _ _).mp z.2.2
  rw[nlim z.1] at c2;omega
 refine iteFq (decide_eq_false c2) ⟨_,rfl,lw,_,rfl,.inl (SqL.of h3),_,_,rfl,rfl,_,rfl,?_⟩
 have ll:((w0::r).map V.str).length=r.length + 1:=by rw[List.length_map,List.length_cons]
 by_cases c3:r.length > 60
 ·refine iteTq (decide_eq_true (by rw[ll];omega)) (none_ J3 S23 fun z=>?_)
  have:=(webB_iff _ _).mp z.2.2
  omega
 refine iteFq (decide_eq_false (by rw[ll];omega)) ?_
 have w0w:isWr w0=true:=numL_wr (by omega)
 have en:=nlim w0w
 refine⟨_,rfl,_,rfl,(by show 2≤1000;decide),fun la J4 S4 f4 h4=>⟨(by show 0≤1000;decide),fun lf J5 S5 f5 h5=>?_⟩⟩
 have S35:=S4.trans S5
 have S25:Same H J5:=S23.trans S35
 have f0:H lf=none:=(S23.trans S4).free f5
 have f0a:H la=none:=S23.free f4
 have nlf:la≠lf:=fun z=>by rw[z] at h4;rw[h4] at f5;cases f5
 refine⟨_,rfl,_,rfl,lw,_,rfl,SqL.of (S35 _ _ h3),fun lr hlr=>?_⟩
 have ec:cutV ((w0::r).map V.str) (some 1) none=r.map V.str:=by rw[cut1];rfl
 rw[ec]
 have nlr:lr≠lf:=fun z=>by rw[z,h5] at hlr;cases hlr
 generalize hJ6:upd J5 lr (.lst (r.map V.str))=J6
 have S6:Same J5 J6:=by rw[← hJ6];exact same_new hlr
 have h6:J6 lr=some (.lst (r.map V.str)):=by rw[← hJ6];exact upd_same
 refine⟨lr,rfl,⟨_,SqL.of h6⟩,?_⟩
 have toH:∀ {J:Hp},But lf J6 J->Same H J:=fun b a o e=>b _ _ (fun z=>by rw[z,f0] at e;cases e) (S6 _ _ (S25 _ _ e))
 have tA:∀ l:List Tie,tupAll (l.map tieD)=true:=fun l=>by
  induction l with
  | nil=>rfl
  | cons t r ih=>show (tupD (tieD t) && tupAll (r.map tieD))=true;rw[ih];rfl
 refine for_list (xs := r.map V.str) (fun i σ J => ∃ (y5 y6 y7 y8 : Option V) (lh : Addr) (ys : List V) (ts : List Tie), σ = [some (.str x), some (.ref lw), some (.int (numL w0)), some (.ref lh), some (.ref lf), y5, y6, y7, y8] ∧ But lf J6 J ∧ J lh = some (.tup [.int (aheadP ts).1, .int (aheadP ts).2]) ∧ J lf = some (.lst ys) ∧ IsAll K J (ts.map tieD) ys ∧
     (r.take i).map tieR=ts.map some∧(∀ t ∈ ts,tieB (numW w0:Int) (tieD t)=true)∧(ts.map endsOf).Pairwise lt2) ⟨none,none,none,none,la,[],[],rfl,But.refl,S6 _ _ (S5 _ _ h4),S6 _ _ h5,rfl,rfl,(fun t ht=>by cases ht),List.Pairwise.nil⟩ (fun i σ J _ h=>?_) (fun i u σ J hx h=>?_) (fun σ J h=>?_)
 ·obtain⟨y5,y6,y7,y8,lh,ys,ts,rfl,bj,_⟩:=h
  exact SqL.of (bj _ _ nlr h6)
 ·obtain⟨y5,y6,y7,y8,lh,ys,ts,rfl,bj,hh,hl,ia,er,gd,rs⟩:=h
  rw[List.getElem?_map] at hx
  obtain⟨v,hv,rfl⟩:=Option.map_eq_some_iff.mp hx
  have vm:v ∈ r:=List.mem_of_getElem? hv
  obtain⟨vl,vo⟩:=sl v (List.mem_cons_of_mem _ vm)
  have nhl:lh≠lf:=fun z=>by rw[z,hl] at hh;cases hh
  obtain⟨al1,al2⟩:=tie_alike (x:=v)
  have lts:ts.length=(r.take i).length:=by have:=congrArg List.length er;rw[List.length_map,List.length_map] at this;exact this.symm
    -- what it means that a word is no tie, or one that does not fit
  have bad:∀ J',Same J J'->(∀ t,tieR v=some t->¬ (tieB (numW w0:Int) (tieD t)=true∧lt2 (aheadP ts) (endsOf t)))->Q .non J':=fun J' S' z=>by
   refine none_ J' ((toH bj).trans S') fun ⟨_,h2,h3⟩=>?_
   obtain⟨t,et⟩:∃ t,tieR v=some t:=Option.ne_none_iff_exists'.mp (h2 v vm)
   obtain⟨_,_,w3,w4⟩:=(webB_iff _ _).mp h3
   have e1:(r.take (i + 1)).map (fun w=>(tieR w).getD (0,0,0))=ts++[t]:=by
    rw[List.take_add_one,hv]
    show ((r.take i)++[v]).map _=_
    rw[List.map_append]
    have:(r.take i).map (fun w=>(tieR w).getD (0,0,0))=ts:=by
     have:=congrArg (List.map fun o:Option Tie=>o.getD (0,0,0)) er
     rw[List.map_map,List.map_map] at this
     exact this.trans (by show ts.map (fun t=>t)=ts;rw[List.map_id'])
    rw[this]
    simp [et]
   have w4':((ts++[t]).map endsOf).Pairwise lt2:=by
    rw[← e1,List.map_take,List.map_take]
    exact w4.sublist (List.take_sublist _ _)
   have tb:=w3 t (List.mem_map.mpr ⟨v,vm,by rw[et];rfl⟩)
   exact z t et ⟨tb,rise_last w4' ((tieB_iff _ _).mp tb).1⟩
  refine⟨_,rfl,v,rfl,vl,vo,fun lt J7 S7 h7=>?_⟩
  generalize tieL v=tv at *
  obtain⟨a,b,l⟩:=tv
  refine⟨lt,_,rfl,SqT.of h7,rfl,_,_,rfl,_,_,rfl,_,_,rfl,rfl,?_⟩
  have nofit:¬ (0≤a∧a < b∧b < numL w0∧1≤l∧l≤10 ^ 18)->∀ J',Same J J'->Q .non J':=fun z J' S'=>bad J' S' fun t et y=>by
   have e:=al1 t et
   have:=(tieB_iff _ _).mp y.1
   rw[← e] at this
   exact z (by rw[en];exact this)
  refine⟨_,rfl,_,_,rfl,rfl,_,rfl,?_⟩
  by_cases d1:0≤a
  case neg=>exact iteFq (decide_eq_false d1) ⟨_,rfl,iteT (iteT (nofit (fun z=>d1 z.1) J7 S7))⟩
  refine iteTq (decide_eq_true d1) ⟨_,rfl,_,_,rfl,rfl,_,rfl,?_⟩
  by_cases d2:a < b
  case neg=>exact iteFq (decide_eq_false d2) ⟨_,rfl,iteT (iteT (nofit (fun z=>d2 z.2.1) J7 S7))⟩
  refine iteTq (decide_eq_true d2) ⟨_,rfl,_,_,rfl,rfl,_,rfl,?_⟩
  by_cases d3:b < numL w0
  case neg=>exact iteTq (by rw[decide_eq_false d3];rfl) (iteT (nofit (fun z=>d3 z.2.2.1) J7 S7))
  refine iteFq (by rw[decide_eq_true d3];rfl) ⟨_,rfl,_,_,rfl,rfl,_,rfl,?_⟩
  by_cases d4:1≤l
  case neg=>exact iteFq (decide_eq_false d4) ⟨_,rfl,iteT (iteT (nofit (fun z=>d4 z.2.2.2.1) J7 S7))⟩
  refine iteTq (decide_eq_true d4) ⟨_,_,rfl,rfl,⟨by decide,by decide,by decide⟩,_,_,rfl,rfl,_,rfl,?_⟩
  by_cases d5:l≤10 ^ (18:Int).toNat
  case neg=>exact iteTq (by rw[decide_eq_false d5];rfl) (iteT (nofit (fun z=>d5 z.2.2.2.2) J7 S7))
  refine iteFq (by rw[decide_eq_true d5];rfl) ?_
  have hv2:tieR v=some (a,b,l):=al2 d1 (by show (0:Int)≤b;omega) (by show (0:Int)≤l;omega)
  have fits:tieB (numW w0:Int) (tieD (a,b,l))=true:=(tieB_iff _ _).mpr ⟨d1,d2,by rw[← en];exact d3,d4,d5⟩
  refine⟨_,rfl,_,rfl,(by show 2≤1000;decide),fun l9 J9 S9 f9 h9=>?_⟩
  refine⟨_,rfl,l9,lh,[a,b],[(aheadP ts).1,(aheadP ts).2],rfl,rfl,SqT.of h9,SqT.of (S9 _ _ (S7 _ _ hh)),_,rfl,?_⟩
  have S79:=S7.trans S9
  by_cases d6:lt2 (aheadP ts) (a,b)
  case neg =>
   refine iteTq ((Bool.eq_false_or_eq_true _).resolve_right fun z=>d6 ((lexLe_two _ _ _ _).mp z)) (bad J9 S79 fun t et y=>?_)
   rw[hv2] at et
   cases et
   exact d6 y.2
  refine iteFq ((lexLe_two _ _ _ _).mpr d6) ?_
  refine⟨_,rfl,_,rfl,(by show 2≤1000;decide),fun l10 J10 S10 f10 h10=>?_⟩
  have S710:=S79.trans S10
  have hl10:=S710 _ _ hl
  refine⟨_,rfl,.inl ⟨rfl,_,SqL.of hl10⟩,_,rfl,_,rfl,_,rfl,(by show 3≤1000;decide),fun l11 J11 S11 f11 h11=>?_⟩
  have hl11:=S11 _ _ hl10
  have lys:ys.length=ts.length:=by have:=ia.length;rw[List.length_map] at this;omega
  have n10:l10≠lf:=fun z=>by rw[z] at f10;rw[S79 _ _ hl] at f10;cases f10
  refine⟨lf,_,_,rfl,rfl,hl11,by rw[lys,lts,List.length_take];omega,fun J12 b12 h12=>?_⟩
  have bJ11:But lf J6 J11:=bj.trans (Same.but (S710.trans S11))
  refine⟨_,_,_,_,l10,ys++[.ref l11],ts++[(a,b,l)],rfl,bJ11.trans b12,?_,h12,?_,?_,fun t ht=>?_,rise_snoc rs d6⟩
  ·rw[ahead_snoc];exact b12 _ _ n10 (S11 _ _ h10)
  ·rw[List.map_append]
   have ia11:IsAll K J11 (ts.map tieD) ys:=IsAll.same (S710.trans S11) _ ia
   have i11:Is K J11 (tieD (a,b,l)) (.ref l11):=⟨l11,_,rfl,h11,IsAll.ints [a,b,l]⟩
   have al:IsAll K J11 ((ts++[(a,b,l)]).map tieD) (ys++[.ref l11]):=by rw[List.map_append];exact IsAll.snoc i11 ia11
   have:=IsAll.but b12 hl11 _ (tA (ts++[(a,b,l)])) al
   rw[List.map_append] at this
   exact this
  ·rw[List.take_add_one,hv,List.map_append,List.map_append,er]
   show _++[tieR v]=_
   rw[hv2];rfl
  ·rcases List.mem_append.mp ht with ht | ht
   ·exact gd t ht
   ·rw[show t=(a,b,l) by simpa using ht];exact fits
 ·obtain⟨y5,y6,y7,y8,lh,ys,ts,rfl,bj,hh,hl,ia,er,gd,rs⟩:=h
  rw[List.length_map,List.take_length] at er
  have et:(r.map fun w=>(tieR w).getD (0,0,0))=ts:=by
   have:=congrArg (List.map fun o:Option Tie=>o.getD (0,0,0)) er
   rw[List.map_map,List.map_map] at this
   exact this.trans (by show ts.map (fun t=>t)=ts;rw[List.map_id'])
  have lts:ts.length=r.length:=by rw[← et,List.length_map]
  refine⟨_,rfl,_,rfl,lf,_,rfl,hl,fun l7 J7 S7 f7 h7=>⟨(by show 2≤1000;decide),fun l8 J8 S8 f8 h8=>q _ J8 ((toH bj).trans (S7.trans S8)) ?_⟩⟩
  have hA:∀ w ∈ r,tieR w≠none:=fun w hw z=>by
   have:tieR w ∈ r.map tieR:=List.mem_map.mpr ⟨w,hw,rfl⟩
   rw[er,z] at this
   obtain⟨t,_,ht⟩:=List.mem_map.mp this
   cases ht
  have hB:webB (numW w0:Int) (r.map fun w=>(tieR w).getD (0,0,0))=true:=by
   rw[et,webB_iff]
   exact⟨⟨by omega,by omega⟩,by omega,gd,rs⟩
  rw[rYes ⟨w0w,hA,hB⟩,et]
  rw[en] at h8
  exact⟨l8,_,rfl,h8,_,_,rfl,rfl,_,_,rfl,⟨l7,ys,rfl,S8 _ _ h7,IsAll.same (S7.trans S8) _ ia⟩,rfl⟩
theorem slice_take {x:Str} {i:Nat} (h:i≤x.length):(Txt.slice x none (some (i:Int))).cps.toList=x.cps.toList.take i:=by
 have lx:x.cps.toList.length=x.length:=Array.length_toList
 have:=StrLaws.sliceText_to (x:=x) (j:=(i:Int)) ⟨by omega,by omega⟩
 rw[show Txt.slice x none (some (i:Int))=StrLaws.sliceText x none (some (i:Int)) from rfl,this]
 simp
theorem slice_drop (x:Str) (i:Nat):(Txt.slice x (some (i:Int)) none).cps.toList=x.cps.toList.drop i:=by
 have lx:x.cps.toList.length=x.length:=Array.length_toList
 have low:∀ i:Nat,i≤x.length->(Txt.slice x (some (i:Int)) none).cps.toList=x.cps.toList.drop i:=fun i h=>by
  have:=StrLaws.sliceText_from (x:=x) (i:=(i:Int)) ⟨by omega,by omega⟩
  rw[show Txt.slice x (some (i:Int)) none=StrLaws.sliceText x (some (i:Int)) none from rfl,this,List.toList_toArray,Int.toNat_natCast]
  exact List.take_of_length_le (by rw[List.length_drop];omega)
 by_cases h:i≤x.length
 ·exact low i h
 ·have e:Txt.slice x (some (i:Int)) none=Txt.slice x (some (x.length:Int)) none:=by
   have ei:Builtin.Str.strSliceIndices (some (i:Int)) none 1 x.length=Builtin.Str.strSliceIndices (some (x.length:Int)) none 1 x.length:=by
    unfold Builtin.Str.strSliceIndices
    simp only [show (1:Int) > 0 by decide,if_true]
    rw[if_neg (by omega),if_neg (by omega),show min (i:Int) (x.length:Int)=min (x.length:Int) (x.length:Int) by omega]
   unfold Txt.slice
   rw[ei]
  rw[e,low x.length (Nat.le_refl _),List.drop_eq_nil_of_le (by omega),List.drop_eq_nil_of_le (by omega)]
abbrev cnt (x:Str):Nat:=x.cps.toList.count 32
theorem cnt_app (a b:Str):cnt (a++b)=cnt a + cnt b:=by unfold cnt;rw[Str.cps_append,Array.toList_append,List.count_append]
theorem cnt_take {x:Str} {i:Nat} (h:i≤x.length):cnt (Txt.slice x none (some (i:Int)))≤cnt x:=by unfold cnt;rw[slice_take h];exact (List.take_sublist _ _).count_le _
theorem cnt_drop (x:Str) (i:Nat):cnt (Txt.slice x (some (i:Int)) none)≤cnt x:=by unfold cnt;rw[slice_drop];exact (List.drop_sublist _ _).count_le _
theorem cnt_one (c:Nat):cnt (⟨#[c]⟩:Str)≤1:=by unfold cnt;exact List.count_le_length
theorem jn_cnt (c:Nat):∀ ws:List (List Nat),(Tx.jn c ws).count c≤(ws.map (List.count c)).sum + ws.length
 | []=>Nat.zero_le _
 | [w]=>by simp [Tx.jn]
 | w::v::r=>by
  have ih:=jn_cnt c (v::r)
  rw[Tx.jn,List.count_append,List.count_cons_self,List.map_cons,List.sum_cons,List.length_cons]
  omega
/-- what words give when they are put together -/
structure WdF (ys:List Str):Prop where
 t:tot ys≤9000
 n:(ys.map cnt).sum + ys.length≤900
 o:∀ y ∈ ys,TxO y
theorem WdF.join {ys:List Str} (h:WdF ys):JoinOk (Tx.ofL [32]) ys=true∧TxF (Txt.join (Tx.ofL [32]) ys):=by
 have e:ys=(ys.map fun y=>y.cps.toList).map Tx.ofL:=by
  rw[List.map_map]
  have:(Tx.ofL ∘ fun y:Str=>y.cps.toList)=id:=funext fun y=>Tx.ofL_list y
  rw[this,List.map_id]
 refine⟨joinOkC (by have:=h.t;omega),Nat.le_trans (join_len 32 ys) h.t,?_,?_⟩
 ·rw[e,glueC,Tx.list_ofL]
  refine Nat.le_trans (jn_cnt 32 _) ?_
  rw[List.map_map,List.length_map]
  exact h.n
 ·rw[e,glueC]
  intro d hd
  rw[Tx.list_ofL] at hd
  exact TxO.jn (by decide) (fun w hw=>by obtain⟨y,hy,rfl⟩:=List.mem_map.mp hw;exact h.o y hy) d hd
def spSigns:Sp:=fun vs H Q _=>vs=[]∧∀ z:Str,z.length=92->TxO z->Q (.str z) H
theorem ok__law_signs87 (T:Bi mg) (D:DefOk K mg "_law_signs" s__law_signs []):Ok P w K mg base 1 "_law_signs" [] spSigns:=by
 refine mk_ok (k:=0) D sc__law_signs (fun vs H Q E h=>?_) (fun f cdv A outer s H vs Q E hr h=>?_)
 ·obtain⟨rfl,_⟩:=h
  rfl
 obtain⟨rfl,q⟩:=h
 have nd:=sc__law_signs.nd
 refine⟨_,(pss_one (ps_ret pe_str)),?_⟩
 exact q _ (by decide +kernel) (by unfold TxO;decide +kernel)
def spWord87:Sp:=fun vs H Q _=>∃ (p:Addr) (n:Int),vs=[.ref p,.int n]∧Pot H p∧1≤n∧n≤24∧∀ y H',But p H H'->Pot H' p->y.length≤65->cnt y≤1->TxO y->Q (.str y) H'
def Wd1 (v:V):Prop:=∃ y:Str,v=.str y∧y.length≤65∧cnt y≤1∧TxO y
theorem ok__law_word87 (T:Bi mg) (D:DefOk K mg "_law_word" s__law_word ["pot","n"]) (O__law_take:Ok P w K mg base 1 "_law_take" ["pot","many"] spTake):Ok P w K mg base 2 "_law_word" ["pot","n"] spWord87:=by
 refine mk_ok (k:=1) D sc__law_word (fun vs H Q E h=>?_) (fun f cdv A outer s H vs Q E hr h=>?_)
 ·obtain⟨p,n,rfl,_⟩:=h
  rfl
 obtain⟨p,n,rfl,hp,n1,n24,q⟩:=h
 have nd:=sc__law_word.nd
 have big:∀ {n:Nat},n≤10000->n≤sizeLine:=fun h=>Nat.le_trans h (by decide)
 have app:∀ (a b:Str),(a++b).length=a.length + b.length:=fun a b=>by
  show (a++b).cps.size=_
  rw[Str.cps_append,Array.size_append];rfl
 have cs:∀ (y:Str),y.length≤65->cnt y≤1->TxO y->Wd1 (.str y):=fun y a b c=>⟨y,rfl,a,b,c⟩
 refine⟨_,(BSs.h (bss_cons (bs_set (i:=2) nd rfl (Or.inl rfl) (be_lstG (ba_consC (BE.mk pe_str) (ba_consC (BE.mk pe_str) (ba_consC (BE.mk pe_str) (ba_consC (BE.mk pe_str) (ba_consC (BE.mk pe_str) (ba_consC (BE.mk pe_str) (ba_consC (BE.mk pe_str) (ba_consC (BE.mk pe_str) (ba_consC (BE.mk pe_str) ba_nil))))))))))) (bss_cons (BS.mk (ps_expr (BE.h (be_bmL PySem.F.plainAttrs_list PySem.F.slot_list_extend PySem.F.type_list_extend mt_extendG (pv 2) (be_lstG (ba_consC (BE.mk pe_str) (ba_consB (BE.mk (pe_op op_add_str (pe_op op_add_str pe_str (pe_callTy call_str_int rfl T.z_str (by decide +kernel) (pa_cons (pv 1) pa_nil))) pe_str)) (ba_consC (BE.mk pe_str) (ba_consC (BE.mk pe_str) (ba_consC (BE.mk pe_str) (ba_consC (BE.mk pe_str) (ba_consC (BE.mk pe_str) (ba_consC (BE.mk pe_str) (ba_consB (BE.mk (pe_op op_add_str pe_str (pe_op op_mulS pe_str pe_int))) ba_nil)))))))))))))) (bss_cons (BS.mk (ps_expr (BE.h (be_bmL PySem.F.plainAttrs_list PySem.F.slot_list_extend PySem.F.type_list_extend mt_extendG (pv 2) (be_lstG (ba_consC (BE.mk pe_str) (ba_consC (BE.mk pe_str) (ba_consC (BE.mk pe_str) (ba_consC (BE.mk pe_str) (ba_consC (BE.mk pe_str) (ba_consC (BE.mk pe_str) (ba_consC (BE.mk pe_str) (ba_consC (BE.mk pe_str) (ba_consC (BE.mk pe_str) (ba_consB (BE.mk (pe_op op_add_str pe_str (pe_op op_mulS pe_str pe_int))) ba_nil))))))))))))))) (bss_one (bs_ret (be_ix ix_list (BE.mk (pv 2)) (BE.mk (pe_callD O__law_take hr rfl (pa_cons (pv 0) (pa_cons (pe_callB call_len_seq rfl T.z_len (by decide +kernel) (pa_cons (pv 2) pa_nil)) pa_nil)))) (fun _ _=>rfl)))))))),?_⟩
 refine⟨(by show 9≤1000;decide),fun l1' J1 S1 f1 h1=>?_⟩
 have p1:=hp.same S1
 have nl1:l1'≠p:=by
  obtain⟨xs,e⟩:=hp.lst
  exact fun z=>by rw[z,e] at f1;cases f1
 have A1:∀ v ∈ [V.str "0-1:1",.str "1-0:1",.str "0-0:1",.str "0-1:0",.str "0-1:01",.str "00-1:1",.str "0-1:1000000000000000001",.str "0-1",.str "0:1-1"],Wd1 v:=fun v hv=>by
  simp only [List.mem_cons,List.not_mem_nil,or_false] at hv
  rcases hv with rfl | rfl | rfl | rfl | rfl | rfl | rfl | rfl | rfl <;> exact cs _ (by decide +kernel) (by unfold cnt;decide +kernel) (by unfold TxO;decide +kernel)
 generalize hL1:[V.str "0-1:1",.str "1-0:1",.str "0-0:1",.str "0-1:0",.str "0-1:01",.str "00-1:1",.str "0-1:1000000000000000001",.str "0-1",.str "0:1-1"]=L1 at h1 A1
 have l1:L1.length=9:=by rw[← hL1];rfl
  -- the second row
 refine⟨_,rfl,.inl ⟨rfl,_,SqL.of h1⟩,?_⟩
 generalize hm61:(⟨(List.replicate (61:Int).toNat ("1":Str).cps).foldl (·++·) #[]⟩:Str)=m61
 have m61w:("0-1:"++m61:Str).length≤65∧cnt ("0-1:"++m61)≤1∧TxO ("0-1:"++m61)∧m61.length=61:=by
  rw[← hm61];exact⟨by decide +kernel,by unfold cnt;decide +kernel,by unfold TxO;decide +kernel,by decide +kernel⟩
 have nw:("0-"++((toString n:String):Str)++":1":Str).length≤65∧cnt ("0-"++((toString n:String):Str)++":1")≤1∧TxO ("0-"++((toString n:String):Str)++":1")∧((toString n:String):Str).length≤2:=by
  rw[Tx.num_text (by omega)]
  have l2:=small_len (m:=n.toNat) (by omega)
  have a1:("0-":Str).length=2:=by decide +kernel
  have a2:(":1":Str).length=2:=by decide +kernel
  have b1:cnt ("0-":Str)=0:=by unfold cnt;decide +kernel
  have b2:cnt (":1":Str)=0:=by unfold cnt;decide +kernel
  have b3:cnt (Tx.ofL (Tx.digs n.toNat))=0:=by
   unfold cnt;rw[Tx.list_ofL,List.count_eq_zero]
   exact fun z=>by have:=Tx.digs_fig _ _ z;omega
  refine⟨by rw[app,app,Tx.ofL_len];omega,by rw[cnt_app,cnt_app];omega,(TxO.app (TxO.app (by unfold TxO;decide +kernel) ?_) (by unfold TxO;decide +kernel)),by rw[Tx.ofL_len];exact l2⟩
  intro d hd
  rw[Tx.list_ofL] at hd
  exact TxO.digs _ d hd
 have e2:("0-":Str).length=2:=by decide +kernel
 have e3:(":1":Str).length=2:=by decide +kernel
 have e4:("0-1:":Str).length=4:=by decide +kernel
 refine⟨_,rfl,n,rfl,log_ok (by omega) (by omega),"0-",_,rfl,rfl,big (by have:=nw.2.2.2;omega),_,":1",rfl,rfl,big (by rw[app];have:=nw.2.2.2;omega),?_⟩
 refine⟨"1",61,rfl,rfl,by decide,by decide,by decide +kernel,"0-1:",_,rfl,rfl,?_,(by show 9≤1000;decide),fun l2' J2 S2 f2 h2=>?_⟩
 ·rw[hm61];exact big (by have:=m61w.2.2.2;omega)
 rw[hm61] at h2
 have A2:∀ v ∈ [V.str "0-1:1_0",.str ("0-"++((toString n:String):Str)++":1"),.str "-1-1:1",.str "0--1:1",.str "0-1:1:1",.str "",.str "-",.str ":",.str ("0-1:"++m61)],Wd1 v:=fun v hv=>by
  simp only [List.mem_cons,List.not_mem_nil,or_false] at hv
  rcases hv with rfl | rfl | rfl | rfl | rfl | rfl | rfl | rfl | rfl
  all_goals try exact cs _ (by decide +kernel) (by unfold cnt;decide +kernel) (by unfold TxO;decide +kernel)
  ·exact cs _ nw.1 nw.2.1 nw.2.2.1
  ·exact cs _ m61w.1 m61w.2.1 m61w.2.2.1
 generalize hL2:[V.str "0-1:1_0",.str ("0-"++((toString n:String):Str)++":1"),.str "-1-1:1",.str "0--1:1",.str "0-1:1:1",.str "",.str "-",.str ":",.str ("0-1:"++m61)]=L2 at h2 A2
 have l2:L2.length=9:=by rw[← hL2];rfl
 refine⟨l1',l2',_,_,rfl,rfl,S2 _ _ h1,h2,by omega,fun J3 b3 h3=>?_⟩
 have A3:∀ v ∈ L1++L2,Wd1 v:=fun v hv=>(List.mem_append.mp hv).elim (A1 v) (A2 v)
 have l3:(L1++L2).length=18:=by rw[List.length_append];omega
 generalize L1++L2=L3 at h3 A3 l3
 have p3:Pot J3 p:=by
  obtain⟨a',b',e',z⟩:=p1.same S2
  exact⟨a',b',b3 _ _ nl1.symm e',z⟩
 refine⟨_,rfl,.inl ⟨rfl,_,SqL.of h3⟩,?_⟩
 generalize hm60:(⟨(List.replicate (60:Int).toNat ("9":Str).cps).foldl (·++·) #[]⟩:Str)=m60
 have m60w:("0-1:"++m60:Str).length≤65∧cnt ("0-1:"++m60)≤1∧TxO ("0-1:"++m60)∧m60.length=60:=by
  rw[← hm60];exact⟨by decide +kernel,by unfold cnt;decide +kernel,by unfold TxO;decide +kernel,by decide +kernel⟩
 refine⟨"9",60,rfl,rfl,by decide,by decide,by decide +kernel,"0-1:",_,rfl,rfl,?_,(by show 10≤1000;decide),fun l4' J4 S4 f4 h4=>?_⟩
 ·rw[hm60];exact big (by have:=m60w.2.2.2;omega)
 rw[hm60] at h4
 have A4:∀ v ∈ [V.str "0-1:+1",.str "0-1:-1",.str "0 -1:1",.str "0-1: 1",.str "1",.str "01",.str "0-1:1.0",.str "0-1:1e3",.str "a-b:c",.str ("0-1:"++m60)],Wd1 v:=fun v hv=>by
  simp only [List.mem_cons,List.not_mem_nil,or_false] at hv
  rcases hv with rfl | rfl | rfl | rfl | rfl | rfl | rfl | rfl | rfl | rfl
  all_goals try exact cs _ (by decide +kernel) (by unfold cnt;decide +kernel) (by unfold TxO;decide +kernel)
  exact cs _ m60w.1 m60w.2.1 m60w.2.2.1
 generalize hL4:[V.str "0-1:+1",.str "0-1:-1",.str "0 -1:1",.str "0-1: 1",.str "1",.str "01",.str "0-1:1.0",.str "0-1:1e3",.str "a-b:c",.str ("0-1:"++m60)]=L4 at h4 A4
 have l4:L4.length=10:=by rw[← hL4];rfl
 refine⟨l1',l4',_,_,rfl,rfl,S4 _ _ h3,h4,by omega,fun J5 b5 h5=>?_⟩
 have A5:∀ v ∈ L3++L4,Wd1 v:=fun v hv=>(List.mem_append.mp hv).elim (A3 v) (A4 v)
 have l5:(L3++L4).length=28:=by rw[List.length_append];omega
 generalize L3++L4=L5 at h5 A5 l5
 have p5:Pot J5 p:=by
  obtain⟨a',b',e',z⟩:=p3.same S4
  exact⟨a',b',b5 _ _ nl1.symm e',z⟩
 refine⟨_,rfl,_,rfl,_,rfl,l1',_,rfl,.inl (SqL.of h5),p,_,rfl,p5,by rw[l5];decide,by rw[l5];decide,fun r J6 r0 r1 b6 p6=>?_⟩
 rw[l5] at r1
 have hr5:r.toNat < L5.length:=by rw[l5];omega
 obtain⟨y,ey,y1,y2,y3⟩:=A5 L5[r.toNat] (List.getElem_mem hr5)
 refine⟨l1',_,_,_,rfl,rfl,SqL.of (b6 _ _ nl1 h5),atT86 r0 (List.getElem?_eq_getElem hr5),?_⟩
 rw[ey]
 refine q y J6 (fun a o na e=>?_) p6 y1 y2 y3
 have nal:a≠l1':=ne_of_none e f1
 exact b6 _ _ na (b5 _ _ nal (S4 _ _ (b3 _ _ nal (S2 _ _ (S1 _ _ e)))))
theorem cutS (ys:List Str) (lo hi:Option Int):∃ zs:List Str,cutV (ys.map V.str) lo hi=zs.map V.str∧(∀ z ∈ zs,z ∈ ys)∧zs.length≤ys.length:=by
 refine⟨(ys.drop (HT.sIx (ys.map V.str).length 0 lo)).take (HT.sIx (ys.map V.str).length (ys.map V.str).length hi - HT.sIx (ys.map V.str).length 0 lo),?_,fun z hz=>List.mem_of_mem_drop (List.mem_of_mem_take hz),?_⟩
 ·unfold cutV
  rw[List.map_take,List.map_drop]
 ·rw[List.length_take,List.length_drop];omega
def spOther87:Sp:=fun vs H Q _=>∃ (p:Addr) (n:Int) (ws:List (List Nat)),vs=[.ref p,.int n,.str (Tx.ofL (Tx.jn 32 ws))]∧Pot H p∧1≤n∧n≤24∧ws≠[]∧ws.length≤61∧(∀ w ∈ ws,32 ∉ w∧w.length≤59∧∀ d ∈ w,d < 1114112) ∧
 ∀ x H',But p H H'->Pot H' p->TxF x->Q (.str x) H'
theorem ok__law_other87 (T:Bi mg) (D:DefOk K mg "_law_other" s__law_other ["pot","n","text"]) (O__law_take:Ok P w K mg base 2 "_law_take" ["pot","many"] spTake) (O__law_signs:Ok P w K mg base 2 "_law_signs" [] spSigns) (O__law_word:Ok P w K mg base 2 "_law_word" ["pot","n"] spWord87):Ok P w K mg base 3 "_law_other" ["pot","n","text"] spOther87:=by
 refine mk_ok (k:=2) D sc__law_other (fun vs H Q E h=>?_) (fun f cdv A outer s H vs Q E hr h=>?_)
 ·obtain⟨p,n,ws,rfl,_⟩:=h
  rfl
 obtain⟨p,n,ws,rfl,hp,n1,n24,wne,wl,hw,q⟩:=h
 have nd:=sc__law_other.nd
 refine⟨_,(BSs.h (bss_cons (bs_set (i:=3) nd rfl (Or.inl rfl) (BE.mk (pe_callD O__law_take hr rfl (pa_cons (pv 0) (pa_cons pe_int pa_nil))))) (bss_cons (bs_set (i:=4) nd rfl (Or.inl rfl) (BE.mk (pe_callD0 O__law_signs hr rfl))) (bss_cons (bs_set (i:=5) nd rfl (Or.inl rfl) (be_ix ix_str (BE.mk (pv 4)) (BE.mk (pe_callD O__law_take hr rfl (pa_cons (pv 0) (pa_cons (pe_callB call_len_str rfl T.z_len (by decide +kernel) (pa_cons (pv 4) pa_nil)) pa_nil)))) (fun _ _=>rfl))) (bss_cons (bs_set (i:=6) nd rfl (Or.inl rfl) (BE.mk (pe_callD O__law_take hr rfl (pa_cons (pv 0) (pa_cons (pe_op op_add (pe_callB call_len_str rfl T.z_len (by decide +kernel) (pa_cons (pv 2) pa_nil)) pe_int) pa_nil))))) (bss_cons (bs_if (pt_cmpR op_eq (pv 3) pe_int (nomark _)) (bss_one (bs_ret (be_op op_add_str (be_op op_add_str (BE.mk (pe_slice sl_str (pv 2) po_none (po_some (pv 6)))) (BE.mk (pv 5))) (BE.mk (pe_slice sl_str (pv 2) (po_some (pv 6)) po_none))))) bss_nil) (bss_cons (bs_if (pt_cmpR op_eq (pv 3) pe_int (nomark _)) (bss_one (bs_ret (be_op op_add_str (BE.mk (pe_slice sl_str (pv 2) po_none (po_some (pv 6)))) (BE.mk (pe_slice sl_str (pv 2) (po_some (pe_op op_add (pv 6) pe_int)) po_none))))) bss_nil) (bss_cons (bs_if (pt_cmpR op_eq (pv 3) pe_int (nomark _)) (bss_one (bs_ret (be_op op_add_str (be_op op_add_str (BE.mk (pe_slice sl_str (pv 2) po_none (po_some (pv 6)))) (BE.mk (pv 5))) (BE.mk (pe_slice sl_str (pv 2) (po_some (pe_op op_add (pv 6) pe_int)) po_none))))) bss_nil) (bss_cons (bs_set (i:=7) nd rfl (Or.inl rfl) (BE.mk (pe_bm PySem.F.plainAttrs_str PySem.F.slot_str_split PySem.F.type_str_split mt_split (pv 2) (pa_cons pe_str pa_nil)))) (bss_cons (bs_set (i:=6) nd rfl (Or.inl rfl) (BE.mk (pe_callD O__law_take hr rfl (pa_cons (pv 0) (pa_cons (pe_callB call_len_seq rfl T.z_len (by decide +kernel) (pa_cons (pv 7) pa_nil)) pa_nil))))) (bss_cons (bs_if (pt_cmpR op_eq (pv 3) pe_int (nomark _)) (bss_one (bs_set (i:=7) nd rfl (Or.inl rfl) (be_op op_catL (BE.mk (pe_slice sl_list (pv 7) po_none (po_some (pv 6)))) (BE.mk (pe_slice sl_list (pv 7) (po_some (pe_op op_add (pv 6) pe_int)) po_none))))) (bss_one (bs_if (pt_cmpR op_eq (pv 3) pe_int (nomark _)) (bss_one (bs_set (i:=7) nd rfl (Or.inl rfl) (be_op op_catL (BE.mk (pe_slice sl_list (pv 7) po_none (po_some (pe_op op_add (pv 6) pe_int)))) (BE.mk (pe_slice sl_list (pv 7) (po_some (pv 6)) po_none))))) (bss_one (bs_if (pt_cmpR op_eq (pv 3) pe_int (nomark _)) (bss_one (bs_set (i:=7) nd rfl (Or.inl rfl) (be_op op_catL (be_op op_catL (BE.mk (pe_slice sl_list (pv 7) po_none (po_some (pv 6)))) (BE.mk (pe_sliceB sb_list (pe_slice sl_list (pv 7) (po_some (pv 6)) (po_some (pe_op op_add (pv 6) pe_int))) po_none (pe_un un_neg pe_int)))) (BE.mk (pe_slice sl_list (pv 7) (po_some (pe_op op_add (pv 6) pe_int)) po_none))))) (bss_one (BS.mk (ps_expr (pe_bm PySem.F.plainAttrs_list PySem.F.slot_list_insert PySem.F.type_list_insert mt_insert (pv 7) (pa_cons (pv 6) (pa_cons (pe_callD O__law_word hr rfl (pa_cons (pv 0) (pa_cons (pv 1) pa_nil))) pa_nil))))))))))) (bss_one (bs_ret (BE.mk (pe_bm PySem.F.plainAttrs_str PySem.F.slot_str_join PySem.F.type_str_join mt_join pe_str (pa_cons (pv 7) pa_nil)))))))))))))))),?_⟩
 generalize ex:Tx.ofL (Tx.jn 32 ws)=x at *
 have sp:=Tx.split_words (x:=x) (c:=32) (ws:=ws) (by decide) wne (fun w h=>(hw w h).1) (by rw[← ex,Tx.list_ofL])
 have wo:∀ y ∈ ws.map Tx.ofL,y.length≤59∧cnt y=0∧TxO y:=fun y hy=>by
  obtain⟨w,hw',rfl⟩:=List.mem_map.mp hy
  exact⟨by rw[Tx.ofL_len];exact (hw w hw').2.1,by unfold cnt;rw[Tx.list_ofL,List.count_eq_zero];exact (hw w hw').1,fun d hd=>(hw w hw').2.2 d (by rw[Tx.list_ofL] at hd;exact hd)⟩
 have wtot:tot (ws.map Tx.ofL)≤3660:=by
  have:=tot_le (m:=59) (l:=ws.map Tx.ofL) fun y hy=>(wo y hy).1
  rw[List.length_map] at this
  omega
 have xo:TxO x:=by rw[← ex];intro d hd;rw[Tx.list_ofL] at hd;exact TxO.jn (by decide) (fun w h=>(hw w h).2.2) d hd
 have xl:x.length≤3660:=by
  rw[← ex,← glueC]
  exact Nat.le_trans (join_len 32 _) wtot
 have c0:∀ ys:List Str,(∀ y ∈ ys,cnt y=0)->(ys.map cnt).sum=0:=fun ys h=>by
  induction ys with
  | nil=>rfl
  | cons y r ih=>rw[List.map_cons,List.sum_cons,h y List.mem_cons_self,ih fun z hz=>h z (List.mem_cons_of_mem _ hz)]
 have xc:cnt x≤61:=by
  rw[← ex];unfold cnt;rw[Tx.list_ofL]
  have:=jn_cnt 32 ws
  have e:(ws.map (List.count 32)).sum=0:=by
   have:=c0 (ws.map Tx.ofL) fun y hy=>(wo y hy).2.1
   rw[List.map_map] at this
   refine Eq.trans (congrArg List.sum (List.map_congr_left fun w _=>?_)) this
   show _=(Tx.ofL w).cps.toList.count 32
   rw[Tx.list_ofL]
  omega
 have big:∀ {n:Nat},n≤10000->n≤sizeLine:=fun h=>Nat.le_trans h (by decide)
 have sl:=fun lo hi=>Txt.slice_le x lo hi
 have so:=fun lo hi=>xo.slice lo hi
 have app:∀ (a b:Str),(a++b).length=a.length + b.length:=fun a b=>by
  show (a++b).cps.size=_
  rw[Str.cps_append,Array.size_append];rfl
 have e32:(" ":Str)=Tx.ofL [32]:=by decide +kernel
 have wf:∀ ys:List Str,(∀ y ∈ ys,y ∈ ws.map Tx.ofL)->ys.length≤130->WdF ys:=fun ys h l=>by
  have:=tot_le (m:=59) (l:=ys) fun y hy=>(wo y (h y hy)).1
  exact⟨by omega,by rw[c0 ys fun y hy=>(wo y (h y hy)).2.1];omega,fun y hy=>(wo y (h y hy)).2.2⟩
 have jend:∀ (J:Hp) (ys:List Str),But p H J->Pot J p->WdF ys->JoinOk (" ":Str) ys=true∧Q (.str (Txt.join " " ys)) J:=fun J ys b pj h=>by
  obtain⟨h1,h2⟩:=h.join
  rw[e32]
  exact⟨h1,q _ J b pj h2⟩
 refine⟨_,rfl,p,7,rfl,hp,by decide,by decide,fun way H1 y0 y1 b1 p1=>?_⟩
 refine⟨rfl,fun z zl zo=>?_⟩
 refine⟨_,rfl,_,rfl,_,rfl,z,rfl,big (by omega),p,_,rfl,p1,by omega,by omega,fun r2 H2 r20 r21 b2 p2=>?_⟩
 have r2l:r2.toNat < z.cps.toList.length:=by rw[Array.length_toList];show r2.toNat < z.length;omega
 have hsg:=List.getElem?_eq_getElem r2l
 have sgo:TxO (⟨#[z.cps.toList[r2.toNat]]⟩:Str):=fun d hd=>by rw[show d=z.cps.toList[r2.toNat] by simpa using hd];exact zo _ (List.getElem_mem r2l)
 refine⟨z,r2,z.cps.toList[r2.toNat],rfl,rfl,big (by omega),atT86 r20 hsg,?_⟩
 generalize z.cps.toList[r2.toNat]=sg at *
 have sgl:(⟨#[sg]⟩:Str).length=1:=rfl
 have sgc:=cnt_one sg
 refine⟨_,rfl,_,rfl,x,rfl,big (by omega),_,_,rfl,rfl,p,_,rfl,p2,by omega,by omega,fun r3 H3 r30 r31 b3 p3=>?_⟩
 obtain⟨k3,rfl⟩:∃ k:Nat,r3=k:=⟨r3.toNat,by omega⟩
 have k3l:k3≤x.length:=by omega
 have e31:((k3:Int) + 1)=((k3 + 1:Nat):Int):=by omega
 have b03:=b1.trans (b2.trans b3)
 have ct:=cnt_take k3l
 have cd:=cnt_drop x k3
 have cd1:=cnt_drop x (k3 + 1)
 have t1:=sl none (some (k3:Int))
 have t2:=sl (some (k3:Int)) none
 have t3:=sl (some ((k3 + 1:Nat):Int)) none
 refine⟨_,rfl,rfl,_,rfl,?_⟩
 by_cases w0:way=0
 ·refine iteTq (decide_eq_true (congrArg V.int w0)) ?_
  refine⟨_,rfl,_,rfl,_,rfl,x,rfl,big (by omega),_,rfl,Txt.slice x none (some (k3:Int)),⟨#[sg]⟩,rfl,rfl,big (by omega),?_⟩
  refine⟨_,rfl,_,rfl,_,rfl,x,rfl,big (by omega),_,Txt.slice x (some (k3:Int)) none,rfl,rfl,big (by rw[app];omega),?_⟩
  exact q _ H3 b03 p3 ⟨by rw[app,app];omega,by rw[show (Txt.slice x none (some (k3:Int))++⟨#[sg]⟩++Txt.slice x (some (k3:Int)) none).cps.toList.count 32=cnt (Txt.slice x none (some (k3:Int))++⟨#[sg]⟩++Txt.slice x (some (k3:Int)) none) from rfl,cnt_app,cnt_app];omega,((so _ _).app sgo).app (so _ _)⟩
 refine iteFq (decide_eq_false fun y=>w0 (by injection y)) ⟨_,rfl,rfl,_,rfl,?_⟩
 by_cases w1:way=1
 ·refine iteTq (decide_eq_true (congrArg V.int w1)) ?_
  refine⟨_,rfl,_,rfl,_,rfl,x,rfl,big (by omega),?_⟩
  refine⟨_,rfl,_,rfl,_,_,rfl,rfl,_,rfl,x,rfl,big (by omega),Txt.slice x none (some (k3:Int)),Txt.slice x (some ((k3:Int) + 1)) none,rfl,rfl,?_,?_⟩
  ·rw[e31];exact big (by omega)
  rw[e31]
  exact q _ H3 b03 p3 ⟨by rw[app];omega,by rw[show (Txt.slice x none (some (k3:Int))++Txt.slice x (some ((k3 + 1:Nat):Int)) none).cps.toList.count 32=cnt (Txt.slice x none (some (k3:Int))++Txt.slice x (some ((k3 + 1:Nat):Int)) none) from rfl,cnt_app];omega,(so _ _).app (so _ _)⟩
 refine iteFq (decide_eq_false fun y=>w1 (by injection y)) ⟨_,rfl,rfl,_,rfl,?_⟩
 by_cases w2:way=2
 ·refine iteTq (decide_eq_true (congrArg V.int w2)) ?_
  refine⟨_,rfl,_,rfl,_,rfl,x,rfl,big (by omega),_,rfl,Txt.slice x none (some (k3:Int)),⟨#[sg]⟩,rfl,rfl,big (by omega),?_⟩
  refine⟨_,rfl,_,rfl,_,_,rfl,rfl,_,rfl,x,rfl,big (by omega),_,Txt.slice x (some ((k3:Int) + 1)) none,rfl,rfl,?_,?_⟩
  ·rw[e31];exact big (by rw[app];omega)
  rw[e31]
  exact q _ H3 b03 p3 ⟨by rw[app,app];omega,by rw[show (Txt.slice x none (some (k3:Int))++⟨#[sg]⟩++Txt.slice x (some ((k3 + 1:Nat):Int)) none).cps.toList.count 32=cnt (Txt.slice x none (some (k3:Int))++⟨#[sg]⟩++Txt.slice x (some ((k3 + 1:Nat):Int)) none) from rfl,cnt_app,cnt_app];omega,((so _ _).app sgo).app (so _ _)⟩
 refine iteFq (decide_eq_false fun y=>w2 (by injection y)) ?_
 refine⟨_,rfl,rfl,x,32,rfl,congrArg (fun z:Str=>[V.str z]) e32,by omega,fun lw J4 S4 f4 h4=>?_⟩
 rw[sp] at h4
 have p4:=p3.same S4
 have wl1:1≤ws.length:=List.length_pos_iff.mpr wne
 have ln:((ws.map Tx.ofL).map V.str).length=ws.length:=by rw[List.length_map,List.length_map]
 have npot:∀ {J:Hp} {b:Addr},Pot J p->J b=none->b≠p:=fun pp hb z=>by
  obtain⟨xs,e⟩:=pp.lst
  rw[z,e] at hb;cases hb
 have nlw:lw≠p:=npot p3 f4
 refine⟨_,rfl,_,rfl,lw,_,rfl,.inl (SqL.of h4),p,_,rfl,p4,by rw[ln];omega,by rw[ln];omega,fun r5 H5 r50 r51 b5 p5=>?_⟩
 rw[ln] at r51
 have h5:=b5 _ _ nlw h4
 have b05:But p H H5:=b03.trans ((Same.but S4).trans b5)
 refine⟨_,rfl,rfl,_,rfl,?_⟩
 obtain⟨k5,rfl⟩:∃ k:Nat,r5=k:=⟨r5.toNat,by omega⟩
 by_cases w3:way=3
 ·refine iteTq (decide_eq_true (congrArg V.int w3)) ?_
  refine⟨_,rfl,_,rfl,_,rfl,lw,_,rfl,SqL.of h5,fun l6 hl6=>?_⟩
  obtain⟨z1,e1,m1,n1'⟩:=cutS (ws.map Tx.ofL) none (some (k5:Int))
  rw[e1]
  have S6:Same H5 (upd H5 l6 (.lst (z1.map V.str))):=same_new hl6
  refine⟨_,rfl,_,rfl,_,_,rfl,rfl,_,rfl,lw,_,rfl,SqL.of (S6 _ _ h5),fun l7 hl7=>?_⟩
  obtain⟨z2,e2,m2,n2'⟩:=cutS (ws.map Tx.ofL) (some ((k5:Int) + 1)) none
  rw[e2]
  have S7:Same (upd H5 l6 (.lst (z1.map V.str))) (upd (upd H5 l6 (.lst (z1.map V.str))) l7 (.lst (z2.map V.str))):=same_new hl7
  rw[List.length_map] at n1' n2'
  refine⟨l6,l7,_,_,rfl,rfl,S7 _ _ upd_same,upd_same,by simp only [List.length_map];omega,fun l8 J8 S8 f8 h8=>?_⟩
  rw[← List.map_append] at h8
  obtain⟨j1,j2⟩:=jend J8 (z1++z2) (b05.trans (Same.but (S6.trans (S7.trans S8)))) (p5.same (S6.trans (S7.trans S8))) (wf _ (fun y hy=>(List.mem_append.mp hy).elim (m1 y) (m2 y)) (by rw[List.length_append];omega))
  exact⟨rfl,_,rfl,_,l8,_,rfl,rfl,h8,j1,j2⟩
 refine iteFq (decide_eq_false fun y=>w3 (by injection y)) ⟨_,rfl,rfl,_,rfl,?_⟩
 by_cases w4:way=4
 ·refine iteTq (decide_eq_true (congrArg V.int w4)) ?_
  refine⟨_,rfl,_,rfl,_,_,rfl,rfl,_,rfl,lw,_,rfl,SqL.of h5,fun l6 hl6=>?_⟩
  obtain⟨z1,e1,m1,n1'⟩:=cutS (ws.map Tx.ofL) none (some ((k5:Int) + 1))
  rw[e1]
  have S6:Same H5 (upd H5 l6 (.lst (z1.map V.str))):=same_new hl6
  refine⟨_,rfl,_,rfl,_,rfl,lw,_,rfl,SqL.of (S6 _ _ h5),fun l7 hl7=>?_⟩
  obtain⟨z2,e2,m2,n2'⟩:=cutS (ws.map Tx.ofL) (some (k5:Int)) none
  rw[e2]
  have S7:Same (upd H5 l6 (.lst (z1.map V.str))) (upd (upd H5 l6 (.lst (z1.map V.str))) l7 (.lst (z2.map V.str))):=same_new hl7
  rw[List.length_map] at n1' n2'
  refine⟨l6,l7,_,_,rfl,rfl,S7 _ _ upd_same,upd_same,by simp only [List.length_map];omega,fun l8 J8 S8 f8 h8=>?_⟩
  rw[← List.map_append] at h8
  obtain⟨j1,j2⟩:=jend J8 (z1++z2) (b05.trans (Same.but (S6.trans (S7.trans S8)))) (p5.same (S6.trans (S7.trans S8))) (wf _ (fun y hy=>(List.mem_append.mp hy).elim (m1 y) (m2 y)) (by rw[List.length_append];omega))
  exact⟨rfl,_,rfl,_,l8,_,rfl,rfl,h8,j1,j2⟩
 refine iteFq (decide_eq_false fun y=>w4 (by injection y)) ⟨_,rfl,rfl,_,rfl,?_⟩
 by_cases w5:way=5
 ·refine iteTq (decide_eq_true (congrArg V.int w5)) ?_
  refine⟨_,rfl,_,rfl,_,rfl,lw,_,rfl,SqL.of h5,fun l6 hl6=>?_⟩
  rw[cut_toK,← List.map_take]
  have S6:Same H5 (upd H5 l6 (.lst (((ws.map Tx.ofL).take k5).map V.str))):=same_new hl6
  refine⟨_,rfl,_,rfl,_,rfl,_,rfl,_,_,rfl,rfl,_,rfl,lw,_,rfl,SqL.of (S6 _ _ h5),fun l7 hl7=>?_⟩
  obtain⟨z2,e2,m2,n2'⟩:=cutS (ws.map Tx.ofL) (some (k5:Int)) (some ((k5:Int) + 2))
  rw[e2]
  have S7:Same (upd H5 l6 (.lst (((ws.map Tx.ofL).take k5).map V.str))) (upd (upd H5 l6 (.lst (((ws.map Tx.ofL).take k5).map V.str))) l7 (.lst (z2.map V.str))):=same_new hl7
  refine⟨_,rfl,rfl,l7,_,0,rfl,upd_same,.inl ⟨rfl,rfl⟩,fun l8 J8 S8 f8 h8=>?_⟩
  rw[List.drop_zero,← List.map_reverse] at h8
  rw[List.length_map] at n2'
  have lt5:((ws.map Tx.ofL).take k5).length≤k5:=List.length_take_le _ _
  refine⟨l6,l8,_,_,rfl,rfl,S8 _ _ (S7 _ _ upd_same),h8,by simp only [List.length_map,List.length_reverse];omega,fun l9 J9 S9 f9 h9=>?_⟩
  rw[← List.map_append] at h9
  have S69:=S6.trans (S7.trans (S8.trans S9))
  refine⟨_,rfl,_,rfl,_,_,rfl,rfl,_,rfl,lw,_,rfl,SqL.of (S69 _ _ h5),fun l10 hl10=>?_⟩
  rw[show ((k5:Int) + 2)=((k5 + 2:Nat):Int) by omega,cut_fromK,← List.map_drop]
  have ld5:((ws.map Tx.ofL).drop (k5 + 2)).length=ws.length - (k5 + 2):=by rw[List.length_drop,List.length_map]
  have S10:Same J9 (upd J9 l10 (.lst (((ws.map Tx.ofL).drop (k5 + 2)).map V.str))):=same_new hl10
  refine⟨l9,l10,_,_,rfl,rfl,S10 _ _ h9,upd_same,by simp only [List.length_map,List.length_append,List.length_reverse];omega,fun l11 J11 S11 f11 h11=>?_⟩
  rw[← List.map_append] at h11
  have Sx:=S69.trans (S10.trans S11)
  have mem:∀ y ∈ (ws.map Tx.ofL).take k5++z2.reverse++(ws.map Tx.ofL).drop (k5 + 2),y ∈ ws.map Tx.ofL:=fun y hy=>by
   rcases List.mem_append.mp hy with hy | hy
   ·rcases List.mem_append.mp hy with hy | hy
    ·exact List.mem_of_mem_take hy
    ·exact m2 y (List.mem_reverse.mp hy)
   ·exact List.mem_of_mem_drop hy
  obtain⟨j1,j2⟩:=jend J11 _ (b05.trans (Same.but Sx)) (p5.same Sx) (wf _ mem (by simp only [List.length_append,List.length_reverse];omega))
  exact⟨rfl,_,rfl,_,l11,_,rfl,rfl,h11,j1,j2⟩
 refine iteFq (decide_eq_false fun y=>w5 (by injection y)) ?_
 refine⟨_,rfl,.inl ⟨rfl,_,SqL.of h5⟩,_,rfl,_,rfl,_,rfl,p,n,rfl,p5,n1,n24,fun y H7 b7 p7 yl yc yo=>?_⟩
 refine⟨lw,_,k5,_,rfl,rfl,b7 _ _ nlw h5,by rw[ln];omega,by rw[ln];omega,fun J8 b8 h8=>?_⟩
 rw[← List.map_take,← List.map_drop,← List.map_cons (f:=V.str),← List.map_append] at h8
 have f0:H lw=none∨lw=p:=by
  cases e:H lw with
  | none=>exact .inl rfl
  | some o =>
   by_cases z:lw=p
   ·exact .inr z
   ·have:=b03 _ _ z e
    rw[this] at f4;cases f4
 have bb:But p H J8:=fun a o na e=>by
  have nal:a≠lw:=fun z=>by
   rcases f0 with f0 | f0
   ·rw[z,f0] at e;cases e
   ·exact nlw f0
  exact b8 _ _ nal (b7 _ _ na (b05 _ _ na e))
 have p8:Pot J8 p:=by
  obtain⟨a',b',e',z⟩:=p7
  exact⟨a',b',b8 _ _ nlw.symm e',z⟩
 have wd:WdF ((ws.map Tx.ofL).take k5++y::(ws.map Tx.ofL).drop k5):=by
  refine⟨?_,?_,fun u hu=>?_⟩
  ·rw[tot_app]
   have e:tot ((ws.map Tx.ofL).take k5) + tot ((ws.map Tx.ofL).drop k5)=tot (ws.map Tx.ofL):=by rw[← tot_app,List.take_append_drop]
   have:tot (y::(ws.map Tx.ofL).drop k5)=y.length + 1 + tot ((ws.map Tx.ofL).drop k5):=by unfold tot;rw[List.map_cons,List.sum_cons]
   omega
  ·rw[List.map_append,List.sum_append,List.map_cons,List.sum_cons,c0 _ (fun u hu=>(wo u (List.mem_of_mem_take hu)).2.1),c0 _ (fun u hu=>(wo u (List.mem_of_mem_drop hu)).2.1),List.length_append,List.length_cons,List.length_take,List.length_drop,List.length_map]
   omega
  ·rcases List.mem_append.mp hu with hu | hu
   ·exact (wo u (List.mem_of_mem_take hu)).2.2
   ·rcases List.mem_cons.mp hu with rfl | hu
    ·exact yo
    ·exact (wo u (List.mem_of_mem_drop hu)).2.2
 obtain⟨j1,j2⟩:=jend J8 _ bb p8 wd
 exact⟨rfl,_,rfl,_,lw,_,rfl,rfl,h8,j1,j2⟩
def spLaw (K:PySem.W.Frag):Sp:=fun vs H Q _=>∃ (a:Addr) (ns:List Int),vs=[.ref a]∧SqL K H a (ns.map V.int)∧ns.length≤63∧∀ H',Q (.bl true) H'
theorem depth_ints:∀ l:List Int,PyData.depth (.tuple (l.map PyData.int))≤2:=fun l=>by
 have:∀ l:List Int,PyData.depthAll (l.map PyData.int)≤1:=fun l=>by
  induction l with
  | nil=>exact Nat.zero_le _
  | cons x r ih=>show max (PyData.depth (.int x)) (PyData.depthAll (r.map .int))≤1;exact Nat.max_le.mpr ⟨Nat.zero_le _,ih⟩
 show PyData.depthAll (l.map PyData.int) + 1≤2
 have:=this l
 omega
theorem lay_web:∀ ts:List Tie,PyData.canLayAll0 (ts.map tieD)=true
 | []=>rfl
 | t::r=>by
  show (PyData.canLay0 (tieD t) && PyData.canLayAll0 (r.map tieD))=true
  rw[lay_web r];rfl
theorem lay_webD (n:Int) (ts:List Tie):(webD n ts).canLay0=true:=by
 show (true && (PyData.canLayAll0 (ts.map tieD) && true))=true
 rw[lay_web];rfl
theorem depth_webD (n:Int) (ts:List Tie):(webD n ts).depth≤4:=by
 have d1:∀ t:Tie,(tieD t).depth≤2:=fun t=>depth_ints (tieI t)
 have d2:PyData.depthAll (ts.map tieD)≤2:=by
  induction ts with
  | nil=>exact Nat.zero_le _
  | cons t r ih=>show max (tieD t).depth (PyData.depthAll (r.map tieD))≤2;exact Nat.max_le.mpr ⟨d1 t,ih⟩
 show max (0:Nat) (max (PyData.depthAll (ts.map tieD) + 1) 0) + 1≤4
 omega
theorem lay_W (o:Option (Int × List Tie)):(dataW o).canLay0=true:=by
 cases o with
 | none=>rfl
 | some p=>exact lay_webD p.1 p.2
theorem depth_W (o:Option (Int × List Tie)):(dataW o).depth≤4:=by
 cases o with
 | none=>exact Nat.zero_le _
 | some p=>exact depth_webD p.1 p.2
theorem digs_free {c:Nat} (h:c < 48∨57 < c) (m:Nat):c ∉ Tx.digs m:=fun z=>by have:=Tx.digs_fig m c z;omega
theorem wr_num {m:Nat} (h:m < 10 ^ 19):isWr (Tx.ofL (Tx.digs m))=true∧numW (Tx.ofL (Tx.digs m))=m:=⟨num_isW h,numW_digs (Nat.le_trans (Tx.digs_len 18 m h) (by decide))⟩
theorem tie_back {t:Tie} (h:tieOk t):tieR (Tx.ofL (tieT t))=some t:=by
 obtain⟨a0,a1,b0,b1,c0,c1⟩:=h
 obtain⟨wa,na⟩:=wr_num (m:=t.1.toNat) (by omega)
 obtain⟨wb,nb⟩:=wr_num (m:=t.2.1.toNat) (by omega)
 obtain⟨wc,nc⟩:=wr_num (m:=t.2.2.toNat) (by omega)
 have nf:NF (Tx.ofL (tieT t)) (Tx.ofL (Tx.digs t.1.toNat)) (Tx.ofL (Tx.digs t.2.1.toNat)) (Tx.ofL (Tx.digs t.2.2.toNat)):=⟨by simp only [Tx.list_ofL];simp [tieT],wa,wb,wc⟩
 rw[nf.prog,na,nb,nc,Int.toNat_of_nonneg a0,Int.toNat_of_nonneg b0,Int.toNat_of_nonneg c0]
theorem tieT_free {t:Tie}:32 ∉ tieT t:=by
 intro z
 unfold tieT at z
 rcases List.mem_append.mp z with z | z
 ·exact digs_free (by decide) _ z
 ·rcases List.mem_cons.mp z with z | z
  ·cases z
  ·rcases List.mem_append.mp z with z | z
   ·exact digs_free (by decide) _ z
   ·rcases List.mem_cons.mp z with z | z
    ·cases z
    ·exact digs_free (by decide) _ z
theorem tieT_sgn {t:Tie}:∀ d ∈ tieT t,d < 1114112:=by
 intro d z
 unfold tieT at z
 rcases List.mem_append.mp z with z | z
 ·exact TxO.digs _ d z
 ·rcases List.mem_cons.mp z with rfl | z
  ·decide
  ·rcases List.mem_append.mp z with z | z
   ·exact TxO.digs _ d z
   ·rcases List.mem_cons.mp z with rfl | z
    ·decide
    ·exact TxO.digs _ d z
theorem split_web (n:Int) (ts:List Tie):Txt.split (Tx.ofL (webT n ts)) ⟨#[32]⟩=Tx.ofL (Tx.digs n.toNat)::(ts.map fun t=>Tx.ofL (tieT t)):=by
 have:=Tx.split_words (x:=Tx.ofL (webT n ts)) (c:=32) (ws:=Tx.digs n.toNat::ts.map tieT) (by decide) (by simp) (fun w hw=>by
  rcases List.mem_cons.mp hw with rfl | hw
  ·exact digs_free (by decide) _
  ·obtain⟨t,_,rfl⟩:=List.mem_map.mp hw
   exact tieT_free) (by rw[Tx.list_ofL];rfl)
 rw[this,List.map_cons,List.map_map];rfl
theorem ties_back {ts:List Tie} (h:∀ t ∈ ts,tieOk t):(ts.map fun t=>Tx.ofL (tieT t)).map (fun w=>(tieR w).getD (0,0,0))=ts:=by
 rw[List.map_map]
 conv=>rhs;rw[← List.map_id ts]
 exact List.map_congr_left fun t ht=>by show (tieR (Tx.ofL (tieT t))).getD (0,0,0)=t;rw[tie_back (h t ht)];rfl
theorem web_back {n:Int} {ts:List Tie} (ok:WebOk n ts):webR (Tx.ofL (webT n ts))=some (n,ts):=by
 have n1:=ok.n1
 have n24:=ok.n24
 have tk:∀ t ∈ ts,tieOk t:=fun t ht=>tie_okW ok ht
 obtain⟨yes,_⟩:=webR_iff (split_web n ts)
 obtain⟨wn,nn⟩:=wr_num (m:=n.toNat) (by omega)
 rw[nn,ties_back tk,Int.toNat_of_nonneg (by omega)] at yes
 exact yes ⟨wn,fun w hw=>by
  obtain⟨t,ht,rfl⟩:=List.mem_map.mp hw
  rw[tie_back (tk t ht)];simp,webB_true ok⟩
theorem web_many {n:Int} {ts:List Tie} (tk:∀ t ∈ ts,tieOk t) (l:60 < ts.length):webR (Tx.ofL (webT n ts))=none:=by
 obtain⟨_,no⟩:=webR_iff (split_web n ts)
 refine no fun z=>?_
 have:=((webB_iff _ _).mp z.2.2).2.1
 rw[ties_back tk] at this
 omega
theorem webT_f {n:Int} {ts:List Tie} (n0:0≤n) (n24:n≤24) (tk:∀ t ∈ ts,tieOk t) (l:ts.length≤61):TxF (Tx.ofL (webT n ts))∧WdF (Tx.ofL (Tx.digs n.toNat)::(ts.map fun t=>Tx.ofL (tieT t))):=by
 have wl:∀ w ∈ Tx.ofL (Tx.digs n.toNat)::(ts.map fun t=>Tx.ofL (tieT t)),w.length≤59∧cnt w=0∧TxO w:=fun w hw=>by
  rcases List.mem_cons.mp hw with rfl | hw
  ·refine⟨by rw[Tx.ofL_len];have:=small_len (m:=n.toNat) (by omega);omega,by unfold cnt;rw[Tx.list_ofL,List.count_eq_zero];exact digs_free (by decide) _,fun d hd=>TxO.digs _ d (by rw[Tx.list_ofL] at hd;exact hd)⟩
  ·obtain⟨t,ht,rfl⟩:=List.mem_map.mp hw
   exact⟨by rw[Tx.ofL_len];exact tieT_len (tk t ht),by unfold cnt;rw[Tx.list_ofL,List.count_eq_zero];exact tieT_free,fun d hd=>tieT_sgn d (by rw[Tx.list_ofL] at hd;exact hd)⟩
 have ll:(Tx.ofL (Tx.digs n.toNat)::(ts.map fun t=>Tx.ofL (tieT t))).length≤62:=by rw[List.length_cons,List.length_map];omega
 have c0:((Tx.ofL (Tx.digs n.toNat)::(ts.map fun t=>Tx.ofL (tieT t))).map cnt).sum=0:=by
  have:∀ ys:List Str,(∀ y ∈ ys,cnt y=0)->(ys.map cnt).sum=0:=fun ys h=>by
   induction ys with
   | nil=>rfl
   | cons y r ih=>rw[List.map_cons,List.sum_cons,h y List.mem_cons_self,ih fun z hz=>h z (List.mem_cons_of_mem _ hz)]
  exact this _ fun y hy=>(wl y hy).2.1
 have wd:WdF (Tx.ofL (Tx.digs n.toNat)::(ts.map fun t=>Tx.ofL (tieT t))):=⟨by have:=tot_le (m:=59) fun y hy=>(wl y hy).1;omega,by omega,fun y hy=>(wl y hy).2.2⟩
 have e:Tx.ofL (webT n ts)=Txt.join (Tx.ofL [32]) (Tx.ofL (Tx.digs n.toNat)::(ts.map fun t=>Tx.ofL (tieT t))):=by
  have:=glueC 32 (Tx.digs n.toNat::ts.map tieT)
  rw[List.map_cons,List.map_map] at this
  exact this.symm
 exact⟨by rw[e];exact wd.join.2,wd⟩
def tkT (k:Nat):Tie:=((k / 5:Nat),((6 + k / 5 + k % 5:Nat):Int),((k + 1:Nat):Int))
theorem tkT_ok {k:Nat} (h:k < 61):tieOk (tkT k):=by
 unfold tieOk tkT
 simp only
 omega
theorem ok_law {f:Addr} {fd:FuncData} (T:Bi mg) (F:Fun K "law" "law" s_law f fd) (O__law_pot:Ok P w K mg base 7 "_law_pot" ["script","k"] (spPot K)) (O__law_take:Ok P w K mg base 7 "_law_take" ["pot","many"] spTake) (O__law_web:Ok P w K mg base 7 "_law_web" ["pot","most"] (spWeb K)) (O__law_written:Ok P w K mg base 7 "_law_written" ["web"] (spWebTx K))
  (O__law_other:Ok P w K mg base 7 "_law_other" ["pot","n","text"] spOther87) (O__law_told:Ok P w K mg base 7 "_law_told" ["thing"] (spTold87 K)) (O__law_read:Ok P w K mg base 7 "_law_read" ["text"] (spReadL87 K)):FnOk P w K mg base CX0 8 f fd ["script"] (spLaw K):=by
 refine F.ok (k:=7) sc_law (fun vs H Q E h=>?_) (fun cdv A outer s H vs Q E hr h=>?_)
 ·obtain⟨a,ns,rfl,_⟩:=h
  rfl
 obtain⟨a,ns,rfl,hS,h63,q⟩:=h
 have nd:=sc_law.nd
 have units:∀ {u:Nat},u≤4->(A.deeper (envOfC "law" (defScope s_law) s.heap.objs.size f cdv)).units + u < cLine:=fun {u} hu=>by have:=hr.units;omega
 have hl:(ns.map V.int).length=ns.length:=List.length_map _
 refine⟨_,(BSs.h (bss_cons (bs_forB PassesOwn.never rfl (pi_range1 rfl T.z_range (pa_cons (pe_callB (call_max2 rfl) rfl T.z_max (by decide +kernel) (pa_cons pe_int (pa_cons (pe_callB (call_min2 rfl) rfl T.z_min (by decide +kernel) (pa_cons pe_int (pa_cons (pe_callB call_len_seq rfl T.z_len (by decide +kernel) (pa_cons (pv 0) pa_nil)) pa_nil))) pa_nil))) pa_nil)) (pg_name (i:=1) nd rfl (Or.inl rfl)) (bss_cons (bs_set (i:=2) nd rfl (Or.inl rfl) (BE.mk (pe_callD O__law_pot hr rfl (pa_cons (pv 0) (pa_cons (pv 1) pa_nil))))) (bss_cons (bs_set (i:=3) nd rfl (Or.inl rfl) (BE.mk (pe_callD O__law_web hr rfl (pa_cons (pv 2) (pa_cons pe_int pa_nil))))) (bss_cons (bs_set (i:=4) nd rfl (Or.inl rfl) (BE.mk (pe_callD O__law_written hr rfl (pa_cons (pv 3) pa_nil)))) (bss_cons (bs_forB PassesOwn.never rfl (pi_range1 rfl T.z_range (pa_cons pe_int pa_nil)) (pg_name (i:=5) nd rfl (Or.inl rfl)) (bss_cons (bs_set (i:=6) nd rfl (Or.inl rfl) (BE.mk (pe_callD O__law_other hr rfl (pa_cons (pv 2) (pa_cons (pe_ix ix_tup (pv 3) pe_int (fun _ _=>rfl)) (pa_cons (pv 4) pa_nil)))))) (bss_one (bs_if (pt_cmpR op_neD (pe_callD O__law_told hr rfl (pa_cons (pv 6) pa_nil)) (pe_callD O__law_read hr rfl (pa_cons (pv 6) pa_nil)) (nomark _)) (bss_one (bs_ret (BE.mk pe_bl))) bss_nil)))) (bss_cons (bs_set (i:=7) nd rfl (Or.inl rfl) (be_ix ix_list (be_lstG (ba_consC (BE.mk pe_non) (ba_consC (BE.mk pe_int) (ba_consC (BE.mk pe_bl) (ba_consT (be_tupG (ba_consC (BE.mk pe_int) (ba_consT (be_tupG ba_nil) ba_nil))) (ba_consL (be_lstG (ba_consC (BE.mk pe_str) ba_nil)) (ba_consD (BE.mk pe_dict0G) (ba_consT (be_tupG ba_nil) (ba_consN (BE.mk (pv 3)) ba_nil))))))))) (BE.mk (pe_callD O__law_take hr rfl (pa_cons (pv 2) (pa_cons pe_int pa_nil)))) (fun _ _=>rfl))) (bss_one (bs_if (PW.pt (pw_or (pt_cmpR op_notN (pe_callD O__law_told hr rfl (pa_cons (pv 7) pa_nil)) pe_non (nomark _)) (pw_or1 (pt_cmpR op_neD (pe_callD O__law_told hr rfl (pa_cons (pv 4) pa_nil)) (pv 3) (nomark _))))) (bss_one (bs_ret (BE.mk pe_bl))) bss_nil)))))))) (bss_cons (BS.mk (ps_setcomp (i:=8) (N:=["script","k","pot","web","text","turn","some","other","words","most"]) (sc0:=defScope s_law) (own:=["k"]) (fr:=[]) (js:=[]) rfl (pi_range1 rfl T.z_range (pa_cons pe_int pa_nil)) (fun _ _ _ _=>(pg_name (i:=0) (by show List.Nodup [("k":Str)];decide +kernel) rfl (Or.inl rfl))) (fun _ _ _ _=>pts_nil) (fun _ _ _ _=>(pe_op op_add_str (pe_op op_add_str (pe_op op_add_str (pe_op op_add_str (pe_callTy call_str_int rfl T.z_str (by decide +kernel) (pa_cons (pe_op op_fdiv (pv 0) pe_int) pa_nil)) pe_str) (pe_callTy call_str_int rfl T.z_str (by decide +kernel) (pa_cons (pe_op op_add (pe_op op_add pe_int (pe_op op_fdiv (pv 0) pe_int)) (pe_op op_mod (pv 0) pe_int)) pa_nil))) pe_str) (pe_callTy call_str_int rfl T.z_str (by decide +kernel) (pa_cons (pe_op op_add (pv 0) pe_int) pa_nil)))) nd rfl (Or.inl rfl))) (bss_cons (bs_set (i:=9) nd rfl (Or.inl rfl) (BE.mk (pe_bm PySem.F.plainAttrs_str PySem.F.slot_str_join PySem.F.type_str_join mt_join pe_str (pa_cons (pe_op op_catL (pe_lstG (pa_cons pe_str pa_nil)) (pe_slice sl_list (pv 8) po_none (po_some pe_int))) pa_nil)))) (bss_one (bs_ret (BE.mk (pe_and (pe_cmpR op_isN (pe_callD O__law_told hr rfl (pa_cons (pe_bm PySem.F.plainAttrs_str PySem.F.slot_str_join PySem.F.type_str_join mt_join pe_str (pa_cons (pe_op op_catL (pe_lstG (pa_cons pe_str pa_nil)) (pv 8)) pa_nil)) pa_nil)) pe_non (nomark _)) (pe_one (pe_cmpR op_eqD (pe_callD O__law_told hr rfl (pa_cons (pv 9) pa_nil)) (pe_callD O__law_read hr rfl (pa_cons (pv 9) pa_nil)) (nomark _))))))))))),?_⟩
 refine⟨_,rfl,a,_,rfl,.inl hS,_,_,rfl,_,_,rfl,_,rfl,?_,?_,?_⟩
 ·split <;> split <;> omega
 ·rw[hl];split <;> split <;> omega
 generalize hj:(if (if (((ns.map V.int).length:Nat):Int) < 12 then (((ns.map V.int).length:Nat):Int) else 12) > 3 then (if (((ns.map V.int).length:Nat):Int) < 12 then (((ns.map V.int).length:Nat):Int) else 12) else 3)=j
 have j12:j≤12:=by rw[← hj];split <;> split <;> omega
 refine for_range (n:=j.toNat) (fun i σ H'=>∃ x1 x2 x3 x4 x5 x6 x7 x8 x9:Option V,σ=[some (.ref a),x1,x2,x3,x4,x5,x6,x7,x8,x9]∧Same H H') ⟨none,none,none,none,none,none,none,none,none,rfl,Same.refl H⟩ ?turn (fun σ H' h=>?_)
 case turn =>
  rintro i σ H0 hi ⟨x1,x2,x3,x4,x5,x6,x7,x8,x9,rfl,s0⟩
  refine⟨_,rfl,_,rfl,a,_,ns,rfl,s0.seq hS,by omega,by omega,fun l H1 s1 fl p1=>?_⟩
  have s01:Same H H1:=s0.trans s1
  have fl0:H l=none:=s0.free fl
  have npot:∀ {J:Hp} {b:Addr} {xs:List V},Pot J l->J b=some (.tup xs)->b≠l:=fun pp hb z=>by
   obtain⟨xs,e⟩:=pp.lst
   rw[z,e] at hb;cases hb
  refine⟨_,rfl,l,12,rfl,p1,by decide,by decide,fun wv H2 n ts b2 p2 ok nm isw=>?_⟩
  have n1:=ok.n1
  have n24:=ok.n24
  have few60:=ok.few
  have tk:∀ t ∈ ts,tieOk t:=fun t ht=>tie_okW ok ht
  refine⟨_,rfl,n,ts,wv,rfl,isw,ok,fun J3 S3=>?_⟩
  have p3:=p2.same S3
  have isw3:=Is.same S3 _ isw
  have B3:But l H1 J3:=b2.trans (Same.but S3)
  obtain⟨xf,wd⟩:=webT_f (n:=n) (ts:=ts) (by omega) n24 tk (by omega)
  have webB_:∀ {J:Hp},But l J3 J->Is K J (webD n ts) wv:=fun b=>by
   obtain⟨xs,e⟩:=p3.lst
   exact Is.but b e _ (tup_web n ts) isw3
  refine⟨_,rfl,by decide,by decide,?_⟩
  refine for_range (n:=6) (fun i5 σ J=>∃ y5 y6:Option V,σ=[some (.ref a),some (.int (0 + (i:Int))),some (.ref l),some wv,some (.str (Tx.ofL (webT n ts))),y5,y6,x7,x8,x9]∧But l J3 J∧Pot J l) ⟨x5,x6,rfl,But.refl,p3⟩ ?in6 (fun σ J h=>?_)
  case in6 =>
   rintro i5 σ J hi5 ⟨y5,y6,rfl,bj,pj⟩
   obtain⟨g0,g,ws,rfl,hg0,hg,hall,hlw⟩:=web_parts (webB_ bj)
   refine⟨_,rfl,_,rfl,g0,_,_,_,rfl,rfl,SqT.of hg0,rfl,_,rfl,l,n,Tx.digs n.toNat::ts.map tieT,rfl,pj,n1,n24,by simp,by rw[List.length_cons,List.length_map];omega,fun w hw=>?_,fun x J15 b15 p15 xf'=>?_⟩
   ·rcases List.mem_cons.mp hw with rfl | hw
    ·exact⟨digs_free (by decide) _,by have:=small_len (m:=n.toNat) (by omega);omega,TxO.digs _⟩
    ·obtain⟨t,ht,rfl⟩:=List.mem_map.mp hw
     exact⟨tieT_free,tieT_len (tk t ht),tieT_sgn⟩
   refine⟨_,rfl,.str x,_,rfl,rfl,fun x' ex=>by cases ex;exact xf',fun u J16 S16 isu=>?_⟩
   refine⟨_,rfl,x,rfl,xf',fun u' J17 S17 isu'=>?_⟩
   refine⟨dataW (webR x),dataW (webR x),Is.same S17 _ isu,isu',lay_W _,lay_W _,units (Nat.le_trans (Nat.min_le_left _ _) (depth_W _)),_,rfl,iteFq (by rw[SeqAt.eqv_refl _ (lay_W _)];rfl) ?_⟩
   exact⟨_,_,rfl,bj.trans (b15.trans (Same.but (S16.trans S17))),p15.same (S16.trans S17)⟩
  obtain⟨y5,y6,rfl,bj,pj⟩:=h
  refine⟨(by show 0≤1000;decide),fun t0 G0 E0' g0' q0=>⟨(by show 2≤1000;decide),fun t1 G1 E1 g1 q1=>⟨(by show 1≤1000;decide),fun t2 G2 E2 g2 q2=>fun t3 G3 E3 g3 q3=>⟨(by show 0≤1000;decide),fun t4 G4 E4 g4 q4=>⟨_,rfl,(by show 8≤1000;decide),fun t5 G5 E5 g5 q5=>?_⟩⟩⟩⟩⟩
  have E35:=E4.trans E5
  have E25:=E3.trans E35
  have E15:=E2.trans E25
  have E05:=E1.trans E15
  have EA:=E0'.trans E05
  have pG5:=pj.same EA
  have np:∀ {J:Hp} {b:Addr},Pot J l->J b=none->b≠l:=fun pp hb z=>by
   obtain⟨xs,e⟩:=pp.lst
   rw[z,e] at hb;cases hb
  refine⟨_,rfl,l,8,rfl,pG5,by decide,by decide,fun r6 J6' r60 r61 b6 p6'=>?_⟩
  have n0:=np pj g0'
  have n1':=np (pj.same E0') g1
  have n2:=np (pj.same (E0'.trans E1)) g2
  have n3:=np (pj.same (E0'.trans (E1.trans E2))) g3
  have n4:=np (pj.same (E0'.trans (E1.trans (E2.trans E3)))) g4
  have n5:=np (pj.same (E0'.trans (E1.trans (E2.trans (E3.trans E4))))) g5
  have bA:But l J3 J6':=bj.trans ((Same.but EA).trans b6)
  have at_:∃ v d,atI [V.non,.int 7,.bl true,.ref t1,.ref t2,.ref t3,.ref t4,wv] r6=some v∧strD d=false∧Is K J6' d v:=by
   have:r6=0∨r6=1∨r6=2∨r6=3∨r6=4∨r6=5∨r6=6∨r6=7:=by omega
   rcases this with e | e | e | e | e | e | e | e <;> rw[e]
   ·exact⟨_,.none,rfl,rfl,rfl⟩
   ·exact⟨_,.int 7,rfl,rfl,rfl⟩
   ·exact⟨_,.bool true,rfl,rfl,rfl⟩
   ·exact⟨_,.tuple [.int 1,.tuple []],rfl,rfl,t1,_,rfl,b6 _ _ n1' (E15 _ _ q1),_,_,rfl,rfl,_,_,rfl,⟨t0,_,rfl,b6 _ _ n0 (E05 _ _ q0),rfl⟩,rfl⟩
   ·exact⟨_,.list [.str "1"],rfl,rfl,t2,_,rfl,b6 _ _ n2 (E25 _ _ q2),isAll_strs ["1"]⟩
   ·exact⟨_,.dict [],rfl,rfl,rfl,t3,rfl,b6 _ _ n3 (E35 _ _ q3)⟩
   ·exact⟨_,.tuple [],rfl,rfl,t4,_,rfl,b6 _ _ n4 (E5 _ _ q4),rfl⟩
   ·exact⟨_,webD n ts,rfl,rfl,webB_ bA⟩
  obtain⟨v,d,ev,ed,isd⟩:=at_
  have tn:toldW d=.none:=by cases d <;> first | rfl | cases ed
  refine⟨t5,_,_,_,rfl,rfl,SqL.of (b6 _ _ n5 q5),ev,?_⟩
  refine⟨_,rfl,d,v,rfl,isd,(fun x ex=>by rw[ex] at ed;cases ed),fun u J7' S7' isu=>?_⟩
  rw[tn] at isu
  cases isu
  refine⟨rfl,_,rfl,iteFq (by simp) ?_⟩
  refine⟨_,rfl,.str (Tx.ofL (webT n ts)),_,rfl,rfl,(fun x' ex=>by cases ex;exact xf),fun u2 J8' S8' isu2=>?_⟩
  have ew:toldW (.str (Tx.ofL (webT n ts)))=webD n ts:=by show dataW (webR _)=_;rw[web_back ok];rfl
  rw[ew] at isu2
  refine⟨_,rfl,webD n ts,webD n ts,isu2,Is.same (S7'.trans S8') _ (webB_ bA),lay_webD _ _,lay_webD _ _,units (Nat.le_trans (Nat.min_le_left _ _) (depth_webD _ _)),_,rfl,iteFq (by rw[SeqAt.eqv_refl _ (lay_webD _ _)];rfl) ?_⟩
  have BB:But l H1 J8':=B3.trans (bA.trans (Same.but (S7'.trans S8')))
  exact⟨_,_,_,_,_,_,_,_,_,rfl,fun b o e=>BB _ _ (ne_of_none e fl0) (s01 _ _ e)⟩
 obtain⟨x1,x2,x3,x4,x5,x6,x7,x8,x9,rfl,s0⟩:=h
 refine⟨_,rfl,by decide,by decide,?_⟩
 have e1:("-":Str)=Tx.ofL [45]:=by decide +kernel
 have e2:(":":Str)=Tx.ofL [58]:=by decide +kernel
 have e24:("24":Str)=Tx.ofL (Tx.digs 24):=by decide +kernel
 have e32:(" ":Str)=Tx.ofL [32]:=by decide +kernel
 have LL:∀ {x y:List Nat},x.length + y.length≤10000->(Tx.ofL x).length + (Tx.ofL y).length≤sizeLine:=fun h=>by
  rw[Tx.ofL_len,Tx.ofL_len];exact Nat.le_trans h (by decide)
 refine comp_range (n:=61) (fun σ'=>∃ o,σ'=[o]) (fun i v _=>v=.str (Tx.ofL (tieT (tkT i)))) (by decide) (by exact⟨none,rfl⟩) (fun _ _ _ _ _ h=>h) (fun i σ' J hi s2 sg C hC=>?_) (fun Lw ys J2 hL S2 hH hly hys=>?_)
 ·obtain⟨o,rfl⟩:=sg
  have d5:((0:Int) + (i:Int)) / 5=((i / 5:Nat):Int):=by omega
  have m5:((0:Int) + (i:Int)) % 5=((i % 5:Nat):Int):=by omega
  have l1:=small_len (m:=i / 5) (by omega)
  have l2:=small_len (m:=6 + i / 5 + i % 5) (by omega)
  have l3:=small_len (m:=i + 1) (by omega)
  refine⟨_,rfl,_,_,rfl,rfl,⟨by decide,by decide⟩,((i / 5:Nat):Int),?_,log_ok (by omega) (by omega),Tx.ofL (Tx.digs (i / 5)),Tx.ofL [45],?_,congrArg V.str e1,LL (by simp;omega),?_⟩
  ·exact congrArg (fun z:Int=>[V.int z]) d5
  ·exact congrArg V.str (Tx.num_text (Int.natCast_nonneg _))
  rw[Tx.ofL_app]
  refine⟨_,rfl,_,_,rfl,rfl,⟨by decide,by decide⟩,_,_,rfl,rfl,_,rfl,_,_,rfl,rfl,(by show (0:Int) < 5;decide),_,_,rfl,rfl,((6 + i / 5 + i % 5:Nat):Int),?_,log_ok (by omega) (by omega),_,Tx.ofL (Tx.digs (6 + i / 5 + i % 5)),rfl,?_,LL (by simp;omega),?_⟩
  ·exact congrArg (fun z:Int=>[V.int z]) (show (6 + (0 + (i:Int)) / 5 + (0 + (i:Int)) % 5)=((6 + i / 5 + i % 5:Nat):Int) by omega)
  ·exact congrArg V.str (Tx.num_text (Int.natCast_nonneg _))
  rw[Tx.ofL_app]
  refine⟨_,Tx.ofL [58],rfl,congrArg V.str e2,LL (by simp;omega),?_⟩
  rw[Tx.ofL_app]
  refine⟨_,rfl,_,_,rfl,rfl,((i + 1:Nat):Int),?_,log_ok (by omega) (by omega),_,Tx.ofL (Tx.digs (i + 1)),rfl,?_,LL (by simp;omega),?_⟩
  ·exact congrArg (fun z:Int=>[V.int z]) (show (0 + (i:Int) + 1)=((i + 1:Nat):Int) by omega)
  ·exact congrArg V.str (Tx.num_text (Int.natCast_nonneg _))
  rw[Tx.ofL_app]
  refine hC _ _ _ ⟨_,rfl⟩ (Same.refl _) ?_
  have:Tx.digs (i / 5)++[45]++Tx.digs (6 + i / 5 + i % 5)++[58]++Tx.digs (i + 1)=tieT (tkT i):=by
   unfold tieT tkT;simp only [Int.toNat_natCast];simp
  rw[this]
 obtain⟨ts,ets⟩:∃ ts,ts=(List.range 61).map tkT:=⟨_,rfl⟩
 have ltk:∀ t ∈ ts,tieOk t:=fun t ht=>by
  rw[ets] at ht
  obtain⟨k,hk,rfl⟩:=List.mem_map.mp ht
  exact tkT_ok (List.mem_range.mp hk)
 have lts:ts.length=61:=by rw[ets,List.length_map,List.length_range]
 have ey:ys=(ts.map fun t=>Tx.ofL (tieT t)).map V.str:=by
  refine List.ext_getElem? fun i=>?_
  rw[List.getElem?_map,List.getElem?_map,ets,List.getElem?_map]
  by_cases hi:i < 61
  ·rw[List.getElem?_eq_getElem (by omega),hys i ys[i] (List.getElem?_eq_getElem (by omega)),List.getElem?_eq_getElem (by rw[List.length_range];exact hi),List.getElem_range];rfl
  ·rw[List.getElem?_eq_none (by omega),List.getElem?_eq_none (by rw[List.length_range];omega)];rfl
 rw[ey] at hH
 clear hys ey
 have jn_:∀ us:List Tie,(∀ t ∈ us,tieOk t)->us.length≤61->JoinOk (" ":Str) (Tx.ofL (Tx.digs 24)::(us.map fun t=>Tx.ofL (tieT t)))=true∧Txt.join " " (Tx.ofL (Tx.digs 24)::(us.map fun t=>Tx.ofL (tieT t)))=Tx.ofL (webT 24 us)∧TxF (Tx.ofL (webT 24 us)):=fun us tk lu=>by
  obtain⟨f1,f2⟩:=webT_f (n:=24) (ts:=us) (by decide) (by decide) tk lu
  rw[e32]
  refine⟨f2.join.1,?_,f1⟩
  have:=glueC 32 (Tx.digs 24::us.map tieT)
  rw[List.map_cons,List.map_map] at this
  exact this
 refine⟨rfl,(by show 1≤1000;decide),fun l3 J3 S3 f3 h3=>?_⟩
 refine⟨_,rfl,_,rfl,Lw,_,rfl,SqL.of (S3 _ _ hH),fun l4 hl4=>?_⟩
 rw[show (60:Int)=((60:Nat):Int) from rfl,cut_toK,← List.map_take,← List.map_take]
 have S4:=same_new (o:=.lst (((ts.take 60).map fun t=>Tx.ofL (tieT t)).map V.str)) hl4
 generalize hJ4:upd J3 l4 (.lst (((ts.take 60).map fun t=>Tx.ofL (tieT t)).map V.str))=J4 at S4
 have h4:J4 l4=some (.lst (((ts.take 60).map fun t=>Tx.ofL (tieT t)).map V.str)):=by rw[← hJ4];exact upd_same
 have l60:(ts.take 60).length=60:=by rw[List.length_take];omega
 refine⟨l3,l4,_,_,rfl,rfl,S4 _ _ h3,h4,by simp only [List.length_map,List.length_cons,List.length_nil];omega,fun l5 J5 S5 f5 h5=>?_⟩
 obtain⟨j1,j2,j3⟩:=jn_ (ts.take 60) (fun t ht=>ltk t (List.mem_of_mem_take ht)) (by omega)
 refine⟨" ",l5,Tx.ofL (Tx.digs 24)::((ts.take 60).map fun t=>Tx.ofL (tieT t)),rfl,rfl,by rw[h5,e24];rfl,j1,?_⟩
 rw[j2]
 refine⟨rfl,(by show 1≤1000;decide),fun l6 J6 S6 f6 h6=>?_⟩
 have hH6:=S6 _ _ (S5 _ _ (S4 _ _ (S3 _ _ hH)))
 refine⟨_,rfl,l6,Lw,_,_,rfl,rfl,h6,hH6,by simp only [List.length_map,List.length_cons,List.length_nil];omega,fun l7 J7 S7 f7 h7=>?_⟩
 obtain⟨k1,k2,k3⟩:=jn_ ts ltk (by omega)
 refine⟨" ",l7,Tx.ofL (Tx.digs 24)::(ts.map fun t=>Tx.ofL (tieT t)),rfl,rfl,by rw[h7,e24];rfl,k1,?_⟩
 rw[k2]
 refine⟨.str (Tx.ofL (webT 24 ts)),_,rfl,rfl,(fun x' ex=>by cases ex;exact k3),fun u J8 S8 isu=>?_⟩
 rw[show toldW (.str (Tx.ofL (webT 24 ts)))=.none by show dataW (webR _)=_;rw[web_many ltk (by omega)];rfl] at isu
 cases isu
 refine⟨rfl,_,rfl,iteTq (by simp) ?_⟩
 refine⟨_,rfl,.str (Tx.ofL (webT 24 (ts.take 60))),_,rfl,rfl,(fun x' ex=>by cases ex;exact j3),fun u2 J9 S9 isu2=>?_⟩
 refine⟨_,rfl,Tx.ofL (webT 24 (ts.take 60)),rfl,j3,fun u3 J10 S10 isu3=>?_⟩
 refine⟨dataW (webR (Tx.ofL (webT 24 (ts.take 60)))),dataW (webR (Tx.ofL (webT 24 (ts.take 60)))),Is.same S10 _ isu2,isu3,lay_W _,lay_W _,units (Nat.le_trans (Nat.min_le_left _ _) (depth_W _)),?_⟩
 rw[SeqAt.eqv_refl _ (lay_W _)]
 exact q J10
end
end Me
namespace Me
open PySem PySem.Spec PyProof.Rows L2 L3
theorem def_mk {K:PySem.W.Frag} {h:Heap} {mg:Str->Option Value} {x:Str} {st:Stmt} {ps:List Str} {f:Addr} {od an:Option Addr} {sl:Array (Option Value)} {oc kV dc pm cd ct:Value} (X:K.In h) (G:h.Ns mainGlobals mg)
  (b:∀ (kV doc pm:Value) (an:Option Addr) (cdv ct:Value) (us:List Value),us.length=ps.length->bindArgs (PySem.W.fnOf x x (defArgs st) (defBody st) (defScope st) .none kV doc pm an cdv ct) ⟨us,[]⟩=pure (ps.zip us))
  (a:PySem.W.nsIn K mainGlobals x=some (some (.ref f))) (l:K.lookup f=some ⟨oc,od,.func (PySem.W.fnOf x x (defArgs st) (defBody st) (defScope st) .none kV dc pm an cd ct),sl⟩) (c:PySem.W.codeIn K cd x=true) (k:PySem.W.keepIn K (.ref f)=true):DefOk K mg x st ps:=by
 have F:=fun_mk (st:=st) l c k
 exact⟨f,_,F,F.binds b,PySem.W.mg_of X G a⟩
theorem dq {p:Program} {K:PySem.W.Frag} {h:Heap} {mg:Str->Option Value} {x:Str} {st:Stmt} {ps:List Str} (f c j u:Nat) (X:K.In h) (G:h.Ns mainGlobals mg)
  (b:∀ (kV doc pm:Value) (an:Option Addr) (cdv ct:Value) (us:List Value),us.length=ps.length->bindArgs (PySem.W.fnOf x x (defArgs st) (defBody st) (defScope st) .none kV doc pm an cdv ct) ⟨us,[]⟩=pure (ps.zip us))
  (a:PySem.W.nsIn K mainGlobals x=some (some (.ref f))) (l:K.lookup f=some ⟨.type "function",none,.func (PySem.W.fnOf x x (defArgs st) (defBody st) (defScope st) .none .none .none (Hx.mdV p ⟨0,0,0,j,u,0⟩) none (.ref c) .none),#[]⟩) (cc:PySem.W.codeIn K (.ref c) x=true) (k:PySem.W.keepIn K (.ref f)=true):DefOk K mg x st ps:=def_mk X G b a l cc k
theorem bd_is_whole (kV doc pm:Value) (an:Option Addr) (cdv ct:Value) (us:List Value) (hl:us.length=(["thing"]:List Str).length):bindArgs (PySem.W.fnOf "is_whole" "is_whole" (defArgs s_is_whole) (defBody s_is_whole) (defScope s_is_whole) .none kV doc pm an cdv ct) ⟨us,[]⟩=pure (List.zip (["thing"]:List Str) us):=match us,hl with | [_],_=>rfl
theorem bd_is_wholes (kV doc pm:Value) (an:Option Addr) (cdv ct:Value) (us:List Value) (hl:us.length=(["thing"]:List Str).length):bindArgs (PySem.W.fnOf "is_wholes" "is_wholes" (defArgs s_is_wholes) (defBody s_is_wholes) (defScope s_is_wholes) .none kV doc pm an cdv ct) ⟨us,[]⟩=pure (List.zip (["thing"]:List Str) us):=match us,hl with | [_],_=>rfl
theorem bd_is_rising (kV doc pm:Value) (an:Option Addr) (cdv ct:Value) (us:List Value) (hl:us.length=(["parts"]:List Str).length):bindArgs (PySem.W.fnOf "is_rising" "is_rising" (defArgs s_is_rising) (defBody s_is_rising) (defScope s_is_rising) .none kV doc pm an cdv ct) ⟨us,[]⟩=pure (List.zip (["parts"]:List Str) us):=match us,hl with | [_],_=>rfl
theorem bd_is_size (kV doc pm:Value) (an:Option Addr) (cdv ct:Value) (us:List Value) (hl:us.length=(["thing"]:List Str).length):bindArgs (PySem.W.fnOf "is_size" "is_size" (defArgs s_is_size) (defBody s_is_size) (defScope s_is_size) .none kV doc pm an cdv ct) ⟨us,[]⟩=pure (List.zip (["thing"]:List Str) us):=match us,hl with | [_],_=>rfl
theorem bd_is_length (kV doc pm:Value) (an:Option Addr) (cdv ct:Value) (us:List Value) (hl:us.length=(["thing"]:List Str).length):bindArgs (PySem.W.fnOf "is_length" "is_length" (defArgs s_is_length) (defBody s_is_length) (defScope s_is_length) .none kV doc pm an cdv ct) ⟨us,[]⟩=pure (List.zip (["thing"]:List Str) us):=match us,hl with | [_],_=>rfl
theorem bd_is_triple (kV doc pm:Value) (an:Option Addr) (cdv ct:Value) (us:List Value) (hl:us.length=(["thing"]:List Str).length):bindArgs (PySem.W.fnOf "is_triple" "is_triple" (defArgs s_is_triple) (defBody s_is_triple) (defScope s_is_triple) .none kV doc pm an cdv ct) ⟨us,[]⟩=pure (List.zip (["thing"]:List Str) us):=match us,hl with | [_],_=>rfl
theorem bd_is_tie (kV doc pm:Value) (an:Option Addr) (cdv ct:Value) (us:List Value) (hl:us.length=(["n","thing"]:List Str).length):bindArgs (PySem.W.fnOf "is_tie" "is_tie" (defArgs s_is_tie) (defBody s_is_tie) (defScope s_is_tie) .none kV doc pm an cdv ct) ⟨us,[]⟩=pure (List.zip (["n","thing"]:List Str) us):=match us,hl with | [_,_],_=>rfl
theorem bd_is_web (kV doc pm:Value) (an:Option Addr) (cdv ct:Value) (us:List Value) (hl:us.length=(["thing"]:List Str).length):bindArgs (PySem.W.fnOf "is_web" "is_web" (defArgs s_is_web) (defBody s_is_web) (defScope s_is_web) .none kV doc pm an cdv ct) ⟨us,[]⟩=pure (List.zip (["thing"]:List Str) us):=match us,hl with | [_],_=>rfl
theorem bd_is_written (kV doc pm:Value) (an:Option Addr) (cdv ct:Value) (us:List Value) (hl:us.length=(["text"]:List Str).length):bindArgs (PySem.W.fnOf "is_written" "is_written" (defArgs s_is_written) (defBody s_is_written) (defScope s_is_written) .none kV doc pm an cdv ct) ⟨us,[]⟩=pure (List.zip (["text"]:List Str) us):=match us,hl with | [_],_=>rfl
theorem bd_need_text (kV doc pm:Value) (an:Option Addr) (cdv ct:Value) (us:List Value) (hl:us.length=(["thing"]:List Str).length):bindArgs (PySem.W.fnOf "need_text" "need_text" (defArgs s_need_text) (defBody s_need_text) (defScope s_need_text) .none kV doc pm an cdv ct) ⟨us,[]⟩=pure (List.zip (["thing"]:List Str) us):=match us,hl with | [_],_=>rfl
theorem bd_read_number (kV doc pm:Value) (an:Option Addr) (cdv ct:Value) (us:List Value) (hl:us.length=(["text"]:List Str).length):bindArgs (PySem.W.fnOf "read_number" "read_number" (defArgs s_read_number) (defBody s_read_number) (defScope s_read_number) .none kV doc pm an cdv ct) ⟨us,[]⟩=pure (List.zip (["text"]:List Str) us):=match us,hl with | [_],_=>rfl
theorem bd_read_tie (kV doc pm:Value) (an:Option Addr) (cdv ct:Value) (us:List Value) (hl:us.length=(["word"]:List Str).length):bindArgs (PySem.W.fnOf "read_tie" "read_tie" (defArgs s_read_tie) (defBody s_read_tie) (defScope s_read_tie) .none kV doc pm an cdv ct) ⟨us,[]⟩=pure (List.zip (["word"]:List Str) us):=match us,hl with | [_],_=>rfl
theorem bd_read_web (kV doc pm:Value) (an:Option Addr) (cdv ct:Value) (us:List Value) (hl:us.length=(["thing"]:List Str).length):bindArgs (PySem.W.fnOf "read_web" "read_web" (defArgs s_read_web) (defBody s_read_web) (defScope s_read_web) .none kV doc pm an cdv ct) ⟨us,[]⟩=pure (List.zip (["thing"]:List Str) us):=match us,hl with | [_],_=>rfl
theorem bd__law_pot (kV doc pm:Value) (an:Option Addr) (cdv ct:Value) (us:List Value) (hl:us.length=(["script","k"]:List Str).length):bindArgs (PySem.W.fnOf "_law_pot" "_law_pot" (defArgs s__law_pot) (defBody s__law_pot) (defScope s__law_pot) .none kV doc pm an cdv ct) ⟨us,[]⟩=pure (List.zip (["script","k"]:List Str) us):=match us,hl with | [_,_],_=>rfl
theorem bd__law_take (kV doc pm:Value) (an:Option Addr) (cdv ct:Value) (us:List Value) (hl:us.length=(["pot","many"]:List Str).length):bindArgs (PySem.W.fnOf "_law_take" "_law_take" (defArgs s__law_take) (defBody s__law_take) (defScope s__law_take) .none kV doc pm an cdv ct) ⟨us,[]⟩=pure (List.zip (["pot","many"]:List Str) us):=match us,hl with | [_,_],_=>rfl
theorem bd__law_length (kV doc pm:Value) (an:Option Addr) (cdv ct:Value) (us:List Value) (hl:us.length=(["pot","way"]:List Str).length):bindArgs (PySem.W.fnOf "_law_length" "_law_length" (defArgs s__law_length) (defBody s__law_length) (defScope s__law_length) .none kV doc pm an cdv ct) ⟨us,[]⟩=pure (List.zip (["pot","way"]:List Str) us):=match us,hl with | [_,_],_=>rfl
theorem bd__law_tied (kV doc pm:Value) (an:Option Addr) (cdv ct:Value) (us:List Value) (hl:us.length=(["pot","n","style","a","b"]:List Str).length):bindArgs (PySem.W.fnOf "_law_tied" "_law_tied" (defArgs s__law_tied) (defBody s__law_tied) (defScope s__law_tied) .none kV doc pm an cdv ct) ⟨us,[]⟩=pure (List.zip (["pot","n","style","a","b"]:List Str) us):=match us,hl with | [_,_,_,_,_],_=>rfl
theorem bd__law_order (kV doc pm:Value) (an:Option Addr) (cdv ct:Value) (us:List Value) (hl:us.length=(["pot","many"]:List Str).length):bindArgs (PySem.W.fnOf "_law_order" "_law_order" (defArgs s__law_order) (defBody s__law_order) (defScope s__law_order) .none kV doc pm an cdv ct) ⟨us,[]⟩=pure (List.zip (["pot","many"]:List Str) us):=match us,hl with | [_,_],_=>rfl
theorem bd__law_web (kV doc pm:Value) (an:Option Addr) (cdv ct:Value) (us:List Value) (hl:us.length=(["pot","most"]:List Str).length):bindArgs (PySem.W.fnOf "_law_web" "_law_web" (defArgs s__law_web) (defBody s__law_web) (defScope s__law_web) .none kV doc pm an cdv ct) ⟨us,[]⟩=pure (List.zip (["pot","most"]:List Str) us):=match us,hl with | [_,_],_=>rfl
theorem bd__law_written (kV doc pm:Value) (an:Option Addr) (cdv ct:Value) (us:List Value) (hl:us.length=(["web"]:List Str).length):bindArgs (PySem.W.fnOf "_law_written" "_law_written" (defArgs s__law_written) (defBody s__law_written) (defScope s__law_written) .none kV doc pm an cdv ct) ⟨us,[]⟩=pure (List.zip (["web"]:List Str) us):=match us,hl with | [_],_=>rfl
theorem bd__law_number (kV doc pm:Value) (an:Option Addr) (cdv ct:Value) (us:List Value) (hl:us.length=(["word"]:List Str).length):bindArgs (PySem.W.fnOf "_law_number" "_law_number" (defArgs s__law_number) (defBody s__law_number) (defScope s__law_number) .none kV doc pm an cdv ct) ⟨us,[]⟩=pure (List.zip (["word"]:List Str) us):=match us,hl with | [_],_=>rfl
theorem bd__law_tie (kV doc pm:Value) (an:Option Addr) (cdv ct:Value) (us:List Value) (hl:us.length=(["word"]:List Str).length):bindArgs (PySem.W.fnOf "_law_tie" "_law_tie" (defArgs s__law_tie) (defBody s__law_tie) (defScope s__law_tie) .none kV doc pm an cdv ct) ⟨us,[]⟩=pure (List.zip (["word"]:List Str) us):=match us,hl with | [_],_=>rfl
theorem bd__law_read (kV doc pm:Value) (an:Option Addr) (cdv ct:Value) (us:List Value) (hl:us.length=(["text"]:List Str).length):bindArgs (PySem.W.fnOf "_law_read" "_law_read" (defArgs s__law_read) (defBody s__law_read) (defScope s__law_read) .none kV doc pm an cdv ct) ⟨us,[]⟩=pure (List.zip (["text"]:List Str) us):=match us,hl with | [_],_=>rfl
theorem bd__law_signs (kV doc pm:Value) (an:Option Addr) (cdv ct:Value) (us:List Value) (hl:us.length=([]:List Str).length):bindArgs (PySem.W.fnOf "_law_signs" "_law_signs" (defArgs s__law_signs) (defBody s__law_signs) (defScope s__law_signs) .none kV doc pm an cdv ct) ⟨us,[]⟩=pure (List.zip ([]:List Str) us):=match us,hl with | [],_=>rfl
theorem bd__law_word (kV doc pm:Value) (an:Option Addr) (cdv ct:Value) (us:List Value) (hl:us.length=(["pot","n"]:List Str).length):bindArgs (PySem.W.fnOf "_law_word" "_law_word" (defArgs s__law_word) (defBody s__law_word) (defScope s__law_word) .none kV doc pm an cdv ct) ⟨us,[]⟩=pure (List.zip (["pot","n"]:List Str) us):=match us,hl with | [_,_],_=>rfl
theorem bd__law_other (kV doc pm:Value) (an:Option Addr) (cdv ct:Value) (us:List Value) (hl:us.length=(["pot","n","text"]:List Str).length):bindArgs (PySem.W.fnOf "_law_other" "_law_other" (defArgs s__law_other) (defBody s__law_other) (defScope s__law_other) .none kV doc pm an cdv ct) ⟨us,[]⟩=pure (List.zip (["pot","n","text"]:List Str) us):=match us,hl with | [_,_,_],_=>rfl
theorem bd__law_told (kV doc pm:Value) (an:Option Addr) (cdv ct:Value) (us:List Value) (hl:us.length=(["thing"]:List Str).length):bindArgs (PySem.W.fnOf "_law_told" "_law_told" (defArgs s__law_told) (defBody s__law_told) (defScope s__law_told) .none kV doc pm an cdv ct) ⟨us,[]⟩=pure (List.zip (["thing"]:List Str) us):=match us,hl with | [_],_=>rfl
theorem law_all {P:Program} {w:World} {K:PySem.W.Frag} {mg:Str->Option Value} {base:Heap} {f:Addr} {fd:FuncData} (T:Bi mg) {xE xT xW x1 x2 x3 x4 x5 x6 x7 x8 x9 x10 xM:Addr} (m_ThinError:mg "ThinError"=some (.ref xE)) (m_NoText:mg "NoText"=some (.ref xT)) (m_NoWeb:mg "NoWeb"=some (.ref xW)) (m_NoBack:mg "NoBack"=some (.ref x1)) (m_NoFalls:mg "NoFalls"=some (.ref x2)) (m_NoLength:mg "NoLength"=some (.ref x3)) (m_NoLevels:mg "NoLevels"=some (.ref x4)) (m_NoLine:mg "NoLine"=some (.ref x5)) (m_NoOrder:mg "NoOrder"=some (.ref x6)) (m_NoPlain:mg "NoPlain"=some (.ref x7)) (m_NoShare:mg "NoShare"=some (.ref x8)) (m_NoTie:mg "NoTie"=some (.ref x9)) (m_NoTimes:mg "NoTimes"=some (.ref x10)) (m_TooMany:mg "TooMany"=some (.ref xM)) (z_ValueError:mg "ValueError"=none) (xm_NoText:XM K xT) (XF:XF87 K xE xT xW x1 x2 x3 x4 x5 x6 x7 x8 x9 x10 xM)
  (D_is_whole:DefOk K mg "is_whole" s_is_whole ["thing"])
  (D_is_wholes:DefOk K mg "is_wholes" s_is_wholes ["thing"])
  (D_is_rising:DefOk K mg "is_rising" s_is_rising ["parts"])
  (D_is_size:DefOk K mg "is_size" s_is_size ["thing"])
  (D_is_length:DefOk K mg "is_length" s_is_length ["thing"])
  (D_is_triple:DefOk K mg "is_triple" s_is_triple ["thing"])
  (D_is_tie:DefOk K mg "is_tie" s_is_tie ["n","thing"])
  (D_is_web:DefOk K mg "is_web" s_is_web ["thing"])
  (D_is_written:DefOk K mg "is_written" s_is_written ["text"])
  (D_need_text:DefOk K mg "need_text" s_need_text ["thing"])
  (D_read_number:DefOk K mg "read_number" s_read_number ["text"])
  (D_read_tie:DefOk K mg "read_tie" s_read_tie ["word"])
  (D_read_web:DefOk K mg "read_web" s_read_web ["thing"])
  (D__law_pot:DefOk K mg "_law_pot" s__law_pot ["script","k"])
  (D__law_take:DefOk K mg "_law_take" s__law_take ["pot","many"])
  (D__law_length:DefOk K mg "_law_length" s__law_length ["pot","way"])
  (D__law_tied:DefOk K mg "_law_tied" s__law_tied ["pot","n","style","a","b"])
  (D__law_order:DefOk K mg "_law_order" s__law_order ["pot","many"])
  (D__law_web:DefOk K mg "_law_web" s__law_web ["pot","most"])
  (D__law_written:DefOk K mg "_law_written" s__law_written ["web"])
  (D__law_number:DefOk K mg "_law_number" s__law_number ["word"])
  (D__law_tie:DefOk K mg "_law_tie" s__law_tie ["word"])
  (D__law_read:DefOk K mg "_law_read" s__law_read ["text"])
  (D__law_signs:DefOk K mg "_law_signs" s__law_signs [])
  (D__law_word:DefOk K mg "_law_word" s__law_word ["pot","n"])
  (D__law_other:DefOk K mg "_law_other" s__law_other ["pot","n","text"])
  (D__law_told:DefOk K mg "_law_told" s__law_told ["thing"])
  (F:Fun K "law" "law" s_law f fd):FnOk P w K mg base CX0 8 f fd ["script"] (spLaw K):=by
 have O__law_take:=ok__law_take (P:=P) (w:=w) (base:=base) T D__law_take
 have O__law_pot:=ok__law_pot (P:=P) (w:=w) (base:=base) T D__law_pot
 have O__law_length:=ok__law_length T D__law_length O__law_take
 have O__law_tied:=ok__law_tied T D__law_tied O__law_take
 have O__law_order:=ok__law_order T D__law_order O__law_take
 have O__law_web:=ok__law_web T D__law_web (O__law_take.mono (by decide)) O__law_order O__law_tied O__law_length
 have O_is_whole:=ok_is_whole (P:=P) (w:=w) (base:=base) T D_is_whole
 have O_is_wholes:=ok_is_wholes T D_is_wholes O_is_whole
 have O_is_size:=ok_is_size T D_is_size O_is_whole
 have O_is_length:=ok_is_length T D_is_length O_is_whole
 have O_is_triple:=ok_is_triple T D_is_triple O_is_wholes
 have O_is_tie:=ok_is_tie T D_is_tie O_is_triple (O_is_length.mono (by decide))
 have O_is_rising:=ok_is_rising (P:=P) (w:=w) (base:=base) T D_is_rising
 have O_is_web:=ok_is_web T D_is_web (O_is_size.mono (by decide)) O_is_tie (O_is_rising.mono (by decide))
 have O_is_written:=ok_is_written (P:=P) (w:=w) (K:=K) (base:=base) T D_is_written
 have O_need_text:=ok_need_textX (P:=P) (w:=w) (K:=K) (base:=base) T D_need_text m_NoText xm_NoText
 have O_read_number:=ok_read_numberX T D_read_number m_NoText xm_NoText O_is_written
 have O_read_tie:=ok_read_tieX T D_read_tie m_NoText xm_NoText O_read_number
 have O_read_web:=ok_read_webX T D_read_web m_NoText xm_NoText (O_need_text.mono (by decide)) (O_read_number.mono (by decide)) (O_read_tie.mono (by decide)) O_is_web
 have O__law_told:=ok__law_told87 T D__law_told m_ThinError m_NoText m_NoWeb m_NoBack m_NoFalls m_NoLength m_NoLevels m_NoLine m_NoOrder m_NoPlain m_NoShare m_NoTie m_NoTimes m_TooMany z_ValueError XF O_read_web
 have O__law_written:=ok__law_written86 (P:=P) (w:=w) (K:=K) (base:=base) T D__law_written
 have O__law_number:=ok__law_number87 (P:=P) (w:=w) (K:=K) (base:=base) T D__law_number
 have O__law_tie:=ok__law_tie87 T D__law_tie O__law_number
 have O__law_read:=ok__law_read87 T D__law_read (O__law_number.mono (by decide)) O__law_tie
 have O__law_signs:=ok__law_signs87 (P:=P) (w:=w) (K:=K) (base:=base) T D__law_signs
 have O__law_word:=ok__law_word87 T D__law_word O__law_take
 have O__law_other:=ok__law_other87 T D__law_other (O__law_take.mono (by decide)) (O__law_signs.mono (by decide)) O__law_word
 exact ok_law T F (O__law_pot.mono (by decide)) (O__law_take.mono (by decide)) (O__law_web.mono (by decide)) (O__law_written.mono (by decide)) (O__law_other.mono (by decide)) O__law_told (O__law_read.mono (by decide))
theorem walk {l:PySem.W.OpenLaw} {q:Program} {loose:List Str} {XP:(Str->Option Value)->Heap->Prop} {YP:World->Heap->Prop} {d:DefRec} {K:Params->PySem.W.Frag} (hn:l.most=some 63) (hdf:d.params.defaults=[])
  (hY:∀ (w:World) (h:Heap),YP w h->(K w.params).In h)
  (F:∀ (w:World) (mg:Str->Option Value) (fa:Addr) (h:Heap),(K w.params).In h->h.Ns mainGlobals mg->mg d.name=some (.ref fa) ->
   ∃ fd:FuncData,(∀ (s:Shared) (u:Value),BindsTo s fd ⟨[u],[]⟩ [("script",u)])∧∀ base:Heap,(K w.params).In base->base.Ns mainGlobals mg->FnOk l.prog w (K w.params) mg base CX0 8 fa fd ["script"] (spLaw (K w.params))) :
  PySem.W.WalkO q loose XP YP l.row.toRowW d [] (fun f vs=>PySem.call f vs) :=
 L2.walk_of (n:=63) (k:=8) (x:="script") (CX:=fun _=>CX0) (sp:=fun w=>spLaw (K w.params)) hn (by decide) hdf ⟨rfl,by decide,by decide,rfl⟩ hY F (fun _ _ a ns hl _ hS=>⟨a,ns,rfl,hS,hl,fun _=>rfl⟩) fun _ _ _ _ _ z=>z
end Me
namespace Hy
open PySem PySem.W Hx
def cs:List Ch:=[⟨0,15,187,0,187,0⟩,⟨1,15,189,0,187,0⟩,⟨2,28,207,0,187,24⟩,⟨3,40,223,0,187,24⟩,⟨4,52,239,0,187,24⟩,⟨5,64,255,0,187,24⟩,⟨6,76,271,0,187,24⟩,⟨7,88,287,0,187,24⟩,⟨8,100,303,0,187,24⟩,⟨9,112,319,0,187,24⟩,⟨10,124,335,0,187,24⟩,⟨11,136,351,0,187,24⟩,⟨12,148,367,0,187,24⟩,⟨13,160,383,0,187,24⟩,⟨14,172,399,0,187,24⟩,⟨15,184,415,15,415,0⟩,⟨16,184,417,15,415,0⟩,⟨17,191,424,15,415,0⟩,⟨18,196,430,15,415,0⟩,⟨19,201,436,19,436,0⟩,⟨20,201,438,19,436,0⟩,⟨21,208,445,19,436,0⟩,⟨22,215,452,19,436,0⟩,⟨23,222,459,19,436,0⟩,⟨24,229,467,19,436,0⟩,⟨25,234,473,25,473,0⟩,⟨26,234,475,25,473,0⟩,⟨27,239,481,25,473,0⟩,⟨28,246,488,25,473,0⟩,⟨29,253,495,25,473,0⟩,⟨30,260,508,25,473,0⟩,⟨31,265,514,31,514,0⟩,⟨32,265,516,31,514,0⟩,⟨33,272,526,31,514,0⟩,⟨34,279,535,31,514,0⟩,⟨35,286,543,31,514,0⟩,⟨36,293,555,31,514,0⟩,⟨37,300,566,31,514,0⟩,⟨38,307,583,31,514,0⟩,⟨39,314,594,31,514,0⟩,⟨40,319,600,31,514,0⟩,⟨41,326,609,31,514,0⟩,⟨42,333,624,31,514,0⟩,⟨43,340,630,31,514,0⟩,⟨44,347,639,31,514,0⟩,⟨45,354,653,31,514,0⟩,⟨46,361,663,31,514,0⟩]
end Hy
lay_quick Hx.PieceT Hx.PreT Hx.BlockT Hx.LookA Hx.LookB Hx.LookC PySem.Challenge.pw_thinways_k87_texts_of_no_web
namespace Hy
open PySem PySem.W Hx
theorem pre:PreT PySem.Challenge.pw_thinways_k87_texts_of_no_web boots boot_drawn boot_heap boot_toks cs ⟨0,15,187⟩:=by
 rw[PySem.W.Fast.te16428918119715843241,PySem.W.Fast.te1476269006098511800];delta PySem.W.Fast.tw16428918119715843241;intro w;kernel_rfl
theorem pc0:PieceT PySem.Challenge.pw_thinways_k87_texts_of_no_web boots boot_drawn cs ⟨0,15,187⟩ ⟨2,28,207⟩ 196:=by
 rw[PySem.W.Fast.te4643275101561185336,PySem.W.Fast.te1476269006098511800];delta PySem.W.Fast.tw4643275101561185336;intro w;kernel_rfl
theorem pc1:PieceT PySem.Challenge.pw_thinways_k87_texts_of_no_web boots boot_drawn cs ⟨2,28,207⟩ ⟨3,40,223⟩ 214:=by
 rw[PySem.W.Fast.te4643275101561185336,PySem.W.Fast.te1476269006098511800];delta PySem.W.Fast.tw4643275101561185336;intro w;kernel_rfl
theorem pc2:PieceT PySem.Challenge.pw_thinways_k87_texts_of_no_web boots boot_drawn cs ⟨3,40,223⟩ ⟨4,52,239⟩ 214:=by
 rw[PySem.W.Fast.te4643275101561185336,PySem.W.Fast.te1476269006098511800];delta PySem.W.Fast.tw4643275101561185336;intro w;kernel_rfl
theorem pc3:PieceT PySem.Challenge.pw_thinways_k87_texts_of_no_web boots boot_drawn cs ⟨4,52,239⟩ ⟨5,64,255⟩ 214:=by
 rw[PySem.W.Fast.te4643275101561185336,PySem.W.Fast.te1476269006098511800];delta PySem.W.Fast.tw4643275101561185336;intro w;kernel_rfl
theorem pc4:PieceT PySem.Challenge.pw_thinways_k87_texts_of_no_web boots boot_drawn cs ⟨5,64,255⟩ ⟨6,76,271⟩ 214:=by
 rw[PySem.W.Fast.te4643275101561185336,PySem.W.Fast.te1476269006098511800];delta PySem.W.Fast.tw4643275101561185336;intro w;kernel_rfl
theorem pc5:PieceT PySem.Challenge.pw_thinways_k87_texts_of_no_web boots boot_drawn cs ⟨6,76,271⟩ ⟨7,88,287⟩ 214:=by
 rw[PySem.W.Fast.te4643275101561185336,PySem.W.Fast.te1476269006098511800];delta PySem.W.Fast.tw4643275101561185336;intro w;kernel_rfl
theorem pc6:PieceT PySem.Challenge.pw_thinways_k87_texts_of_no_web boots boot_drawn cs ⟨7,88,287⟩ ⟨8,100,303⟩ 214:=by
 rw[PySem.W.Fast.te4643275101561185336,PySem.W.Fast.te1476269006098511800];delta PySem.W.Fast.tw4643275101561185336;intro w;kernel_rfl
theorem pc7:PieceT PySem.Challenge.pw_thinways_k87_texts_of_no_web boots boot_drawn cs ⟨8,100,303⟩ ⟨9,112,319⟩ 214:=by
 rw[PySem.W.Fast.te4643275101561185336,PySem.W.Fast.te1476269006098511800];delta PySem.W.Fast.tw4643275101561185336;intro w;kernel_rfl
theorem pc8:PieceT PySem.Challenge.pw_thinways_k87_texts_of_no_web boots boot_drawn cs ⟨9,112,319⟩ ⟨10,124,335⟩ 214:=by
 rw[PySem.W.Fast.te4643275101561185336,PySem.W.Fast.te1476269006098511800];delta PySem.W.Fast.tw4643275101561185336;intro w;kernel_rfl
theorem pc9:PieceT PySem.Challenge.pw_thinways_k87_texts_of_no_web boots boot_drawn cs ⟨10,124,335⟩ ⟨11,136,351⟩ 214:=by
 rw[PySem.W.Fast.te4643275101561185336,PySem.W.Fast.te1476269006098511800];delta PySem.W.Fast.tw4643275101561185336;intro w;kernel_rfl
theorem pc10:PieceT PySem.Challenge.pw_thinways_k87_texts_of_no_web boots boot_drawn cs ⟨11,136,351⟩ ⟨12,148,367⟩ 214:=by
 rw[PySem.W.Fast.te4643275101561185336,PySem.W.Fast.te1476269006098511800];delta PySem.W.Fast.tw4643275101561185336;intro w;kernel_rfl
theorem pc11:PieceT PySem.Challenge.pw_thinways_k87_texts_of_no_web boots boot_drawn cs ⟨12,148,367⟩ ⟨13,160,383⟩ 214:=by
 rw[PySem.W.Fast.te4643275101561185336,PySem.W.Fast.te1476269006098511800];delta PySem.W.Fast.tw4643275101561185336;intro w;kernel_rfl
theorem pc12:PieceT PySem.Challenge.pw_thinways_k87_texts_of_no_web boots boot_drawn cs ⟨13,160,383⟩ ⟨14,172,399⟩ 214:=by
 rw[PySem.W.Fast.te4643275101561185336,PySem.W.Fast.te1476269006098511800];delta PySem.W.Fast.tw4643275101561185336;intro w;kernel_rfl
theorem pc13:PieceT PySem.Challenge.pw_thinways_k87_texts_of_no_web boots boot_drawn cs ⟨14,172,399⟩ ⟨23,222,459⟩ 400:=by
 rw[PySem.W.Fast.te4643275101561185336,PySem.W.Fast.te1476269006098511800];delta PySem.W.Fast.tw4643275101561185336;intro w;kernel_rfl
theorem pc14:PieceT PySem.Challenge.pw_thinways_k87_texts_of_no_web boots boot_drawn cs ⟨23,222,459⟩ ⟨37,300,566⟩ 380:=by
 rw[PySem.W.Fast.te4643275101561185336,PySem.W.Fast.te1476269006098511800];delta PySem.W.Fast.tw4643275101561185336;intro w;kernel_rfl
theorem pc15:PieceT PySem.Challenge.pw_thinways_k87_texts_of_no_web boots boot_drawn cs ⟨37,300,566⟩ ⟨47,366,669⟩ 320:=by
 rw[PySem.W.Fast.te4643275101561185336,PySem.W.Fast.te1476269006098511800];delta PySem.W.Fast.tw4643275101561185336;intro w;kernel_rfl
theorem blk:BlockT PySem.Challenge.pw_thinways_k87_texts_of_no_web :=by
 rw[PySem.W.Fast.te421534021395069552,PySem.W.Fast.te1476269006098511800];delta PySem.W.Fast.tw421534021395069552;intro w s;kernel_rfl
theorem run (w:World) (os:OsState):topRun treeTable PySem.Challenge.pw_thinways_k87_texts_of_no_web w 11 ann0 (12 + (1 + (196 + (214 + (214 + (214 + (214 + (214 + (214 + (214 + (214 + (214 + (214 + (214 + (214 + (400 + (380 + (320 + 2)))))))))))))))))) ⟨boot_heap w.params,Array.mk [],boot_drawn,boot_toks,os⟩ (topStub PySem.Challenge.pw_thinways_k87_texts_of_no_web)=some (stT PySem.Challenge.pw_thinways_k87_texts_of_no_web boots boot_drawn cs ⟨47,366,669⟩ w os).abs:=run_all pre blk (chain pc0 (by decide) (chain pc1 (by decide) (chain pc2 (by decide) (chain pc3 (by decide) (chain pc4 (by decide) (chain pc5 (by decide) (chain pc6 (by decide) (chain pc7 (by decide) (chain pc8 (by decide) (chain pc9 (by decide) (chain pc10 (by decide) (chain pc11 (by decide) (chain pc12 (by decide) (chain pc13 (by decide) (chain pc14 (by decide) (chain pc15 (by decide) (chain_end (by kernel_rfl))))))))))))))))))
theorem size (w:World):((boot_heap w.params).isNs mainGlobals && (Array.mk []:Array GenState).size == 0,(boot_heap w.params).objs.size,(boot_heap w.params).nsMap mainGlobals "__annotations__")=(true,11,ann0):=by kernel_rfl
theorem lkA:LookA PySem.Challenge.pw_thinways_k87_texts_of_no_web boots boot_drawn boot_heap cs ⟨47,366,669⟩:=by
 rw[PySem.W.Fast.te7818774390570169022,PySem.W.Fast.te1476269006098511800];delta PySem.W.Fast.tw7818774390570169022;intro w;kernel_rfl
theorem lkB:LookB PySem.Challenge.pw_thinways_k87_texts_of_no_web boots boot_drawn cs ⟨47,366,669⟩ [46] (OpenRow.toRowW (PySem.Challenge.rw_thinways_k87_texts_of_no_web).row).records:=by
 rw[PySem.W.Fast.te13889730532244352606,PySem.W.Fast.te1476269006098511800];delta PySem.W.Fast.tw13889730532244352606;intro w;kernel_rfl
theorem lkC:LookC PySem.Challenge.pw_thinways_k87_texts_of_no_web boots cs ⟨47,366,669⟩ [3,23,24,36,37,48,49,60,61,72,73,84,85,96,97,108,109,120,121,132,133,144,145,156,157,168,169,180,181,189,190,194,195,199,200,206,207,213,214,220,221,227,228,232,233,237,238,244,245,251,252,258,259,263,264,270,271,277,278,284,285,291,292,298,299,305,306,312,313,317,318,324,325,331,332,338,339,345,346,352,353,359,360,364,365]:=by
 rw[PySem.W.Fast.te6241646928739474683,PySem.W.Fast.te1476269006098511800];delta PySem.W.Fast.tw6241646928739474683;intro w;kernel_rfl
noncomputable abbrev K:=Kf PySem.Challenge.pw_thinways_k87_texts_of_no_web boots cs
theorem Kas (P:Params):[3,23,24,36,37,48,49,60,61,72,73,84,85,96,97,108,109,120,121,132,133,144,145,156,157,168,169,180,181,189,190,194,195,199,200,206,207,213,214,220,221,227,228,232,233,237,238,244,245,251,252,258,259,263,264,270,271,277,278,284,285,291,292,298,299,305,306,312,313,317,318,324,325,331,332,338,339,345,346,352,353,359,360,364,365]=(K P).map (·.1):=by kernel_rfl
noncomputable abbrev H:Hook:=kHook K [3,23,24,36,37,48,49,60,61,72,73,84,85,96,97,108,109,120,121,132,133,144,145,156,157,168,169,180,181,189,190,194,195,199,200,206,207,213,214,220,221,227,228,232,233,237,238,244,245,251,252,258,259,263,264,270,271,277,278,284,285,291,292,298,299,305,306,312,313,317,318,324,325,331,332,338,339,345,346,352,353,359,360,364,365] Kas
theorem opn:opening PySem.Challenge.pw_thinways_k87_texts_of_no_web=plainProg (PySem.Challenge.pw_thinways_k87_texts_of_no_web).main.scope.names:=by kernel_rfl
theorem fnc (s:Shared):fenceModules? PySem.Challenge.pw_thinways_k87_texts_of_no_web s=some s:=by kernel_rfl
theorem left:LeftO PySem.Challenge.pw_thinways_k87_texts_of_no_web (qv PySem.Challenge.pw_thinways_k87_texts_of_no_web [46]) (lz PySem.Challenge.pw_thinways_k87_texts_of_no_web [46] 47) (fun s=>xlAt (qv PySem.Challenge.pw_thinways_k87_texts_of_no_web [46]) [] s && recOk (OpenRow.toRowW (PySem.Challenge.rw_thinways_k87_texts_of_no_web).row).records s) (Hook.obs H) (Hook.val H) 8358 :=
 left_of (p:=PySem.Challenge.pw_thinways_k87_texts_of_no_web) (cs:=cs) (is:=[46]) (as:=[3,23,24,36,37,48,49,60,61,72,73,84,85,96,97,108,109,120,121,132,133,144,145,156,157,168,169,180,181,189,190,194,195,199,200,206,207,213,214,220,221,227,228,232,233,237,238,244,245,251,252,258,259,263,264,270,271,277,278,284,285,291,292,298,299,305,306,312,313,317,318,324,325,331,332,338,339,345,346,352,353,359,360,364,365]) (rc:=(OpenRow.toRowW (PySem.Challenge.rw_thinways_k87_texts_of_no_web).row).records) (c:=⟨47,366,669⟩) (M:=12 + (1 + (196 + (214 + (214 + (214 + (214 + (214 + (214 + (214 + (214 + (214 + (214 + (214 + (214 + (400 + (380 + (320 + 2)))))))))))))))))) (N:=8358) (e:=Kas) opn (by decide) fnc size run (by decide) lkA lkB lkC
end Hy
namespace Hy
open PySem PySem.W PyProof.Rows L2 L3 Hx Me
theorem all {w:World} {h:Heap} {mg:Str->Option Value} {fa:Addr} (X:(K w.params).In h) (G:h.Ns mainGlobals mg) (hfa:mg "law"=some (.ref fa)) :
  ∃ fd:FuncData,(∀ (s:Shared) (v:Value),BindsTo s fd ⟨[v],[]⟩ [("script",v)])∧∀ base:Heap,(K w.params).In base->base.Ns mainGlobals mg->FnOk (PySem.Challenge.rw_thinways_k87_texts_of_no_web).prog w (K w.params) mg base CX0 8 fa fd ["script"] (spLaw (K w.params)):=by
 have T:Bi mg:=⟨PySem.W.mg_none_of X G (show PySem.W.nsIn (K w.params) mainGlobals "len"=some none by kernel_rfl),PySem.W.mg_none_of X G (show PySem.W.nsIn (K w.params) mainGlobals "range"=some none by kernel_rfl),PySem.W.mg_none_of X G (show PySem.W.nsIn (K w.params) mainGlobals "zip"=some none by kernel_rfl),PySem.W.mg_none_of X G (show PySem.W.nsIn (K w.params) mainGlobals "all"=some none by kernel_rfl),PySem.W.mg_none_of X G (show PySem.W.nsIn (K w.params) mainGlobals "sorted"=some none by kernel_rfl),PySem.W.mg_none_of X G (show PySem.W.nsIn (K w.params) mainGlobals "isinstance"=some none by kernel_rfl),PySem.W.mg_none_of X G (show PySem.W.nsIn (K w.params) mainGlobals "min"=some none by kernel_rfl),PySem.W.mg_none_of X G (show PySem.W.nsIn (K w.params) mainGlobals "max"=some none by kernel_rfl),PySem.W.mg_none_of X G (show PySem.W.nsIn (K w.params) mainGlobals "tuple"=some none by kernel_rfl),PySem.W.mg_none_of X G (show PySem.W.nsIn (K w.params) mainGlobals "list"=some none by kernel_rfl),PySem.W.mg_none_of X G (show PySem.W.nsIn (K w.params) mainGlobals "int"=some none by kernel_rfl),PySem.W.mg_none_of X G (show PySem.W.nsIn (K w.params) mainGlobals "bool"=some none by kernel_rfl),PySem.W.mg_none_of X G (show PySem.W.nsIn (K w.params) mainGlobals "str"=some none by kernel_rfl),PySem.W.mg_none_of X G (show PySem.W.nsIn (K w.params) mainGlobals "enumerate"=some none by kernel_rfl),PySem.W.mg_none_of X G (show PySem.W.nsIn (K w.params) mainGlobals "sum"=some none by kernel_rfl),PySem.W.mg_none_of X G (show PySem.W.nsIn (K w.params) mainGlobals "abs"=some none by kernel_rfl),PySem.W.mg_none_of X G (show PySem.W.nsIn (K w.params) mainGlobals "set"=some none by kernel_rfl),PySem.W.mg_none_of X G (show PySem.W.nsIn (K w.params) mainGlobals "reversed"=some none by kernel_rfl),PySem.W.mg_none_of X G (show PySem.W.nsIn (K w.params) mainGlobals "any"=some none by kernel_rfl),PySem.W.mg_none_of X G (show PySem.W.nsIn (K w.params) mainGlobals "repr"=some none by kernel_rfl),PySem.W.mg_none_of X G (show PySem.W.nsIn (K w.params) mainGlobals "dict"=some none by kernel_rfl)⟩
 have D_is_whole:=dq (p:=PySem.Challenge.pw_thinways_k87_texts_of_no_web) (ps:=["thing"]) 190 189 15 415 X G bd_is_whole (by kernel_rfl) (by kernel_rfl) (by kernel_rfl) (by kernel_rfl)
 have D_is_wholes:=dq (p:=PySem.Challenge.pw_thinways_k87_texts_of_no_web) (ps:=["thing"]) 195 194 15 415 X G bd_is_wholes (by kernel_rfl) (by kernel_rfl) (by kernel_rfl) (by kernel_rfl)
 have D_is_rising:=dq (p:=PySem.Challenge.pw_thinways_k87_texts_of_no_web) (ps:=["parts"]) 200 199 15 415 X G bd_is_rising (by kernel_rfl) (by kernel_rfl) (by kernel_rfl) (by kernel_rfl)
 have D_is_size:=dq (p:=PySem.Challenge.pw_thinways_k87_texts_of_no_web) (ps:=["thing"]) 207 206 19 436 X G bd_is_size (by kernel_rfl) (by kernel_rfl) (by kernel_rfl) (by kernel_rfl)
 have D_is_length:=dq (p:=PySem.Challenge.pw_thinways_k87_texts_of_no_web) (ps:=["thing"]) 214 213 19 436 X G bd_is_length (by kernel_rfl) (by kernel_rfl) (by kernel_rfl) (by kernel_rfl)
 have D_is_triple:=dq (p:=PySem.Challenge.pw_thinways_k87_texts_of_no_web) (ps:=["thing"]) 221 220 19 436 X G bd_is_triple (by kernel_rfl) (by kernel_rfl) (by kernel_rfl) (by kernel_rfl)
 have D_is_tie:=dq (p:=PySem.Challenge.pw_thinways_k87_texts_of_no_web) (ps:=["n","thing"]) 228 227 19 436 X G bd_is_tie (by kernel_rfl) (by kernel_rfl) (by kernel_rfl) (by kernel_rfl)
 have D_is_web:=dq (p:=PySem.Challenge.pw_thinways_k87_texts_of_no_web) (ps:=["thing"]) 233 232 19 436 X G bd_is_web (by kernel_rfl) (by kernel_rfl) (by kernel_rfl) (by kernel_rfl)
 have D_is_written:=dq (p:=PySem.Challenge.pw_thinways_k87_texts_of_no_web) (ps:=["text"]) 238 237 25 473 X G bd_is_written (by kernel_rfl) (by kernel_rfl) (by kernel_rfl) (by kernel_rfl)
 have D_need_text:=dq (p:=PySem.Challenge.pw_thinways_k87_texts_of_no_web) (ps:=["thing"]) 245 244 25 473 X G bd_need_text (by kernel_rfl) (by kernel_rfl) (by kernel_rfl) (by kernel_rfl)
 have D_read_number:=dq (p:=PySem.Challenge.pw_thinways_k87_texts_of_no_web) (ps:=["text"]) 252 251 25 473 X G bd_read_number (by kernel_rfl) (by kernel_rfl) (by kernel_rfl) (by kernel_rfl)
 have D_read_tie:=dq (p:=PySem.Challenge.pw_thinways_k87_texts_of_no_web) (ps:=["word"]) 259 258 25 473 X G bd_read_tie (by kernel_rfl) (by kernel_rfl) (by kernel_rfl) (by kernel_rfl)
 have D_read_web:=dq (p:=PySem.Challenge.pw_thinways_k87_texts_of_no_web) (ps:=["thing"]) 264 263 25 473 X G bd_read_web (by kernel_rfl) (by kernel_rfl) (by kernel_rfl) (by kernel_rfl)
 have D__law_pot:=dq (p:=PySem.Challenge.pw_thinways_k87_texts_of_no_web) (ps:=["script","k"]) 271 270 31 514 X G bd__law_pot (by kernel_rfl) (by kernel_rfl) (by kernel_rfl) (by kernel_rfl)
 have D__law_take:=dq (p:=PySem.Challenge.pw_thinways_k87_texts_of_no_web) (ps:=["pot","many"]) 278 277 31 514 X G bd__law_take (by kernel_rfl) (by kernel_rfl) (by kernel_rfl) (by kernel_rfl)
 have D__law_length:=dq (p:=PySem.Challenge.pw_thinways_k87_texts_of_no_web) (ps:=["pot","way"]) 285 284 31 514 X G bd__law_length (by kernel_rfl) (by kernel_rfl) (by kernel_rfl) (by kernel_rfl)
 have D__law_tied:=dq (p:=PySem.Challenge.pw_thinways_k87_texts_of_no_web) (ps:=["pot","n","style","a","b"]) 292 291 31 514 X G bd__law_tied (by kernel_rfl) (by kernel_rfl) (by kernel_rfl) (by kernel_rfl)
 have D__law_order:=dq (p:=PySem.Challenge.pw_thinways_k87_texts_of_no_web) (ps:=["pot","many"]) 299 298 31 514 X G bd__law_order (by kernel_rfl) (by kernel_rfl) (by kernel_rfl) (by kernel_rfl)
 have D__law_web:=dq (p:=PySem.Challenge.pw_thinways_k87_texts_of_no_web) (ps:=["pot","most"]) 306 305 31 514 X G bd__law_web (by kernel_rfl) (by kernel_rfl) (by kernel_rfl) (by kernel_rfl)
 have D__law_written:=dq (p:=PySem.Challenge.pw_thinways_k87_texts_of_no_web) (ps:=["web"]) 313 312 31 514 X G bd__law_written (by kernel_rfl) (by kernel_rfl) (by kernel_rfl) (by kernel_rfl)
 have D__law_number:=dq (p:=PySem.Challenge.pw_thinways_k87_texts_of_no_web) (ps:=["word"]) 318 317 31 514 X G bd__law_number (by kernel_rfl) (by kernel_rfl) (by kernel_rfl) (by kernel_rfl)
 have D__law_tie:=dq (p:=PySem.Challenge.pw_thinways_k87_texts_of_no_web) (ps:=["word"]) 325 324 31 514 X G bd__law_tie (by kernel_rfl) (by kernel_rfl) (by kernel_rfl) (by kernel_rfl)
 have D__law_read:=dq (p:=PySem.Challenge.pw_thinways_k87_texts_of_no_web) (ps:=["text"]) 332 331 31 514 X G bd__law_read (by kernel_rfl) (by kernel_rfl) (by kernel_rfl) (by kernel_rfl)
 have D__law_signs:=dq (p:=PySem.Challenge.pw_thinways_k87_texts_of_no_web) (ps:=[]) 339 338 31 514 X G bd__law_signs (by kernel_rfl) (by kernel_rfl) (by kernel_rfl) (by kernel_rfl)
 have D__law_word:=dq (p:=PySem.Challenge.pw_thinways_k87_texts_of_no_web) (ps:=["pot","n"]) 346 345 31 514 X G bd__law_word (by kernel_rfl) (by kernel_rfl) (by kernel_rfl) (by kernel_rfl)
 have D__law_other:=dq (p:=PySem.Challenge.pw_thinways_k87_texts_of_no_web) (ps:=["pot","n","text"]) 353 352 31 514 X G bd__law_other (by kernel_rfl) (by kernel_rfl) (by kernel_rfl) (by kernel_rfl)
 have D__law_told:=dq (p:=PySem.Challenge.pw_thinways_k87_texts_of_no_web) (ps:=["thing"]) 360 359 31 514 X G bd__law_told (by kernel_rfl) (by kernel_rfl) (by kernel_rfl) (by kernel_rfl)
 have m_ThinError:=PySem.W.mg_of X G (show PySem.W.nsIn (K w.params) mainGlobals "ThinError"=some (some (.ref 24)) by kernel_rfl)
 have m_NoText:=PySem.W.mg_of X G (show PySem.W.nsIn (K w.params) mainGlobals "NoText"=some (some (.ref 145)) by kernel_rfl)
 have m_NoWeb:=PySem.W.mg_of X G (show PySem.W.nsIn (K w.params) mainGlobals "NoWeb"=some (some (.ref 37)) by kernel_rfl)
 have m_NoBack:=PySem.W.mg_of X G (show PySem.W.nsIn (K w.params) mainGlobals "NoBack"=some (some (.ref 169)) by kernel_rfl)
 have m_NoFalls:=PySem.W.mg_of X G (show PySem.W.nsIn (K w.params) mainGlobals "NoFalls"=some (some (.ref 109)) by kernel_rfl)
 have m_NoLength:=PySem.W.mg_of X G (show PySem.W.nsIn (K w.params) mainGlobals "NoLength"=some (some (.ref 133)) by kernel_rfl)
 have m_NoLevels:=PySem.W.mg_of X G (show PySem.W.nsIn (K w.params) mainGlobals "NoLevels"=some (some (.ref 97)) by kernel_rfl)
 have m_NoLine:=PySem.W.mg_of X G (show PySem.W.nsIn (K w.params) mainGlobals "NoLine"=some (some (.ref 157)) by kernel_rfl)
 have m_NoOrder:=PySem.W.mg_of X G (show PySem.W.nsIn (K w.params) mainGlobals "NoOrder"=some (some (.ref 61)) by kernel_rfl)
 have m_NoPlain:=PySem.W.mg_of X G (show PySem.W.nsIn (K w.params) mainGlobals "NoPlain"=some (some (.ref 73)) by kernel_rfl)
 have m_NoShare:=PySem.W.mg_of X G (show PySem.W.nsIn (K w.params) mainGlobals "NoShare"=some (some (.ref 85)) by kernel_rfl)
 have m_NoTie:=PySem.W.mg_of X G (show PySem.W.nsIn (K w.params) mainGlobals "NoTie"=some (some (.ref 121)) by kernel_rfl)
 have m_NoTimes:=PySem.W.mg_of X G (show PySem.W.nsIn (K w.params) mainGlobals "NoTimes"=some (some (.ref 49)) by kernel_rfl)
 have m_TooMany:=PySem.W.mg_of X G (show PySem.W.nsIn (K w.params) mainGlobals "TooMany"=some (some (.ref 181)) by kernel_rfl)
 have z_ValueError:=PySem.W.mg_none_of X G (show PySem.W.nsIn (K w.params) mainGlobals "ValueError"=some none by kernel_rfl)
 have xm_NoText:XM (K w.params) 145:=⟨"NoText","NoText",144,[.ref 24],.ref 24::Hx.mro0,true,[],[],false,none,none,some (.ref 136),none,some (.str "NoText" 351),some (.str "NoText" 359),some (.bool true),(by kernel_rfl),(by kernel_rfl),(.own (c0:=.type "type") (dd:=none) (cd:=⟨"ThinError",[.type "ValueError"],.ref 24::Hx.mro0,23,"ThinError",true,[],[.ref 37,.ref 49,.ref 61,.ref 73,.ref 85,.ref 97,.ref 109,.ref 121,.ref 133,.ref 145,.ref 157,.ref 169,.ref 181],false,none,false⟩) (sl:=#[some (.ref 15),none,some (.str "ThinError" 189),some (.str "ThinError" 197),some (.builtin "ValueError.__new__"),some (.bool true)]) (by kernel_rfl) (by kernel_rfl) .base),by decide +kernel⟩
 have XF:XF87 (K w.params) 24 145 37 169 109 133 97 157 61 73 85 121 49 181:=⟨⟨(by kernel_rfl),(by kernel_rfl),(by kernel_rfl),(by kernel_rfl),(by kernel_rfl),(by kernel_rfl)⟩,(by kernel_rfl),(by kernel_rfl),(by kernel_rfl),(by kernel_rfl),(by kernel_rfl)⟩
 have e:=hfa.symm.trans (PySem.W.mg_of X G (show PySem.W.nsIn (K w.params) mainGlobals "law"=some (some (.ref 365)) by kernel_rfl))
 cases e
 have F:=fun_mk (x:="law") (qual:="law") (st:=s_law) (K:=K w.params) (f:=365) (oc:=.type "function") (od:=none) (an:=none) (osl:=#[]) (kV:=.none) (doc:=.none) (pm:=Hx.mdV PySem.Challenge.pw_thinways_k87_texts_of_no_web ⟨0,0,0,31,514,0⟩) (cdv:=.ref 364) (ct:=.none) (by kernel_rfl) (by kernel_rfl) (by kernel_rfl)
 exact⟨_,fun s v=>.of_eq rfl,fun base _ _=>law_all (P:=(PySem.Challenge.rw_thinways_k87_texts_of_no_web).prog) (w:=w) (base:=base) T m_ThinError m_NoText m_NoWeb m_NoBack m_NoFalls m_NoLength m_NoLevels m_NoLine m_NoOrder m_NoPlain m_NoShare m_NoTie m_NoTimes m_TooMany z_ValueError xm_NoText XF D_is_whole D_is_wholes D_is_rising D_is_size D_is_length D_is_triple D_is_tie D_is_web D_is_written D_need_text D_read_number D_read_tie D_read_web D__law_pot D__law_take D__law_length D__law_tied D__law_order D__law_web D__law_written D__law_number D__law_tie D__law_read D__law_signs D__law_word D__law_other D__law_told F⟩
end Hy
open PySem PySem.W PyProof.Rows
set_option maxRecDepth 100000 in
set_option maxHeartbeats 0 in
theorem PySem.Challenge.cw_thinways_k87_texts_of_no_web_holds : PySem.Challenge.rw_thinways_k87_texts_of_no_web.Holds := by
 w_on;o_law
 refine holds_open (q:=(Hx.qv PySem.Challenge.pw_thinways_k87_texts_of_no_web [46])) (loose:=Hx.lz PySem.Challenge.pw_thinways_k87_texts_of_no_web [46] 47) (Xt:=fun s=>xlAt (Hx.qv PySem.Challenge.pw_thinways_k87_texts_of_no_web [46]) [] s && recOk (OpenRow.toRowW (PySem.Challenge.rw_thinways_k87_texts_of_no_web).row).records s) (XP:=XL (Hx.qv PySem.Challenge.pw_thinways_k87_texts_of_no_web [46]) []) (Yf:=Hook.obs Hy.H) (Ya:=Hook.val Hy.H) (YP:=Hook.says Hy.H) (N:=8358) Hy.left (Hook.of Hy.H) (Hook.keeps Hy.H) (fun s e=>xl_of s (Bool.and_eq_true_iff.mp e).1) XL.keeps (by rfl) (by rfl) (by rfl) (fun s e=>recFacts_of (Bool.and_eq_true_iff.mp e).2) (by rfl) (by first | assumption | decide +kernel) (by decide +kernel) ⟨rfl,rfl,rfl,rfl,rfl,by decide +kernel⟩ ?hw ?hc
 case hw=>w_witness2
 case hc =>
  refine Me.walk (l:=PySem.Challenge.rw_thinways_k87_texts_of_no_web) rfl rfl (fun w h Y=>PySem.W.kIn_of Y) fun w mg fa h KX G hmg=>Hy.all KX G hmg
