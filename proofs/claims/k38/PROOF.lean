import PyProof.Rows.All
import Wide.All
import OpenK.AllK
import Wide.FinOn
import Lean
import PyProof.EqAt
import PyProof.EqKinds
import PyProof.TupleCall
import KE.KSortTup
import PyProof.ZipIter
import PyProof.TupleIter
import PyProof.WalksMore
import PyProof.Rows.TupIter
import PyProof.EnumIter
import PyProof.EnumFor
import PyProof.EnumStmt
import PyProof.ReprRoads
import PyProof.Rows.SeqMore
import PyProof.ListMulRoad
import PyProof.FactsAll.tuple_2
import PyProof.FactsAll.tuple_3
import PyProof.Rows.Tup
import PyProof.ListRange
import PyProof.TupleOfSeq
import PyProof.SumAny
import PyProof.ConsumeS
import PyProof.Rows.CallKwBuiltin
import KE.KLam
import KE.KSortKey
import PyProof.AutoSeq1
import KE.KListMore
import PyProof.FactsAll.subtypes_4
import PyProof.SetRoads
import PyProof.Rows.SetFrom
import PyProof.WalkInts
import PyProof.DictDisplay
import PyProof.ReprBulk
import PyProof.DictWalks
import PySem.Challenge.RW_thinways_k38_forests_judged
set_option Elab.async false
set_option linter.all false
set_option maxRecDepth 100000
local macro_rules | `(tactic| trivial) => `(tactic| first | lia | omega)
namespace L2
open PySem PySem.Spec PyProof.Rows
abbrev Key:=Sum Int Str
def keyIs:Key->Value->Bool
 | .inl k,v=>Value.isInt k v
 | .inr x,v=>Value.isStrOf x v
def keyH (w:World):Key->Int
 | .inl k=>hashInt k
 | .inr x=>hashStr w x
theorem zbc:∀ {k:Key} {v:Value},keyIs k v=true->(∃ i t,k=Sum.inl i∧v=Value.int i t)∨(∃ x t,k=Sum.inr x∧v=Value.str x t)
 | .inl i,v,h=>by
  obtain⟨t,e⟩:=Value.isInt_shape (k:=i) (v:=v) h
  exact .inl ⟨i,t,rfl,e⟩
 | .inr x,v,h=>by
  obtain⟨t,e⟩:=Value.isStrOf_shape (x:=x) (v:=v) h
  exact .inr ⟨x,t,rfl,e⟩
theorem zlp (i:Int) (t:Tok):keyIs (.inl i) (.int i t)=true:=by simp [keyIs,Value.isInt]
theorem zlo (x:Str) (t:Tok):keyIs (.inr x) (.str x t)=true:=by simp [keyIs,Value.isStrOf]
theorem zqa (a b:Int):decide ((Sum.inl a:Key)=Sum.inl b)=(a == b):=by
 by_cases e:a=b
 ·subst e;simp
 ·have h:¬ (Sum.inl a:Key)=Sum.inl b:=fun q=>e (Sum.inl.inj q)
  rw[decide_eq_false h]
  exact (beq_eq_false_iff_ne.mpr e).symm
theorem zp7 (a b:Str):decide ((Sum.inr a:Key)=Sum.inr b)=decide (a=b):=by
 by_cases e:a=b
 ·subst e;simp
 ·have h:¬ (Sum.inr a:Key)=Sum.inr b:=fun q=>e (Sum.inr.inj q)
  rw[decide_eq_false h,decide_eq_false e]
theorem zp9 (a:Int) (b:Str):decide ((Sum.inl a:Key)=Sum.inr b)=false:=decide_eq_false (fun q=>nomatch q)
theorem zp8 (a:Str) (b:Int):decide ((Sum.inr a:Key)=Sum.inl b)=false:=decide_eq_false (fun q=>nomatch q)
def mixKind (prog:Program) (w:World):PySem.KeyKind prog w Key where
 is:=keyIs
 hash:=keyH w
 inj:=fun v a b ha hb=>by
  rcases zbc ha with ⟨i,t,rfl,rfl⟩ | ⟨x,t,rfl,rfl⟩
  ·rcases zbc hb with ⟨j,u,rfl,e⟩ | ⟨y,u,rfl,e⟩
   ·injection e with e1 _;rw[e1]
   ·exact nomatch e
  ·rcases zbc hb with ⟨j,u,rfl,e⟩ | ⟨y,u,rfl,e⟩
   ·exact nomatch e
   ·injection e with e1 _;rw[e1]
 byValue:=fun k v h=>by
  rcases zbc h with ⟨i,t,rfl,rfl⟩ | ⟨x,t,rfl,rfl⟩ <;> rfl
 pyHash:=fun hv h=>by
  rcases zbc hv with ⟨i,t,rfl,rfl⟩ | ⟨x,t,rfl,rfl⟩
  ·exact wpAny_pyHash_int h
  ·exact wpAny_pyHash_str h
 eqBool:=fun hu hv h=>by
  rcases zbc hu with ⟨i,t,rfl,rfl⟩ | ⟨x,t,rfl,rfl⟩
  ·rcases zbc hv with ⟨j,u,rfl,rfl⟩ | ⟨y,u,rfl,rfl⟩
   ·rw[zqa] at h;exact wpAny_eqBool_int h
   ·rw[zp9] at h;exact SeqAt.EqAt.int_str i t y u _ _ _ _ h
  ·rcases zbc hv with ⟨j,u,rfl,rfl⟩ | ⟨y,u,rfl,rfl⟩
   ·rw[zp8] at h;exact SeqAt.EqAt.str_int x t j u _ _ _ _ h
   ·rw[zp7] at h;exact wpAny_eqBool_str h
 «strs»:=fun k x t v h=>by
  rcases zbc h with ⟨i,u,rfl,e⟩ | ⟨y,u,rfl,e⟩
  ·exact nomatch e
  ·injection e with e1 _
   subst e1
   cases v <;> rfl
theorem zil (prog:Program) (w:World) (i:Int) (t:Tok):(mixKind prog w).is (.inl i) (.int i t)=true:=zlp i t
theorem zik (prog:Program) (w:World) (x:Str) (t:Tok):(mixKind prog w).is (.inr x) (.str x t)=true:=zlo x t
end L2
namespace L2
open PySem PySem.Spec PyProof.Rows
inductive V where
 | non | bl (b:Bool) | int (i:Int) | str (x:Str) | byt (b:Array UInt8) | flt (b:UInt64) | ref (a:Addr) | ty (n:String)
 deriving DecidableEq
def RelV:V->Value->Prop
 | .non,u=>u=Value.none
 | .bl b,u=>u=Value.bool b
 | .int i,u=>∃ t,u=Value.int i t
 | .str x,u=>∃ t,u=Value.str x t
 | .byt b,u=>∃ t,u=Value.bytes b t
 | .flt b,u=>∃ t,u=Value.float b t
 | .ref a,u=>u=Value.ref a
 | .ty n,u=>u=Value.type n
abbrev Vals:List V->List Value->Prop:=Paired RelV
theorem Vals.length {xs:List V} {us:List Value} (r:Vals xs us):xs.length=us.length:=Paired.length r
theorem Vals.get:∀ {xs:List V} {us:List Value} {i:Nat} {x:V},Vals xs us->xs[i]?=some x->∃ u,us[i]?=some u∧RelV x u
 | _,_,_,_,.nil,e=>by simp at e
 | _,_,0,_,.cons r _,e=>by simp at e;subst e;exact⟨_,rfl,r⟩
 | _,_,i + 1,x,.cons _ t,e=>by
  obtain⟨u,h1,h2⟩:=Vals.get (i:=i) (x:=x) t (by simpa using e)
  exact⟨u,by simpa using h1,h2⟩
theorem Vals.set {x:V} {u:Value} (r:RelV x u):∀ {xs:List V} {us:List Value} (i:Nat),Vals xs us->Vals (xs.set i x) (us.set i u)
 | _,_,_,.nil=>.nil
 | _,_,0,.cons _ t=>.cons r t
 | _,_,i + 1,.cons q t=>.cons q (Vals.set r i t)
theorem Vals.append:∀ {xs ys:List V} {us ws:List Value},Vals xs us->Vals ys ws->Vals (xs++ys) (us++ws)
 | _,_,_,_,.nil,s=>s
 | _,_,_,_,.cons r t,s=>.cons r (Vals.append t s)
theorem Vals.take:∀ {xs:List V} {us:List Value} (n:Nat),Vals xs us->Vals (xs.take n) (us.take n)
 | _,_,0,_=>.nil
 | _,_,_ + 1,.nil=>.nil
 | _,_,n + 1,.cons r t=>.cons r (Vals.take n t)
theorem Vals.drop:∀ {xs:List V} {us:List Value} (n:Nat),Vals xs us->Vals (xs.drop n) (us.drop n)
 | _,_,0,r=>r
 | _,_,_ + 1,.nil=>.nil
 | _,_,n + 1,.cons _ t=>Vals.drop n t
def RelO:Option V->Option Value->Prop
 | some v,some u=>RelV v u
 | none,none=>True
 | _,_=>False
def KV {κ:Type}:List (κ × V)->List (κ × Value)->Prop:=Paired fun (p:κ × V) (q:κ × Value)=>p.1=q.1∧RelV p.2 q.2
def kV:Key->V
 | .inl i=>.int i
 | .inr x=>.str x
inductive HO where
  | lst (xs:List V)
  | tup (xs:List V)
  | dK (kvs:List (Key × V)) | dT (kvs:List (List Key × V))
  | set (S:Int->Bool) (n:Nat)
  | ins (C dx:Addr) (fs:List (Str × V))
  | own (x:Addr)
  | xd (fs:List (Str × V))
  | met (f x:Addr)
  | rng (lo hi:Int)
  | frz (o:Obj) (u:HO)
  | tbl (ps:Array Value)
  | ext (φ:Heap->Prop)
abbrev Hp:=Addr->Option HO
def upd (H:Hp) (a:Addr) (o:HO):Hp:=fun b=>if b=a then some o else H b
theorem zae {H:Hp} {a:Addr} {o:HO}:upd H a o a=some o:=by unfold upd;rw[if_pos rfl]
theorem zas {H:Hp} {a b:Addr} {o:HO} (h:b≠a):upd H a o b=H b:=by unfold upd;rw[if_neg h]
theorem zoa {H:Hp} {a:Addr} {o u:HO}:upd (upd H a o) a u=upd H a u:=by
 funext b;unfold upd;split <;> rfl
theorem zqm {H:Hp} {a b:Addr} {o u:HO} (h:H a=some o) (h':H b=some u) (d:o≠u):a≠b:=by
 intro e;subst e;rw[h] at h';exact d (Option.some.inj h')
theorem zat {H:Hp} {a b:Addr} {o:HO} (h:H a=some o) (h':H b=none):a≠b:=by
 intro e;subst e;rw[h] at h';cases h'
section
variable (P:Program) (w:World)
def TupN (h:Heap) (a:Addr) (items:Array Value):Prop:=∃ o,h.get? a=some o∧o.cls=.type "tuple"∧(∃ n,o.data=.seq items n)∧o.dict=none
theorem TupN.tup {h:Heap} {a:Addr} {items:Array Value} (x:TupN h a items):IsTup h a items:=let ⟨o,e,c,d,_⟩:=x;⟨o,e,c,d⟩
theorem TupN.new (h:Heap) (items:Array Value):TupN (h.push { cls:=.type "tuple",data:=.seq items }) h.objs.size items:=⟨_,Heap.get?_push_size _ rfl,rfl,⟨_,rfl⟩,rfl⟩
def ObjOk (H:Hp) (h:Heap) (a:Addr):HO->Prop
 | .lst xs=>xs.length≤sizeLine∧∃ (its:List Value) (n:Nat),Vals xs its∧h.get? a=some { cls:=.type "list",data:=.seq its.toArray n }
 | .tup xs=>xs.length≤sizeLine∧∃ its:List Value,Vals xs its∧TupN h a its.toArray
 | .dK kvs=>kvs.length≤sizeLine∧(a == sysModules)=false∧∃ vs,KV kvs vs∧h.DictOf (mixKind P w) a vs
 | .dT kvs => kvs.length ≤ sizeLine ∧ (a == sysModules) = false ∧ ∃ xs : List (List Key × Addr × Value),
     Paired (fun (p:List Key × V) (q:List Key × Addr × Value)=>p.1=q.1∧H q.2.1=some (.tup (p.1.map kV))∧RelV p.2 q.2.2) kvs xs ∧
     ∃ o es ep,h.get? a=some o∧o.ExactDict∧o.data=.dict es ep∧es.toList=xs.map (entryOfKey (tupleKind (mixKind P w)))∧(xs.map (·.1)).Nodup
 | .set S n=>h.SetOf (intKind P w) a S n
 | .ins C dx fs => H dx = some (.own a) ∧ fs.length ≤ 1000 ∧ dx ≠ a ∧ h.get? a = some (PySem.W.instObj C dx) ∧
     ∃ mA,h.Ns1 dx mA∧(∀ f,RelO (fs.lookup f) (mA f))∧PySem.Within mA (fs.map (·.1))
 | .own _=>∃ o,h.get? a=some o
 | .xd fs=>∃ mA,h.Ns1 a mA∧∀ f,RelO (fs.lookup f) (mA f)
 | .rng lo hi=>∃ t u v,h.get? a=some { cls:=.type "range",data:=.fields #[.int lo t,.int hi u,.int 1 v] }
 | .frz o u=>h.get? a=some o∧ObjOk H h a u
 | .tbl ps=>h.get? a=some { cls:=.none,data:=.fields ps }
 | .met f x=>h.get? a=some (PySem.W.methodObj (.ref f) (.ref x))
 | .ext φ=>φ h∧(∃ o,h.get? a=some o)∧∀ h1 h2:Heap,φ h1->(∀ o,h1.get? a=some o->h2.get? a=some o)->φ h2
def HOk (H:Hp) (h:Heap):Prop:=∀ a o,H a=some o->ObjOk P w H h a o
end
section
variable {P:Program} {w:World} {H H':Hp} {h h':Heap} {a:Addr} {o:HO}
theorem ObjOk.lt (x:ObjOk P w H h a o):a < h.objs.size:=by
 cases o with
 | lst xs=>obtain⟨_,_,_,_,e⟩:=x;exact Heap.lt_size e
 | tup xs=>obtain⟨_,_,_,p⟩:=x;exact p.tup.lt
 | dK kvs=>obtain⟨_,_,_,_,o,_,_,e,_⟩:=x;exact Heap.lt_size e
 | dT kvs=>obtain⟨_,_,_,_,o,_,_,e,_⟩:=x;exact Heap.lt_size e
 | set S n=>obtain⟨o,_,_,_,e,_⟩:=x;exact Heap.lt_size e
 | ins C dx fs=>obtain⟨_,_,_,e,_⟩:=x;exact Heap.lt_size e
 | own y=>obtain⟨_,e⟩:=x;exact Heap.lt_size e
 | xd fs=>obtain⟨_,⟨_,_,_,e,_⟩,_⟩:=x;exact Heap.lt_size e
 | rng lo hi=>obtain⟨_,_,_,e⟩:=x;exact Heap.lt_size e
 | frz ob u=>obtain⟨e,_⟩:=x;exact Heap.lt_size e
 | tbl ps=>exact Heap.lt_size (show h.get? a=some _ from x)
 | met f y=>exact Heap.lt_size (show h.get? a=some _ from x)
 | ext φ=>obtain⟨_,⟨_,e⟩,_⟩:=x;exact Heap.lt_size e
theorem Paired.mapP {α β:Type} {F G:α->β->Prop}:∀ {l₁:List α} {l₂:List β},Paired F l₁ l₂->(∀ a b,F a b->G a b)->Paired G l₁ l₂
 | _,_,.nil,_=>.nil
 | _,_,.cons r t,f=>.cons (f _ _ r) (Paired.mapP t f)
theorem ObjOk.stay (x:ObjOk P w H h a o) (k:∀ b u,(b=a∨H b=some (.own a))->h.get? b=some u->h'.get? b=some u)
  (ho:∀ b,H b=some (.own a)->H' b=some (.own a)) (ht:∀ b xs,H b=some (.tup xs)->H' b=some (.tup xs)):ObjOk P w H' h' a o:=by
 induction o with
 | lst xs=>obtain⟨z,its,n,r,e⟩:=x;exact⟨z,its,n,r,k _ _ (.inl rfl) e⟩
 | tup xs=>obtain⟨z,its,r,ob,e,c⟩:=x;exact⟨z,its,r,ob,k _ _ (.inl rfl) e,c⟩
 | dK kvs=>obtain⟨z,y,vs,r,ob,es,ep,e,c⟩:=x;exact⟨z,y,vs,r,ob,es,ep,k _ _ (.inl rfl) e,c⟩
 | dT kvs =>
  obtain⟨z,y,xs,r,ob,es,ep,e,c⟩:=x
  exact⟨z,y,xs,Paired.mapP r fun p q z=>⟨z.1,ht _ _ z.2.1,z.2.2⟩,ob,es,ep,k _ _ (.inl rfl) e,c⟩
 | set S n=>obtain⟨ob,es,ep,t,e,c⟩:=x;exact⟨ob,es,ep,t,k _ _ (.inl rfl) e,c⟩
 | ins C dx fs =>
  obtain⟨d,z,ne,e,mA,⟨od,es,ep,e2,c⟩,r⟩:=x
  exact⟨ho _ d,z,ne,k _ _ (.inl rfl) e,mA,⟨od,es,ep,k _ _ (.inr d) e2,c⟩,r⟩
 | own y=>obtain⟨ob,e⟩:=x;exact⟨ob,k _ _ (.inl rfl) e⟩
 | xd fs=>obtain⟨mA,⟨od,es,ep,e,c⟩,r⟩:=x;exact⟨mA,⟨od,es,ep,k _ _ (.inl rfl) e,c⟩,r⟩
 | rng lo hi=>obtain⟨t,u,v,e⟩:=x;exact⟨t,u,v,k _ _ (.inl rfl) e⟩
 | frz ob u ih=>obtain⟨e,q⟩:=x;exact⟨k _ _ (.inl rfl) e,ih q⟩
 | tbl ps =>
  have e:h.get? a=some { cls:=.none,data:=.fields ps }:=x
  show h'.get? a=some { cls:=.none,data:=.fields ps }
  exact k a _ (.inl rfl) e
 | met f y =>
  have e:h.get? a=some (PySem.W.methodObj (.ref f) (.ref y)):=x
  show h'.get? a=some (PySem.W.methodObj (.ref f) (.ref y))
  exact k a _ (.inl rfl) e
 | ext φ=>obtain⟨p,⟨o,e⟩,st⟩:=x;exact⟨st _ _ p fun o q=>k _ _ (.inl rfl) q,⟨o,k _ _ (.inl rfl) e⟩,st⟩
theorem HOk.lt (x:HOk P w H h) (e:H a=some o):a < h.objs.size:=(x a o e).lt
theorem HOk.fresh (x:HOk P w H h) (e:h.objs.size≤a):H a=none:=by
 cases q:H a with
 | none=>rfl
 | some u=>exact absurd (Nat.lt_of_lt_of_le (x.lt q) e) (Nat.lt_irrefl _)
theorem HOk.kept (x:HOk P w H h) (k:∀ b u,h.get? b=some u->h'.get? b=some u):HOk P w H h':=fun a o e =>
 (x a o e).stay (fun b u _ q=>k b u q) (fun _ q=>q) fun _ _ q=>q
theorem HOk.laid (x:HOk P w H h) (k:∀ b u,h.get? b=some u->h'.get? b=some u) (hp:h.objs.size≤a) (new:ObjOk P w (upd H a o) h' a o):HOk P w (upd H a o) h':=fun b u e=>by
 have hn:=x.fresh hp
 by_cases hb:b=a
 ·subst hb;rw[zae] at e;cases e;exact new
 ·rw[zas hb] at e
  exact (x b u e).stay (fun c v _ q=>k c v q) (fun c q=>by rw[zas (zat q hn)];exact q) fun c xs q=>by rw[zas (zat q hn)];exact q
end
def Rd (H:Hp) (a:Addr) (u:HO):Prop:=H a=some u∨∃ o,H a=some (.frz o u)
theorem Rd.ok {P:Program} {w:World} {H:Hp} {h:Heap} {a:Addr} {u:HO} (r:Rd H a u) (x:HOk P w H h):ObjOk P w H h a u:=by
 rcases r with r | ⟨o,r⟩
 ·exact x a u r
 ·obtain⟨_,q⟩:=x a _ r
  exact q
def Mut:Option HO->Prop
 | some (.lst _)=>True
 | some (.dK _)=>True
 | some (.dT _)=>True
 | some (.set _ _)=>True
 | some (.ins _ _ _)=>True
 | some (.ext _)=>True
 | _=>False
section
variable {P:Program} {w:World} {H:Hp} {h h':Heap} {x e:Addr} {o':HO}
theorem HOk.write (ok:HOk P w H h) (mu:Mut (H x)) (he:e=x∨H e=some (.own x)) (k:∀ b u,b≠e->h.get? b=some u->h'.get? b=some u) (heo:∃ u,h'.get? e=some u)
  (new:ObjOk P w (upd H x o') h' x o'):HOk P w (upd H x o') h':=fun b u q=>by
 have nown:∀ c y,H c=some (.own y)->c≠x:=fun c y r z=>by subst z;rw[r] at mu;exact mu
 have ntup:∀ c xs,H c=some (.tup xs)->c≠x:=fun c xs r z=>by subst z;rw[r] at mu;exact mu
 by_cases hb:b=x
 ·subst hb;rw[zae] at q;cases q;exact new
 ·rw[zas hb] at q
  by_cases hbe:b=e
  ·have q':H b=some (.own x):=by
    rcases he with z | z
    ·exact absurd (hbe.trans z) hb
    ·rw[hbe];exact z
   rw[q] at q';cases q'
   obtain⟨v,hv⟩:=heo
   exact⟨v,by rw[hbe];exact hv⟩
  ·refine (ok b u q).stay (fun c v hc r=>k c v ?_ r) (fun c r=>by rw[zas (nown c b r)];exact r) fun c xs r=>by rw[zas (ntup c xs r)];exact r
   rcases hc with rfl | hc
   ·exact hbe
   ·rintro rfl
    rcases he with z | z
    ·exact nown c b hc z
    ·rw[hc] at z;cases z;exact hb rfl
end
structure Un (fs ex:List Addr) (H H':Hp) (h h':Heap):Prop where
 keep:∀ b o,h.get? b=some o->H b=none->b ∉ fs->b ∉ ex->h'.get? b=some o
 slot:∀ b o,h.get? b=some o->H b=none->b ∈ fs->b ∉ ex->∃ sl,h'.get? b=some { o with slots:=sl }
 free:∀ b o,h.get? b=some o->H b=none->b ∉ ex->H' b=none
 there:∀ b o,h.get? b=some o->b ∉ ex->∃ o',h'.get? b=some o'
 tups:∀ b xs,H b=some (.tup xs)->H' b=some (.tup xs)
 frzs:∀ b o u,H b=some (.frz o u)->H' b=some (.frz o u)
 tbls:∀ b ps,H b=some (.tbl ps)->∃ more,H' b=some (.tbl (ps++more))
section
variable {fs fs' ex ex':List Addr} {H H1 H2:Hp} {h h1 h2 h':Heap} {a x e:Addr} {o:HO}
theorem Un.any (u:Un fs ex H H1 h h1) {b:Addr} {ob:Obj} (q:h.get? b=some ob) (n:H b=none) (hx:b ∉ ex):∃ sl,h1.get? b=some { ob with slots:=sl }:=by
 by_cases hb:b ∈ fs
 ·exact u.slot b ob q n hb hx
 ·exact⟨ob.slots,u.keep b ob q n hb hx⟩
theorem Un.trans (a:Un fs ex H H1 h h1) (b:Un fs ex H1 H2 h1 h2):Un fs ex H H2 h h2 where
 keep:=fun c ob q n hc hx=>b.keep c ob (a.keep c ob q n hc hx) (a.free c ob q n hx) hc hx
 slot:=fun c ob q n hc hx=>by
  obtain⟨sl,e1⟩:=a.slot c ob q n hc hx
  obtain⟨sl',e2⟩:=b.slot c _ e1 (a.free c ob q n hx) hc hx
  exact⟨sl',e2⟩
 free:=fun c ob q n hx=>by
  obtain⟨o',e1⟩:=a.there c ob q hx
  exact b.free c o' e1 (a.free c ob q n hx) hx
 there:=fun c ob q hx=>by
  obtain⟨o',e1⟩:=a.there c ob q hx
  exact b.there c o' e1 hx
 tups:=fun c xs q=>b.tups c xs (a.tups c xs q)
 frzs:=fun c ob xs q=>b.frzs c ob xs (a.frzs c ob xs q)
 tbls:=fun c ps q=>by
  obtain⟨m1,e1⟩:=a.tbls c ps q
  obtain⟨m2,e2⟩:=b.tbls c _ e1
  exact⟨m1++m2,by rw[e2,Array.append_assoc]⟩
theorem Un.kept (k:∀ b u,h.get? b=some u->h'.get? b=some u):Un fs ex H H h h' :=
 ⟨fun b ob q _ _ _=>k b ob q,fun b ob q _ _ _=>⟨ob.slots,k b ob q⟩,fun _ _ _ n _=>n,fun b ob q _=>⟨ob,k b ob q⟩,fun _ _ q=>q,fun _ _ _ q=>q,fun _ ps q=>⟨#[],by rw[q];simp⟩⟩
theorem Un.refl:Un fs ex H H h h:=Un.kept fun _ _ q=>q
theorem Un.laid (k:∀ b u,h.get? b=some u->h'.get? b=some u) (hp:h.objs.size≤a) (hn:H a=none):Un fs ex H (upd H a o) h h' where
 keep:=fun b u q _ _ _=>k b u q
 slot:=fun b u q _ _ _=>⟨u.slots,k b u q⟩
 free:=fun b u q n _=>by rw[zas (Nat.ne_of_lt (Nat.lt_of_lt_of_le (Heap.lt_size q) hp))];exact n
 there:=fun b u q _=>⟨u,k b u q⟩
 tups:=fun b xs q=>by rw[zas (zat q hn)];exact q
 frzs:=fun b u xs q=>by rw[zas (zat q hn)];exact q
 tbls:=fun b ps q=>⟨#[],by rw[zas (zat q hn),q];simp⟩
theorem Un.write (mu:Mut (H x)) (he:e=x∨H e=some (.own x)) (k:∀ b u,b≠e->h.get? b=some u->h'.get? b=some u) (heo:∃ u,h'.get? e=some u):Un fs ex H (upd H x o) h h':=by
 have hx:∀ b,H b=none->b≠x:=fun b n z=>by subst z;rw[n] at mu;exact mu
 have hb:∀ b,H b=none->b≠e:=fun b n z=>by
  subst z
  rcases he with r | r
  ·exact hx b n r
  ·rw[n] at r;cases r
 have hm:∀ b u,H b=some u->¬ Mut (some u)->b≠x:=fun b u q nm z=>by subst z;rw[q] at mu;exact nm mu
 refine⟨fun b u q n _ _=>k b u (hb b n) q,fun b u q n _ _=>⟨u.slots,k b u (hb b n) q⟩,fun b u q n _=>by rw[zas (hx b n)];exact n,fun b u q _=>?_,
  fun b xs q=>by rw[zas (hm b _ q fun z=>z)];exact q,fun b u xs q=>by rw[zas (hm b _ q fun z=>z)];exact q,fun b ps q=>⟨#[],by rw[zas (hm b _ q fun z=>z),q];simp⟩⟩
 by_cases hbe:b=e
 ·subst hbe;exact heo
 ·exact⟨u,k b u hbe q⟩
end
def trk (h:Heap) (H:Hp):List Addr:=(List.range h.objs.size).filter fun a=>(H a).isSome
def hidT (h:Heap) (H:Hp):Heap:=PySem.W.hideAll h (trk h H)
theorem zl0 (h:Heap) (H:Hp):(hidT h H).objs.size=h.objs.size:=PySem.W.hideAll_size _ _
theorem znc {h:Heap} {H:Hp} {b:Addr} {o:Obj} (e:h.get? b=some o) (n:H b=none):(hidT h H).get? b=some o :=
 PySem.W.hideAll_get _ e fun hm=>by
  have q:(H b).isSome=true:=(List.mem_filter.mp hm).2
  rw[n] at q;simp at q
theorem zor {h:Heap} {H:Hp} {b:Addr} {o:Obj} (e:(hidT h H).get? b=some o):h.get? b=some o∧H b=none:=by
 have e':h.get? b=some o:=PySem.W.of_hideAll (trk h H) e
 refine⟨e',?_⟩
 cases q:H b with
 | none=>rfl
 | some x =>
  have hm:b ∈ trk h H:=List.mem_filter.mpr ⟨List.mem_range.mpr (Heap.lt_size e'),by simp [q]⟩
  have z:(hidT h H).get? b=none:=PySem.W.hideAll_none (trk h H) hm
  rw[z] at e;cases e
def allNews (g h:Heap) (L:Addr):List (Addr × Obj):=(List.range h.objs.size).filterMap fun a=>if a=L∨(g.get? a).isSome=true then none else (h.get? a).map fun o=>(a,o)
def rest (g h:Heap) (L d:Addr):List (Addr × Obj):=(allNews g h L).filter fun p=>decide (p.1≠d)
end L2
namespace L2
open PySem PySem.Spec PyProof.Rows
structure Mod (K:PySem.W.Frag) (mg:Str->Option Value) (base:Heap):Prop where
 kin:K.In base
 glob:base.Ns mainGlobals mg
 blt:∃ mb,base.Ns builtinsNs mb∧∀ x:Str,x≠"__name__"->mb x=bootBuiltins x
 nolimit:base.NoLimit
structure Cx where
 prog:Program
 w:World
 K:PySem.W.Frag
 mg:Str->Option Value
 base:Heap
 A:Around
 N:List Str
 s₀:Shared
 H₀:Hp
 env:Env
 outer:List Env
 stack:List Env
 ex:List Addr
 fn:Str->Bool
 calm:Bool
 pn:List (Addr × Obj)
 xe:Value->Shared->Prop
def frs (l:List Env):List Addr:=l.filterMap (·.frame)
abbrev Cx.fs (X:Cx):List Addr:=frs X.outer
def Vis (sc:Scope) (x:Str):Prop:=sc.names.lookup x=some .local∨sc.names.lookup x=some .cell∨sc.names.lookup x=some .free
def Loc (sc:Scope) (x:Str):Prop:=sc.names.lookup x=some .local∨sc.names.lookup x=some .cell
def Look (env:Env) (h:Heap) (m:Str->Option Value) (x:Str) (u:Value):Prop :=
 (env.kindOf x=some .local∧m x=some u)∨((env.kindOf x=some .cell∨env.kindOf x=some .free)∧∃ c,env.cells.lookup x=some c∧h.IsCell c (some u))
structure Cx.Ok (X:Cx):Prop where
 mod:Mod X.K X.mg X.base
 kind:X.env.scope.kind=.function
 glob:X.env.globals=mainGlobals
 blt:X.env.builtins=builtinsNs
 above:X.s₀.heap.objs.size≤X.env.locals
 inj:∀ x y c,X.env.cells.lookup x=some c->X.env.cells.lookup y=some c->x=y
 has:∀ x,(X.env.kindOf x=some .cell∨X.env.kindOf x=some .free)->∃ c,X.env.cells.lookup x=some c
 cab:∀ x c,X.fn x=true->X.env.cells.lookup x=some c->X.s₀.heap.objs.size≤c
 hd:X.calm=true->X.A.handled=none
 frames:X.A.frames=some X.stack
 stk:X.stack=X.outer∨(X.stack=X.env::X.outer∧X.env.frame=some X.env.locals)
 exf:∀ b ∈ X.ex,b≠X.env.locals∧∀ x c,X.env.cells.lookup x=some c->c≠b
 bs:∀ b o,X.base.get? b=some o->X.s₀.heap.get? b=some o∧X.H₀ b=none
 bsz:X.base.objs.size≤X.s₀.heap.objs.size
 noex:∀ b o,X.base.get? b=some o->b ∉ X.ex
 exfs:∀ b ∈ X.ex,b ∉ X.fs
 funs:X.s₀.heap.FunFrames X.base X.outer
 frf:∀ b ∈ X.fs,X.H₀ b=none
structure Inv (X:Cx) (pins:List (Addr × Obj)) (σ:List (Option V)) (H:Hp) (s:Shared):Prop where
 ok:X.Ok
 os:s.os=X.s₀.os
 bare:AllBare s.gens
 base:Un X.fs X.ex X.H₀ H X.s₀.heap s.heap
 loc:∃ m,s.heap.Ns X.env.locals m∧∀ (i:Nat) (x:Str) (v:V),X.N[i]?=some x->σ[i]?=some (some v)->Vis X.env.scope x->∃ u,RelV v u∧Look X.env s.heap m x u
 cell:∀ x c,X.env.cells.lookup x=some c->∃ v,s.heap.IsCell c v
 free:H X.env.locals=none
 freeC:∀ x c,X.env.cells.lookup x=some c->H c=none
 pin:∀ p ∈ X.pn++pins,s.heap.get? p.1=some p.2∧H p.1=none∧p.1≠X.env.locals∧p.1 ∉ X.fs∧∀ v,p.2.data≠.cell v
 hok:HOk X.prog X.w H s.heap
 len:σ.length=X.N.length
section
variable {X:Cx} {pins:List (Addr × Obj)} {σ:List (Option V)} {H H':Hp} {s:Shared} {h':Heap}
theorem Cx.Ok.nofr (ok:X.Ok) {b:Addr} {o:Obj} (e:X.base.get? b=some o):b ∉ X.fs:=fun hb=>by
 have:=(ok.funs.mem hb).1
 rw[e] at this;cases this
theorem Inv.bs (I:Inv X pins σ H s):∀ b o,X.base.get? b=some o->s.heap.get? b=some o∧H b=none:=fun b o e =>
 ⟨I.base.keep b o (I.ok.bs b o e).1 (I.ok.bs b o e).2 (I.ok.nofr e) (I.ok.noex b o e),I.base.free b o (I.ok.bs b o e).1 (I.ok.bs b o e).2 (I.ok.noex b o e)⟩
theorem Inv.bk (I:Inv X pins σ H s):∀ b o,X.base.get? b=some o->s.heap.get? b=some o:=fun b o e=>(I.bs b o e).1
theorem Inv.mod (I:Inv X pins σ H s):Mod X.K X.mg X.base:=I.ok.mod
theorem Inv.kIn (I:Inv X pins σ H s):X.K.In s.heap:=I.ok.mod.kin.keeps I.bk
theorem Inv.lt (I:Inv X pins σ H s):X.env.locals < s.heap.objs.size:=let ⟨_,hn,_⟩:=I.loc;hn.lt
theorem Inv.sz (I:Inv X pins σ H s):X.s₀.heap.objs.size≤s.heap.objs.size:=Nat.le_trans I.ok.above (Nat.le_of_lt I.lt)
theorem Inv.nofs (I:Inv X pins σ H s) {a:Addr} (h:s.heap.objs.size≤a):a ∉ X.fs:=fun hb=>by
 obtain⟨_,o,ho,_⟩:=I.ok.funs.mem hb
 exact absurd (Nat.lt_of_lt_of_le (Heap.lt_size ho) (Nat.le_trans I.sz h)) (Nat.lt_irrefl _)
theorem Inv.cne (I:Inv X pins σ H s):∀ x c,X.env.cells.lookup x=some c->c≠X.env.locals:=fun x c e z=>by
 obtain⟨v,o,ho,hd⟩:=I.cell x c e
 obtain⟨m,⟨o',es,ep,ho',hd',_⟩,_⟩:=I.loc
 rw[z,ho'] at ho;cases ho;rw[hd'] at hd;cases hd
theorem Inv.funs (I:Inv X pins σ H s):s.heap.FunFrames X.base X.outer:=by
 have all:∀ (l:List Env),(∀ b ∈ frs l,b ∈ X.fs)->X.s₀.heap.FunFrames X.base l->s.heap.FunFrames X.base l:=by
  intro l
  induction l with
  | nil=>intro _ _;trivial
  | cons env r ih =>
   intro hs hl
   obtain⟨hk,⟨L,o,hf,hn,ho,hd⟩,hr⟩:=hl
   have hL:L ∈ X.fs:=hs L (by unfold frs;rw[List.filterMap_cons,hf];exact List.mem_cons_self)
   obtain⟨sl,e⟩:=I.base.slot L o ho (I.ok.frf L hL) hL fun z=>I.ok.exfs L z hL
   exact⟨hk,⟨L,_,hf,hn,e,hd⟩,ih (fun b hb=>hs b (by unfold frs;rw[List.filterMap_cons,hf];exact List.mem_cons_of_mem _ hb)) hr⟩
 exact all X.outer (fun _ hb=>hb) I.ok.funs
theorem Inv.stack (I:Inv X pins σ H s):s.heap.FunFrames X.base X.stack:=by
 rcases I.ok.stk with e | ⟨e,hf⟩
 ·rw[e];exact I.funs
 ·rw[e]
  obtain⟨m,hn,_⟩:=I.loc
  refine .cons (by rw[I.ok.kind];decide) hf hn ?_ I.funs
  exact Heap.get?_none_of_le (Nat.le_trans I.ok.bsz I.ok.above)
theorem Inv.stkSub (I:Inv X pins σ H s):∀ b ∈ frs X.stack,b ∈ X.env.locals::X.fs:=fun b hb=>by
 rcases I.ok.stk with e | ⟨e,hf⟩
 ·rw[e] at hb;exact List.mem_cons_of_mem _ hb
 ·rw[e] at hb
  unfold frs at hb
  rw[List.filterMap_cons,hf] at hb
  exact hb
theorem Inv.stkFree (I:Inv X pins σ H s):∀ b ∈ frs X.stack,H b=none:=fun b hb=>by
 rcases List.mem_cons.mp (I.stkSub b hb) with e | hb
 ·rw[e];exact I.free
 ·obtain⟨_,o,ho,_⟩:=I.ok.funs.mem hb
  exact I.base.free b o ho (I.ok.frf b hb) fun z=>I.ok.exfs b z hb
theorem Inv.step {g':Array GenState} {t':Nat} {d':Drawn} {ch:List Addr} (I:Inv X pins σ H s)
  (hch:∀ b ∈ ch,(b ∈ X.ex∨X.s₀.heap.objs.size≤b)∧b≠X.env.locals∧(∀ x c,X.env.cells.lookup x=some c->c≠b)∧∀ p ∈ X.pn++pins,p.1≠b)
  (keep:∀ b o,b≠X.env.locals->b ∉ X.fs->b ∉ ch->s.heap.get? b=some o->H b=none->h'.get? b=some o)
  (slot:∀ b o,b≠X.env.locals->b ∈ X.fs->b ∉ ch->s.heap.get? b=some o->H b=none->∃ sl,h'.get? b=some { o with slots:=sl }) (free:∀ b o,b ∉ ch->s.heap.get? b=some o->H b=none->H' b=none)
  (there:∀ b o,b ∉ ch->s.heap.get? b=some o->∃ o',h'.get? b=some o')
  (tups:∀ b xs,H b=some (.tup xs)->H' b=some (.tup xs)) (frzs:∀ b o u,H b=some (.frz o u)->H' b=some (.frz o u)) (tbls:∀ b ps,H b=some (.tbl ps)->∃ more,H' b=some (.tbl (ps++more)))
  (ns:∀ m,s.heap.Ns X.env.locals m->h'.Ns X.env.locals m) (hok:HOk X.prog X.w H' h') (hg:AllBare g') :
  Inv X pins σ H' { s with heap:=h',gens:=g',drawn:=d',toks:=t' }:=by
 have neL:∀ b o,X.s₀.heap.get? b=some o->b≠X.env.locals:=fun b o e=>Nat.ne_of_lt (Nat.lt_of_lt_of_le (Heap.lt_size e) I.ok.above)
 have neC:∀ b o,X.s₀.heap.get? b=some o->b ∉ X.ex->b ∉ ch:=fun b o e hx hb=>by
  rcases (hch b hb).1 with z | z
  ·exact hx z
  ·exact absurd (Nat.lt_of_lt_of_le (Heap.lt_size e) z) (Nat.lt_irrefl _)
 have cellK:∀ x c,X.env.cells.lookup x=some c->∀ v,s.heap.IsCell c v->h'.IsCell c v:=fun x c e v ⟨o,ho,hd⟩=>by
  have nch:c ∉ ch:=fun z=>(hch c z).2.2.1 x c e rfl
  by_cases hc:c ∈ X.fs
  ·obtain⟨sl,q⟩:=slot c o (I.cne x c e) hc nch ho (I.freeC x c e)
   exact⟨_,q,hd⟩
  ·exact⟨o,keep c o (I.cne x c e) hc nch ho (I.freeC x c e),hd⟩
 refine⟨I.ok,I.os,hg,⟨fun b o e n hb hx=>?_,fun b o e n hb hx=>?_,fun b o e n hx=>?_,fun b o e hx=>?_,fun b xs e=>tups b xs (I.base.tups b xs e),fun b o xs e=>frzs b o xs (I.base.frzs b o xs e),fun b ps e=>?_⟩,?_,fun x c e=>?_,?_,fun x c e=>?_,fun p hp=>?_,hok,I.len⟩
 ·exact keep b o (neL b o e) hb (neC b o e hx) (I.base.keep b o e n hb hx) (I.base.free b o e n hx)
 ·obtain⟨sl,e1⟩:=I.base.slot b o e n hb hx
  obtain⟨sl',e2⟩:=slot b _ (neL b o e) hb (neC b o e hx) e1 (I.base.free b o e n hx)
  exact⟨sl',e2⟩
 ·obtain⟨o',e1⟩:=I.base.there b o e hx
  exact free b o' (neC b o e hx) e1 (I.base.free b o e n hx)
 ·obtain⟨o',e1⟩:=I.base.there b o e hx
  exact there b o' (neC b o e hx) e1
 ·obtain⟨m1,e1⟩:=I.base.tbls b ps e
  obtain⟨m2,e2⟩:=tbls b _ e1
  exact⟨m1++m2,by rw[e2,Array.append_assoc]⟩
 ·obtain⟨m,hn,hl⟩:=I.loc
  refine⟨m,ns m hn,fun i x v e1 e2 e3=>?_⟩
  obtain⟨u,r,l⟩:=hl i x v e1 e2 e3
  refine⟨u,r,?_⟩
  rcases l with l | ⟨k,c,e,z⟩
  ·exact .inl l
  ·exact .inr ⟨k,c,e,cellK x c e _ z⟩
 ·obtain⟨v,z⟩:=I.cell x c e
  exact⟨v,cellK x c e v z⟩
 ·obtain⟨m,⟨o,_,_,ho,_⟩,_⟩:=I.loc
  exact free _ o (fun z=>(hch _ z).2.1 rfl) ho I.free
 ·obtain⟨v,o,ho,hd⟩:=I.cell x c e
  exact free c o (fun z=>(hch c z).2.2.1 x c e rfl) ho (I.freeC x c e)
 ·obtain⟨e,n,ne,nf,d⟩:=I.pin p hp
  have nch:p.1 ∉ ch:=fun z=>(hch p.1 z).2.2.2 p hp rfl
  exact⟨keep p.1 p.2 ne nf nch e n,free p.1 p.2 nch e n,ne,nf,d⟩
theorem Inv.un {t':Nat} (I:Inv X pins σ H s) (u:Un X.fs [] H H' s.heap h') (hok:HOk X.prog X.w H' h'):Inv X pins σ H' { s with heap:=h',toks:=t' }:=by
 obtain⟨m,⟨o,es,ep,ho,r⟩,_⟩:=id I.loc
 obtain⟨sl,hL⟩:=u.any ho I.free (by simp)
 exact I.step (g':=s.gens) (d':=s.drawn) (ch:=[]) (fun _ z=>nomatch z) (fun b o _ hb _ e n=>u.keep b o e n hb (by simp)) (fun b o _ hb _ e n=>u.slot b o e n hb (by simp)) (fun b o _ e n=>u.free b o e n (by simp)) (fun b o _ e=>u.there b o e (by simp)) u.tups u.frzs u.tbls (fun m' hm=>by
  obtain⟨o',es',ep',ho',r'⟩:=hm
  rw[ho] at ho';cases ho'
  exact⟨_,es',ep',hL,r'⟩) hok I.bare
theorem Inv.call {g':Array GenState} {t':Nat} {d':Drawn} {ch:List Addr} (I:Inv X pins σ H s) (u:Un (frs X.stack) ch H H' s.heap h') (hok:HOk X.prog X.w H' h') (hg:AllBare g')
  (hch:∀ b ∈ ch,(b ∈ X.ex∨X.s₀.heap.objs.size≤b)∧b≠X.env.locals∧(∀ x c,X.env.cells.lookup x=some c->c≠b)∧∀ p ∈ X.pn++pins,p.1≠b) :
  Inv X pins σ H' { s with heap:=h',gens:=g',drawn:=d',toks:=t' }:=by
 obtain⟨m,⟨o,es,ep,ho,r⟩,_⟩:=id I.loc
 obtain⟨sl,hL⟩:=u.any ho I.free fun z=>(hch _ z).2.1 rfl
 exact I.step (ch:=ch) hch (fun b o hL hb hc e n=>u.keep b o e n (fun z=>(List.mem_cons.mp (I.stkSub b z)).elim hL hb) hc) (fun b o _ _ hc e n=>u.any e n hc) (fun b o hc e n=>u.free b o e n hc) (fun b o hc e=>u.there b o e hc) u.tups u.frzs u.tbls (fun m' hm=>by
  obtain⟨o',es',ep',ho',r'⟩:=hm
  rw[ho] at ho';cases ho'
  exact⟨_,es',ep',hL,r'⟩) hok hg
theorem Inv.turned {t':Nat} {it:Addr} (I:Inv X pins σ H s) (k:∀ b o,b≠it->s.heap.get? b=some o->h'.get? b=some o) (hn:H it=none) (hL:it≠X.env.locals)
  (h1:it ∈ X.ex∨X.s₀.heap.objs.size≤it) (h2:∀ x c,X.env.cells.lookup x=some c->c≠it) (h3:∀ p ∈ X.pn++pins,p.1≠it):Inv X pins σ H { s with heap:=h',toks:=t' }:=by
 have nit:∀ b u,H b=some u->b≠it:=fun b u e z=>by rw[z,hn] at e;cases e
 refine I.step (g':=s.gens) (d':=s.drawn) (ch:=[it]) (fun b hb=>?_) (fun b o _ _ hc e _=>k b o (fun z=>hc (by simp [z])) e) (fun b o _ _ hc e _=>⟨o.slots,k b o (fun z=>hc (by simp [z])) e⟩) (fun _ _ _ _ n=>n)
  (fun b o hc e=>⟨o,k b o (fun z=>hc (by simp [z])) e⟩) (fun _ _ e=>e) (fun _ _ _ e=>e) (fun b ps e=>⟨#[],by rw[e];simp⟩) (fun m hm=>?_) (fun b u e=>?_) I.bare
 ·have e:b=it:=by simpa using hb
  subst e
  exact⟨h1,hL,h2,h3⟩
 ·obtain⟨o,es,ep,ho,r⟩:=hm
  exact⟨o,es,ep,k _ o (Ne.symm hL) ho,r⟩
 ·refine (I.hok b u e).stay (fun c v hc q=>k c v ?_ q) (fun _ q=>q) fun _ _ q=>q
  rcases hc with z | z
  ·rw[z];exact nit b u e
  ·exact nit c _ z
theorem Inv.tok (I:Inv X pins σ H s) (t:Nat):Inv X pins σ H { s with toks:=t }:=I.un (h':=s.heap) (t':=t) Un.refl I.hok
theorem Inv.kept {t':Nat} (I:Inv X pins σ H s) (k:∀ b u,s.heap.get? b=some u->h'.get? b=some u):Inv X pins σ H { s with heap:=h',toks:=t' }:=I.un (Un.kept k) (I.hok.kept k)
theorem Inv.laid {a:Addr} {o:HO} {t':Nat} (I:Inv X pins σ H s) (k:∀ b u,s.heap.get? b=some u->h'.get? b=some u) (hp:s.heap.objs.size≤a) (new:ObjOk X.prog X.w (upd H a o) h' a o) :
  Inv X pins σ (upd H a o) { s with heap:=h',toks:=t' }:=I.un (Un.laid k hp (I.hok.fresh hp)) (I.hok.laid k hp new)
theorem Inv.write {x e:Addr} {o:HO} {t':Nat} (I:Inv X pins σ H s) (mu:Mut (H x)) (he:e=x∨H e=some (.own x)) (k:∀ b u,b≠e->s.heap.get? b=some u->h'.get? b=some u) (heo:∃ u,h'.get? e=some u)
  (new:ObjOk X.prog X.w (upd H x o) h' x o):Inv X pins σ (upd H x o) { s with heap:=h',toks:=t' }:=I.un (Un.write mu he k heo) (I.hok.write mu he k heo new)
theorem Inv.pins_of {pins':List (Addr × Obj)} (I:Inv X pins σ H s) (h:∀ p ∈ pins',s.heap.get? p.1=some p.2∧H p.1=none∧p.1≠X.env.locals∧p.1 ∉ X.fs∧∀ v,p.2.data≠.cell v):Inv X pins' σ H s :=
 ⟨I.ok,I.os,I.bare,I.base,I.loc,I.cell,I.free,I.freeC,fun p hp=>(List.mem_append.mp hp).elim (fun z=>I.pin p (List.mem_append_left _ z)) (h p),I.hok,I.len⟩
theorem zjn {N:List Str} (hN:N.Nodup) {i j:Nat} {x:Str} (a:N[i]?=some x) (b:N[j]?=some x):i=j:=by
 obtain⟨h1,e1⟩:=List.getElem?_eq_some_iff.mp a
 obtain⟨h2,e2⟩:=List.getElem?_eq_some_iff.mp b
 exact (List.getElem_inj hN).mp (e1.trans e2.symm)
theorem zgx {M:Model} {A:Around} {E:Value->Shared->Prop} {i:Nat} {x:Str} {v:V} {u:Value} {Q:Unit->Shared->Prop} (I:Inv X pins σ H s) (hN:X.N.Nodup) (hi:X.N[i]?=some x) (hx:Loc X.env.scope x) (r:RelV v u)
  (h:∀ s',Inv X pins (σ.set i (some v)) H s'->(∃ a,Heap.SameBut a s.heap s'.heap∧(a=X.env.locals∨X.env.cells.lookup x=some a))->Q () s') (hf:X.fn x=true∨X.env.scope.names.lookup x=some .local:=by first | exact .inl rfl | exact .inr rfl | assumption):wpAny M A (storeName X.env x u) Q E s:=by
 obtain⟨m,hn,hl⟩:=id I.loc
 have hcls:(X.env.scope.kind == .class || (X.env.scope.kind == .module && X.env.locals != X.env.globals))=false:=by rw[I.ok.kind];rfl
 have hiσ:i < σ.length:=by rw[I.len];exact (List.getElem?_eq_some_iff.mp hi).1
 have cne:=I.cne
 have tracked:∀ {a:Addr} {h':Heap},(∃ o,s.heap.get? a=some o∧H a=none)->Heap.SameBut a s.heap h'->HOk X.prog X.w H h':=fun {a h'} ha hs b ob e=>by
  obtain⟨_,_,hfree⟩:=ha
  refine (I.hok b ob e).stay (fun c w' hc q=>(hs.2 c ?_).trans q) (fun _ q=>q) fun _ _ q=>q
  rintro rfl
  rcases hc with rfl | hc
  ·rw[hfree] at e;cases e
  ·rw[hfree] at hc;cases hc
 rcases hx with hk | hk
 ·refine wpAny_storeName_local hk hn (fun h' hn' hs=>?_) hcls
  obtain⟨oL,_,_,hoL,_⟩:=id hn
  refine h _ ⟨I.ok,I.os,I.bare,⟨fun b o e n hb hx=>?_,fun b o e n hb hx=>?_,I.base.free,fun b o e hx=>?_,I.base.tups,I.base.frzs,I.base.tbls⟩,⟨_,hn',fun j y v' e1 e2 e3=>?_⟩,fun y c e=>?_,I.free,I.freeC,fun p hp=>?_,tracked ⟨oL,hoL,I.free⟩ hs,by simpa using I.len⟩ ⟨_,hs,.inl rfl⟩
  ·exact (hs.2 b (Nat.ne_of_lt (Nat.lt_of_lt_of_le (Heap.lt_size e) I.ok.above))).trans (I.base.keep b o e n hb hx)
  ·obtain⟨sl,e1⟩:=I.base.slot b o e n hb hx
   exact⟨sl,(hs.2 b (Nat.ne_of_lt (Nat.lt_of_lt_of_le (Heap.lt_size e) I.ok.above))).trans e1⟩
  ·obtain⟨o',e1⟩:=I.base.there b o e hx
   exact⟨o',(hs.2 b (Nat.ne_of_lt (Nat.lt_of_lt_of_le (Heap.lt_size e) I.ok.above))).trans e1⟩
  ·by_cases hj:j=i
   ·subst hj
    rw[hi] at e1;cases e1
    rw[List.getElem?_set_self hiσ] at e2
    cases e2
    exact⟨u,r,.inl ⟨hk,by simp⟩⟩
   ·rw[List.getElem?_set_ne (Ne.symm hj)] at e2
    obtain⟨u',r',q⟩:=hl j y v' e1 e2 e3
    refine⟨u',r',?_⟩
    rcases q with ⟨k,e⟩ | ⟨k,c,e,z⟩
    ·refine .inl ⟨k,?_⟩
     have:y≠x:=fun e=>hj (zjn hN e1 (e ▸ hi))
     simp [this,e]
    ·exact .inr ⟨k,c,e,z.sameBut hs (cne y c e)⟩
  ·obtain⟨w',z⟩:=I.cell y c e
   exact⟨w',z.sameBut hs (cne y c e)⟩
  ·obtain⟨e,n,ne,nf,d⟩:=I.pin p hp
   exact⟨(hs.2 p.1 ne).trans e,n,ne,nf,d⟩
 ·have hfn:X.fn x=true:=by
   rcases hf with z | z
   ·exact z
   ·rw[z] at hk;cases hk
  obtain⟨c,hc⟩:=I.ok.has x (.inl hk)
  obtain⟨w',z⟩:=I.cell x c hc
  refine wpAny_storeName_cell I.ok.kind hk hc z (fun h' hc' hs=>?_)
  obtain⟨oc,hoc,hocd⟩:=id z
  refine h { s with heap:=h' } ⟨I.ok,I.os,I.bare,⟨fun b o e n hb hx=>?_,fun b o e n hb hx=>?_,I.base.free,fun b o e hx=>?_,I.base.tups,I.base.frzs,I.base.tbls⟩,⟨m,hn.sameBut hs (Ne.symm (cne x c hc)),fun j y v' e1 e2 e3=>?_⟩,fun y c' e=>?_,I.free,I.freeC,fun p hp=>?_,tracked ⟨oc,hoc,I.freeC x c hc⟩ hs,by simpa using I.len⟩ ⟨c,hs,.inr hc⟩
  ·exact (hs.2 b (Nat.ne_of_lt (Nat.lt_of_lt_of_le (Heap.lt_size e) (I.ok.cab x c hfn hc)))).trans (I.base.keep b o e n hb hx)
  ·obtain⟨sl,e1⟩:=I.base.slot b o e n hb hx
   exact⟨sl,(hs.2 b (Nat.ne_of_lt (Nat.lt_of_lt_of_le (Heap.lt_size e) (I.ok.cab x c hfn hc)))).trans e1⟩
  ·obtain⟨o',e1⟩:=I.base.there b o e hx
   exact⟨o',(hs.2 b (Nat.ne_of_lt (Nat.lt_of_lt_of_le (Heap.lt_size e) (I.ok.cab x c hfn hc)))).trans e1⟩
  ·by_cases hj:j=i
   ·subst hj
    rw[hi] at e1;cases e1
    rw[List.getElem?_set_self hiσ] at e2
    cases e2
    exact⟨u,r,.inr ⟨.inl hk,c,hc,hc'⟩⟩
   ·rw[List.getElem?_set_ne (Ne.symm hj)] at e2
    obtain⟨u',r',q⟩:=hl j y v' e1 e2 e3
    refine⟨u',r',?_⟩
    rcases q with q | ⟨k,c',e,z'⟩
    ·exact .inl q
    ·refine .inr ⟨k,c',e,z'.sameBut hs ?_⟩
     rintro rfl
     exact hj (zjn hN e1 (I.ok.inj _ _ _ e hc ▸ hi))
  ·by_cases hcc:c'=c
   ·subst hcc;exact⟨_,hc'⟩
   ·obtain⟨w2,z2⟩:=I.cell y c' e
    exact⟨w2,z2.sameBut hs hcc⟩
  ·obtain⟨e,n,ne,nf,d⟩:=I.pin p hp
   refine⟨(hs.2 p.1 ?_).trans e,n,ne,nf,d⟩
   intro q
   rw[q,hoc] at e
   have q':oc=p.2:=Option.some.inj e
   exact d w' (by rw[← q'];exact hocd)
theorem zjb {M:Model} {A:Around} {E:Value->Shared->Prop} {i:Nat} {x:Str} {v:V} {u:Value} {Q:Unit->Shared->Prop} (I:Inv X pins σ H s) (hN:X.N.Nodup) (hi:X.N[i]?=some x) (hx:Loc X.env.scope x) (r:RelV v u)
  (h:∀ s',Inv X pins (σ.set i (some v)) H s'->Q () s') (hf:X.fn x=true∨X.env.scope.names.lookup x=some .local:=by first | exact .inl rfl | exact .inr rfl | assumption):wpAny M A (storeName X.env x u) Q E s :=
 zgx I hN hi hx r (fun s' I' _=>h s' I') hf
theorem Inv.call' {s':Shared} {ch:List Addr} (I:Inv X pins σ H s) (ho:s'.os=s.os) (u:Un (frs X.stack) ch H H' s.heap s'.heap) (hok:HOk X.prog X.w H' s'.heap) (hg:AllBare s'.gens)
  (hch:∀ b ∈ ch,(b ∈ X.ex∨X.s₀.heap.objs.size≤b)∧b≠X.env.locals∧(∀ x c,X.env.cells.lookup x=some c->c≠b)∧∀ p ∈ X.pn++pins,p.1≠b):Inv X pins σ H' s':=by
 obtain⟨h',g',d',t',o'⟩:=s'
 have e:o'=s.os:=ho
 subst e
 exact I.call (g':=g') (t':=t') (d':=d') u hok hg hch
end
abbrev XK:=Value->Option Addr->Hp->Prop
abbrev St:=List (Option V)
abbrev VK:=V->Hp->Prop
abbrev TE:=St->Hp->VK->Prop
abbrev TT:=St->Hp->(Bool->Hp->Prop)->Prop
abbrev TA:=St->Hp->(List V->Hp->Prop)->Prop
structure Ends where
 nx:St->Hp->Prop
 rt:VK
 bk:St->Hp->Prop:=fun _ _=>False
 ct:St->Hp->Prop:=fun _ _=>False
abbrev TS:=Ends->St->Hp->Prop
def EP (X:Cx) (pins:List (Addr × Obj)) (σ:St) (Q:VK) (u:Value) (s':Shared):Prop:=∃ v H',Inv X pins σ H' s'∧RelV v u∧Q v H'
def TP (X:Cx) (pins:List (Addr × Obj)) (σ:St) (Q:Bool->Hp->Prop) (b:Bool) (s':Shared):Prop:=∃ H',Inv X pins σ H' s'∧Q b H'
def AP (X:Cx) (pins:List (Addr × Obj)) (σ:St) (Q:List V->Hp->Prop) (us:List Value) (s':Shared):Prop:=∃ vs H',Inv X pins σ H' s'∧Vals vs us∧Q vs H'
def SP (X:Cx) (pins:List (Addr × Obj)) (D:Ends) (f:Flow) (s':Shared):Prop :=
 match f with
 | .next=>∃ σ' H',Inv X pins σ' H' s'∧D.nx σ' H'
 | .brk=>∃ σ' H',Inv X pins σ' H' s'∧D.bk σ' H'
 | .cont=>∃ σ' H',Inv X pins σ' H' s'∧D.ct σ' H'
 | .ret u=>∃ v σ' H',Inv X pins σ' H' s'∧RelV v u∧D.rt v H'
def PE (X:Cx) (e:Expr) (t:TE):Prop :=
 ∀ (pins:List (Addr × Obj)) (s:Shared) (σ:St) (H:Hp) (Q:VK),Inv X pins σ H s->t σ H Q->wpAny (model X.prog X.w) X.A (eval e X.env) (EP X pins σ Q) X.xe s
def PT (X:Cx) (e:Expr) (t:TT):Prop :=
 ∀ (pins:List (Addr × Obj)) (s:Shared) (σ:St) (H:Hp) (Q:Bool->Hp->Prop),Inv X pins σ H s->t σ H Q->wpAny (model X.prog X.w) X.A (isTrue e X.env (eval e X.env)) (TP X pins σ Q) X.xe s
def PW (X:Cx) (e:Expr) (t:TT):Prop :=
 ∀ (whole:Sem Value) (pins:List (Addr × Obj)) (s:Shared) (σ:St) (H:Hp) (Q:Bool->Hp->Prop),Inv X pins σ H s->t σ H Q->wpAny (model X.prog X.w) X.A (isTrue e X.env whole) (TP X pins σ Q) X.xe s
theorem PW.pt {X:Cx} {e:Expr} {t:TT} (h:PW X e t):PT X e t:=h _
def PA (X:Cx) (es:List Expr) (t:TA):Prop :=
 ∀ (pos:Pos) (pins:List (Addr × Obj)) (s:Shared) (σ:St) (H:Hp) (Q:List V->Hp->Prop),Inv X pins σ H s->t σ H Q->wpAny (model X.prog X.w) X.A (spliced (backTo pos (starEach es X.env))) (AP X pins σ Q) X.xe s
def PS (X:Cx) (st:Stmt) (t:TS):Prop :=
 ∀ (pins:List (Addr × Obj)) (s:Shared) (σ:St) (H:Hp) (D:Ends),Inv X pins σ H s->t D σ H->wpAny (model X.prog X.w) X.A (exec st X.env) (SP X pins D) X.xe s
def PSs (X:Cx) (st:List Stmt) (t:TS):Prop :=
 ∀ (pins:List (Addr × Obj)) (s:Shared) (σ:St) (H:Hp) (D:Ends),Inv X pins σ H s->t D σ H->wpAny (model X.prog X.w) X.A (execs st X.env) (SP X pins D) X.xe s
theorem thn {α:Type} {t:Sem α} {Q Q':α->Shared->Prop} {M:Model} {A:Around} {E:Value->Shared->Prop} {s:Shared} (h:wpAny M A t Q E s) (hQ:∀ a s,Q a s->Q' a s):wpAny M A t Q' E s:=wpAny_mono h hQ fun _ _ x=>x
end L2
namespace L2
open PySem PySem.Spec PyProof.Rows
section
variable {X:Cx}
inductive EVar (σ:L2.St) (i:Nat) (Q:V->Prop):Prop
 | mk:∀ v,(σ[i]?=some (some v))->Q v->EVar σ i Q
inductive EBl (x:V) (Q:Bool->Prop):Prop
 | mk:∀ c,(x=.bl c)->Q c->EBl x Q
inductive EInt (x:V) (Q:Int->Prop):Prop
 | mk:∀ i,(x=.int i)->Q i->EInt x Q
inductive ERef (x:V) (Q:Addr->Prop):Prop
 | mk:∀ a,(x=.ref a)->Q a->ERef x Q
inductive EOne (vs:List V) (Q:Int->Prop):Prop
 | mk:∀ j,(vs=[.int j])->Q j->EOne vs Q
inductive ETwo (vs:List V) (Q:V->V->Prop):Prop
 | mk:∀ v w,(vs=[v,w])->Q v w->ETwo vs Q
def tVar (i:Nat):TE:=fun σ H Q=>EVar σ i fun v=>Q v H
def tC (v:V):TE:=fun _ H Q=>Q v H
theorem zpw {i:Nat} {x:Str} {pos:Pos} (hN:X.N[i]?=some x) (hv:Vis X.env.scope x) (hd:(x == ("__debug__":Str))=false:=by decide) (hcd:(x == ("__classdict__":Str))=false:=by decide):PE X (.Name x pos) (tVar i):=by
 intro pins s σ H Q I h
 obtain⟨v,e,h⟩:=h
 obtain⟨m,hn,hl⟩:=I.loc
 obtain⟨u,r,l⟩:=hl i x v hN e hv
 have fin:EP X pins σ Q u s:=⟨v,H,I,r,h⟩
 rcases l with ⟨hk,hm⟩ | ⟨hk,c,hc,hcell⟩
 ·exact wpAny_Name (wpAny_loadName_local I.ok.kind hk hn hm fin) hd
 ·rcases hk with hk | hk
  ·exact wpAny_Name (wpAny_loadName_cell I.ok.kind hk hc hcell fin) hd
  ·exact wpAny_Name (wpAny_loadName_free I.ok.kind hk hc hcell fin hcd) hd
theorem zab {i j pos}:PE X (.Constant (.int i) j pos) (tC (.int i)):=fun _ _ _ H _ I h=>wpAny_Constant_int ⟨.int i,H,I.tok _,⟨_,rfl⟩,h⟩
theorem zc6 {b j pos}:PE X (.Constant (.bool b) j pos) (tC (.bl b)):=fun _ _ _ H _ I h=>Constant_bool ⟨.bl b,H,I,rfl,h⟩
theorem zpy {j pos}:PE X (.Constant .none j pos) (tC .non):=fun _ _ _ H _ I h=>Constant_none ⟨.non,H,I,rfl,h⟩
def Gl (X:Cx) (x:Str):Prop:=X.env.kindOf x=some .globalImplicit
theorem zox {E:Value->Shared->Prop} {pins:List (Addr × Obj)} {s:Shared} {σ:St} {H:Hp} {x:Str} {u:Value} {pos:Pos} {Q:Value->Shared->Prop} (I:Inv X pins σ H s) (hg:Gl X x) (hm:X.mg x=some u) (h:Q u s)
  (hd:(x == ("__debug__":Str))=false:=by decide):wpAny (model X.prog X.w) X.A (eval (.Name x pos) X.env) Q E s :=
 Calls.Name_function_global I.ok.kind hg (Calls.loadGlobal_global (by rw[I.ok.glob];exact I.mod.glob.keeps I.bk) hm h) hd
theorem zfw {E:Value->Shared->Prop} {pins:List (Addr × Obj)} {s:Shared} {σ:St} {H:Hp} {x:Str} {u:Value} {pos:Pos} {Q:Value->Shared->Prop} (I:Inv X pins σ H s) (hg:Gl X x) (hm:X.mg x=none) (hv:bootBuiltins x=some u) (h:Q u s)
  (hn:x≠"__name__":=by decide) (hd:(x == ("__debug__":Str))=false:=by decide):wpAny (model X.prog X.w) X.A (eval (.Name x pos) X.env) Q E s:=by
 obtain⟨mb,h1,h2⟩:=I.mod.blt
 exact Calls.Name_function_global I.ok.kind hg (Calls.loadGlobal_builtin (by rw[I.ok.glob];exact I.mod.glob.keeps I.bk) hm (by rw[I.ok.blt];exact h1.keeps I.bk) ((h2 x hn).trans hv) h) hd
theorem zdu {x:Str} {v:V} {u:Value} {pos:Pos} (hg:Gl X x) (hm:X.mg x=none) (hv:bootBuiltins x=some u) (r:RelV v u) (hn:x≠"__name__":=by decide) (hd:(x == ("__debug__":Str))=false:=by decide):PE X (.Name x pos) (tC v) :=
 fun _ _ _ H _ I h=>zfw I hg hm hv ⟨v,H,I,r,h⟩ hn hd
variable {a b:Expr} {ta tb:TE} {pos:Pos}
def PC (X:Cx) (op:CmpOp) (a b:Expr) (t:TE):Prop :=
 ∀ (pins:List (Addr × Obj)) (s:Shared) (σ:St) (H:Hp) (Q:VK),Inv X pins σ H s->t σ H Q ->
  wpAny (model X.prog X.w) X.A (eval a X.env) (fun v s₁=>wpAny (model X.prog X.w) X.A (eval b X.env) (fun u s₂=>wpAny (model X.prog X.w) X.A (compareOp op v u) (EP X pins σ Q) X.xe s₂) X.xe s₁) X.xe s
theorem nobehind (b:Expr) {op:CmpOp} (h:op≠.In) (h2:op≠.NotIn):behindInMarks op b=false:=by
 have e1:(op == CmpOp.In)=false:=by cases op <;> first | rfl | exact absurd rfl h
 have e2:(op == CmpOp.NotIn)=false:=by cases op <;> first | rfl | exact absurd rfl h2
 cases b <;> simp [behindInMarks,e1,e2]
def tB (t:TE):TT:=fun σ H Q=>t σ H fun x H1=>EBl x fun c=>Q c H1
theorem znx {op:CmpOp} {t:TE} (h:PC X op a b t) (h1:behindInMarks op b=false:=by first | exact nobehind _ (by decide) (by decide) | rfl):PT X (.Compare a [op] [b] pos) (tB t):=by
 intro pins s σ H Q I hw
 refine wpAny_isTrue_Compare1 (thn (h pins s σ H _ I hw) fun v s1 h1=>thn h1 fun u s2 h2=>thn h2 fun c s3 ⟨x,H1,I1,r1,q1⟩=>?_) h1
 obtain⟨d,rfl,q⟩:=q1
 cases r1
 exact wpAny_truthy_bool ⟨H1,I1,q⟩
theorem zcm {e:Expr} {t:TE} (h:PE X e t) (he:∀ whole,isTrue e X.env whole=(do let v ← whole;standAt e.pos;holding [v] (truthy v)):=by intro _;rfl):PT X e (tB t):=by
 intro pins s σ H Q I hw
 refine isTrue_plain (thn (h pins s σ H _ I hw) fun v s1 ⟨x,H1,I1,r1,q1⟩=>?_) (he _)
 obtain⟨d,rfl,q⟩:=q1
 cases r1
 exact wpAny_truthy_bool ⟨H1,I1,q⟩
variable {tA tB':TT} {rest:List Expr}
def tAnd (t u:TT):TT:=fun σ H Q=>t σ H fun c H1=>if c=true then u σ H1 Q else Q false H1
def tOr (t u:TT):TT:=fun σ H Q=>t σ H fun c H1=>if c=true then Q true H1 else u σ H1 Q
def tNot (t:TT):TT:=fun σ H Q=>t σ H fun c H1=>Q (!c) H1
theorem zf6 (ha:PT X a tA):PW X (.BoolOp .And [a] pos) tA:=by
 intro wh pins s σ H Q I h
 refine isTrue_and (thn (ha pins s σ H Q I h) fun c s1 e=>?_)
 cases c with
 | true=>exact isTrue_and_nil e
 | false=>exact e
theorem zen (ha:PT X a tA):PW X (.BoolOp .Or [a] pos) tA:=by
 intro wh pins s σ H Q I h
 refine isTrue_or (thn (ha pins s σ H Q I h) fun c s1 e=>?_)
 cases c with
 | false=>exact isTrue_or_nil e
 | true=>exact e
theorem zjk (ha:PT X a tA) (hb:PW X (.BoolOp .And (b::rest) pos) tB'):PW X (.BoolOp .And (a::b::rest) pos) (tAnd tA tB'):=by
 intro wh pins s σ H Q I h
 refine isTrue_and (thn (ha pins s σ H _ I h) fun c s1 ⟨H1,I1,q1⟩=>?_)
 cases c with
 | true=>exact hb wh pins s1 σ H1 Q I1 q1
 | false=>exact⟨H1,I1,q1⟩
theorem zgz (ha:PT X a tA) (hb:PW X (.BoolOp .Or (b::rest) pos) tB'):PW X (.BoolOp .Or (a::b::rest) pos) (tOr tA tB'):=by
 intro wh pins s σ H Q I h
 refine isTrue_or (thn (ha pins s σ H _ I h) fun c s1 ⟨H1,I1,q1⟩=>?_)
 cases c with
 | true=>exact⟨H1,I1,q1⟩
 | false=>exact hb wh pins s1 σ H1 Q I1 q1
theorem zc2 (ha:PT X a tA):PT X (.UnaryOp .Not a pos) (tNot tA):=by
 intro pins s σ H Q I h
 exact isTrue_not (ha pins s σ H (fun c H1=>Q (!c) H1) I h)
def tAndV (ta tb:TE):TE:=fun σ H Q=>ta σ H fun x H1=>EBl x fun c=>if c=true then tb σ H1 Q else Q (.bl false) H1
def tOrV (ta tb:TE):TE:=fun σ H Q=>ta σ H fun x H1=>EBl x fun c=>if c=true then Q (.bl true) H1 else tb σ H1 Q
def tNotV (ta:TE):TE:=fun σ H Q=>ta σ H fun x H1=>EBl x fun c=>Q (.bl (!c)) H1
theorem zb9 {op} {t:TE} (h:PE X a t):PE X (.BoolOp op [a] pos) t:=fun pins s σ H Q I hw=>BoolOp_one (h pins s σ H Q I hw)
theorem zcj (ha:PE X a ta) (hb:PE X (.BoolOp .And (b::rest) pos) tb):PE X (.BoolOp .And (a::b::rest) pos) (tAndV ta tb):=by
 intro pins s σ H Q I h
 refine BoolOp_and (thn (ha pins s σ H _ I h) fun v s1 ⟨x,H1,I1,r1,q1⟩=>?_)
 obtain⟨c,rfl,q1⟩:=q1
 cases r1
 refine wpAny_truthy_bool ?_
 cases c with
 | true=>exact hb pins s1 σ H1 Q I1 q1
 | false=>exact⟨.bl false,H1,I1,rfl,q1⟩
theorem zom (ha:PE X a ta) (hb:PE X (.BoolOp .Or (b::rest) pos) tb):PE X (.BoolOp .Or (a::b::rest) pos) (tOrV ta tb):=by
 intro pins s σ H Q I h
 refine BoolOp_or (thn (ha pins s σ H _ I h) fun v s1 ⟨x,H1,I1,r1,q1⟩=>?_)
 obtain⟨c,rfl,q1⟩:=q1
 cases r1
 refine wpAny_truthy_bool ?_
 cases c with
 | false=>exact hb pins s1 σ H1 Q I1 q1
 | true=>exact⟨.bl true,H1,I1,rfl,q1⟩
theorem zpx (ha:PE X a ta):PE X (.UnaryOp .Not a pos) (tNotV ta):=by
 intro pins s σ H Q I h
 refine UnaryOp_ (thn (ha pins s σ H _ I h) fun v s1 ⟨x,H1,I1,r1,q1⟩=>?_)
 obtain⟨c,rfl,q1⟩:=q1
 cases r1
 exact not_of (wpAny_truthy_bool ⟨.bl (!c),H1,I1,rfl,q1⟩)
def tIf (t:TT) (ta tb:TE):TE:=fun σ H Q=>t σ H fun c H1=>if c=true then ta σ H1 Q else tb σ H1 Q
theorem zf9 {c:Expr} (hc:PT X c tA) (ha:PE X a ta) (hb:PE X b tb):PE X (.IfExp c a b pos) (tIf tA ta tb):=by
 intro pins s σ H Q I h
 refine wpAny_IfExp (thn (hc pins s σ H _ I h) fun d s1 ⟨H1,I1,q1⟩=>?_)
 cases d with
 | true=>exact ha pins s1 σ H1 Q I1 q1
 | false=>exact hb pins s1 σ H1 Q I1 q1
end
end L2
namespace L2
open PySem PySem.Spec PyProof.Rows
def SqL (K:PySem.W.Frag) (H:Hp) (a:Addr) (xs:List V):Prop :=
 Rd H a (.lst xs) ∨
  ∃ (o:Obj) (its:Array Value) (n:Nat),K.lookup a=some o∧o.cls=.type "list"∧o.dict=none∧o.data=.seq its n∧its.size≤sizeLine∧Vals xs its.toList
def SqT (K:PySem.W.Frag) (H:Hp) (a:Addr) (xs:List V):Prop :=
 Rd H a (.tup xs) ∨
  ∃ (o:Obj) (its:Array Value) (n:Nat),K.lookup a=some o∧o.cls=.type "tuple"∧o.data=.seq its n∧its.size≤sizeLine∧Vals xs its.toList
def absV:Value->Option V
 | .none=>some .non
 | .bool b=>some (.bl b)
 | .int i _=>some (.int i)
 | .str x _=>some (.str x)
 | .bytes b _=>some (.byt b)
 | .float b _=>some (.flt b)
 | .ref a=>some (.ref a)
 | .type n=>some (.ty n)
 | _=>none
theorem RelV.abs {x:V} {u:Value} (r:RelV x u):absV u=some x:=by
 cases x with
 | non=>cases r;rfl
 | bl _=>cases r;rfl
 | int _=>obtain⟨t,rfl⟩:=r;rfl
 | str _=>obtain⟨t,rfl⟩:=r;rfl
 | byt _=>obtain⟨t,rfl⟩:=r;rfl
 | flt _=>obtain⟨t,rfl⟩:=r;rfl
 | ref _=>cases r;rfl
 | ty _=>cases r;rfl
theorem RelV.inj {x y:V} {u:Value} (r:RelV x u) (q:RelV y u):x=y:=Option.some.inj (r.abs.symm.trans q.abs)
theorem Vals.inj:∀ {xs ys:List V} {us:List Value},Vals xs us->Vals ys us->xs=ys
 | _,_,_,.nil,.nil=>rfl
 | _,_,_,.cons r t,.cons r' t'=>by rw[r.inj r',Vals.inj t t']
section
variable {X:Cx} {pins:List (Addr × Obj)} {σ:St} {H:Hp} {s:Shared} {a:Addr} {xs ys:List V}
theorem SqL.of {K:PySem.W.Frag} (h:H a=some (.lst xs)):SqL K H a xs:=.inl (.inl h)
theorem SqT.of {K:PySem.W.Frag} (h:H a=some (.tup xs)):SqT K H a xs:=.inl (.inl h)
theorem Inv.list (I:Inv X pins σ H s) (h:SqL X.K H a xs):∃ its:List Value,Vals xs its∧PlainL s.heap a its.toArray∧xs.length≤sizeLine:=by
 rcases h with h | ⟨o,its,n,hk,hc,hd,hs,hz,r⟩
 ·obtain⟨z,its,n,r,e⟩:=h.ok I.hok
  exact⟨its,r,⟨_,n,e,rfl,rfl,rfl⟩,z⟩
 ·refine⟨its.toList,r,⟨o,n,I.kIn a o hk,hc,hd,by simpa using hs⟩,?_⟩
  have e:=r.length
  simp only [Array.length_toList] at e
  trivial
theorem Inv.tuple (I:Inv X pins σ H s) (h:SqT X.K H a xs):∃ its:List Value,Vals xs its∧IsTup s.heap a its.toArray∧xs.length≤sizeLine:=by
 rcases h with h | ⟨o,its,n,hk,hc,hs,hz,r⟩
 ·obtain⟨z,its,r,p⟩:=h.ok I.hok
  exact⟨its,r,p.tup,z⟩
 ·refine⟨its.toList,r,⟨o,I.kIn a o hk,hc,n,by simpa using hs⟩,?_⟩
  have e:=r.length
  simp only [Array.length_toList] at e
  trivial
theorem Inv.list_inj (I:Inv X pins σ H s) (h:SqL X.K H a xs) (h':SqL X.K H a ys):xs=ys:=by
 obtain⟨its,r,⟨o,n,e,_,_,d⟩,_⟩:=I.list h
 obtain⟨its',r',⟨o',n',e',_,_,d'⟩,_⟩:=I.list h'
 rw[e] at e';cases e'
 rw[d] at d'
 injection d' with d1 _
 have:its=its':=by simpa using congrArg Array.toList d1
 subst this
 exact r.inj r'
theorem Inv.tuple_inj (I:Inv X pins σ H s) (h:SqT X.K H a xs) (h':SqT X.K H a ys):xs=ys:=by
 obtain⟨its,r,⟨o,e,_,n,d⟩,_⟩:=I.tuple h
 obtain⟨its',r',⟨o',e',_,n',d'⟩,_⟩:=I.tuple h'
 rw[e] at e';cases e'
 rw[d] at d'
 injection d' with d1 _
 have:its=its':=by simpa using congrArg Array.toList d1
 subst this
 exact r.inj r'
end
abbrev Cx.wish (X:Cx) (E:Value->Shared->Prop):Cx:={ X with xe:=E }
abbrev Cx.nox (X:Cx):Cx:=X.wish fun _ _=>False
theorem Cx.Ok.wish {X:Cx} (ok:X.Ok) (E:Value->Shared->Prop):(X.wish E).Ok :=
 ⟨ok.mod,ok.kind,ok.glob,ok.blt,ok.above,ok.inj,ok.has,ok.cab,ok.hd,ok.frames,ok.stk,ok.exf,ok.bs,ok.bsz,ok.noex,ok.exfs,ok.funs,ok.frf⟩
theorem Cx.Ok.unwish {X:Cx} {E:Value->Shared->Prop} (ok:(X.wish E).Ok):X.Ok :=
 ⟨ok.mod,ok.kind,ok.glob,ok.blt,ok.above,ok.inj,ok.has,ok.cab,ok.hd,ok.frames,ok.stk,ok.exf,ok.bs,ok.bsz,ok.noex,ok.exfs,ok.funs,ok.frf⟩
section
variable {X:Cx} {pins:List (Addr × Obj)} {σ:St} {H:Hp} {s:Shared} {E:Value->Shared->Prop}
theorem Inv.wish (I:Inv X pins σ H s) (E:Value->Shared->Prop):Inv (X.wish E) pins σ H s:=⟨I.ok.wish E,I.os,I.bare,I.base,I.loc,I.cell,I.free,I.freeC,I.pin,I.hok,I.len⟩
theorem Inv.unwish (I:Inv (X.wish E) pins σ H s):Inv X pins σ H s:=⟨I.ok.unwish,I.os,I.bare,I.base,I.loc,I.cell,I.free,I.freeC,I.pin,I.hok,I.len⟩
theorem SP.unwish {D:Ends} {f:Flow} {s':Shared} (h:SP (X.wish E) pins D f s'):SP X pins D f s':=by
 cases f with
 | next=>obtain⟨σ',H',I,q⟩:=h;exact⟨σ',H',I.unwish,q⟩
 | brk=>obtain⟨σ',H',I,q⟩:=h;exact⟨σ',H',I.unwish,q⟩
 | cont=>obtain⟨σ',H',I,q⟩:=h;exact⟨σ',H',I.unwish,q⟩
 | ret u=>obtain⟨v,σ',H',I,r,q⟩:=h;exact⟨v,σ',H',I.unwish,r,q⟩
theorem PSs.nox {st:List Stmt} {t:TS} (h:PSs X.nox st t):PSs X st t:=fun pins s σ H D I hw =>
 wpAny_mono (h pins s σ H D (I.wish _) hw) (fun _ _ q=>q.unwish) fun _ _ z=>False.elim z
end
section
variable {X:Cx} {st:Stmt} {rest:List Stmt} {t u:TS} {e:Expr} {te:TE} {pos:Pos}
def tNext:TS:=fun D σ H=>D.nx σ H
def tSeq (t u:TS):TS:=fun D σ H=>t { D with nx:=u D } σ H
theorem za5:PSs X [] tNext:=fun _ _ σ H _ I h=>wpAny_execs_nil ⟨σ,H,I,h⟩
theorem zai (h1:PS X st t) (h2:PSs X rest u):PSs X (st::rest) (tSeq t u):=by
 intro pins s σ H D I h
 refine wpAny_execs_cons (thn (h1 pins s σ H { D with nx:=u D } I h) fun f s1 q=>?_)
 cases f with
 | next =>
  obtain⟨σ',H',I',q⟩:=q
  exact h2 pins s1 σ' H' D I' q
 | ret v=>exact q
 | brk=>exact q
 | cont=>exact q
theorem zak (h1:PS X st t):PSs X [st] t:=by
 intro pins s σ H D I h
 refine wpAny_execs_cons (thn (h1 pins s σ H D I h) fun f s1 q=>?_)
 cases f with
 | next=>exact wpAny_execs_nil q
 | ret v=>exact q
 | brk=>exact q
 | cont=>exact q
theorem Inv.quiet {pins:List (Addr × Obj)} {σ:St} {H:Hp} {s:Shared} (I:Inv X pins σ H s):interactive X.env=false:=by simp [interactive,I.ok.kind]
def tDrop (te:TE):TS:=fun D σ H=>te σ H fun _ H1=>D.nx σ H1
theorem zds (he:PE X e te) (hs:swapsWith e none pos.line X.env=pure false:=by rfl):PS X (.Expr e pos) (tDrop te):=by
 intro pins s σ H D I h
 exact wpAny_Expr_any (thn (he pins s σ H _ I h) fun v s1 ⟨x,H1,I1,r1,q1⟩=>⟨σ,H1,I1,q1⟩) I.quiet hs
def tRet (te:TE):TS:=fun D σ H=>te σ H D.rt
theorem zav (he:PE X e te):PS X (.Return (some e) pos) (tRet te):=by
 intro pins s σ H D I h
 exact wpAny_Return_some (thn (he pins s σ H _ I h) fun v s1 ⟨x,H1,I1,r1,q1⟩=>⟨x,σ,H1,I1,r1,q1⟩)
def tIfS (c:TT) (t u:TS):TS:=fun D σ H=>c σ H fun b H1=>if b=true then t D σ H1 else u D σ H1
theorem zb2 {c:Expr} {a b:List Stmt} {tc:TT} (hc:PT X c tc) (ha:PSs X a t) (hb:PSs X b u):PS X (.If c a b pos) (tIfS tc t u):=by
 intro pins s σ H D I h
 refine wpAny_If (thn (hc pins s σ H _ I h) fun d s1 ⟨H1,I1,q1⟩=>?_)
 cases d with
 | true=>exact ha pins s1 σ H1 D I1 q1
 | false=>exact hb pins s1 σ H1 D I1 q1
end
abbrev TG:=V->St->Hp->(St->Hp->Prop)->Prop
abbrev TGs:=List V->St->Hp->(St->Hp->Prop)->Prop
def PG (X:Cx) (target:Expr) (t:TG):Prop :=
 ∀ (pins:List (Addr × Obj)) (s:Shared) (σ:St) (H:Hp) (v:V) (u:Value) (Q:St->Hp->Prop),Inv X pins σ H s->RelV v u->t v σ H Q ->
  wpAny (model X.prog X.w) X.A (assign target X.env u) (fun _ s'=>∃ σ' H',Inv X pins σ' H' s'∧Q σ' H') X.xe s
def PGs (X:Cx) (ts:List Expr) (t:TGs):Prop :=
 ∀ (pins:List (Addr × Obj)) (s:Shared) (σ:St) (H:Hp) (vs:List V) (us:List Value) (Q:St->Hp->Prop),Inv X pins σ H s->Vals vs us->t vs σ H Q ->
  wpAny (model X.prog X.w) X.A (assignInOrder ((assignEach ts X.env).map (·.2)) us) (fun _ s'=>∃ σ' H',Inv X pins σ' H' s'∧Q σ' H') X.xe s
abbrev TSet:=V->V->V->Hp->(Hp->Prop)->Prop
def PSet (X:Cx) (t:TSet):Prop :=
 ∀ (pins:List (Addr × Obj)) (s:Shared) (σ:St) (H:Hp) (o i v:V) (ov iv u:Value) (Q:Hp->Prop),Inv X pins σ H s->RelV o ov->RelV i iv->RelV v u->t o i v H Q ->
  wpAny (model X.prog X.w) X.A (setItem ov iv u) (fun _ s'=>∃ H',Inv X pins σ H' s'∧Q H') X.xe s
section
variable {X:Cx} {pos:Pos}
def gName (i:Nat):TG:=fun v σ H Q=>Q (σ.set i (some v)) H
theorem zah {i:Nat} {x:Str} (hN:X.N.Nodup) (hi:X.N[i]?=some x) (hx:Loc X.env.scope x) (hf:X.fn x=true∨X.env.scope.names.lookup x=some .local:=by first | exact .inl rfl | exact .inr rfl | assumption):PG X (.Name x pos) (gName i):=by
 intro pins s σ H v u Q I r h
 exact wpAny_assign_Name (zjb I hN hi hx r (fun s' I'=>⟨_,H,I',h⟩) hf)
def gNil:TGs:=fun vs σ H Q=>vs=[]∧Q σ H
inductive gCons_i (t:TG) (u:TGs) (vs:List V) (σ:L2.St) (H:Hp) (Q:L2.St->Hp->Prop):Prop
 | mk:∀ v r,(vs=v::r)->(t v σ H fun σ' H'=>u r σ' H' Q)->gCons_i t u vs σ H Q
def gCons (t:TG) (u:TGs):TGs:=fun vs σ H Q=>gCons_i t u vs σ H Q
theorem zba:PGs X [] gNil:=by
 intro pins s σ H vs us Q I r h
 obtain⟨e,h⟩:=h
 subst e
 cases r
 exact assignInOrder_nil ⟨σ,H,I,h⟩
theorem zan {e:Expr} {es:List Expr} {t:TG} {u:TGs} (h1:PG X e t) (h2:PGs X es u)
  (hs:(assignEach (e::es) X.env).map (·.2)=assign e X.env::(assignEach es X.env).map (·.2):=by rfl):PGs X (e::es) (gCons t u):=by
 intro pins s σ H vs us Q I r h
 obtain⟨v,vr,e1,h⟩:=h
 subst e1
 cases r with
 | cons r rr =>
  rw[hs]
  refine assignInOrder_cons (thn (h1 pins s σ H _ _ _ I r h) fun _ s1 ⟨σ1,H1,I1,q1⟩=>?_)
  exact h2 pins s1 σ1 H1 _ _ Q I1 rr q1
inductive gTup_i (K:PySem.W.Frag) (n:Nat) (t:TGs) (v:V) (σ:L2.St) (H:Hp) (Q:L2.St->Hp->Prop):Prop
 | mk:∀ a xs,(v=.ref a)->(SqT K H a xs)->(xs.length=n)->(t xs σ H Q)->gTup_i K n t v σ H Q
def gTup (K:PySem.W.Frag) (n:Nat) (t:TGs):TG:=fun v σ H Q=>gTup_i K n t v σ H Q
theorem zci {es:List Expr} {k:Nat} {t:TGs} {n:Nat} (hc:X.calm=true) (h:PGs X es t)
  (hn:(assignEach es X.env).length=n:=by rfl) (hst:(assignEach es X.env).findIdx? (·.1)=none:=by rfl):PG X (.Tuple es k pos) (gTup X.K n t):=by
 intro pins s σ H v u Q I r hw
 obtain⟨a,xs,e1,hq,hl,hw⟩:=hw
 subst e1
 cases r
 obtain⟨its,rv,ht,hz⟩:=I.tuple hq
 refine assign_Tuple_tuple (I.ok.hd hc) ht (by simp [hn,← hl,rv.length]) hst fun h' hx=>?_
 have I1:Inv X pins σ H { s with heap:=h' }:=I.kept (t':=s.toks) fun b o e=>hx b o (Nat.ne_of_lt (Heap.lt_size e)) e
 exact h pins _ σ H xs _ Q I1 (by simpa using rv) hw
def gSub (to ti:TE) (t:TSet):TG:=fun v σ H Q=>to σ H fun o H1=>ti σ H1 fun i H2=>t o i v H2 fun H3=>Q σ H3
theorem zny {o i:Expr} {to ti:TE} {t:TSet} (ho:PE X o to) (hi:PE X i ti) (hs:PSet X t)
  (ha:∀ v,assign (.Subscript o i pos) X.env v=(do
   let ov ← holding [v] (eval o X.env)
   let iv ← holding [v,ov] (eval i X.env)
   standAt pos
   holding [v,ov,iv] (setItem ov iv v)
   release [v,ov,iv] []):=by intro _;rfl):PG X (.Subscript o i pos) (gSub to ti t):=by
 intro pins s σ H v u Q I r h
 rw[ha]
 refine wpAny_bind (wpAny_holding (thn (ho pins s σ H _ I h) fun ov s1 ⟨x,H1,I1,r1,q1⟩=>?_))
 refine wpAny_bind (wpAny_holding (thn (hi pins s1 σ H1 _ I1 q1) fun iv s2 ⟨y,H2,I2,r2,q2⟩=>?_))
 refine wpAny_bind (wpAny_standAt (wpAny_bind (wpAny_holding (thn (hs pins s2 σ H2 x y v ov iv u _ I2 r1 r2 r q2) fun _ s3 ⟨H3,I3,q3⟩=>?_))))
 exact wpAny_release ⟨σ,H3,I3,q3⟩
def tAsg (te:TE) (g:TG):TS:=fun D σ H=>te σ H fun x H1=>g x σ H1 D.nx
theorem zdf {tg e:Expr} {te:TE} {g:TG} (he:PE X e te) (hg:PG X tg g) (hs:swapsWithSole [tg] e pos.line X.env=pure false:=by rfl) (hw:swappedStores [tg] e X.env=pure none:=by rfl)
  (h1:(assignEach [tg] X.env).map (·.2)=[assign tg X.env]:=by rfl):PS X (.Assign [tg] e pos) (tAsg te g):=by
 intro pins s σ H D I h
 refine wpAny_Assign_stores (thn (he pins s σ H _ I h) fun v s1 ⟨x,H1,I1,r1,q1⟩=>?_) hs hw
 rw[h1]
 exact thn (hg pins s1 σ H1 x v _ I1 r1 q1) fun _ s2 q=>q
theorem za9 {i:Nat} {x:Str} {e:Expr} {te:TE} {pos':Pos} (hN:X.N.Nodup) (hi:X.N[i]?=some x) (hx:Loc X.env.scope x) (he:PE X e te) (hs:swapsWith e (some (.Name x pos')) pos.line X.env=pure false:=by rfl) (hf:X.fn x=true∨X.env.scope.names.lookup x=some .local:=by first | exact .inl rfl | exact .inr rfl | assumption) :
  PS X (.Assign [.Name x pos'] e pos) (tAsg te (gName i)):=by
 intro pins s σ H D I h
 refine wpAny_Assign_Name (thn (he pins s σ H _ I h) fun v s1 ⟨y,H1,I1,r1,q1⟩=>?_) hs
 exact zjb I1 hN hi hx r1 (fun s2 I2=>⟨_,H1,I2,q1⟩) hf
end
section
variable {X:Cx} {pos:Pos}
end
structure It where
 go:Nat->Hp->Prop
 yld:Nat->Hp->V->Hp->Prop
 stop:Nat->Hp->Prop
def FpOk (X:Cx) (pins:List (Addr × Obj)) (H:Hp) (b:Addr):Prop :=
 H b=none∧b≠X.env.locals∧b ∉ X.fs∧(b ∈ X.ex∨X.s₀.heap.objs.size≤b)∧(∀ x c,X.env.cells.lookup x=some c->c≠b)∧∀ p ∈ X.pn++pins,p.1≠b
theorem Inv.fpOk {X:Cx} {pins:List (Addr × Obj)} {σ:St} {H H':Hp} {s:Shared} {b:Addr} (I:Inv X pins σ H s) (hb:s.heap.objs.size≤b) (hn:H' b=none):FpOk X pins H' b:=by
 refine⟨hn,Nat.ne_of_gt (Nat.lt_of_lt_of_le I.lt hb),I.nofs hb,.inr (Nat.le_trans I.sz hb),fun x c e z=>?_,fun p hp z=>?_⟩
 ·obtain⟨v,q⟩:=I.cell x c e
  exact absurd (Nat.lt_of_lt_of_le q.lt (by rw[z];exact hb)) (Nat.lt_irrefl _)
 ·exact absurd (Nat.lt_of_lt_of_le (Heap.lt_size (I.pin p hp).1) (by rw[z];exact hb)) (Nat.lt_irrefl _)
structure Turn (P:Program) (w:World) (K:PySem.W.Frag) (tg:Expr) (J:It) (fp:List Addr) (it:Addr) (tn:Nat->Heap->Prop):Prop where
 mem:it ∈ fp
 obj:∀ i h,tn i h->∀ b ∈ fp,∃ o,h.get? b=some o∧∀ v,o.data≠.cell v
 keep:∀ i h h',tn i h->(∀ b ∈ fp,∀ o,h.get? b=some o->h'.get? b=some o)->tn i h'
 item:∀ (X:Cx),X.prog=P->X.w=w->X.K=K->X.calm=true->∀ (i:Nat) (pins:List (Addr × Obj)) (s:Shared) (σ:St) (H:Hp) (E:Value->Shared->Prop),Inv X pins σ H s->(∀ b ∈ fp,FpOk X pins H b)->tn i s.heap->J.go i H ->
  wpAny (model P w) X.A (pyNext (.ref it)) (fun r s1=>∃ u,r=some u ∧
   wpAny (model P w) X.A (letOwnedTupleGo tg (.ref it) u) (fun _ s2=>∃ x H',Inv X pins σ H' s2∧RelV x u∧J.yld i H x H'∧tn (i + 1) s2.heap∧∀ b ∈ fp,H' b=none) E s1) E s
 done:∀ (X:Cx),X.prog=P->X.w=w->X.K=K->X.calm=true->∀ (i:Nat) (pins:List (Addr × Obj)) (s:Shared) (σ:St) (H:Hp) (E:Value->Shared->Prop),Inv X pins σ H s->(∀ b ∈ fp,FpOk X pins H b)->tn i s.heap->J.stop i H ->
  wpAny (model P w) X.A (pyNext (.ref it)) (fun r s1=>r=none∧Inv X pins σ H s1) E s
 self:∀ (A:Around) (i:Nat) (s:Shared) (Q:Value->Shared->Prop) (E:Value->Shared->Prop),tn i s.heap->Q (.ref it) s->wpAny (model P w) A (pyIter (.ref it)) Q E s
abbrev TI:=St->Hp->(It->Hp->Prop)->Prop
def PIE (X:Cx) (pins:List (Addr × Obj)) (σ:St) (tg:Expr) (R:It->Hp->Prop) (itv:Value) (s2:Shared):Prop :=
 ∃ (it:Addr) (fp:List Addr) (tn:Nat->Heap->Prop) (J:It) (H':Hp),itv=.ref it∧Inv X pins σ H' s2∧Turn X.prog X.w X.K tg J fp it tn∧tn 0 s2.heap∧(∀ b ∈ fp,FpOk X pins H' b)∧R J H'
def PI (X:Cx) (tg iter:Expr) (wi:TI):Prop :=
 ∀ (pins:List (Addr × Obj)) (s:Shared) (σ:St) (H:Hp) (R:It->Hp->Prop),Inv X pins σ H s->wi σ H R ->
  wpAny (model X.prog X.w) X.A (eval iter X.env) (fun v s1=>wpAny (model X.prog X.w) X.A (pyIter v) (PIE X pins σ tg R) X.xe s1) X.xe s
theorem zo7 {M:Model} {A:Around} {E:Value->Shared->Prop} {s:Shared} {tg:Expr} {it:Addr} {u:Value} {o:Obj} {n:String} {vs:Array Value} {Q:Unit->Shared->Prop} (ho:s.heap.get? it=some o) (hc:o.cls=.type n) (hd:o.data=.fields vs)
  (hn:["enumerate","zip","dict_itemiterator","dict_reverseitemiterator","odict_iterator","itertools.zip_longest","itertools.pairwise"].contains n=false) (hQ:Q () s):wpAny M A (letOwnedTupleGo tg (.ref it) u) Q E s:=by
 unfold letOwnedTupleGo
 cases tg <;> first
  | exact wpAny_pure hQ
  | (cases u <;> first
      | exact wpAny_pure hQ
      | (refine wpAny_bind (wpAny_load ho ?_)
         rw[hc,hd]
         show wpAny M A (if (["enumerate","zip","dict_itemiterator","dict_reverseitemiterator","odict_iterator","itertools.zip_longest","itertools.pairwise"].contains n && vs[0]? == some (rawInt _))=true then _ else _) Q E s
         rw[if_neg (by intro h;rw[hn,Bool.false_and] at h;cases h)]
         exact wpAny_pure hQ))
def Itl (K:PySem.W.Frag) (a:Addr):It :=
 ⟨fun i H=>∃ xs x,SqL K H a xs∧xs[i]?=some x,fun i H x H'=>H'=H∧∀ xs,SqL K H a xs->xs[i]?=some x,fun i H=>∃ xs,SqL K H a xs∧xs.length≤i⟩
def Itt (K:PySem.W.Frag) (a:Addr):It :=
 ⟨fun i H=>∃ xs x,SqT K H a xs∧xs[i]?=some x,fun i H x H'=>H'=H∧∀ xs,SqT K H a xs->xs[i]?=some x,fun i H=>∃ xs,SqT K H a xs∧xs.length≤i⟩
def Itr (lo:Int) (n:Nat):It:=⟨fun i _=>i < n,fun i H x H'=>H'=H∧x=.int (lo + i),fun i _=>n≤i⟩
theorem zkt {P:Program} {w:World} {K:PySem.W.Frag} {tg:Expr} (a it:Addr):Turn P w K tg (Itl K a) [it] it (fun i h=>h.IsListIter it a i) where
 mem:=by simp
 obj:=fun i h st b hb=>by
  have e:b=it:=by simpa using hb
  subst e
  obtain⟨o,e,c,d⟩:=st
  exact⟨o,e,fun v z=>by rw[d] at z;cases z⟩
 keep:=fun i h h' st k=>st.at fun o e=>k it (by simp) o e
 item:=by
  intro X hP hw hK hc i pins s σ H E I hf st hg
  subst hP hw hK
  obtain⟨xs,x,hq,hx⟩:=hg
  obtain⟨its,rv,p,hz⟩:=I.list hq
  obtain⟨u,hu,ru⟩:=rv.get hx
  obtain⟨f0,f1,f2,f3,f4,f5⟩:=hf it (by simp)
  refine wpAny_pyNext_list_item st p.isList (x:=u) (by simpa using hu) fun h' st' sb=>?_
  have I1:Inv X pins σ H { s with heap:=h' }:=I.turned (t':=s.toks) (fun b o hb e=>(sb.2 b hb).trans e) f0 f1 f3 f4 f5
  obtain⟨o,e,c,d⟩:=id st'
  exact⟨u,rfl,zo7 (s:={ s with heap:=h' }) e c d (by decide) ⟨x,H,I1,ru,⟨rfl,fun ys hy=>by rw[I.list_inj hy hq];exact hx⟩,st',fun b hb=>(hf b hb).1⟩⟩
 done:=by
  intro X hP hw hK hc i pins s σ H E I hf st hg
  subst hP hw hK
  obtain⟨xs,hq,hx⟩:=hg
  obtain⟨its,rv,p,hz⟩:=I.list hq
  obtain⟨f0,f1,f2,f3,f4,f5⟩:=hf it (by simp)
  have hl:=rv.length
  exact wpAny_pyNext_list_end (I.ok.hd hc) st p.isList (by simp;trivial) fun h' eb=>⟨rfl,I.turned (t':=s.toks) (fun b o hb e=>eb b o hb e) f0 f1 f3 f4 f5⟩
 self:=fun _ _ _ _ _ st h=>wpAny_pyIter_listiter st h
theorem zj3 {P:Program} {w:World} {K:PySem.W.Frag} {tg:Expr} (a it:Addr):Turn P w K tg (Itt K a) [it] it (fun i h=>h.IsTupleIter it a i) where
 mem:=by simp
 obj:=fun i h st b hb=>by
  have e:b=it:=by simpa using hb
  subst e
  obtain⟨o,e,c,d⟩:=st
  exact⟨o,e,fun v z=>by rw[d] at z;cases z⟩
 keep:=fun i h h' st k=>st.at fun o e=>k it (by simp) o e
 item:=by
  intro X hP hw hK hc i pins s σ H E I hf st hg
  subst hP hw hK
  obtain⟨xs,x,hq,hx⟩:=hg
  obtain⟨its,rv,p,hz⟩:=I.tuple hq
  obtain⟨u,hu,ru⟩:=rv.get hx
  obtain⟨f0,f1,f2,f3,f4,f5⟩:=hf it (by simp)
  refine wpAny_pyNext_tuple_item st (show s.heap.IsTuple a its.toArray from p) (x:=u) (by simpa using hu) fun h' st' sb=>?_
  have I1:Inv X pins σ H { s with heap:=h' }:=I.turned (t':=s.toks) (fun b o hb e=>(sb.2 b hb).trans e) f0 f1 f3 f4 f5
  obtain⟨o,e,c,d⟩:=id st'
  exact⟨u,rfl,zo7 (s:={ s with heap:=h' }) e c d (by decide) ⟨x,H,I1,ru,⟨rfl,fun ys hy=>by rw[I.tuple_inj hy hq];exact hx⟩,st',fun b hb=>(hf b hb).1⟩⟩
 done:=by
  intro X hP hw hK hc i pins s σ H E I hf st hg
  subst hP hw hK
  obtain⟨xs,hq,hx⟩:=hg
  obtain⟨its,rv,p,hz⟩:=I.tuple hq
  obtain⟨f0,f1,f2,f3,f4,f5⟩:=hf it (by simp)
  have hl:=rv.length
  exact wpAny_pyNext_tuple_end (I.ok.hd hc) st (show s.heap.IsTuple a its.toArray from p) (by simp;trivial) fun h' eb=>⟨rfl,I.turned (t':=s.toks) (fun b o hb e=>eb b o hb e) f0 f1 f3 f4 f5⟩
 self:=fun _ _ _ _ _ st h=>wpAny_pyIter_tupleiter st h
theorem zj4 {P:Program} {w:World} {K:PySem.W.Frag} {tg:Expr} (it:Addr) (lo:Int) (n:Nat):Turn P w K tg (Itr lo n) [it] it (fun i h=>IsRangeIter h it (lo + (i:Nat) * 1) ((n:Int) - (i:Nat)) 1) where
 mem:=by simp
 obj:=fun i h st b hb=>by
  have e:b=it:=by simpa using hb
  subst e
  exact⟨_,st,fun v z=>by
   have z':Data.fields _=Data.cell v:=z
   cases z'⟩
 keep:=fun i h h' st k=>k it (by simp) _ st
 item:=by
  intro X hP hw hK hc i pins s σ H E I hf st hg
  subst hP hw hK
  obtain⟨f0,f1,f2,f3,f4,f5⟩:=hf it (by simp)
  have W:=Walks.range (prog:=X.prog) (w:=X.w) (I.ok.hd hc) it lo 1 n
  refine W.item i s _ _ hg st fun v h' tk hv st' kk=>?_
  obtain⟨t,rfl⟩:=hv
  have I1:Inv X pins σ H { s with heap:=h',toks:=tk }:=I.turned (fun b o hb e=>kk b o (by simpa using hb) e) f0 f1 f3 f4 f5
  refine⟨_,rfl,zo7 (s:={ s with heap:=h',toks:=tk }) (n:="range_iterator") st' rfl rfl (by decide) ⟨.int (lo + i),H,I1,⟨t,?_⟩,⟨rfl,rfl⟩,st',fun b hb=>(hf b hb).1⟩⟩
  rw[Int.mul_one]
 done:=by
  intro X hP hw hK hc i pins s σ H E I hf st hg
  subst hP hw hK
  obtain⟨f0,f1,f2,f3,f4,f5⟩:=hf it (by simp)
  exact wpAny_pyNext_range_end (I.ok.hd hc) st (by have:n≤i:=hg;trivial) fun h' eb=>⟨rfl,I.turned (t':=s.toks) (fun b o hb e=>eb b o hb e) f0 f1 f3 f4 f5⟩
 self:=fun _ _ _ _ _ st h=>wpAny_pyIter_rangeiter st h
end L2
namespace L2
open PySem PySem.Spec PyProof.Rows
section
variable {X:Cx} {tg:Expr}
def iList (K:PySem.W.Frag) (tl:TE):TI:=fun σ H R=>tl σ H fun x H1=>ERef x fun a=>(∃ xs,SqL K H1 a xs)∧R (Itl K a) H1
def iTup (K:PySem.W.Frag) (tl:TE):TI:=fun σ H R=>tl σ H fun x H1=>ERef x fun a=>(∃ xs,SqT K H1 a xs)∧R (Itt K a) H1
theorem zbu {l:Expr} {tl:TE} (hl:PE X l tl):PI X tg l (iList X.K tl):=by
 intro pins s σ H R I h
 refine thn (hl pins s σ H _ I h) fun v s1 ⟨x,H1,I1,r1,q1⟩=>?_
 obtain⟨a,e,⟨xs,hq⟩,q⟩:=q1
 subst e
 cases r1
 obtain⟨its,rv,p,hz⟩:=I1.list hq
 refine wpAny_pyIter_list p.isList ?_
 refine⟨s1.heap.objs.size,[s1.heap.objs.size],_,_,H1,rfl,I1.kept (t':=s1.toks) fun b o e=>Heap.get?_push_of_some _ e,zkt a _,⟨_,Heap.get?_push_size _ rfl,rfl,rfl⟩,fun b hb=>?_,q⟩
 have e:b=s1.heap.objs.size:=by simpa using hb
 subst e
 exact I1.fpOk (Nat.le_refl _) (I1.hok.fresh (Nat.le_refl _))
theorem zeo {l:Expr} {tl:TE} (hl:PE X l tl):PI X tg l (iTup X.K tl):=by
 intro pins s σ H R I h
 refine thn (hl pins s σ H _ I h) fun v s1 ⟨x,H1,I1,r1,q1⟩=>?_
 obtain⟨a,e,⟨xs,hq⟩,q⟩:=q1
 subst e
 cases r1
 obtain⟨its,rv,p,hz⟩:=I1.tuple hq
 refine wpAny_pyIter_tuple (show s1.heap.IsTuple a its.toArray from p) ?_
 refine⟨s1.heap.objs.size,[s1.heap.objs.size],_,_,H1,rfl,I1.kept (t':=s1.toks) fun b o e=>Heap.get?_push_of_some _ e,zj3 a _,⟨_,Heap.get?_push_size _ rfl,rfl,rfl⟩,fun b hb=>?_,q⟩
 have e:b=s1.heap.objs.size:=by simpa using hb
 subst e
 exact I1.fpOk (Nat.le_refl _) (I1.hok.fresh (Nat.le_refl _))
theorem zm0 {pins:List (Addr × Obj)} {σ:St} {H:Hp} {s:Shared} {R:It->Hp->Prop} {E:Value->Shared->Prop} {lo hi:Int} {t u v:Tok} {tk:Nat} (I:Inv X pins σ H s) (h1:-(2 ^ 62)≤lo) (h2:lo < 2 ^ 62) (h3:-(2 ^ 62)≤hi) (h4:hi < 2 ^ 62)
  (q:R (Itr lo (hi - lo).toNat) H):wpAny (model X.prog X.w) X.A (pyIter (.ref s.heap.objs.size)) (PIE X pins σ tg R) E { s with heap:=s.heap.push { cls:=.type "range",data:=.fields #[.int lo t,.int hi u,.int 1 v] },toks:=tk }:=by
 refine wpAny_pyIter_range (IsRange.new ..) (small_one h1 h2 h3 h4) ?_
 have I1:Inv X pins σ H { s with heap:=s.heap.push { cls:=.type "range",data:=.fields #[.int lo t,.int hi u,.int 1 v] },toks:=tk }:=I.kept fun b o e=>Heap.get?_push_of_some _ e
 refine⟨(s.heap.push { cls:=.type "range",data:=.fields #[.int lo t,.int hi u,.int 1 v] }).objs.size,[(s.heap.push { cls:=.type "range",data:=.fields #[.int lo t,.int hi u,.int 1 v] }).objs.size],_,_,H,rfl,
  I1.kept (t':=tk) fun b o e=>Heap.get?_push_of_some _ e,zj4 _ lo (hi - lo).toNat,?_,fun b hb=>?_,q⟩
 ·have e1:lo + ((0:Nat):Int) * 1=lo:=by simp
  have e2:(((hi - lo).toNat:Nat):Int) - ((0:Nat):Int)=Builtin.Range.rangeSize lo hi 1:=by rw[rangeSize_one];split <;> trivial
  show IsRangeIter _ _ (lo + ((0:Nat):Int) * 1) ((((hi - lo).toNat:Nat):Int) - ((0:Nat):Int)) 1
  rw[e1,e2]
  exact Heap.get?_push_size _ rfl
 ·have e:b=(s.heap.push { cls:=.type "range",data:=.fields #[.int lo t,.int hi u,.int 1 v] }).objs.size:=by simpa using hb
  subst e
  exact I1.fpOk (Nat.le_refl _) (I1.hok.fresh (Nat.le_refl _))
def iRng1 (ta:TA):TI:=fun σ H R=>ta σ H fun vs H1=>EOne vs fun j=>-(2 ^ 62)≤j∧j < 2 ^ 62∧R (Itr 0 j.toNat) H1
theorem zbh {a:Expr} {ta:TA} {p pos:Pos} (hg:Gl X "range") (hm:X.mg "range"=none) (ha:PA X [a] ta) (hs:starEach [a] X.env=[(false,eval a X.env)]:=by rfl):PI X tg (.Call (.Name "range" p) [a] [] pos) (iRng1 ta):=by
 intro pins s σ H R I h
 refine Call_ (zfw I hg hm boot_range (PyProof.Rows.callWith_type1 (thn (ha pos pins s σ H _ I h) fun us s1 ⟨vs,H1,I1,r1,q1⟩=>?_) hs rfl))
 obtain⟨j,e,q1,q2,q⟩:=q1
 subst e
 cases r1 with
 | cons r rr =>
  cases rr
  obtain⟨t,rfl⟩:=r
  exact call_range_1 (zm0 I1 (by trivial) (by trivial) q1 q2 (by simpa using q))
def tFor (wi:TI) (g:TG) (tb:TS):TS:=fun D σ H=>wi σ H fun J H1=>∃ W:Nat->Nat->St->Hp->Prop,(∃ m,W 0 m σ H1)∧∀ i m σ H,W i m σ H ->
 (J.stop i H∧D.nx σ H)∨(J.go i H∧∃ N:St->Hp->Prop,(∀ σ' H',N σ' H'->∃ m',m' < m∧W (i + 1) m' σ' H')∧∀ x H',J.yld i H x H'->g x σ H' fun σ2 H2=>tb { D with nx:=N,ct:=N,bk:=D.nx } σ2 H2)
def pinsAt (fp:List Addr) (h:Heap):List (Addr × Obj):=fp.filterMap fun b=>(h.get? b).map fun o=>(b,o)
theorem zcu {fp:List Addr} {h:Heap} {b:Addr} {o:Obj} (hb:b ∈ fp) (e:h.get? b=some o):(b,o) ∈ pinsAt fp h:=List.mem_filterMap.mpr ⟨b,hb,by rw[e];rfl⟩
theorem zlh {fp:List Addr} {h:Heap} {p:Addr × Obj} (hp:p ∈ pinsAt fp h):p.1 ∈ fp∧h.get? p.1=some p.2:=by
 obtain⟨b,hb,e⟩:=List.mem_filterMap.mp hp
 cases q:h.get? b with
 | none=>rw[q] at e;cases e
 | some o =>
  rw[q] at e
  have e':(b,o)=p:=Option.some.inj e
  subst e'
  exact⟨hb,q⟩
theorem Inv.pinned {pins:List (Addr × Obj)} {σ:St} {H:Hp} {s:Shared} {fp:List Addr} (I:Inv X pins σ H s) (hf:∀ b ∈ fp,FpOk X pins H b) (ho:∀ b ∈ fp,∃ o,s.heap.get? b=some o∧∀ v,o.data≠.cell v):Inv X (pins++pinsAt fp s.heap) σ H s :=
 I.pins_of fun p hp=>(List.mem_append.mp hp).elim (fun z=>I.pin p (List.mem_append_right _ z)) fun z=>by
  obtain⟨hb,e⟩:=zlh z
  obtain⟨f0,f1,f2,_⟩:=hf p.1 hb
  obtain⟨o,e',d⟩:=ho p.1 hb
  rw[e] at e';cases e'
  exact⟨e,f0,f1,f2,d⟩
theorem Inv.unpinned {pins pl:List (Addr × Obj)} {σ:St} {H:Hp} {s:Shared} (I:Inv X (pins++pl) σ H s):Inv X pins σ H s:=I.pins_of fun p hp=>I.pin p (List.mem_append_right _ (List.mem_append_left _ hp))
theorem zde {iter:Expr} {body:List Stmt} {wi:TI} {g:TG} {tb:TS} {pos:Pos} (hp:PassesOwn (model X.prog X.w) X.A X.env X.xe) (hc:X.calm=true) (hi:PI X tg iter wi) (hg:PG X tg g) (hb:PSs X body tb)
  (hs:∀ x,foldedSetIterable iter X.env x=pure x:=by intro _;rfl):PS X (.For tg iter body [] pos) (tFor wi g tb):=by
 intro pins s σ H D I h
 refine wpAny_For (thn (hi pins s σ H _ I h) fun v s1 h1=>thn h1 fun itv s2 h2=>?_) hs
 obtain⟨it,fp,tn,J,H2,e,I2,T,st2,f2,W,⟨m0,w0⟩,turn⟩:=h2
 subst e
  -- what stays true of the iterator's objects through the loop
 have stat:∀ {H':Hp},(∀ b ∈ fp,H' b=none)->∀ b ∈ fp,FpOk X pins H' b:=fun hn b hb=>⟨hn b hb,(f2 b hb).2⟩
 refine codeAny_forLoop_any (fun n s'=>∃ i σ' H',Inv X pins σ' H' s'∧tn i s'.heap∧(∀ b ∈ fp,H' b=none)∧W i n σ' H') ?_ m0 ⟨0,σ,H2,I2,st2,fun b hb=>(f2 b hb).1,w0⟩
 rintro n s3 ⟨i,σ3,H3,I3,st3,fr3,w3⟩
 rcases turn i n σ3 H3 w3 with ⟨stop,qn⟩ | ⟨go,N,hN,step⟩
 ·refine wpAny_passesOwn hp (thn (T.done X rfl rfl rfl hc i pins s3 σ3 H3 X.xe I3 (stat fr3) st3 stop) fun r s4 ⟨hr,I4⟩=>?_)
  subst hr
  exact wpAny_execs_nil ⟨σ3,H3,I4,qn⟩
 ·refine wpAny_passesOwn hp (thn (T.item X rfl rfl rfl hc i pins s3 σ3 H3 X.xe I3 (stat fr3) st3 go) fun r s4 ⟨u,hr,h4⟩=>?_)
  subst hr
  refine wpAny_passesOwn hp (thn h4 fun _ s5 ⟨x,H5,I5,r5,y5,st5,fr5⟩=>?_)
  have I5':=I5.pinned (stat fr5) (T.obj _ _ st5)
  refine wpAny_passesOwn hp (thn (hg _ s5 σ3 H5 x u _ I5' r5 (step x H5 y5)) fun _ s6 ⟨σ6,H6,I6,q6⟩=>?_)
  refine wpAny_passesOwn hp (thn (hb _ s6 σ6 H6 _ I6 q6) fun f s7 q7=>?_)
  have again:∀ {σ7:St} {H7:Hp},Inv X (pins++pinsAt fp s5.heap) σ7 H7 s7->N σ7 H7->∃ m,m < n∧∃ i σ' H',Inv X pins σ' H' s7∧tn i s7.heap∧(∀ b ∈ fp,H' b=none)∧W i m σ' H':=fun {σ7 H7} I7 n7=>by
   obtain⟨m',hm,w7⟩:=hN σ7 H7 n7
   refine⟨m',hm,i + 1,σ7,H7,I7.unpinned,T.keep _ _ _ st5 fun b hb o e=>(I7.pin (b,o) (List.mem_append_right _ (List.mem_append_right _ (zcu hb e)))).1,fun b hb=>?_,w7⟩
   obtain⟨o,e,d⟩:=T.obj _ _ st5 b hb
   exact (I7.pin (b,o) (List.mem_append_right _ (List.mem_append_right _ (zcu hb e)))).2.1
  cases f with
  | next=>obtain⟨σ7,H7,I7,n7⟩:=q7;exact again I7 n7
  | cont=>obtain⟨σ7,H7,I7,n7⟩:=q7;exact again I7 n7
  | brk=>obtain⟨σ7,H7,I7,q7⟩:=q7;exact⟨σ7,H7,I7.unpinned,q7⟩
  | ret v=>obtain⟨x7,σ7,H7,I7,r7,q7⟩:=q7;exact⟨x7,σ7,H7,I7.unpinned,r7,q7⟩
end
theorem zgk {K:PySem.W.Frag} {a:Addr} {xs:List V} {g:TG} {tb:TS} {D:Ends} {σ:St} {H:Hp} (Pv:Nat->St->Hp->Prop) (h0:Pv 0 σ H) (hl:∀ i σ H,i≤xs.length->Pv i σ H->SqL K H a xs)
  (hs:∀ i x σ H,xs[i]?=some x->Pv i σ H->g x σ H fun σ2 H2=>tb { D with nx:=Pv (i + 1),ct:=Pv (i + 1),bk:=D.nx } σ2 H2) (hd:∀ σ H,Pv xs.length σ H->D.nx σ H) :
  ∃ W:Nat->Nat->St->Hp->Prop,(∃ m,W 0 m σ H)∧∀ i m σ H,W i m σ H ->
   ((Itl K a).stop i H∧D.nx σ H)∨((Itl K a).go i H∧∃ N:St->Hp->Prop,(∀ σ' H',N σ' H'->∃ m',m' < m∧W (i + 1) m' σ' H')∧∀ x H',(Itl K a).yld i H x H'->g x σ H' fun σ2 H2=>tb { D with nx:=N,ct:=N,bk:=D.nx } σ2 H2):=by
 refine⟨fun i m σ H=>m=xs.length - i∧i≤xs.length∧Pv i σ H,⟨xs.length,by simp,Nat.zero_le _,h0⟩,?_⟩
 rintro i m σ H ⟨rfl,hi,p⟩
 have q:=hl i σ H hi p
 by_cases hlt:i < xs.length
 ·refine .inr ⟨⟨xs,xs[i],q,by simp [hlt]⟩,Pv (i + 1),fun σ' H' p'=>⟨xs.length - (i + 1),by trivial,rfl,hlt,p'⟩,fun x H' y=>?_⟩
  obtain⟨e,y⟩:=y
  subst e
  exact hs i x σ _ (y xs q) p
 ·have e:i=xs.length:=by trivial
  subst e
  exact .inl ⟨⟨xs,q,Nat.le_refl _⟩,hd σ H p⟩
theorem ziq {K:PySem.W.Frag} {a:Addr} {xs:List V} {g:TG} {tb:TS} {D:Ends} {σ:St} {H:Hp} (Pv:Nat->St->Hp->Prop) (h0:Pv 0 σ H) (hl:∀ i σ H,i≤xs.length->Pv i σ H->SqT K H a xs)
  (hs:∀ i x σ H,xs[i]?=some x->Pv i σ H->g x σ H fun σ2 H2=>tb { D with nx:=Pv (i + 1),ct:=Pv (i + 1),bk:=D.nx } σ2 H2) (hd:∀ σ H,Pv xs.length σ H->D.nx σ H) :
  ∃ W:Nat->Nat->St->Hp->Prop,(∃ m,W 0 m σ H)∧∀ i m σ H,W i m σ H ->
   ((Itt K a).stop i H∧D.nx σ H)∨((Itt K a).go i H∧∃ N:St->Hp->Prop,(∀ σ' H',N σ' H'->∃ m',m' < m∧W (i + 1) m' σ' H')∧∀ x H',(Itt K a).yld i H x H'->g x σ H' fun σ2 H2=>tb { D with nx:=N,ct:=N,bk:=D.nx } σ2 H2):=by
 refine⟨fun i m σ H=>m=xs.length - i∧i≤xs.length∧Pv i σ H,⟨xs.length,by simp,Nat.zero_le _,h0⟩,?_⟩
 rintro i m σ H ⟨rfl,hi,p⟩
 have q:=hl i σ H hi p
 by_cases hlt:i < xs.length
 ·refine .inr ⟨⟨xs,xs[i],q,by simp [hlt]⟩,Pv (i + 1),fun σ' H' p'=>⟨xs.length - (i + 1),by trivial,rfl,hlt,p'⟩,fun x H' y=>?_⟩
  obtain⟨e,y⟩:=y
  subst e
  exact hs i x σ _ (y xs q) p
 ·have e:i=xs.length:=by trivial
  subst e
  exact .inl ⟨⟨xs,q,Nat.le_refl _⟩,hd σ H p⟩
theorem zbs {lo:Int} {n:Nat} {g:TG} {tb:TS} {D:Ends} {σ:St} {H:Hp} (Pv:Nat->St->Hp->Prop) (h0:Pv 0 σ H)
  (hs:∀ i σ H,i < n->Pv i σ H->g (.int (lo + i)) σ H fun σ2 H2=>tb { D with nx:=Pv (i + 1),ct:=Pv (i + 1),bk:=D.nx } σ2 H2) (hd:∀ σ H,Pv n σ H->D.nx σ H) :
  ∃ W:Nat->Nat->St->Hp->Prop,(∃ m,W 0 m σ H)∧∀ i m σ H,W i m σ H ->
   ((Itr lo n).stop i H∧D.nx σ H)∨((Itr lo n).go i H∧∃ N:St->Hp->Prop,(∀ σ' H',N σ' H'->∃ m',m' < m∧W (i + 1) m' σ' H')∧∀ x H',(Itr lo n).yld i H x H'->g x σ H' fun σ2 H2=>tb { D with nx:=N,ct:=N,bk:=D.nx } σ2 H2):=by
 refine⟨fun i m σ H=>m=n - i∧i≤n∧Pv i σ H,⟨n,by simp,Nat.zero_le _,h0⟩,?_⟩
 rintro i m σ H ⟨rfl,hi,p⟩
 by_cases hlt:i < n
 ·refine .inr ⟨hlt,Pv (i + 1),fun σ' H' p'=>⟨n - (i + 1),by trivial,rfl,hlt,p'⟩,fun x H' y=>?_⟩
  obtain⟨e,y⟩:=y
  subst e y
  exact hs i σ _ hlt p
 ·have e:i=n:=by trivial
  subst e
  exact .inl ⟨Nat.le_refl _,hd σ H p⟩
end L2
namespace L2
open PySem PySem.Spec PyProof.Rows
abbrev R2:=V->V->Hp->VK->Prop
def OpR (X:Cx) (f:Value->Value->Sem Value) (r:R2):Prop :=
 ∀ (pins:List (Addr × Obj)) (s:Shared) (σ:St) (H:Hp) (x y:V) (v u:Value) (Q:VK),Inv X pins σ H s->RelV x v->RelV y u->r x y H Q ->
  wpAny (model X.prog X.w) X.A (f v u) (EP X pins σ Q) X.xe s
def UnR (X:Cx) (f:Value->Sem Value) (r:V->Hp->VK->Prop):Prop :=
 ∀ (pins:List (Addr × Obj)) (s:Shared) (σ:St) (H:Hp) (x:V) (v:Value) (Q:VK),Inv X pins σ H s->RelV x v->r x H Q ->
  wpAny (model X.prog X.w) X.A (f v) (EP X pins σ Q) X.xe s
def CallR (X:Cx) (f:Value) (r:List V->Hp->VK->Prop):Prop :=
 ∀ (pins:List (Addr × Obj)) (s:Shared) (σ:St) (H:Hp) (xs:List V) (us:List Value) (Q:VK),Inv X pins σ H s->Vals xs us->r xs H Q ->
  wpAny (model X.prog X.w) X.A (call f us) (EP X pins σ Q) X.xe s
def tOp (r:R2) (ta tb:TE):TE:=fun σ H Q=>ta σ H fun x H1=>tb σ H1 fun y H2=>r x y H2 Q
def tUn (r:V->Hp->VK->Prop) (ta:TE):TE:=fun σ H Q=>ta σ H fun x H1=>r x H1 Q
inductive rI_i (C:Int->Int->Prop) (g:Int->Int->V) (x:V) (y:V) (H:Hp) (Q:VK):Prop
 | mk:∀ i j,(x=.int i)->(y=.int j)->(C i j)->(Q (g i j) H)->rI_i C g x y H Q
def rI (C:Int->Int->Prop) (g:Int->Int->V):R2:=fun x y H Q=>rI_i C g x y H Q
inductive rI0_i (g:Int->Int->V) (x:V) (y:V) (H:Hp) (Q:VK):Prop
 | mk:∀ i j,(x=.int i)->(y=.int j)->(Q (g i j) H)->rI0_i g x y H Q
def rI0 (g:Int->Int->V):R2:=fun x y H Q=>rI0_i g x y H Q
inductive rU_i (g:Int->V) (x:V) (H:Hp) (Q:VK):Prop
 | mk:∀ i,(x=.int i)->(Q (g i) H)->rU_i g x H Q
def rU (g:Int->V):V->Hp->VK->Prop:=fun x H Q=>rU_i g x H Q
section
variable {X:Cx} {a b c:Expr} {ta tb tc:TE} {pos:Pos}
theorem binT (ha:PE X a ta) (hb:PE X b tb) {pins:List (Addr × Obj)} {s:Shared} {σ:St} {H:Hp} {R:V->V->Hp->Prop} (I:Inv X pins σ H s)
  (h:ta σ H fun x H1=>tb σ H1 fun y H2=>R x y H2) {Q:Value->Shared->Prop} {f:Value->Value->Sem Value}
  (hf:∀ v u s2 x y H2,Inv X pins σ H2 s2->RelV x v->RelV y u->R x y H2->wpAny (model X.prog X.w) X.A (f v u) Q X.xe s2) :
  wpAny (model X.prog X.w) X.A (eval a X.env) (fun v s₁=>wpAny (model X.prog X.w) X.A (eval b X.env) (fun u s₂=>wpAny (model X.prog X.w) X.A (f v u) Q X.xe s₂) X.xe s₁) X.xe s:=by
 refine thn (ha pins s σ H _ I h) fun v s1 ⟨x,H1,I1,r1,q1⟩=>?_
 refine thn (hb pins s1 σ H1 _ I1 q1) fun u s2 ⟨y,H2,I2,r2,q2⟩=>?_
 exact hf v u s2 x y H2 I2 r1 r2 q2
theorem zay {op:Operator} {r:R2} (ho:OpR X (binaryOp op) r) (ha:PE X a ta) (hb:PE X b tb):PE X (.BinOp a op b pos) (tOp r ta tb):=by
 intro pins s σ H Q I h
 exact wpAny_BinOp (binT ha hb I h fun v u s2 x y H2 I2 rx ry q=>ho pins s2 σ H2 x y v u Q I2 rx ry q)
theorem zia {op:UnaryOp} {r:V->Hp->VK->Prop} (ho:UnR X (unaryOp op) r) (ha:PE X a ta):PE X (.UnaryOp op a pos) (tUn r ta):=by
 intro pins s σ H Q I h
 exact UnaryOp_ (thn (ha pins s σ H _ I h) fun v s1 ⟨x,H1,I1,r1,q1⟩=>ho pins s1 σ H1 x v Q I1 r1 q1)
theorem opI {f:Value->Value->Sem Value} {C:Int->Int->Prop} {g:Int->Int->Int}
  (rule:∀ (i j:Int) (t u:Tok) (s:Shared) (Q:Value->Shared->Prop) (E:Value->Shared->Prop),C i j->Q (.int (g i j) s.toks) { s with toks:=s.toks + 1 }->wpAny (model X.prog X.w) X.A (f (.int i t) (.int j u)) Q E s) :
  OpR X f (rI C fun i j=>.int (g i j)):=by
 intro pins s σ H x y v u Q I rx ry h
 obtain⟨i,j,rfl,rfl,hc,q⟩:=h
 obtain⟨t,rfl⟩:=rx
 obtain⟨t',rfl⟩:=ry
 exact rule i j t t' s _ _ hc ⟨.int (g i j),H,I.tok _,⟨_,rfl⟩,q⟩
theorem opI0 {f:Value->Value->Sem Value} {g:Int->Int->Int}
  (rule:∀ (i j:Int) (t u:Tok) (s:Shared) (Q:Value->Shared->Prop) (E:Value->Shared->Prop),Q (.int (g i j) s.toks) { s with toks:=s.toks + 1 }->wpAny (model X.prog X.w) X.A (f (.int i t) (.int j u)) Q E s) :
  OpR X f (rI0 fun i j=>.int (g i j)):=by
 intro pins s σ H x y v u Q I rx ry h
 obtain⟨i,j,rfl,rfl,q⟩:=h
 obtain⟨t,rfl⟩:=rx
 obtain⟨t',rfl⟩:=ry
 exact rule i j t t' s _ _ ⟨.int (g i j),H,I.tok _,⟨_,rfl⟩,q⟩
theorem opB0 {f:Value->Value->Sem Value} {g:Int->Int->Bool}
  (rule:∀ (i j:Int) (t u:Tok) (s:Shared) (Q:Value->Shared->Prop) (E:Value->Shared->Prop),Q (.bool (g i j)) s->wpAny (model X.prog X.w) X.A (f (.int i t) (.int j u)) Q E s) :
  OpR X f (rI0 fun i j=>.bl (g i j)):=by
 intro pins s σ H x y v u Q I rx ry h
 obtain⟨i,j,rfl,rfl,q⟩:=h
 obtain⟨t,rfl⟩:=rx
 obtain⟨t',rfl⟩:=ry
 exact rule i j t t' s _ _ ⟨.bl (g i j),H,I,rfl,q⟩
def CDiv (i j:Int):Prop:=0 < j∧j < 1073741824
def CPow (i j:Int):Prop:=0≤j∧j≤1000000∧i.natAbs < 2 ^ 64
def CMul (i j:Int):Prop:=(-(2 ^ 64) < i∧i < 2 ^ 64)∨(-(2 ^ 64) < j∧j < 2 ^ 64)
theorem CMul.ok {i j:Int} (h:CMul i j):IntMulOk i j:=by
 rcases h with ⟨h1,h2⟩ | ⟨h1,h2⟩
 ·exact .of_left (intBits_le_64 h1 h2)
 ·exact .of_right (intBits_le_64 h1 h2)
theorem zbw:OpR X (binaryOp .Add) (rI0 fun i j=>.int (i + j)):=opI0 fun _ _ _ _ _ _ _ q=>add_int q
theorem zck:OpR X (binaryOp .Sub) (rI0 fun i j=>.int (i - j)):=opI0 fun _ _ _ _ _ _ _ q=>sub_int q
theorem zld:OpR X (binaryOp .Mult) (rI CMul fun i j=>.int (i * j)):=opI fun _ _ _ _ _ _ _ hc q=>mul_int q hc.ok
theorem zlg:OpR X (binaryOp .FloorDiv) (rI CDiv fun i j=>.int (i / j)):=opI fun i j _ _ _ _ _ hc q=>by
 have h1:(0:Int) < j:=hc.1
 have h2:j < 1073741824:=hc.2
 exact floordiv_int (by trivial) (by rw[Int.fdiv_eq_ediv_of_nonneg i (by trivial)];exact q) (.inl (PyProof.noPylong_small (by trivial)))
theorem zcp:OpR X (binaryOp .Mod) (rI (fun _ j=>0 < j) fun i j=>.int (i % j)):=opI fun i j _ _ _ _ _ hc q=>by
 have h1:(0:Int) < j:=hc
 exact mod_int' (by trivial) (by rw[Int.fmod_eq_emod_of_nonneg i (by trivial)];exact q)
theorem zco:OpR X (binaryOp .Pow) (rI CPow fun i j=>.int (i ^ j.toNat)):=opI fun _ _ _ _ _ _ _ hc q=>pow_int_small hc.1 hc.2.1 hc.2.2 q
theorem unI {f:Value->Sem Value} {g:Int->Int}
  (rule:∀ (i:Int) (t:Tok) (s:Shared) (Q:Value->Shared->Prop) (E:Value->Shared->Prop),Q (.int (g i) s.toks) { s with toks:=s.toks + 1 }->wpAny (model X.prog X.w) X.A (f (.int i t)) Q E s) :
  UnR X f (rU fun i=>.int (g i)):=by
 intro pins s σ H x v Q I rx h
 obtain⟨i,rfl,q⟩:=h
 obtain⟨t,rfl⟩:=rx
 exact rule i t s _ _ ⟨.int (g i),H,I.tok _,⟨_,rfl⟩,q⟩
theorem zek:UnR X (unaryOp .USub) (rU fun i=>.int (-i)):=unI fun _ _ _ _ _ q=>neg_int q
end
def scal:V->V->Bool
 | .non,.non=>true | .non,.int _=>true | .int _,.non=>true | .non,.bl _=>true | .bl _,.non=>true | .non,.str _=>true | .str _,.non=>true
 | .int _,.int _=>true | .bl _,.bl _=>true | .str _,.str _=>true | .byt _,.byt _=>true
 | .int _,.str _=>true | .str _,.int _=>true | .bl _,.str _=>true | .str _,.bl _=>true
 | _,_=>false
def rEq:R2:=fun x y H Q=>scal x y=true∧Q (.bl (decide (x=y))) H
def rNe:R2:=fun x y H Q=>scal x y=true∧Q (.bl (!decide (x=y))) H
theorem zbz {i j:Int}:decide (V.int i=V.int j)=(i == j):=by
 rw[Bool.eq_iff_iff]
 simp
theorem zn5 {i j:Bool}:decide (V.bl i=V.bl j)=(i == j):=by
 rw[Bool.eq_iff_iff]
 simp
theorem zl3 {i j:Str}:decide (V.str i=V.str j)=(i == j):=by
 rw[Bool.eq_iff_iff]
 simp
theorem zl4 {i j:Array UInt8}:decide (V.byt i=V.byt j)=(i.toList == j.toList):=by
 rw[Bool.eq_iff_iff]
 cases i
 cases j
 simp
section
variable {X:Cx} {a b c:Expr} {ta tb tc:TE} {pos:Pos}
theorem za4 {pins:List (Addr × Obj)} {σ:St} {H:Hp} {s:Shared} {Q:VK} {k k':Bool} (I:Inv X pins σ H s) (q:Q (.bl k) H) (e:k=k'):EP X pins σ Q (.bool k') s:=by
 subst e
 exact⟨.bl k,H,I,rfl,q⟩
theorem zbe:OpR X (compareOp .Eq) rEq:=by
 intro pins s σ H x y v u Q I rx ry h
 obtain⟨hs,q⟩:=h
 cases x with
 | non =>
  cases rx
  cases y with
  | non=>cases ry;exact PySem.EqNone.eq_none_none (za4 I q (by simp))
  | bl j=>cases ry;exact PySem.EqNone.eq_none_bool (za4 I q (by simp))
  | int j=>obtain⟨t',rfl⟩:=ry;exact PySem.EqNone.eq_none_int (za4 I q (by simp))
  | str j=>obtain⟨t',rfl⟩:=ry;exact PySem.EqNone.eq_none_str (za4 I q (by simp))
  | _=>exact absurd (show false=true from hs) Bool.false_ne_true
 | bl i =>
  cases rx
  cases y with
  | non=>cases ry;exact PySem.EqNone.eq_bool_none (za4 I q (by simp))
  | bl j=>cases ry;exact eq_bool (za4 I q zn5)
  | str j=>obtain⟨t',rfl⟩:=ry;exact PySem.EqMixed.eq_bool_str (za4 I q (by simp))
  | _=>exact absurd (show false=true from hs) Bool.false_ne_true
 | int i =>
  obtain⟨t,rfl⟩:=rx
  cases y with
  | non=>cases ry;exact PySem.EqNone.eq_int_none (za4 I q (by simp))
  | int j=>obtain⟨t',rfl⟩:=ry;exact eq_int (za4 I q zbz)
  | str j=>obtain⟨t',rfl⟩:=ry;exact PySem.EqMixed.eq_int_str (za4 I q (by simp))
  | _=>exact absurd (show false=true from hs) Bool.false_ne_true
 | str i =>
  obtain⟨t,rfl⟩:=rx
  cases y with
  | non=>cases ry;exact PySem.EqNone.eq_str_none (za4 I q (by simp))
  | bl j=>cases ry;exact PySem.EqMixed.eq_str_bool (za4 I q (by simp))
  | int j=>obtain⟨t',rfl⟩:=ry;exact PySem.EqMixed.eq_str_int (za4 I q (by simp))
  | str j=>obtain⟨t',rfl⟩:=ry;exact eq_str (za4 I q zl3)
  | _=>exact absurd (show false=true from hs) Bool.false_ne_true
 | byt i =>
  obtain⟨t,rfl⟩:=rx
  cases y with
  | byt j=>obtain⟨t',rfl⟩:=ry;exact PySem.W.eq_bytes (za4 I q zl4)
  | _=>exact absurd (show false=true from hs) Bool.false_ne_true
 | _=>cases y <;> exact absurd (show false=true from hs) Bool.false_ne_true
theorem zj9:OpR X (compareOp .NotEq) rNe:=by
 intro pins s σ H x y v u Q I rx ry h
 obtain⟨hs,q⟩:=h
 cases x with
 | non =>
  cases rx
  cases y with
  | non=>cases ry;exact PySem.EqNone.ne_none_none (za4 I q (by simp))
  | bl j=>cases ry;exact PySem.EqNone.ne_none_bool (za4 I q (by simp))
  | int j=>obtain⟨t',rfl⟩:=ry;exact PySem.EqNone.ne_none_int (za4 I q (by simp))
  | str j=>obtain⟨t',rfl⟩:=ry;exact PySem.EqNone.ne_none_str (za4 I q (by simp))
  | _=>exact absurd (show false=true from hs) Bool.false_ne_true
 | bl i =>
  cases rx
  cases y with
  | non=>cases ry;exact PySem.EqNone.ne_bool_none (za4 I q (by simp))
  | bl j=>cases ry;exact ne_bool (za4 I q (congrArg not zn5))
  | str j=>obtain⟨t',rfl⟩:=ry;exact PySem.EqMixed.ne_bool_str (za4 I q (by simp))
  | _=>exact absurd (show false=true from hs) Bool.false_ne_true
 | int i =>
  obtain⟨t,rfl⟩:=rx
  cases y with
  | non=>cases ry;exact PySem.EqNone.ne_int_none (za4 I q (by simp))
  | int j=>obtain⟨t',rfl⟩:=ry;exact ne_int (za4 I q (congrArg not zbz))
  | str j=>obtain⟨t',rfl⟩:=ry;exact PySem.EqMixed.ne_int_str (za4 I q (by simp))
  | _=>exact absurd (show false=true from hs) Bool.false_ne_true
 | str i =>
  obtain⟨t,rfl⟩:=rx
  cases y with
  | non=>cases ry;exact PySem.EqNone.ne_str_none (za4 I q (by simp))
  | bl j=>cases ry;exact PySem.EqMixed.ne_str_bool (za4 I q (by simp))
  | int j=>obtain⟨t',rfl⟩:=ry;exact PySem.EqMixed.ne_str_int (za4 I q (by simp))
  | str j=>obtain⟨t',rfl⟩:=ry;exact ne_str (za4 I q (congrArg not zl3))
  | _=>exact absurd (show false=true from hs) Bool.false_ne_true
 | byt i =>
  obtain⟨t,rfl⟩:=rx
  cases y with
  | byt j=>obtain⟨t',rfl⟩:=ry;exact PySem.W.ne_bytes (za4 I q (congrArg not zl4))
  | _=>exact absurd (show false=true from hs) Bool.false_ne_true
 | _=>cases y <;> exact absurd (show false=true from hs) Bool.false_ne_true
theorem zcy:OpR X (compareOp .Lt) (rI0 fun i j=>.bl (decide (i < j))):=opB0 fun _ _ _ _ _ _ _ q=>lt_int q
theorem zop:OpR X (compareOp .LtE) (rI0 fun i j=>.bl (decide (i≤j))):=opB0 fun _ _ _ _ _ _ _ q=>le_int q
theorem zlf:OpR X (compareOp .Gt) (rI0 fun i j=>.bl (decide (j < i))):=opB0 fun _ _ _ _ _ _ _ q=>gt_int q
theorem nomark (b:Expr) {op:CmpOp} (h:op≠.In:=by decide) (h2:op≠.NotIn:=by decide):behindInMarks op b=false:=by
 have e1:(op == CmpOp.In)=false:=by cases op <;> first | rfl | exact absurd rfl h
 have e2:(op == CmpOp.NotIn)=false:=by cases op <;> first | rfl | exact absurd rfl h2
 cases b <;> simp [behindInMarks,e1,e2]
theorem za3 {op:CmpOp} {r:R2} (ho:OpR X (compareOp op) r) (ha:PE X a ta) (hb:PE X b tb) (hm:behindInMarks op b=false):PE X (.Compare a [op] [b] pos) (tOp r ta tb):=by
 intro pins s σ H Q I h
 exact wpAny_Compare1 (binT ha hb I h fun v u s2 x y H2 I2 rx ry q=>ho pins s2 σ H2 x y v u Q I2 rx ry q) hm
def tTest (t:TE):TT:=fun σ H Q=>t σ H fun x H'=>EBl x fun k=>Q k H'
theorem zap {op:CmpOp} {r:R2} (ho:OpR X (compareOp op) r) (ha:PE X a ta) (hb:PE X b tb) (hm:behindInMarks op b=false):PT X (.Compare a [op] [b] pos) (tTest (tOp r ta tb)):=by
 intro pins s σ H Q I h
 refine wpAny_isTrue_Compare1 (thn (ha pins s σ H _ I h) fun v s1 ⟨x,H1,I1,r1,q1⟩=>thn (hb pins s1 σ H1 _ I1 q1) fun u s2 ⟨y,H2,I2,r2,q2⟩ =>
  thn (ho pins s2 σ H2 x y v u _ I2 r1 r2 q2) fun c s3 ⟨z,H3,I3,r3,k,e,q3⟩=>?_) hm
 subst e
 cases r3
 exact wpAny_truthy_bool ⟨H3,I3,q3⟩
def tChain (r r':R2) (ta tb tc:TE):TE:=fun σ H Q=>ta σ H fun x H1=>tb σ H1 fun y H2=>r x y H2 fun z H3=>EBl z fun k=>(if k=true then tc σ H3 fun w' H4=>r' y w' H4 Q else Q (.bl false) H3)
theorem zjl {op op':CmpOp} {r r':R2} (ho:OpR X (compareOp op) r) (ho':OpR X (compareOp op') r') (ha:PE X a ta) (hb:PE X b tb) (hc:PE X c tc)
  (hm:lastMarks [op,op'] [b,c]=false:=by with_unfolding_all rfl):PE X (.Compare a [op,op'] [b,c] pos) (tChain r r' ta tb tc):=by
 intro pins s σ H Q I h
 refine Compare_chain (thn (ha pins s σ H _ I h) fun v s1 ⟨x,H1,I1,r1,q1⟩=>chain_link (thn (hb pins s1 σ H1 _ I1 q1) fun u s2 ⟨y,H2,I2,r2,q2⟩ =>
  thn (ho pins s2 σ H2 x y v u _ I2 r1 r2 q2) fun d s3 ⟨z,H3,I3,r3,k,e,q3⟩=>?_)) hm
 subst e
 cases r3
 refine wpAny_truthy_bool ?_
 cases k with
 | false=>exact ite_ff ⟨.bl false,H3,I3,rfl,q3⟩
 | true=>exact ite_tt (chain_last (thn (hc pins s3 σ H3 _ I3 q3) fun w' s4 ⟨z',H4,I4,r4,q4⟩=>ho' pins s4 σ H4 y z' u w' Q I4 r2 r4 q4))
theorem zm1 {op op':CmpOp} {r r':R2} (ho:OpR X (compareOp op) r) (ho':OpR X (compareOp op') r') (ha:PE X a ta) (hb:PE X b tb) (hc:PE X c tc)
  (hm:lastMarks [op,op'] [b,c]=false:=by with_unfolding_all rfl):PT X (.Compare a [op,op'] [b,c] pos) (tTest (tChain r r' ta tb tc)):=by
 intro pins s σ H Q I h
 refine isTrue_chain (thn (ha pins s σ H _ I h) fun v s1 ⟨x,H1,I1,r1,q1⟩=>test_link (thn (hb pins s1 σ H1 _ I1 q1) fun u s2 ⟨y,H2,I2,r2,q2⟩ =>
  thn (ho pins s2 σ H2 x y v u _ I2 r1 r2 q2) fun d s3 ⟨z,H3,I3,r3,k,e,q3⟩=>?_)) hm
 subst e
 cases r3
 refine wpAny_truthy_bool ?_
 cases k with
 | false =>
  obtain⟨k',e',q'⟩:=q3
  cases e'
  exact ite_ff ⟨H3,I3,q'⟩
 | true =>
  refine ite_tt (test_last (thn (hc pins s3 σ H3 _ I3 q3) fun w' s4 ⟨z',H4,I4,r4,q4⟩=>thn (ho' pins s4 σ H4 y z' u w' _ I4 r2 r4 q4) fun d' s5 ⟨z2,H5,I5,r5,k2,e2,q5⟩=>?_))
  subst e2
  cases r5
  exact wpAny_truthy_bool ⟨H5,I5,q5⟩
theorem line63:(sizeLine:Nat) < 2 ^ 63:=by rw[sizeLine_eq];decide
theorem vals1 {x:V} {us:List Value} (r:Vals [x] us):∃ u,us=[u]∧RelV x u:=by
 cases r with
 | cons r1 r2=>cases r2;exact⟨_,rfl,r1⟩
theorem vals2 {x y:V} {us:List Value} (r:Vals [x,y] us):∃ u w',us=[u,w']∧RelV x u∧RelV y w':=by
 cases r with
 | cons r1 r2 =>
  cases r2 with
  | cons r3 r4=>cases r4;exact⟨_,_,rfl,r1,r3⟩
theorem zcr (hc:X.calm=true):CallR X (.builtin "max") (fun xs H Q=>∃ i j,xs=[.int i,.int j]∧Q (.int (if j > i then j else i)) H):=by
 intro pins s σ H xs us Q I r h
 obtain⟨i,j,rfl,q⟩:=h
 obtain⟨u,w',rfl,⟨t,rfl⟩,⟨t',rfl⟩⟩:=vals2 r
 refine max_two_ints (I.ok.hd hc) fun h' tk k=>⟨_,H,I.kept k,?_,q⟩
 by_cases hj:j > i
 ·rw[if_pos hj,if_pos hj];exact⟨_,rfl⟩
 ·rw[if_neg hj,if_neg hj];exact⟨_,rfl⟩
inductive call_min2_i  (xs:List V) (H:Hp) (Q:VK):Prop
 | mk:∀ i j,(xs=[.int i,.int j])->(Q (.int (if j < i then j else i)) H)->call_min2_i xs H Q
theorem zhl (hc:X.calm=true):CallR X (.builtin "min") (call_min2_i):=by
 intro pins s σ H xs us Q I r h
 obtain⟨i,j,rfl,q⟩:=h
 obtain⟨u,w',rfl,⟨t,rfl⟩,⟨t',rfl⟩⟩:=vals2 r
 refine min_two_ints (I.ok.hd hc) fun h' tk k=>⟨_,H,I.kept k,?_,q⟩
 by_cases hj:j < i
 ·rw[if_pos hj,if_pos hj];exact⟨_,rfl⟩
 ·rw[if_neg hj,if_neg hj];exact⟨_,rfl⟩
theorem zmc:CallR X (.type "int") (fun xs H Q=>(∃ i,xs=[.int i]∧Q (.int i) H)∨∃ k,xs=[.bl k]∧Q (.int (if k then 1 else 0)) H):=by
 intro pins s σ H xs us Q I r h
 rcases h with ⟨i,rfl,q⟩ | ⟨k,rfl,q⟩
 ·obtain⟨u,rfl,t,rfl⟩:=vals1 r
  exact call_int_int ⟨.int i,H,I,⟨_,rfl⟩,q⟩
 ·obtain⟨u,rfl,r1⟩:=vals1 r
  cases r1
  exact call_int_bool ⟨.int (if k then 1 else 0),H,I.tok _,⟨_,rfl⟩,q⟩
end
end L2
namespace L2
open PySem PySem.Spec PyProof.Rows
structure ObjM (h:Heap) (x dx C:Addr) (mA:Str->Option Value):Prop where
 obj:h.get? x=some (PySem.W.instObj C dx)
 ns:h.Ns1 dx mA
 ne:dx≠x
theorem zll {h:Heap} {dx:Addr} {mA:Str->Option Value} (n:h.Ns1 dx mA):∃ od,h.get? dx=some od∧∀ name,PySem.W.lookIn name od=some (mA name):=by
 obtain⟨o,es,ep,ho,hd,hk,_,hm⟩:=n
 refine⟨o,ho,fun name=>?_⟩
 have e:=hm name
 unfold nsFind findBy at e
 rw[← Array.find?_toList] at e
 unfold PySem.W.lookIn
 rw[hd]
 dsimp only
 split
 ·rename_i y q
  rw[q] at e
  exact congrArg some e
 ·rename_i q
  rw[q] at e
  have a:es.toList.any (·.refKey)=false:=by
   rw[List.any_eq_false]
   intro y hy
   obtain⟨z,t,hkey⟩:=hk y (Array.mem_toList_iff.mp hy)
   simp [DictEntry.refKey,hkey]
  have a':¬ es.toList.any (·.refKey)=true:=by rw[a];exact Bool.false_ne_true
  rw[if_neg a']
  exact congrArg some e
theorem ObjM.look {h:Heap} {x dx C:Addr} {mA:Str->Option Value} (I:ObjM h x dx C mA):∃ od,PySem.W.InstAt h x (PySem.W.instObj C dx) C (some od)∧∀ name,PySem.W.lookIn name od=some (mA name) :=
 let ⟨od,ho,hl⟩:=zll I.ns
 ⟨od,⟨I.obj,rfl,rfl,ho⟩,hl⟩
section
variable {prog:Program} {w:World} {A:Around} {E:Value->Shared->Prop} {s:Shared} {K:PySem.W.Frag} {x dx C f:Addr} {mA:Str->Option Value} {name:Str} {v:Value}
end
theorem RelO.some_of {v:V} {o:Option Value} (r:RelO (some v) o):∃ u,o=some u∧RelV v u:=by
 cases o with
 | none=>exact (show False from r).elim
 | some u=>exact⟨u,rfl,r⟩
section
variable {P:Program} {w:World} {H H':Hp} {h h':Heap} {a C dx:Addr} {fs fs':List (Str × V)}
theorem zo5 (hok:HOk P w H h) (e:H a=some (.ins C dx fs)):∃ mA,ObjM h a dx C mA∧(∀ f,RelO (fs.lookup f) (mA f))∧PySem.Within mA (fs.map (·.1))∧fs.length≤1000∧H dx=some (.own a):=by
 obtain⟨d,z,ne,ob,mA,n,r,q⟩:=(show ObjOk P w H h a (.ins C dx fs) from hok a _ e)
 exact⟨mA,⟨ob,n,ne⟩,r,q,z,d⟩
end
structure Cls (K:PySem.W.Frag) (C:Addr):Prop where
 pg:PySem.W.plainGet K C Str.empty=true
 hd:PySem.W.hasDictIn K C=true
 po:PySem.W.plainOver K C=true
 sa:PySem.W.findIn K (.ref C) "__setattr__"=some (some (.builtin "object.__setattr__"))
theorem Cls.get {K:PySem.W.Frag} {C:Addr} (c:Cls K C) (f:Str):PySem.W.plainGet K C f=true:=c.pg
structure Con (K:PySem.W.Frag) (C:Addr) (f:Str) (v:V) (u:Value):Prop where
 at_:PySem.W.findIn K (.ref C) f=some (some u)
 rel:RelV v u
 get:PySem.W.specialIn K u "__get__"=some none
 cp:PySem.W.copiedNames.contains f=false
section
variable {X:Cx} {pins:List (Addr × Obj)} {σ:St} {H:Hp} {s:Shared} {a C dx:Addr} {fs:List (Str × V)} {f:Str} {v:V} {A:Around} {E:Value->Shared->Prop}
end
section
variable {X:Cx} {o e value:Expr} {f:Str} {pos pos' tpos:Pos} {ta tv:TE}
end
section
variable {X:Cx} {pins:List (Addr × Obj)} {σ:St} {H:Hp} {s:Shared} {A:Around} {E:Value->Shared->Prop} {Q:Value->Shared->Prop} {c:Value} {b:Bool}
inductive TyOf (K:PySem.W.Frag) (H:Hp):V->Value->Prop where
 | non:TyOf K H .non (.type "NoneType")
 | bl (x:Bool):TyOf K H (.bl x) (.type "bool")
 | int (i:Int):TyOf K H (.int i) (.type "int")
 | str (x:Str):TyOf K H (.str x) (.type "str")
 | flt (x:UInt64):TyOf K H (.flt x) (.type "float")
 | lst {a:Addr} {xs:List V} (e:H a=some (.lst xs)):TyOf K H (.ref a) (.type "list")
 | frz {a:Addr} {o:Obj} {xs:List V} (e:H a=some (.frz o (.lst xs))):TyOf K H (.ref a) (.type "list")
 | tup {a:Addr} {xs:List V} (e:H a=some (.tup xs)):TyOf K H (.ref a) (.type "tuple")
 | dK {a:Addr} {kvs:List (Key × V)} (e:H a=some (.dK kvs)):TyOf K H (.ref a) (.type "dict")
 | dT {a:Addr} {kvs:List (List Key × V)} (e:H a=some (.dT kvs)):TyOf K H (.ref a) (.type "dict")
 | ins {a C dx : Addr} {fs : List (Str × V)} (e : H a = some (.ins C dx fs)) (cl : Cls K C) (ha : PySem.W.findIn K (.ref C) "__class__" = some (some (.builtin "object.__class__")))
     (hn:PySem.W.specialIn K (.builtin "object.__class__") "__get__"=some (some (.builtin "getset_descriptor.__get__"))) (htk:PySem.W.takesIn K (.builtin "object.__class__")=some true)
     (hm:PySem.W.mroIn K C (.type "object")=some true):TyOf K H (.ref a) (.ref C)
theorem zlu {x:V} {u t:Value} (I:Inv X pins σ H s) (rx:RelV x u) (ty:TyOf X.K H x t) (e:PySem.W.kitOne X.K t c=some b) (h:∀ tk,Q (.bool b) { s with toks:=tk }) :
  wpAny (model X.prog X.w) A (call (.builtin "isinstance") [u,c]) Q E s:=by
 cases ty with
 | non=>cases (show u=Value.none from rx);exact PySem.W.kia_one PySem.W.kitx_none I.kIn True.intro e (fun z=>nomatch z) h
 | bl y=>cases (show u=Value.bool y from rx);exact PySem.W.kia_one PySem.W.kitx_bool I.kIn True.intro e (fun z=>nomatch z) h
 | int i=>obtain⟨t,q⟩:=(show ∃ t,u=Value.int i t from rx);cases q;exact PySem.W.kia_one PySem.W.kitx_int I.kIn True.intro e (fun z=>nomatch z) h
 | str y=>obtain⟨t,q⟩:=(show ∃ t,u=Value.str y t from rx);cases q;exact PySem.W.kia_one PySem.W.kitx_str I.kIn True.intro e (fun z=>nomatch z) h
 | flt y=>obtain⟨t,q⟩:=(show ∃ t,u=Value.float y t from rx);cases q;exact PySem.W.kia_one PySem.W.kitx_float I.kIn True.intro e (fun z=>nomatch z) h
 | @lst a xs ea =>
  cases (show u=Value.ref a from rx)
  obtain⟨_,_,n,_,h1⟩:=(show ObjOk X.prog X.w H s.heap a (.lst xs) from I.hok a _ ea)
  exact PySem.W.kia_one PySem.W.kitx_list I.kIn ⟨_,h1,rfl⟩ e (fun z=>nomatch z) h
 | @frz a ob xs ea =>
  cases (show u=Value.ref a from rx)
  obtain⟨_,_,_,n,_,h1⟩:=(show ObjOk X.prog X.w H s.heap a (.frz ob (.lst xs)) from I.hok a _ ea)
  exact PySem.W.kia_one PySem.W.kitx_list I.kIn ⟨_,h1,rfl⟩ e (fun z=>nomatch z) h
 | @tup a xs ea =>
  cases (show u=Value.ref a from rx)
  obtain⟨_,_,_,p⟩:=(show ObjOk X.prog X.w H s.heap a (.tup xs) from I.hok a _ ea)
  obtain⟨o,h1,h2,_⟩:=p
  exact PySem.W.kia_one PySem.W.kitx_tuple I.kIn ⟨o,h1,h2⟩ e (fun z=>nomatch z) h
 | @dK a kvs ea =>
  cases (show u=Value.ref a from rx)
  obtain⟨_,_,vs,_,p⟩:=(show ObjOk X.prog X.w H s.heap a (.dK kvs) from I.hok a _ ea)
  obtain⟨o,es,ep,h1,h2,_⟩:=p
  exact PySem.W.kia_one PySem.W.kitx_dict I.kIn ⟨o,h1,h2.1⟩ e (fun z=>nomatch z) h
 | @dT a kvs ea =>
  cases (show u=Value.ref a from rx)
  obtain⟨_,_,xs,_,o,es,ep,h1,h2,_⟩:=(show ObjOk X.prog X.w H s.heap a (.dT kvs) from I.hok a _ ea)
  exact PySem.W.kia_one PySem.W.kitx_dict I.kIn ⟨o,h1,h2.1⟩ e (fun z=>nomatch z) h
 | @ins a C dx fs ea cl ha hn htk hm =>
  cases (show u=Value.ref a from rx)
  obtain⟨mA,O,_⟩:=zo5 I.hok ea
  obtain⟨od,J,_⟩:=O.look
  exact PySem.W.kia_one (PySem.W.kitx_own (cl.get _) cl.hd ha hn htk hm) I.kIn J e (fun z=>nomatch z) h
end
end L2
namespace L2
open PySem PySem.Spec PyProof.Rows
structure Room (k:Nat) (A:Around):Prop where
 hd:A.handled=none
 dp:A.depth + 3 * k + 5 < recursionLimit
 un:A.units + 16 * k + 200 < cLine
 gd:A.guards=some []
theorem Room.mono {j k:Nat} {A:Around} (r:Room k A) (h:j≤k):Room j A:=⟨r.hd,by have:=r.dp;trivial,by have:=r.un;trivial,r.gd⟩
theorem Room.deeper {k:Nat} {A:Around} (r:Room (k + 1) A) (env:Env):Room k (A.deeper env) :=
 ⟨r.hd,by have:=r.dp;show A.depth + 1 + 3 * k + 5 < _;trivial,by have:=r.un;show A.units + 3 + 16 * k + 200 < _;trivial,r.gd⟩
theorem Room.depth {k:Nat} {A:Around} (r:Room k A):A.depth < recursionLimit:=by have:=r.dp;trivial
theorem Room.units {k:Nat} {A:Around} (r:Room k A):A.units + 64 < cLine:=by have:=r.un;trivial
theorem Room.units0 {k:Nat} {A:Around} (r:Room k A):A.units < cLine:=by have:=r.un;trivial
def tNil:TA:=fun _ H Q=>Q [] H
def tCons (ta:TE) (tr:TA):TA:=fun σ H Q=>ta σ H fun x H1=>tr σ H1 fun xs H2=>Q (x::xs) H2
section
variable {X:Cx} {e:Expr} {es:List Expr} {te:TE} {t:TA} {pos:Pos}
theorem zac:PA X [] tNil:=fun _ _ _ _ H Q I h=>Calls.spliced_nil ⟨[],H,I,.nil,h⟩
theorem zaa (ha:PE X e te) (hr:PA X es t) (hs:starEach (e::es) X.env=(false,eval e X.env)::starEach es X.env:=by rfl):PA X (e::es) (tCons te t):=by
 intro pos pins s σ H Q I h
 rw[hs]
 show wpAny _ _ (spliced ((false,eval e X.env)::backTo pos (starEach es X.env))) _ _ s
 refine Calls.spliced_cons (thn (ha pins s σ H _ I h) fun u s1 ⟨x,H1,I1,r1,q1⟩=>?_)
 exact thn (hr pos pins s1 σ H1 _ I1 q1) fun us s2 ⟨xs,H2,I2,r2,q2⟩=>⟨x::xs,H2,I2,.cons r1 r2,q2⟩
def tTup (t:TA):TE:=fun σ H Q=>t σ H fun xs H1=>xs.length≤sizeLine∧∀ p,H1 p=none->Q (.ref p) (upd H1 p (.tup xs))
def tLst (t:TA):TE:=fun σ H Q=>t σ H fun xs H1=>xs.length≤sizeLine∧∀ p,H1 p=none->Q (.ref p) (upd H1 p (.lst xs))
theorem znz {x1} (h:PA X es t):PE X (.Tuple es x1 pos) (tTup t):=by
 intro pins s σ H Q I hq
 refine wpAny_Tuple_spliced (thn (h pos pins s σ H _ I hq) fun us s1 ⟨xs,H1,I1,r,z,q⟩=>⟨by rw[← r.length];exact z,?_⟩)
 have hf:H1 s1.heap.objs.size=none:=I1.hok.fresh (Nat.le_refl _)
 refine⟨.ref s1.heap.objs.size,upd H1 s1.heap.objs.size (.tup xs),I1.laid (t':=s1.toks) (fun b u e=>Heap.get?_push_of_some _ e) (Nat.le_refl _) ?_,rfl,q _ hf⟩
 exact⟨z,us,r,⟨_,Heap.get?_push_size _ rfl,rfl,⟨_,rfl⟩,rfl⟩⟩
theorem zep (h:PA X es t):PE X (.List es pos) (tLst t):=by
 intro pins s σ H Q I hq
 refine wpAny_List_spliced (thn (h pos pins s σ H _ I hq) fun us s1 ⟨xs,H1,I1,r,z,q⟩=>⟨by rw[← r.length];exact z,?_⟩)
 have hf:H1 s1.heap.objs.size=none:=I1.hok.fresh (Nat.le_refl _)
 refine⟨.ref s1.heap.objs.size,upd H1 s1.heap.objs.size (.lst xs),I1.laid (t':=s1.toks) (fun b u e=>Heap.get?_push_of_some _ e) (Nat.le_refl _) ?_,rfl,q _ hf⟩
 exact⟨z,us,0,r,Heap.get?_push_size _ rfl⟩
end
abbrev Sp:=List V->Hp->VK->XK->Prop
abbrev CXT:=List Env->Hp->Shared->XK->Value->Shared->Prop
structure Env0 (P:Program) (w:World) (K:PySem.W.Frag) (mg:Str->Option Value) (base:Heap) (A:Around) (outer:List Env) (s:Shared) (H:Hp):Prop where
 frames:A.frames=some outer
 mod:Mod K mg base
 bs:∀ b o,base.get? b=some o->s.heap.get? b=some o∧H b=none
 bsz:base.objs.size≤s.heap.objs.size
 funs:s.heap.FunFrames base outer
 frf:∀ b ∈ frs outer,H b=none
 hok:HOk P w H s.heap
 bare:AllBare s.gens
def CE (outer:List Env) (P:Program) (w:World) (H:Hp) (s:Shared) (Q:VK) (u:Value) (s':Shared):Prop :=
 ∃ v H',s'.os=s.os∧AllBare s'.gens∧Un (frs outer) [] H H' s.heap s'.heap∧HOk P w H' s'.heap∧RelV v u∧Q v H'
def CR (CX:CXT) (outer:List Env) (P:Program) (w:World) (H:Hp) (s:Shared) (Q:VK) (E:XK) (r:Result) (s':Shared):Prop :=
 match r with
 | .ok (.ret u)=>CE outer P w H s Q u s'
 | .ok _=>False
 | .error e=>CX outer H s E e s'
structure FnOk (P:Program) (w:World) (K:PySem.W.Frag) (mg:Str->Option Value) (base:Heap) (CX:CXT) (k:Nat) (f:Addr) (fd:FuncData) (ps:List Str) (sp:Sp):Prop where
 len:∀ vs H Q E,sp vs H Q E->vs.length=ps.length
 run:∀ (A:Around) (outer:List Env) (s:Shared) (H:Hp) (args:Args) (us:List Value) (vs:List V) (Q:VK) (E:XK),Room k A->Env0 P w K mg base A outer s H->BindsTo s fd args (ps.zip us)->Vals vs us->sp vs H Q E ->
  codeAny (model P w) A (.call (.ref f) args) (CR CX outer P w H s Q E) s
theorem FnOk.mono {P:Program} {w:World} {K:PySem.W.Frag} {mg:Str->Option Value} {base:Heap} {CX:CXT} {j k:Nat} {f:Addr} {fd:FuncData} {ps:List Str} {sp:Sp} (F:FnOk P w K mg base CX j f fd ps sp) (h:j≤k) :
  FnOk P w K mg base CX k f fd ps sp:=⟨F.len,fun A outer s H args us vs Q E hr=>F.run A outer s H args us vs Q E (hr.mono h)⟩
section
variable {X:Cx} {pins:List (Addr × Obj)} {σ:St} {H:Hp} {s s':Shared}
theorem Inv.env0 (I:Inv X pins σ H s):Env0 X.prog X.w X.K X.mg X.base X.A X.stack s H :=
 ⟨I.ok.frames,I.ok.mod,I.bs,Nat.le_trans I.ok.bsz I.sz,I.stack,I.stkFree,I.hok,I.bare⟩
theorem Inv.after {Q:VK} {u:Value} (I:Inv X pins σ H s) (h:CE X.stack X.prog X.w H s Q u s'):EP X pins σ Q u s':=by
 obtain⟨v,H',os,bare,un,hok,r,q⟩:=h
 obtain⟨hh,g,d,t,os'⟩:=s'
 obtain rfl:os'=s.os:=os
 exact⟨v,H',I.call (h':=hh) (g':=g) (d':=d) (t':=t) (ch:=[]) un hok bare (fun b z=>absurd z (by simp)),r,q⟩
end
def tCall (sp:Sp) (dvs:List V) (E:XK) (t:TA):TE:=fun σ H Q=>t σ H fun vs H1=>sp (vs++dvs) H1 Q E
def Binds (K:PySem.W.Frag) (fd:FuncData) (ps:List Str) (ds:List Value):Prop :=
 ∀ (s:Shared) (us:List Value),K.In s.heap->(us++ds).length=ps.length->BindsTo s fd ⟨us,[]⟩ (ps.zip (us++ds))
theorem Binds.all {K:PySem.W.Frag} {fd:FuncData} {ps:List Str} (h:∀ us:List Value,us.length=ps.length->bindArgs fd ⟨us,[]⟩=pure (ps.zip us)):Binds K fd ps []:=fun s us _ hl=>by
 rw[List.append_nil] at hl ⊢
 exact .of_eq (h us hl)
def Passes (CX:CXT) (X:Cx) (E:XK):Prop:=∀ (pins:List (Addr × Obj)) (σ:St) (H:Hp) (s:Shared) (e:Value) (s':Shared),Inv X pins σ H s->CX X.stack H s E e s'->X.xe e s'
section
variable {X:Cx} {CX:CXT} {k:Nat} {f C:Addr} {fd:FuncData} {ps:List Str} {sp:Sp} {dvs:List V} {ds:List Value} {E:XK} {x m:Str} {p pos apos:Pos} {e o:Expr} {es:List Expr} {ta:TE} {t:TA}
theorem zpt {pins:List (Addr × Obj)} {σ:St} {H:Hp} {s:Shared} {Q:VK} {us:List Value} {vs:List V} (F:FnOk X.prog X.w X.K X.mg X.base CX k f fd ps sp) (hr:Room k X.A) (hb:Binds X.K fd ps ds) (hd:Vals dvs ds) (hx:Passes CX X E)
  (I:Inv X pins σ H s) (r:Vals vs us) (h:sp (vs++dvs) H Q E):wpAny (model X.prog X.w) X.A (call (.ref f) us) (EP X pins σ Q) X.xe s:=by
 have r2:Vals (vs++dvs) (us++ds):=r.append hd
 have hl:(us++ds).length=ps.length:=by rw[← r2.length];exact F.len _ _ _ _ h
 refine wpAny_call (codeAny_mono (F.run X.A X.stack s H ⟨us,[]⟩ (us++ds) (vs++dvs) Q E hr I.env0 (hb s us I.kIn hl) r2 h) fun r s' hq=>?_)
 cases r with
 | error e=>exact hx pins σ H s e s' I hq
 | ok fl =>
  cases fl with
  | ret u=>exact I.after hq
  | next=>exact False.elim hq
  | brk=>exact False.elim hq
  | cont=>exact False.elim hq
theorem zoo (F:FnOk X.prog X.w X.K X.mg X.base CX k f fd ps sp) (hr:Room k X.A) (hg:Gl X x) (hm:X.mg x=some (.ref f)) (hk:PySem.W.keepIn X.K (.ref f)=true) (hb:Binds X.K fd ps ds) (hd:Vals dvs ds) (hx:Passes CX X E)
  (ha:PA X (e::es) t) (hdb:(x == ("__debug__":Str))=false:=by decide) (he:starEach (e::es) X.env=(false,eval e X.env)::starEach es X.env:=by rfl) (hpl:(backTo pos (starEach es X.env)).any (·.1)=false:=by rfl) :
  PE X (.Call (.Name x p) (e::es) [] pos) (tCall sp dvs E t):=by
 intro pins s σ H Q I h
 refine wpAny_Call_Name_kw (zox I hg hm ?_ hdb)
 refine PySem.W.callWith_K (h₀:=X.base) I.ok.mod.kin hk (thn (ha pos pins s σ H _ I h) fun us s1 ⟨vs,H1,I1,r,q⟩=>⟨I1.kIn,?_⟩) he hpl
 exact zpt F hr hb hd hx I1 r q
structure Mk (K:PySem.W.Frag) (C f:Addr):Prop where
 makes:PySem.W.makesIn K C=true
 init:PySem.W.findIn K (.ref C) "__init__"=some (some (.ref f))
 fn:PySem.W.isFn K (.ref f)=true
 kp:PySem.W.keepIn K (.ref C)=true
end
section
variable {X:Cx} {CX:CXT} {k:Nat} {f C:Addr} {fd:FuncData} {ps ks:List Str} {sp:Sp} {E:XK} {x m:Str} {p pos apos kpos:Pos} {e o:Expr} {es:List Expr} {kws:List Keyword} {te ta:TE} {t tk:TA} {nm:Option Str}
variable {g:List Value->List Value->List Value} {gV:List V->List V->List V}
end
structure FnScope (N P:List Str) (sc:Scope):Prop where
 kind:sc.kind=.function
 co:sc.isCoroutine=false
 gen:sc.isGenerator=false
 nd:N.Nodup
 pre:N.take P.length=P
 par:∀ x ∈ P,sc.names.lookup x=some .local∨sc.names.lookup x=some .cell
 nofree:∀ y ∈ sc.names,y.2≠.free
theorem zho {kindOf:Str->Option NameKind} {x:Str}:∀ {binds:List (Str × Value)} {m:Str->Option Value},(∀ v,(x,v) ∉ binds)->bindL kindOf binds m x=m x
 | [],_,_=>rfl
 | (n,v)::r,m,h=>by
  unfold bindL
  rw[zho fun w hw=>h w (List.mem_cons_of_mem _ hw)]
  split
  ·have:x≠n:=by rintro rfl;exact h v List.mem_cons_self
   simp [this]
  ·rfl
theorem zhq {kindOf:Str->Option NameKind} {x:Str}:∀ {binds:List (Str × Value)} {m:Str->Option Value},(∀ v,(x,v) ∉ binds)->bindC kindOf binds m x=m x
 | [],_,_=>rfl
 | (n,v)::r,m,h=>by
  unfold bindC
  rw[zhq fun w hw=>h w (List.mem_cons_of_mem _ hw)]
  split
  ·rfl
  ·have:x≠n:=by rintro rfl;exact h v List.mem_cons_self
   simp [this]
theorem zhp {kindOf:Str->Option NameKind} {x:Str} {v:Value}:∀ {P:List Str} {vs:List Value} {i:Nat} {m:Str->Option Value},P.Nodup->P[i]?=some x->vs[i]?=some v->kindOf x=some .local ->
  bindL kindOf (P.zip vs) m x=some v
 | [],_,_,_,_,h,_,_=>by simp at h
 | _::_,[],_,_,_,_,h,_=>by simp at h
 | p::P,w::vs,0,m,nd,h1,h2,hk=>by
  simp at h1 h2;subst h1;subst h2
  show bindL kindOf ((p,w)::P.zip vs) m p=_
  unfold bindL
  rw[zho fun v hv=>(List.nodup_cons.mp nd).1 (List.of_mem_zip hv).1,if_pos hk]
  simp
 | p::P,w::vs,i + 1,m,nd,h1,h2,hk=>by
  show bindL kindOf ((p,w)::P.zip vs) m x=_
  unfold bindL
  exact zhp (i:=i) (List.nodup_cons.mp nd).2 (by simpa using h1) (by simpa using h2) hk
theorem zhr {kindOf:Str->Option NameKind} {x:Str} {v:Value}:∀ {P:List Str} {vs:List Value} {i:Nat} {m:Str->Option Value},P.Nodup->P[i]?=some x->vs[i]?=some v->kindOf x≠some .local ->
  bindC kindOf (P.zip vs) m x=some v
 | [],_,_,_,_,h,_,_=>by simp at h
 | _::_,[],_,_,_,_,h,_=>by simp at h
 | p::P,w::vs,0,m,nd,h1,h2,hk=>by
  simp at h1 h2;subst h1;subst h2
  show bindC kindOf ((p,w)::P.zip vs) m p=_
  unfold bindC
  rw[zhq fun v hv=>(List.nodup_cons.mp nd).1 (List.of_mem_zip hv).1,if_neg hk]
  simp
 | p::P,w::vs,i + 1,m,nd,h1,h2,hk=>by
  show bindC kindOf ((p,w)::P.zip vs) m x=_
  unfold bindC
  exact zhr (i:=i) (List.nodup_cons.mp nd).2 (by simpa using h1) (by simpa using h2) hk
def start (N:List Str) (vs:List V):St:=vs.map some++List.replicate (N.length - vs.length) none
def cxOf (CX:CXT) (P:Program) (w:World) (K:PySem.W.Frag) (mg:Str->Option Value) (base:Heap) (N:List Str) (qual:Str) (scope:Scope) (f:Addr) (cd:Value) (A:Around) (outer:List Env) (s:Shared) (H:Hp) (E:XK):Cx where
 prog:=P
 w:=w
 K:=K
 mg:=mg
 base:=base
 A:=A.deeper (envOfC qual scope s.heap.objs.size f cd)
 N:=N
 s₀:=s
 H₀:=H
 env:=envOfC qual scope s.heap.objs.size f cd
 outer:=outer
 stack:=envOfC qual scope s.heap.objs.size f cd::outer
 ex:=[]
 calm:=true
 fn:=fun _=>true
 pn:=[]
 xe:=fun e s'=>wpAny (model P w) (A.deeper (envOfC qual scope s.heap.objs.size f cd)) (leaving (envOfC qual scope s.heap.objs.size f cd) e) (fun _ s''=>CX outer H s E e s'') (fun e' s''=>CX outer H s E e' s'') s'
theorem zj0 {sc:Scope} {n:Nat} {x:Str} (h:sc.names.lookup x=some .cell):∃ c,(cellsFrom n sc.names []).lookup x=some c:=by
 have q:=PySem.W.cellsFrom_some sc.names n [] (.inl h)
 exact Option.isSome_iff_exists.mp q
theorem zlw {CX:CXT} {P:Program} {w:World} {K:PySem.W.Frag} {mg:Str->Option Value} {base:Heap} {N ps:List Str} {qual:Str} {scope:Scope} {f:Addr} {cd:Value} {A:Around} {outer:List Env} {s s1:Shared} {H:Hp} {E:XK} {us:List Value} {vs:List V}
  (S:FnScope N ps scope) (hd:A.handled=none) (e0:Env0 P w K mg base A outer s H) (hl:vs.length=ps.length) (r:Vals vs us)
  (x:InCallC s s.heap.objs.size (bindL (envOfC qual scope s.heap.objs.size f cd).kindOf (ps.zip us) fun _=>none) (cellsFrom (s.heap.objs.size + 1) scope.names []) (bindC (envOfC qual scope s.heap.objs.size f cd).kindOf (ps.zip us) fun _=>none) s1) :
  Inv (cxOf CX P w K mg base N qual scope f cd A outer s H E) [] (start N vs) H s1:=by
 have hpl:ps.length≤N.length:=by have:=congrArg List.length S.pre;rw[List.length_take] at this;trivial
 obtain⟨h1,tk,rfl,hk⟩:=x.done
 have noA:∀ b:Addr,b ∉ (cxOf CX P w K mg base N qual scope f cd A outer s H E).ex:=fun b z=>absurd (show b ∈ ([]:List Addr) from z) (by simp)
 refine⟨⟨e0.mod,S.kind,rfl,rfl,Nat.le_refl _,fun y z c h1 h2=>?_,fun y hy=>?_,fun y c _ h=>?_,fun _=>hd,Around.frames_deeper e0.frames,.inr ⟨rfl,rfl⟩,fun b z=>absurd z (noA b),e0.bs,e0.bsz,fun b _ _=>noA b,fun b z=>absurd z (noA b),e0.funs,e0.frf⟩,
  rfl,e0.bare,Un.kept hk,⟨_,x.toInCall.ns,fun i y v h1 h2 h3=>?_⟩,fun y c h=>⟨_,x.cell y c h⟩,e0.hok.fresh (Nat.le_refl _),fun y c h=>?_,fun p hp=>absurd (show p ∈ ([]:List (Addr × Obj)) from hp) (by simp),e0.hok.kept hk,?_⟩
 ·exact name_of_addr x.apart (PySem.mem_of_lookup h1) (PySem.mem_of_lookup h2)
 ·have hy:scope.names.lookup y=some .cell∨scope.names.lookup y=some .free:=hy
  rcases hy with hy | hy
  ·exact zj0 hy
  ·exact absurd rfl (S.nofree _ (PySem.mem_of_lookup hy))
 ·exact Nat.le_of_lt (x.above y c (PySem.mem_of_lookup h))
 ·have hi:i < vs.length:=by
   unfold start at h2
   by_cases hi:i < vs.length
   ·exact hi
   ·rw[List.getElem?_append_right (by simpa using hi)] at h2
    rw[List.getElem?_replicate] at h2
    split at h2 <;> cases h2
  have ha:vs[i]?=some v:=by
   unfold start at h2
   rw[List.getElem?_append_left (by simpa using hi),List.getElem?_map] at h2
   cases e:vs[i]? with
   | none=>rw[e] at h2;cases h2
   | some a=>rw[e] at h2;cases h2;rfl
  obtain⟨u,hu,rv⟩:=r.get ha
  have hp:ps[i]?=some y:=by
   rw[← S.pre,List.getElem?_take_of_lt (by trivial)];exact h1
  have ndP:ps.Nodup:=by rw[← S.pre];exact S.nd.sublist (List.take_sublist _ _)
  refine⟨u,rv,?_⟩
  rcases S.par y (List.mem_of_getElem? hp) with k | k
  ·exact .inl ⟨k,zhp ndP hp hu k⟩
  ·obtain⟨c,e⟩:=zj0 (n:=s.heap.objs.size + 1) k
   refine .inr ⟨.inl k,c,e,?_⟩
   have q:=x.cell y c e
   rw[zhr ndP hp hu (by show scope.names.lookup y≠_;rw[k];decide)] at q
   exact q
 ·exact e0.hok.fresh (Nat.le_of_lt (x.above y c (PySem.mem_of_lookup h)))
 ·unfold start
  show _=N.length
  rw[List.length_append,List.length_map,List.length_replicate]
  trivial
theorem zqo {CX:CXT} {P:Program} {w:World} {K:PySem.W.Frag} {mg:Str->Option Value} {base:Heap} {k:Nat} {f:Addr} {name qual:Str} {params:Arguments} {body:List Stmt} {scope:Scope} {dV kV doc pm cdv ct oc:Value} {an od:Option Addr}
  {osl:Array (Option Value)} {N ps:List Str} {sp:Sp} (lk:K.lookup f=some ⟨oc,od,.func (PySem.W.fnOf name qual params body scope dV kV doc pm an cdv ct),osl⟩) (hcd:PySem.W.codeIn K cdv qual=true) (S:FnScope N ps scope)
  (len:∀ vs H Q E,sp vs H Q E->vs.length=ps.length)
  (hbody:∀ (A:Around) (outer:List Env) (s:Shared) (H:Hp) (vs:List V) (Q:VK) (E:XK),Room k (A.deeper (envOfC qual scope s.heap.objs.size f cdv))->sp vs H Q E ->
   ∃ t,PSs (cxOf CX P w K mg base N qual scope f cdv A outer s H E) body t∧t { nx:=fun _ H'=>Q .non H',rt:=Q } (start N vs) H) :
  FnOk P w K mg base CX (k + 1) f (PySem.W.fnOf name qual params body scope dV kV doc pm an cdv ct) ps sp:=by
 refine⟨len,fun A outer s H args us vs Q E hr e0 hb r hsp=>?_⟩
 have hl:=len _ _ _ _ hsp
 have KX:K.In s.heap:=e0.mod.kin.keeps fun b o e=>(e0.bs b o e).1
 have lim:s.heap.NoLimit:=e0.mod.nolimit.keeps fun b o e=>(e0.bs b o e).1
 have hkind:∀ y ∈ ps.zip us,scope.names.lookup y.1=some .local∨(scope.names.lookup y.1=some .cell∧((cellsFrom (s.heap.objs.size + 1) scope.names []).lookup y.1).isSome=true):=fun ⟨n,v⟩ hy=>by
  rcases S.par n (List.of_mem_zip hy).1 with q | q
  ·exact .inl q
  ·exact .inr ⟨q,PySem.W.cellsFrom_some _ _ _ (.inl q)⟩
 refine codeAny_call_function hr.depth (KX _ _ lk) rfl S.co S.gen rfl (PySem.W.codeRec_of KX hcd) (hb _ _ _ _ ?_)
 refine wpAny_newFunctionEnv_cells S.kind hkind fun env he s1 x=>?_
 subst he
 refine⟨lim.keeps x.toInCall.keep,codeAny_func ?_⟩
 obtain⟨t,ht,hq⟩:=hbody A outer s H vs Q E (hr.deeper _) hsp
 have I:Inv (cxOf CX P w K mg base N qual scope f cdv A outer s H E) [] (start N vs) H s1:=zlw S hr.hd e0 hl r x
 refine wpAny_mono (ht [] s1 (start N vs) H _ I hq) (fun fl s' hs=>?_) fun e s' hs=>hs
 have fin:∀ {σ':St} {H':Hp} {v:V} {u:Value},Inv (cxOf CX P w K mg base N qual scope f cdv A outer s H E) [] σ' H' s'->RelV v u->Q v H'->CE outer P w H s Q u s' :=
  fun {σ' H' v u} J rv q=>⟨v,H',J.os,J.bare,J.base,J.hok,rv,q⟩
 cases fl with
 | ret u =>
  obtain⟨v,σ',H',J,rv,q⟩:=hs
  exact fin J rv q
 | next =>
  obtain⟨σ',H',J,q⟩:=hs
  exact fin (v:=V.non) (u:=Value.none) J rfl q
 | brk =>
  obtain⟨_,_,_,q⟩:=hs
  exact False.elim q
 | cont =>
  obtain⟨_,_,_,q⟩:=hs
  exact False.elim q
end L2
namespace L2
open PySem PySem.Spec PyProof.Rows
section
variable {X:Cx} {x:Str} {p pos:Pos} {e:Expr} {es:List Expr} {t:TA} {id T:String} {r:List V->Hp->VK->Prop}
def tCB (r:List V->Hp->VK->Prop) (t:TA):TE:=fun σ H Q=>t σ H fun vs H1=>r vs H1 Q
theorem zaf (hc:CallR X (.builtin id) r) (hg:Gl X x) (hm:X.mg x=none) (hv:bootBuiltins x=some (.builtin id)) (ha:PA X (e::es) t) (hn:x≠"__name__":=by decide) (hdb:(x == ("__debug__":Str))=false:=by decide)
  (he:starEach (e::es) X.env=(false,eval e X.env)::starEach es X.env:=by rfl) (hpl:(backTo pos (starEach es X.env)).any (·.1)=false:=by rfl):PE X (.Call (.Name x p) (e::es) [] pos) (tCB r t):=by
 intro pins s σ H Q I h
 refine wpAny_Call_Name_kw (zfw I hg hm hv ?_ hn hdb)
 exact PyProof.Rows.callWith_builtin1 (thn (ha pos pins s σ H _ I h) fun us s1 ⟨vs,H1,I1,r1,q1⟩=>hc pins s1 σ H1 vs us Q I1 r1 q1) he hpl
theorem zax (hc:CallR X (.type T) r) (hg:Gl X x) (hm:X.mg x=none) (hv:bootBuiltins x=some (.type T)) (ha:PA X (e::es) t) (hn:x≠"__name__":=by decide) (hdb:(x == ("__debug__":Str))=false:=by decide)
  (he:starEach (e::es) X.env=(false,eval e X.env)::starEach es X.env:=by rfl) (hpl:(backTo pos (starEach es X.env)).any (·.1)=false:=by rfl):PE X (.Call (.Name x p) (e::es) [] pos) (tCB r t):=by
 intro pins s σ H Q I h
 refine wpAny_Call_Name_kw (zfw I hg hm hv ?_ hn hdb)
 exact PyProof.Rows.callWith_type1 (thn (ha pos pins s σ H _ I h) fun us s1 ⟨vs,H1,I1,r1,q1⟩=>hc pins s1 σ H1 vs us Q I1 r1 q1) he hpl
end
end L2
namespace HT
open PySem PyProof.Rows
def lexLt:List Int->List Int->Bool
 | [],[]=>false
 | [],_::_=>true
 | _::_,[]=>false
 | x::xs,y::ys=>if x=y then lexLt xs ys else decide (x < y)
theorem zke (x y:Int) (xs ys:List Int):lexLt (x::xs) (y::ys)=if x=y then lexLt xs ys else decide (x < y):=rfl
theorem zge:lexLt [] []=false:=rfl
theorem zff (y:Int) (ys:List Int):lexLt [] (y::ys)=true:=rfl
theorem zfg (x:Int) (xs:List Int):lexLt (x::xs) []=false:=rfl
theorem zjt (A:Around) (s:Shared) (a:Int) (t:Tok) (c:Int) (u:Tok):∃ e,SeqAt.EqAt A s (.int a t) (.int c u) e∧(e=true↔a=c) :=
 ⟨(a == c),SeqAt.EqAt.int_int a t c u,by simp⟩
theorem zmy (A:Around) (s:Shared) (a:Int) (t:Tok) (c:Int) (u:Tok) (prog:Program) (w:World) (E:Value->Shared->Prop) (Q:Value->Shared->Prop) (h:Q (.bool (decide (a < c))) s) :
  wpAny (model prog w) A (richCompare .Lt (.int a t) (.int c u)) Q E s :=
 (PyProof.Rows.lt_int h:wpAny (model prog w) A (compareOp .Lt (.int a t) (.int c u)) Q E s)
section
open PySem.SeqAt
open PySem.AutoSeq1 (wpAny_loadPart')
open PySem.MeetsSeq PySem.MeetsSeq2 PySem.MeetsSeq3
theorem zf2 (l b:Addr) (items items2:Array Value) (n n2:Nat) (dd dd2:Option Addr) (sl sl2:Array (Option Value)) (ns ms:List Int) (hi:IntsAre items.toList ns) (hj:IntsAre items2.toList ms) :
  Meets (Builtin.«tuple.__lt__» ⟨[.ref l,.ref b],[]⟩)
   (fun _ R s=>s.heap.get? l=some { cls:=.type "tuple",dict:=dd,data:=.seq items n,slots:=sl }∧s.heap.get? b=some { cls:=.type "tuple",dict:=dd2,data:=.seq items2 n2,slots:=sl2 } ∧
    R (.ok (.ret (.bool (lexLt ns ms)))) s) :=
 .of_wp fun prog w A R s h=>by
  obtain⟨hp,g,d,tk,os⟩:=s;obtain⟨hl,hb,h⟩:=h
  have f2:=AutoSeq1.sub_tuple_tuple
  have z1:items.size=ns.length:=by rw[← hi.length];simp
  have z2:items2.size=ms.length:=by rw[← hj.length];simp
  wp_walk using wpAny_loadPart' hl,wpAny_loadPart' hb,wpAny_forIn_list _ (fun rest b s'=>b.1=none∧s'=⟨hp,g,d,tk,os⟩∧∃ (vs ws:List Value) (ns' ms':List Int),rest=vs.zip ws ∧
   IntsAre vs ns'∧IntsAre ws ms'∧ns'.length + items2.size=ms'.length + items.size∧R (.ok (.ret (.bool (lexLt ns' ms')))) ⟨hp,g,d,tk,os⟩) _
  case turn =>
   rintro ⟨y,x⟩ rest b s' ⟨hb',rfl,vs,ws,ns',ms',hz,hvi,hwi,hlen,hR⟩
   cases hvi with
   | nil=>rw[List.zip_nil_left] at hz;cases hz
   | cons a t hvi' =>
    cases hwi with
    | nil=>rw[List.zip_nil_right] at hz;cases hz
    | cons c u hwi' =>
     rw[List.zip_cons_cons] at hz
     injection hz with hyx hrest
     injection hyx with hy hx
     subst hy hx
     rw[zke] at hR
     simp only [List.length_cons] at hlen
     obtain⟨e,he,hiff⟩:=zjt A.in1 ⟨hp,g,d,tk,os⟩ a t c u
     refine wpAny_bind (he prog w _ _ ?_)
     cases e with
     | true =>
      rw[if_pos (hiff.mp rfl)] at hR
      wp_walk
      exact⟨rfl,rfl,_,_,_,_,hrest,hvi',hwi',by trivial,hR⟩
     | false =>
      rw[if_neg (fun q=>absurd (hiff.mpr q) Bool.false_ne_true)] at hR
      have hri:=zmy A.in1 ⟨hp,g,d,tk,os⟩ a t c u prog w
      wp_walk using hri
      exact⟨_,rfl,by simpa using hR⟩
  case fin =>
   rintro ⟨b1,b2⟩ s' ⟨hb',rfl,vs,ws,ns',ms',hz,hvi,hwi,hlen,hR⟩
   simp only at hb'
   subst hb'
   have hv:lexLt ns' ms'=decide (items.size < items2.size):=by
    cases hvi with
    | nil =>
     cases hwi with
     | nil =>
      simp only [List.length_nil] at hlen
      rw[zge]
      exact (decide_eq_false (by trivial)).symm
     | cons c u hw =>
      simp only [List.length_nil,List.length_cons] at hlen
      rw[zff]
      exact (decide_eq_true (by trivial)).symm
    | cons a t hv =>
     cases hwi with
     | nil =>
      simp only [List.length_nil,List.length_cons] at hlen
      rw[zfg]
      exact (decide_eq_false (by trivial)).symm
     | cons c u hw =>
      rw[List.zip_cons_cons] at hz
      cases hz
   rw[hv] at hR
   wp_walk
   exact⟨_,rfl,by simpa [Builtin.Tuple.tupleCompareSizes] using hR⟩
  case h =>
   exact⟨rfl,rfl,items.toList,items2.toList,ns,ms,rfl,hi,hj,by trivial,h⟩
end
section
variable {prog:Program} {w:World} {A:Around} {E:Value->Shared->Prop} {s:Shared}
theorem zkd {l b:Addr} {items items2:Array Value} {ns ms:List Int} {Q:Value->Shared->Prop} (hl:IsTup s.heap l items) (hb:IsTup s.heap b items2) (hi:IntsAre items.toList ns) (hj:IntsAre items2.toList ms)
  (hu:A.units < cLine) (h:Q (.bool (lexLt ns ms)) s):wpAny (model prog w) A (compareOp .Lt (.ref l) (.ref b)) Q E s:=by
 obtain⟨⟨cls,dd,data,sl⟩,ho,hc,n,hd⟩:=id hl
 obtain⟨⟨cls2,dd2,data2,sl2⟩,ho2,hc2,n2,hd2⟩:=id hb
 simp only at hc hd hc2 hd2
 subst hc hd hc2 hd2
 exact richCompare_meets_room (op:=.Lt) ⟨_,ho,rfl⟩ ⟨_,ho2,rfl⟩ PySem.F.slot_tuple_lt PySem.F.entry_tuple_lt (PySem.F.args_tuple_lt_2 _ _) (zf2 l b items items2 n n2 dd dd2 sl sl2 ns ms hi hj)
  ⟨ho,ho2,show Value.bool (lexLt ns ms)≠Value.notImplemented∧Q (.bool (lexLt ns ms)) s from ⟨(fun x=>nomatch x),h⟩⟩ hu
theorem zpg {t b:Addr} {vs ws:List Value} {Q:Value->Shared->Prop} (ht:IsTup s.heap t vs.toArray) (hb:IsTup s.heap b ws.toArray) (hv:vs≠[])
  (h1:ws=[]->Q (.ref t) s) (h2:ws≠[]->Q (.ref s.heap.objs.size) { s with heap:=s.heap.push { cls:=.type "tuple",data:=.seq (vs++ws).toArray } })
  (hsz:vs.length + ws.length≤sizeLine):wpAny (model prog w) A (binaryOp .Add (.ref t) (.ref b)) Q E s:=by
 obtain⟨⟨cls,dd,data,sl⟩,ho,hc,n,hd⟩:=id ht
 obtain⟨⟨cls2,dd2,data2,sl2⟩,ho2,hc2,n2,hd2⟩:=id hb
 simp only at hc hd hc2 hd2
 subst hc hd hc2 hd2
 have e:vs.toArray++ws.toArray=(vs++ws).toArray:=by simp
 by_cases hw:ws=[]
 ·exact concat_meets ⟨_,ho,rfl⟩ ⟨_,ho2,rfl⟩ noFill_tuple_add seq_tuple_add PySem.F.slot_tuple_add PySem.F.entry_tuple_add (PySem.F.args_tuple_add_2 _ _)
   (tuple_addW1 t b vs.toArray ws.toArray n n2 dd dd2 sl sl2 (by simpa using hv) (by simp [hw])) ⟨ho,ho2,h1 hw⟩
 ·refine concat_meets ⟨_,ho,rfl⟩ ⟨_,ho2,rfl⟩ noFill_tuple_add seq_tuple_add PySem.F.slot_tuple_add PySem.F.entry_tuple_add (PySem.F.args_tuple_add_2 _ _)
   (tuple_addW2 t b vs.toArray ws.toArray n n2 dd dd2 sl sl2 (by simpa using hv) (by simpa using hw) (by rw[List.size_toArray,List.size_toArray];exact hsz)) ⟨ho,ho2,?_⟩
  rw[e]
  exact h2 hw
def sIx (n d:Nat):Option Int->Nat
 | none=>d
 | some v=>if v < 0 then (v + (n:Int)).toNat else min v.toNat n
theorem zjh (n d:Nat):sIx n d none=d:=rfl
theorem zky (n d k:Nat):sIx n d (some (k:Int))=min k n:=by
 show (if (k:Int) < 0 then ((k:Int) + (n:Int)).toNat else min (k:Int).toNat n)=min k n
 rw[if_neg (by trivial),Int.toNat_natCast]
theorem zps (n d:Nat) (hd:d≤n) (o:Option Int):sIx n d o≤n:=by
 cases o with
 | none=>exact hd
 | some v =>
  show (if v < 0 then (v + (n:Int)).toNat else min v.toNat n)≤n
  by_cases hv:v < 0
  ·rw[if_pos hv];trivial
  ·rw[if_neg hv];exact Nat.min_le_right _ _
theorem zl9 (v:Int) (n d:Nat):(if v < 0 then max (v + (n:Int)) 0 else min v (n:Int))=((sIx n d (some v):Nat):Int):=by
 show (if v < 0 then max (v + (n:Int)) 0 else min v (n:Int))=(((if v < 0 then (v + (n:Int)).toNat else min v.toNat n):Nat):Int)
 by_cases hv:v < 0
 ·simp only [if_pos hv];trivial
 ·simp only [if_neg hv];trivial
theorem zkp (lo hi:Option Int) (n:Nat):Builtin.Slice.sliceAdjust lo hi 1 (n:Int)=(((sIx n 0 lo:Nat):Int),((sIx n n hi:Nat):Int)):=by
 have h1:¬ ((1:Int) < 0):=by trivial
 unfold Builtin.Slice.sliceAdjust
 simp only [h1,if_false]
 refine Prod.ext ?_ ?_
 ·cases lo with
  | none=>rfl
  | some v=>exact zl9 v n 0
 ·cases hi with
  | none=>rfl
  | some v=>exact zl9 v n n
theorem zj7 (i j:Nat):Builtin.Slice.slicePlaces (i:Int) (j:Int) 1=j - i:=by
 unfold Builtin.Slice.slicePlaces
 have h1:(1:Int) > 0:=by trivial
 simp only [h1,if_true,Int.ediv_one]
 split <;> trivial
theorem zb7 {v:Value} {o:Option Int} {Q:Option Int->Shared->Prop} (p:IsPart v o) (h:Q o s):wpAny (model prog w) A (Builtin.Slice.slicePartIndex v) Q E s:=by
 cases p with
 | none=>exact slicePart_none h
 | int i t=>exact slicePart_int h
theorem zch {sl:Addr} {vl vu:Value} {lo hi:Option Int} {n:Nat} {Q:Int × Int × Nat->Shared->Prop} (hs:s.heap.IsSliceOf sl vl vu .none) (pl:IsPart vl lo) (pu:IsPart vu hi)
  (h:Q (((sIx n 0 lo:Nat):Int),1,sIx n n hi - sIx n 0 lo) s):wpAny (model prog w) A (Builtin.Slice.sliceApplied (.ref sl) (pure (n:Int))) Q E s:=by
 obtain⟨os,hos,hcs,hds⟩:=id hs
 unfold Builtin.Slice.sliceApplied Builtin.Slice.sliceFields
 refine wpAny_bind (wpAny_bind (wpAny_field hos hds (x:=vl) rfl (wpAny_bind (wpAny_field hos hds (x:=vu) rfl (wpAny_bind (wpAny_field hos hds (x:=.none) rfl (wpAny_pure ?_)))))))
 refine wpAny_bind (slicePart_none ?_)
 show wpAny _ _ (if ((1:Int) == 0)=true then _ else _) _ _ s
 rw[if_neg (by decide)]
 refine wpAny_bind (zb7 pl (wpAny_bind (zb7 pu (wpAny_bind (wpAny_pure ?_)))))
 show wpAny _ _ (match Builtin.Slice.sliceAdjust lo hi 1 (n:Int) with | (lo,hi)=>pure (lo,(1:Int),Builtin.Slice.slicePlaces lo hi 1)) _ _ s
 rw[zkp lo hi n]
 show wpAny _ _ (pure (((sIx n 0 lo:Nat):Int),(1:Int),Builtin.Slice.slicePlaces ((sIx n 0 lo:Nat):Int) ((sIx n n hi:Nat):Int) 1)) _ _ s
 rw[zj7]
 exact wpAny_pure h
theorem zm2 (xs:Array Value) (i k:Nat):((List.range k).filterMap fun (m:Nat)=>xs[((i:Int) + (m:Int) * 1).toNat]?).toArray=((xs.toList.drop i).take k).toArray:=by
 have e:(fun (m:Nat)=>xs[((i:Int) + (m:Int) * 1).toNat]?)=fun m=>xs[i + m]?:=by
  funext m
  have:((i:Int) + (m:Int) * 1).toNat=i + m:=by trivial
  rw[this]
 rw[e]
 have:=pick_run xs i k
 rw[List.filterMap_map] at this
 have e2:((fun x=>xs[x]?) ∘ fun x=>i + x)=fun m=>xs[i + m]?:=rfl
 rw[e2] at this
 rw[this]
theorem zd0 {t sl:Addr} {items:Array Value} {vl vu:Value} {lo hi:Option Int} {Q:Value->Shared->Prop} (ht:IsTup s.heap t items) (hs:s.heap.IsSliceOf sl vl vu .none) (pl:IsPart vl lo) (pu:IsPart vu hi)
  (hw:¬ (sIx items.size 0 lo=0∧sIx items.size items.size hi=items.size))
  (h:Q (.ref s.heap.objs.size) { s with heap:=s.heap.push { cls:=.type "tuple",data:=.seq ((items.toList.drop (sIx items.size 0 lo)).take (sIx items.size items.size hi - sIx items.size 0 lo)).toArray } })
  (hsz:items.size≤sizeLine):wpAny (model prog w) A (getItem (.ref t) (.ref sl)) Q E s:=by
 have htake:sizeOk (.seq ((items.toList.drop (sIx items.size 0 lo)).take (sIx items.size items.size hi - sIx items.size 0 lo)).toArray):=by
  show ((items.toList.drop (sIx items.size 0 lo)).take (sIx items.size items.size hi - sIx items.size 0 lo)).toArray.size≤sizeLine
  rw[List.size_toArray,List.length_take,List.length_drop,Array.length_toList]
  trivial
 have hj:sIx items.size items.size hi≤items.size:=zps _ _ (Nat.le_refl _) hi
 obtain⟨os,hos,hcs,hds⟩:=id hs
 have hTs:s.TypeIs (.ref sl) "slice":=⟨os,hos,hcs⟩
 unfold getItem
 try with_reducible refine wpAny_holding ?_
 first | refine wpAny_bind (wpAny_pure ?_) | skip
 refine wpAny_bind (wpAny_sequenceKey ht.typeIs (by decide) ?_)
 refine wpAny_bind (wpAny_callSpecial?_slot (name:=Str.ofString "__getitem__") ht.typeIs PyProof.Rows.slot_tuple_getitem
  (wpAny_call_entry PyProof.Rows.slot_tuple_getitem ht.typeIs entry_tuple_getitem ?_ (args_tuple_getitem _ _)))
 show wpAny _ _ (Builtin.Tuple.tupleItemsOf (.ref t) >>= _) _ _ s
 refine wpAny_bind (tupleItemsOf_ ht ?_)
 refine wpAny_bind (wpAny_typeOf hTs ?_)
 rw[if_pos (by decide)]
 refine wpAny_bind (zch hs pl pu ?_)
 have hno:¬ ((((sIx items.size 0 lo:Nat):Int) == 0 && (1:Int) == 1 && (sIx items.size items.size hi - sIx items.size 0 lo) == items.size)=true):=by
  intro q
  rw[Bool.and_eq_true,Bool.and_eq_true] at q
  have q1:((sIx items.size 0 lo:Nat):Int)=0:=eq_of_beq q.1.1
  have q2:sIx items.size items.size hi - sIx items.size 0 lo=items.size:=eq_of_beq q.2
  exact hw ⟨by trivial,by trivial⟩
 show wpAny _ _ (if (((sIx items.size 0 lo:Nat):Int) == 0 && (1:Int) == 1 && (sIx items.size items.size hi - sIx items.size 0 lo) == items.size)=true then _ else _) _ _ s
 rw[if_neg hno,zm2]
 first
  | exact wpAny_bind (m:=Builtin.Tuple.tupleExact _) (wpAny_newObj_type (wpAny_pure ⟨_,rfl,wpAny_pure h⟩) htake)
  | exact wpAny_bind (m:=Builtin.Tuple.tupleExact _) (wpAny_newObj_type (wpAny_bind (wpAny_pure (wpAny_pure ⟨_,rfl,wpAny_pure h⟩))) htake)
  | exact wpAny_bind (wpAny_bind (m:=Builtin.Tuple.tupleExact _) (wpAny_newObj_type (wpAny_pure (wpAny_pure ⟨_,rfl,wpAny_pure h⟩)) htake))
  | exact wpAny_bind (wpAny_bind (m:=Builtin.Tuple.tupleExact _) (wpAny_newObj_type (wpAny_pure ⟨_,rfl,wpAny_pure h⟩) htake))
end
end HT
namespace L2
open PySem PySem.Spec PyProof.Rows
abbrev TO:=St->Hp->(Option Int->Hp->Prop)->Prop
def PO (X:Cx) (e:Option Expr) (t:TO):Prop :=
 ∀ (pins:List (Addr × Obj)) (s:Shared) (σ:St) (H:Hp) (Q:Option Int->Hp->Prop),Inv X pins σ H s->t σ H Q ->
  wpAny (model X.prog X.w) X.A (evalPart e X.env) (fun u s'=>∃ o H',Inv X pins σ H' s'∧IsPart u o∧Q o H') X.xe s
def tNoPart:TO:=fun _ H Q=>Q none H
def tPart (t:TE):TO:=fun σ H Q=>t σ H fun x H1=>EInt x fun i=>Q (some i) H1
theorem zbm {ns:List Int}:∀ {us:List Value},Vals (ns.map V.int) us->IntsAre us ns:=by
 induction ns with
 | nil=>intro us r;rw[List.map_nil] at r;cases r;exact .nil
 | cons n ns ih =>
  intro us r
  rw[List.map_cons] at r
  cases r with
  | cons r1 r2 =>
   obtain⟨t,e⟩:=r1
   subst e
   exact .cons n t (ih r2)
section
variable {X:Cx} {e:Expr} {te:TE} {lo hi:Option Expr} {tl th:TO} {pos p2:Pos}
theorem zaw:PO X none tNoPart:=by
 intro pins s σ H Q I h
 rw[evalPart_none]
 exact wpAny_pure ⟨none,H,I,.none,h⟩
theorem za0 (h:PE X e te):PO X (some e) (tPart te):=by
 intro pins s σ H Q I hw
 rw[evalPart_some]
 refine thn (h pins s σ H _ I hw) fun u s1 ⟨x,H1,I1,r1,q1⟩=>?_
 obtain⟨i,rfl,q⟩:=q1
 obtain⟨t,rfl⟩:=r1
 exact⟨some i,H1,I1,.int i t,q⟩
def SlR (X:Cx) (r:V->Option Int->Option Int->Hp->VK->Prop):Prop :=
 ∀ (pins:List (Addr × Obj)) (s:Shared) (σ:St) (H:Hp) (x:V) (v vl vu:Value) (lo hi:Option Int) (sl:Addr) (Q:VK),Inv X pins σ H s->RelV x v->s.heap.IsSliceOf sl vl vu .none->IsPart vl lo->IsPart vu hi->r x lo hi H Q ->
  ∃ T id,typeLookup (.type T) "__getitem__"=pure (some (.builtin id))∧s.TypeIs v T∧wpAny (model X.prog X.w) X.A (getItem v (.ref sl)) (EP X pins σ Q) X.xe s
def tSl (r:V->Option Int->Option Int->Hp->VK->Prop) (te:TE) (tl th:TO):TE:=fun σ H Q=>te σ H fun x H1=>tl σ H1 fun l H2=>th σ H2 fun u H3=>r x l u H3 Q
theorem zau {r:V->Option Int->Option Int->Hp->VK->Prop} (hr:SlR X r) (he:PE X e te) (hl:PO X lo tl) (hu:PO X hi th):PE X (.Subscript e (.Slice lo hi none p2) pos) (tSl r te tl th):=by
 intro pins s σ H Q I h
 refine Subscript_ (thn (he pins s σ H _ I h) fun v s1 ⟨x,H1,I1,r1,q1⟩=>?_)
 refine wpAny_Slice (thn (hl pins s1 σ H1 _ I1 q1) fun vl s2 ⟨l,H2,I2,pl,q2⟩=>thn (hu pins s2 σ H2 _ I2 q2) fun vu s3 ⟨u,H3,I3,pu,q3⟩=>?_)
 rw[evalPart_none]
 refine wpAny_pure ?_
 have I4:Inv X pins σ H3 { s3 with heap:=s3.heap.push { cls:=.type "slice",data:=.fields #[vl,vu,.none] } }:=I3.kept (t':=s3.toks) fun b ob q=>Heap.get?_push_of_some _ q
 obtain⟨T,id,hT,ht,hg⟩:=hr pins { s3 with heap:=s3.heap.push { cls:=.type "slice",data:=.fields #[vl,vu,.none] } } σ H3 x v vl vu l u s3.heap.objs.size Q I4 r1 (Heap.IsSliceOf.new ..) pl pu q3
 show wpAny (model X.prog X.w) X.A (subscriptTail e (.Slice lo hi none p2) v (.ref s3.heap.objs.size)) (EP X pins σ Q) X.xe { s3 with heap:=s3.heap.push { cls:=.type "slice",data:=.fields #[vl,vu,.none] } }
 exact tail_any (ops:=[.ref s3.heap.objs.size,v]) ht hT hg (by with_unfolding_all rfl)
def cutV (xs:List V) (lo hi:Option Int):List V:=(xs.drop (HT.sIx xs.length 0 lo)).take (HT.sIx xs.length xs.length hi - HT.sIx xs.length 0 lo)
theorem zit (xs:List V) (lo hi:Option Int):(cutV xs lo hi).length≤xs.length:=by
 unfold cutV
 rw[List.length_take,List.length_drop]
 trivial
inductive rSlT_i (K:PySem.W.Frag) (x:V) (lo:Option Int) (hi:Option Int) (H:Hp) (Q:VK):Prop
 | mk:∀ a xs,(x=.ref a)->(SqT K H a xs)->(¬ (HT.sIx xs.length 0 lo=0∧HT.sIx xs.length xs.length hi=xs.length))->(∀ p,H p=none->Q (.ref p) (upd H p (.tup (cutV xs lo hi))))->rSlT_i K x lo hi H Q
def rSlT (K:PySem.W.Frag):V->Option Int->Option Int->Hp->VK->Prop:=fun x lo hi H Q=>rSlT_i K x lo hi H Q
theorem zpq:SlR X (rSlT X.K):=by
 intro pins s σ H x v vl vu lo hi sl Q I rx hs pl pu h
 obtain⟨a,xs,rfl,hx,hw,q⟩:=h
 cases rx
 obtain⟨its,r,ht,hz⟩:=I.tuple hx
 have hlen:its.toArray.size=xs.length:=by rw[List.size_toArray];exact r.length.symm
 refine⟨"tuple",_,PyProof.Rows.slot_tuple_getitem.lookup,ht.typeIs,?_⟩
 refine HT.zd0 ht hs pl pu (by rw[hlen];exact hw) ?_ (by rw[hlen];exact hz)
 rw[hlen]
 refine⟨.ref s.heap.objs.size,_,I.laid (t':=s.toks) (o:=.tup (cutV xs lo hi)) (fun b ob q=>Heap.get?_push_of_some _ q) (Nat.le_refl _) ?_,rfl,q _ (I.hok.fresh (Nat.le_refl _))⟩
 exact⟨Nat.le_trans (zit xs lo hi) hz,_,(r.drop (HT.sIx xs.length 0 lo)).take (HT.sIx xs.length xs.length hi - HT.sIx xs.length 0 lo),TupN.new _ _⟩
inductive rLtT_i (K:PySem.W.Frag) (x:V) (y:V) (H:Hp) (Q:VK):Prop
 | mk:∀ a b ns ms,(x=.ref a)->(y=.ref b)->(SqT K H a (ns.map V.int))->(SqT K H b (ms.map V.int))->(Q (.bl (HT.lexLt ns ms)) H)->rLtT_i K x y H Q
def rLtT (K:PySem.W.Frag):R2:=fun x y H Q=>rLtT_i K x y H Q
theorem zpz (hu:X.A.units < cLine):OpR X (compareOp .Lt) (rLtT X.K):=by
 intro pins s σ H x y v u Q I rx ry h
 obtain⟨a,b,ns,ms,rfl,rfl,ha,hb,q⟩:=h
 cases rx
 cases ry
 obtain⟨its,r1,p1,_⟩:=I.tuple ha
 obtain⟨its2,r2,p2,_⟩:=I.tuple hb
 have i1:IntsAre its.toArray.toList ns:=zbm r1
 have i2:IntsAre its2.toArray.toList ms:=zbm r2
 exact HT.zkd p1 p2 i1 i2 hu ⟨.bl (HT.lexLt ns ms),H,I,rfl,q⟩
inductive rCatT_i (K:PySem.W.Frag) (x:V) (y:V) (H:Hp) (Q:VK):Prop
 | mk:∀ a b xs ys,(x=.ref a)->(y=.ref b)->(SqT K H a xs)->(SqT K H b ys)->(xs≠[])->(xs.length + ys.length≤sizeLine)->((ys=[]->Q (.ref a) H))->((ys≠[]->∀ p,H p=none->Q (.ref p) (upd H p (.tup (xs++ys)))))->rCatT_i K x y H Q
def rCatT (K:PySem.W.Frag):R2:=fun x y H Q=>rCatT_i K x y H Q
theorem Vals.nil_iff {xs:List V} {us:List Value} (r:Vals xs us):us=[]↔xs=[]:=by
 cases r with
 | nil=>simp
 | cons _ _=>simp
theorem zoq:OpR X (binaryOp .Add) (rCatT X.K):=by
 intro pins s σ H x y v u Q I rx ry h
 obtain⟨a,b,xs,ys,rfl,rfl,ha,hb,hx,hz,q1,q2⟩:=h
 cases rx
 cases ry
 obtain⟨its,r1,p1,_⟩:=I.tuple ha
 obtain⟨its2,r2,p2,_⟩:=I.tuple hb
 refine HT.zpg p1 p2 (fun z=>hx (r1.nil_iff.mp z)) (fun z=>⟨.ref a,H,I,rfl,q1 (r2.nil_iff.mp z)⟩) (fun z=>?_) (by rw[← r1.length,← r2.length];exact hz)
 refine⟨.ref s.heap.objs.size,_,I.laid (t':=s.toks) (o:=.tup (xs++ys)) (fun b ob q=>Heap.get?_push_of_some _ q) (Nat.le_refl _) ?_,rfl,q2 (fun w=>z (r2.nil_iff.mpr w)) _ (I.hok.fresh (Nat.le_refl _))⟩
 exact⟨by rw[List.length_append];exact hz,_,r1.append r2,TupN.new _ _⟩
end
end L2
namespace L2
open PySem PySem.Spec PyProof.Rows
def ixN (n:Nat) (i:Int):Option Nat:=if 0≤i then (if i < n then some i.toNat else none) else if -(n:Int)≤i then some (i + n).toNat else none
def atI {α:Type} (xs:List α) (i:Int):Option α:=(ixN xs.length i).bind fun j=>xs[j]?
theorem zim {n:Nat} {i:Int} {j:Nat} (h:ixN n i=some j):seqIndex? i n=some j∧j < n∧-(n:Int)≤i∧i < n:=by
 unfold ixN at h
 by_cases h0:0≤i
 ·rw[if_pos h0] at h
  by_cases h1:i < n
  ·rw[if_pos h1] at h
   have e:i.toNat=j:=Option.some.inj h
   exact⟨by rw[seqIndex_of h0 h1,e],by trivial,by trivial,h1⟩
  ·rw[if_neg h1] at h;cases h
 ·rw[if_neg h0] at h
  by_cases h1:-(n:Int)≤i
  ·rw[if_pos h1] at h
   have e:(i + n).toNat=j:=Option.some.inj h
   exact⟨by rw[seqIndex_neg (by trivial) h1,e],by trivial,h1,by trivial⟩
  ·rw[if_neg h1] at h;cases h
theorem zmf {α:Type} {xs:List α} {i:Int} {v:α} (h:atI xs i=some v):∃ j,seqIndex? i xs.length=some j∧xs[j]?=some v∧j < xs.length∧-(xs.length:Int)≤i∧i < xs.length:=by
 unfold atI at h
 cases e:ixN xs.length i with
 | none=>rw[e] at h;cases h
 | some j =>
  rw[e] at h
  obtain⟨h1,h2,h3,h4⟩:=zim e
  exact⟨j,h1,h,h2,h3,h4⟩
theorem zme {α:Type} {xs:List α} {j:Nat} {v:α} (h:xs[j]?=some v):atI xs (j:Int)=some v:=by
 have hj:j < xs.length:=(List.getElem?_eq_some_iff.mp h).1
 have e:ixN xs.length (j:Int)=some j:=by
  unfold ixN
  rw[if_pos (by trivial),if_pos (by trivial)];simp
 unfold atI;rw[e];exact h
def PlainIx (b:Expr):Prop:=∀ o i,subscripted b false o i=operate [o,i] (getItem o i)
def IxR (X:Cx) (r:R2):Prop :=
 ∀ (value slice:Expr) (pins:List (Addr × Obj)) (s:Shared) (σ:St) (H:Hp) (x y:V) (v u:Value) (Q:VK),Inv X pins σ H s->RelV x v->RelV y u->r x y H Q ->
  subscripted slice false v u=operate [v,u] (getItem v u)->wpAny (model X.prog X.w) X.A (subscriptTail value slice v u) (EP X pins σ Q) X.xe s
def MtR (X:Cx) (id:String) (r:V->List V->Hp->VK->Prop):Prop :=
 ∀ (pins:List (Addr × Obj)) (s:Shared) (σ:St) (H:Hp) (x:V) (xs:List V) (v:Value) (us:List Value) (Q:VK),Inv X pins σ H s->RelV x v->Vals xs us->r x xs H Q ->
  wpAny (model X.prog X.w) X.A (call (.builtin id) (v::us)) (EP X pins σ Q) X.xe s
section
variable {X:Cx} {a b:Expr} {ta tb:TE} {pos:Pos}
theorem zao {r:R2} (hr:IxR X r) (ha:PE X a ta) (hb:PE X b tb) (hs:PlainIx b):PE X (.Subscript a b pos) (tOp r ta tb):=by
 intro pins s σ H Q I h
 exact Subscript_ (binT ha hb I h fun v u s2 x y H2 I2 rx ry q=>hr a b pins s2 σ H2 x y v u Q I2 rx ry q (hs _ _))
inductive rIxL_i (K:PySem.W.Frag) (x:V) (y:V) (H:Hp) (Q:VK):Prop
 | mk:∀ p xs i v,(x=.ref p)->(y=.int i)->(SqL K H p xs)->(atI xs i=some v)->(Q v H)->rIxL_i K x y H Q
def rIxL (K:PySem.W.Frag):R2:=fun x y H Q=>rIxL_i K x y H Q
inductive rIxT_i (K:PySem.W.Frag) (x:V) (y:V) (H:Hp) (Q:VK):Prop
 | mk:∀ p xs i v,(x=.ref p)->(y=.int i)->(SqT K H p xs)->(atI xs i=some v)->(Q v H)->rIxT_i K x y H Q
def rIxT (K:PySem.W.Frag):R2:=fun x y H Q=>rIxT_i K x y H Q
theorem za2:IxR X (rIxL X.K):=by
 intro value slice pins s σ H x y v u Q I rx ry h hs
 obtain⟨p,xs,i,z,rfl,rfl,hq,he,q⟩:=h
 cases rx
 obtain⟨t,rfl⟩:=ry
 obtain⟨its,r,pl,hz⟩:=I.list hq
 obtain⟨j,h1,h2,h3,h4,h5⟩:=zmf he
 obtain⟨w,ew,rw'⟩:=r.get h2
 have hl:=r.length
 have hn:=line63
 have fin:EP X pins σ Q w s:=⟨z,H,I,rw',q⟩
 by_cases h0:0≤i
 ·have hj:i.toNat=j:=by
   rw[seqIndex_of h0 h5] at h1
   exact Option.some.inj h1
  exact item_listR pl.isList h0 (by trivial) (by rw[hj];simpa using ew) fin hs
 ·have hj:(i + (its.toArray.size:Int)).toNat=j:=by
   rw[seqIndex_neg (by trivial) h4] at h1
   rw[List.size_toArray,← hl]
   exact Option.some.inj h1
  exact subscriptTail_builtinR (x:=w) pl.isList.typeIs slot_list_getitem.lookup
   (wpAny_getItem_list_neg (Q:=fun r s'=>r=w∧EP X pins σ Q r s') pl.isList (by trivial) (by rw[List.size_toArray] <;> trivial) (by trivial) (by rw[hj];simpa using ew) ⟨rfl,fin⟩) hs
theorem zal:IxR X (rIxT X.K):=by
 intro value slice pins s σ H x y v u Q I rx ry h hs
 obtain⟨p,xs,i,z,rfl,rfl,hq,he,q⟩:=h
 cases rx
 obtain⟨t,rfl⟩:=ry
 obtain⟨its,r,pl,hz⟩:=I.tuple hq
 obtain⟨j,h1,h2,h3,h4,h5⟩:=zmf he
 obtain⟨w,ew,rw'⟩:=r.get h2
 have hl:=r.length
 have hn:=line63
 have fin:EP X pins σ Q w s:=⟨z,H,I,rw',q⟩
 exact subscriptTail_builtinR (x:=w) pl.typeIs slot_tuple_getitem.lookup
  (getItem_tuple (j:=j) (Q:=fun r s'=>r=w∧EP X pins σ Q r s') pl (by trivial) (by trivial) (by rw[List.size_toArray,← hl];exact h1) (by simpa using ew) ⟨rfl,fin⟩) hs
theorem zkc (its:List Value) (n j:Nat) (u:Value):Obj.mapSeq (·.setIfInBounds j u) { cls:=.type "list",data:=.seq its.toArray n }={ cls:=.type "list",data:=.seq (its.set j u).toArray n }:=by
 simp [Obj.mapSeq]
theorem Inv.lst {pins:List (Addr × Obj)} {σ:St} {H:Hp} {s:Shared} {p:Addr} {xs:List V} (I:Inv X pins σ H s) (h:H p=some (.lst xs)) :
  ∃ (its:List Value) (n:Nat),Vals xs its∧s.heap.get? p=some { cls:=.type "list",data:=.seq its.toArray n }∧xs.length≤sizeLine:=by
 obtain⟨z,its,n,r,e⟩:=I.hok p _ h
 exact⟨its,n,r,e,z⟩
theorem Inv.lstUpd {pins:List (Addr × Obj)} {σ:St} {H:Hp} {s:Shared} {p:Addr} {xs ys:List V} {its its':List Value} {n n':Nat} {f:Obj->Obj} (I:Inv X pins σ H s) (h:H p=some (.lst xs))
  (ho:s.heap.get? p=some { cls:=.type "list",data:=.seq its.toArray n }) (hf:f { cls:=.type "list",data:=.seq its.toArray n }={ cls:=.type "list",data:=.seq its'.toArray n' }) (r:Vals ys its') (hz:ys.length≤sizeLine) (t:Nat) :
  Inv X pins σ (upd H p (.lst ys)) { s with heap:=s.heap.update p f,toks:=t }:=by
 have e:(s.heap.update p f).get? p=some { cls:=.type "list",data:=.seq its'.toArray n' }:=by
  rw[Heap.get?_update_self f ho (by rw[hf] <;> rfl),hf]
 refine I.write (x:=p) (e:=p) (by rw[h];trivial) (.inl rfl) (fun b u hb q=>(Heap.get?_update_other _ _ (Ne.symm hb)).trans q) ⟨_,e⟩ ?_
 exact⟨hz,its',n',r,e⟩
inductive rSetL_i  (o:V) (i:V) (v:V) (H:Hp) (Q:Hp->Prop):Prop
 | mk:∀ p xs k j,(o=.ref p)->(i=.int k)->(H p=some (.lst xs))->(ixN xs.length k=some j)->(Q (upd H p (.lst (xs.set j v))))->rSetL_i o i v H Q
def rSetL :V->V->V->Hp->(Hp->Prop)->Prop:=fun o i v H Q=>rSetL_i o i v H Q
theorem zjf:PSet X rSetL:=by
 intro pins s σ H o i v ov iv u Q I ro ri rv h
 obtain⟨p,xs,k,j,rfl,rfl,hp,hj,q⟩:=h
 cases ro
 obtain⟨t,rfl⟩:=ri
 obtain⟨its,n,r,ho,hz⟩:=I.lst hp
 obtain⟨h1,h2,h3,h4⟩:=zim hj
 have hl:=r.length
 have hn:=line63
 have I':Inv X pins σ (upd H p (.lst (xs.set j v))) { s with heap:=s.heap.update p (Obj.mapSeq (·.setIfInBounds j u)) } :=
  I.lstUpd hp ho (zkc its n j u) (r.set rv j) (by rw[List.length_set];exact hz) s.toks
 by_cases h0:0≤k
 ·have hk:k.toNat=j:=by
   rw[seqIndex_of h0 h4] at h1
   exact Option.some.inj h1
  exact PySem.W.ki_setAt ho h0 (by trivial) (by rw[List.size_toArray,← hl];exact h4) (by rw[hk];exact⟨_,I',q⟩)
 ·have hk:(k + (its.toArray.size:Int)).toNat=j:=by
   rw[seqIndex_neg (by trivial) h3] at h1
   rw[List.size_toArray,← hl]
   exact Option.some.inj h1
  exact PySem.W.ki_setBack ho (by trivial) (by rw[List.size_toArray,← hl];exact h3) (by trivial) (by rw[hk];exact⟨_,I',q⟩)
def flatV:V->Bool
 | .non=>true
 | .bl _=>true
 | .int _=>true
 | .str _=>true
 | _=>false
def eqV:V->V->Bool
 | .non,.non=>true
 | .bl a,.bl b=>a == b
 | .bl a,.int b=>(if a then 1 else 0) == b
 | .int a,.bl b=>a == (if b then 1 else 0)
 | .int a,.int b=>a == b
 | .str a,.str b=>a == b
 | _,_=>false
theorem zqd {A:Around} {s:Shared} {y x:V} {u v:Value} (ry:RelV y u) (rx:RelV x v) (fy:flatV y=true) (fx:flatV x=true):SeqAt.EqAt A s u v (eqV y x):=by
 cases y with
 | non =>
  cases ry
  cases x with
  | non=>cases rx;exact SeqAt.EqAt.same _
  | bl b=>cases rx;exact SeqAt.EqAt.none_bool b
  | int b=>obtain⟨t,rfl⟩:=rx;exact SeqAt.EqAt.none_int b t
  | str b=>obtain⟨t,rfl⟩:=rx;exact SeqAt.EqAt.none_str b t
  | _=>exact absurd (show false=true from fx) Bool.false_ne_true
 | bl a =>
  cases ry
  cases x with
  | non=>cases rx;exact SeqAt.EqAt.bool_none a
  | bl b=>cases rx;exact SeqAt.EqAt.bool_bool a b
  | int b=>obtain⟨t,rfl⟩:=rx;exact SeqAt.EqAt.bool_int a b t
  | str b=>obtain⟨t,rfl⟩:=rx;exact SeqAt.EqAt.bool_str a b t
  | _=>exact absurd (show false=true from fx) Bool.false_ne_true
 | int a =>
  obtain⟨t',rfl⟩:=ry
  cases x with
  | non=>cases rx;exact SeqAt.EqAt.int_none a t'
  | bl b=>cases rx;exact SeqAt.EqAt.int_bool a t' b
  | int b=>obtain⟨t,rfl⟩:=rx;exact SeqAt.EqAt.int_int a t' b t
  | str b=>obtain⟨t,rfl⟩:=rx;exact SeqAt.EqAt.int_str a t' b t
  | _=>exact absurd (show false=true from fx) Bool.false_ne_true
 | str a =>
  obtain⟨t',rfl⟩:=ry
  cases x with
  | non=>cases rx;exact SeqAt.EqAt.str_none a t'
  | bl b=>cases rx;exact SeqAt.EqAt.str_bool a t' b
  | int b=>obtain⟨t,rfl⟩:=rx;exact SeqAt.EqAt.str_int a t' b t
  | str b=>obtain⟨t,rfl⟩:=rx;exact SeqAt.EqAt.str_str a t' b t
  | _=>exact absurd (show false=true from fx) Bool.false_ne_true
 | _=>exact absurd (show false=true from fy) Bool.false_ne_true
def eqU (x:V) (u:Value):Bool:=match u with
 | .none=>eqV .non x
 | .bool b=>eqV (.bl b) x
 | .int i _=>eqV (.int i) x
 | .str z _=>eqV (.str z) x
 | _=>false
theorem zn3 {x y:V} {u:Value} (r:RelV y u) (f:flatV y=true):eqU x u=eqV y x:=by
 cases y with
 | non=>cases r;rfl
 | bl b=>cases r;rfl
 | int i=>obtain⟨t,rfl⟩:=r;rfl
 | str z=>obtain⟨t,rfl⟩:=r;rfl
 | _=>exact absurd (show false=true from f) Bool.false_ne_true
theorem ze6 {x:V}:∀ {xs:List V} {us:List Value},Vals xs us->xs.all flatV=true->us.any (eqU x)=xs.any fun y=>eqV y x
 | _,_,.nil,_=>rfl
 | y::xs,u::us,.cons r t,f=>by
  rw[List.all_cons,Bool.and_eq_true] at f
  rw[List.any_cons,List.any_cons,zn3 r f.1,ze6 t f.2]
theorem zdj {A:Around} {s:Shared} {x:V} {v:Value} (rx:RelV x v) (fx:flatV x=true):∀ {xs:List V} {us:List Value},Vals xs us->xs.all flatV=true->∀ u ∈ us,SeqAt.EqAt A s u v (eqU x u)
 | _,_,.nil,_=>fun u hu=>by cases hu
 | y::xs,u::us,.cons r t,f=>fun u' hu=>by
  rw[List.all_cons,Bool.and_eq_true] at f
  rcases List.mem_cons.mp hu with rfl | hu
  ·rw[zn3 r f.1];exact zqd r rx f.1 fx
  ·exact zdj rx fx t f.2 u' hu
def inV (x:V) (xs:List V):Bool:=xs.any fun y=>eqV y x
inductive rIn_i (K:PySem.W.Frag) (neg:Bool) (x:V) (y:V) (H:Hp) (Q:VK):Prop
 | mk:∀ p xs,(y=.ref p)->((SqL K H p xs∨SqT K H p xs))->(flatV x=true)->(xs.all flatV=true)->(Q (.bl (if neg then !inV x xs else inV x xs)) H)->rIn_i K neg x y H Q
def rIn (K:PySem.W.Frag) (neg:Bool):R2:=fun x y H Q=>rIn_i K neg x y H Q
theorem zle:OpR X (compareOp .In) (rIn X.K false):=by
 intro pins s σ H x y v u Q I rx ry h
 obtain⟨p,xs,rfl,hq,fx,fs,q⟩:=h
 cases ry
 rcases hq with hq | hq
 ·obtain⟨its,r,pl,hz⟩:=I.list hq
  refine SeqAt.in_listAt (eqU x) pl.isList (fun w hw=>zdj rx fx r fs w (by simpa using hw)) ⟨.bl _,H,I,rfl,?_⟩
  rw[show its.toArray.any (eqU x)=its.any (eqU x) by simp,ze6 r fs]
  exact q
 ·obtain⟨its,r,pl,hz⟩:=I.tuple hq
  refine SeqAt.in_tupleAt (eqU x) pl (fun w hw=>zdj rx fx r fs w (by simpa using hw)) ⟨.bl _,H,I,rfl,?_⟩
  rw[show its.toArray.any (eqU x)=its.any (eqU x) by simp,ze6 r fs]
  exact q
theorem zd5:OpR X (compareOp .NotIn) (rIn X.K true):=by
 intro pins s σ H x y v u Q I rx ry h
 obtain⟨p,xs,rfl,hq,fx,fs,q⟩:=h
 cases ry
 rcases hq with hq | hq
 ·obtain⟨its,r,pl,hz⟩:=I.list hq
  refine SeqAt.notIn_listAt (eqU x) pl.isList (fun w hw=>zdj rx fx r fs w (by simpa using hw)) ⟨.bl _,H,I,rfl,?_⟩
  rw[show its.toArray.any (eqU x)=its.any (eqU x) by simp,ze6 r fs]
  exact q
 ·obtain⟨its,r,pl,hz⟩:=I.tuple hq
  refine SeqAt.notIn_tupleAt (eqU x) pl (fun w hw=>zdj rx fx r fs w (by simpa using hw)) ⟨.bl _,H,I,rfl,?_⟩
  rw[show its.toArray.any (eqU x)=its.any (eqU x) by simp,ze6 r fs]
  exact q
inductive call_len_seq_i (K:PySem.W.Frag) (xs:List V) (H:Hp) (Q:VK):Prop
 | mk:∀ p ys,(xs=[.ref p])->((SqL K H p ys∨SqT K H p ys))->(Q (.int ys.length) H)->call_len_seq_i K xs H Q
theorem zag:CallR X (.builtin "len") (call_len_seq_i X.K):=by
 intro pins s σ H xs us Q I r h
 obtain⟨p,ys,rfl,hq,q⟩:=h
 obtain⟨u,rfl,rx⟩:=vals1 r
 cases rx
 have hn:=line63
 rcases hq with hq | hq
 ·obtain⟨its,r',pl,hz⟩:=I.list hq
  have hlen:=r'.length
  exact Calls.call_len_list pl.isList (by simp only [List.size_toArray] <;> trivial) ⟨.int ys.length,H,I.tok _,⟨s.toks + 1,by rw[List.size_toArray,hlen]⟩,q⟩
 ·obtain⟨its,r',pl,hz⟩:=I.tuple hq
  have hlen:=r'.length
  exact len_tuple pl (by simp only [List.size_toArray] <;> trivial) ⟨.int ys.length,H,I.tok _,⟨s.toks + 1,by rw[List.size_toArray,hlen]⟩,q⟩
inductive call_list_of_i (K:PySem.W.Frag) (xs:List V) (H:Hp) (Q:VK):Prop
 | mk:∀ p ys,(xs=[.ref p])->((SqL K H p ys∨SqT K H p ys))->(∀ l,H l=none->Q (.ref l) (upd H l (.lst ys)))->call_list_of_i K xs H Q
theorem zhm:CallR X (.type "list") (call_list_of_i X.K):=by
 intro pins s σ H xs us Q I r h
 obtain⟨p,ys,rfl,hq,q⟩:=h
 obtain⟨u,rfl,rx⟩:=vals1 r
 cases rx
 have fin : ∀ (its : List Value), Vals ys its → ys.length ≤ sizeLine → ∀ (h' : Heap) (c' : Nat), (∀ b o', s.heap.get? b = some o' → h'.get? b = some o') →
     h'.get? s.heap.objs.size=some { cls:=.type "list",dict:=none,data:=.seq its.toArray c',slots:=#[] }->EP X pins σ Q (.ref s.heap.objs.size) { s with heap:=h' }:=fun its r' hz h' c' kp e =>
  ⟨.ref s.heap.objs.size,_,I.laid (t':=s.toks) kp (Nat.le_refl _) (show ObjOk X.prog X.w _ h' _ (.lst ys) from ⟨hz,its,c',r',e⟩),rfl,q _ (I.hok.fresh (Nat.le_refl _))⟩
 rcases hq with hq | hq
 ·obtain⟨its,r',pl,hz⟩:=I.list hq
  have hlen:=r'.length
  obtain⟨o,ho,hc,n,hd⟩:=pl.isList
  exact call_list_seq p (.inl rfl) ho hc hd (fun h' c' kp e=>fin its r' hz h' c' kp e) (by simp only [List.size_toArray] <;> trivial)
 ·obtain⟨its,r',pl,hz⟩:=I.tuple hq
  have hlen:=r'.length
  obtain⟨o,ho,hc,n,hd⟩:=pl
  exact call_list_seq p (.inr rfl) ho hc hd (fun h' c' kp e=>fin its r' hz h' c' kp e) (by simp only [List.size_toArray] <;> trivial)
inductive call_tuple_of_i (K:PySem.W.Frag) (xs:List V) (H:Hp) (Q:VK):Prop
 | mk:∀ p ys,(xs=[.ref p])->(((SqL K H p ys∧∀ l,H l=none->Q (.ref l) (upd H l (.tup ys)))∨(SqT K H p ys∧Q (.ref p) H)))->call_tuple_of_i K xs H Q
theorem zdp:CallR X (.type "tuple") (call_tuple_of_i X.K):=by
 intro pins s σ H xs us Q I r h
 obtain⟨p,ys,rfl,h⟩:=h
 obtain⟨u,rfl,rx⟩:=vals1 r
 cases rx
 rcases h with ⟨hq,q⟩ | ⟨hq,q⟩
 ·obtain⟨its,r',pl,hz⟩:=I.list hq
  have hlen:=r'.length
  refine call_tuple_list pl.isList (fun h' kp=>?_) (by simp only [List.size_toArray] <;> trivial)
  have I1:Inv X pins σ H { s with heap:=h' }:=I.kept (t':=s.toks) kp
  have I2:Inv X pins σ (upd H h'.objs.size (.tup ys)) { s with heap:=h'.push { cls:=.type "tuple",data:=.seq its.toArray } } :=
   I1.laid (t':=s.toks) (fun b o e=>Heap.get?_push_of_some _ e) (Nat.le_refl _) (show ObjOk X.prog X.w _ _ _ (.tup ys) from ⟨hz,its,r',TupN.new _ _⟩)
  exact⟨.ref h'.objs.size,_,I2,rfl,q _ (I1.hok.fresh (Nat.le_refl _))⟩
 ·obtain⟨its,r',pl,hz⟩:=I.tuple hq
  exact call_tuple_same pl ⟨.ref p,H,I,rfl,q⟩
def tyV (K:PySem.W.Frag) (T:String) (x:V) (H:Hp):Prop:=match x with
 | .str _=>T="str"
 | .int _=>T="int"
 | .ref p => (T = "list" ∧ ∃ xs, SqL K H p xs) ∨ (T = "tuple" ∧ ∃ o, K.lookup p = some o ∧ o.cls = .type "tuple" ∧ o.dict = none) ∨
     (T="dict"∧((∃ kvs,H p=some (.dK kvs))∨∃ kvs,H p=some (.dT kvs)))∨(T="set"∧∃ S n,H p=some (.set S n))
 | _=>False
theorem zpm {pins:List (Addr × Obj)} {σ:St} {H:Hp} {s:Shared} {T:String} {x:V} {v:Value} (I:Inv X pins σ H s) (r:RelV x v) (ty:tyV X.K T x H) :
  s.TypeIs v T∧∀ a,v=.ref a->∃ ob,s.heap.get? a=some ob∧ob.dict=none:=by
 cases x with
 | str z =>
  obtain⟨t,rfl⟩:=r
  cases (show T="str" from ty)
  exact⟨typeIs_str s z t,fun _ e=>nomatch e⟩
 | int i =>
  obtain⟨t,rfl⟩:=r
  cases (show T="int" from ty)
  exact⟨typeIs_int s i t,fun _ e=>nomatch e⟩
 | ref p =>
  cases r
  rcases ty with ⟨rfl,xs,hq⟩ | ⟨rfl,o,hk,hc,hd⟩ | ⟨rfl,hk⟩ | ⟨rfl,S,n,hk⟩
  ·obtain⟨its,_,pl,_⟩:=I.list hq
   refine⟨pl.isList.typeIs,fun a e=>?_⟩
   cases e
   obtain⟨o,n,e,c,hd,_⟩:=pl
   exact⟨o,e,hd⟩
  ·refine⟨⟨o,I.kIn p o hk,hc⟩,fun a e=>?_⟩
   cases e
   exact⟨o,I.kIn _ o hk,hd⟩
  ·have z:∃ o,s.heap.get? p=some o∧o.ExactDict:=by
    rcases hk with ⟨kvs,hk⟩ | ⟨kvs,hk⟩
    ·obtain⟨_,_,_,_,o,_,_,e,ex,_⟩:=I.hok p _ hk
     exact⟨o,e,ex⟩
    ·obtain⟨_,_,_,_,o,_,_,e,ex,_⟩:=I.hok p _ hk
     exact⟨o,e,ex⟩
   obtain⟨o,e,ex⟩:=z
   refine⟨⟨o,e,ex.1⟩,fun a e2=>?_⟩
   cases e2
   exact⟨o,e,ex.2.1⟩
  ·obtain⟨o,_,_,_,e,ex,_⟩:=I.hok p _ hk
   refine⟨⟨o,e,ex.1⟩,fun a e2=>?_⟩
   cases e2
   exact⟨o,e,ex.2.1⟩
 | _=>exact False.elim ty
def tBM (K:PySem.W.Frag) (T:String) (r:V->List V->Hp->VK->Prop) (to:TE) (t:TA):TE:=fun σ H Q=>to σ H fun x H1=>tyV K T x H1∧t σ H1 fun xs H2=>r x xs H2 Q
variable {o e:Expr} {es:List Expr} {to:TE} {t:TA} {name:Str} {apos cpos:Pos} {T id:String} {r:V->List V->Hp->VK->Prop}
theorem zib (pa:PlainAttrs T) (slot:Slot T name id) (hty:typeOf (.builtin id)=pure (.type "method_descriptor")) (hm:MtR X id r) (ho:PE X o to) (ha:PA X (e::es) t)
  (hbase:attributeBase o name X.env (eval o X.env)=eval o X.env:=by rfl)
  (hfew:((backTo cpos (starEach (e::es) X.env)).all (fun x=>!x.1) && (backToKw cpos (keywordEach [] X.env)).all (fun x=>x.1.isSome)
   && decide ((e::es).length + ([]:List Keyword).length + (if ([]:List Keyword).isEmpty then 0 else 1) < 30))=true:=by rfl)
  (hline:(apos.endLine == cpos.line)=true:=by rfl) (hs:starEach (e::es) X.env=(false,eval e X.env)::starEach es X.env:=by rfl) (hplain:(backTo cpos (starEach es X.env)).any (·.1)=false:=by rfl) :
  PE X (.Call (.Attribute o name apos) (e::es) [] cpos) (tBM X.K T r to t):=by
 intro pins s σ H Q I h
 refine wpAny_Call_method_late hbase hfew hline rfl (thn (ho pins s σ H _ I h) fun v s1 ⟨x,H1,I1,r1,ty,q1⟩=>?_)
 obtain⟨h1,h2⟩:=zpm I1 r1 ty
 refine⟨T,id,pa,slot,hty,h1,h2,?_⟩
 have hA:=ha cpos pins s1 σ H1 _ I1 q1
 rw[hs] at hA ⊢
 refine Calls.callWith_builtin (by show (false || (backTo cpos (starEach es X.env)).any (·.1))=false;rw[hplain] <;> rfl) (Calls.evalArgs_plain ?_)
 exact thn hA fun us s2 ⟨vs,H2,I2,r2,q2⟩=>hm pins s2 σ H2 x vs v us Q I2 r1 r2 q2
end
end L2
namespace L2
open PySem PySem.Spec PyProof.Rows
def MtM (X:Cx) (id:String) (r:V->List V->Hp->VK->Prop):Prop :=
 ∀ (pins:List (Addr × Obj)) (s:Shared) (σ:St) (H:Hp) (x:V) (xs:List V) (v:Value) (us:List Value) (Q:VK),Inv X pins σ H s->RelV x v->Vals xs us->r x xs H Q ->
  wpAny (model X.prog X.w) X.A (call (.builtin id) (v::us)) (EP X pins σ Q) X.xe s
theorem Vals.one:∀ {x:V} {us:List Value},Vals [x] us->∃ u,us=[u]∧RelV x u
 | _,_,.cons r .nil=>⟨_,rfl,r⟩
theorem Vals.two:∀ {x y:V} {us:List Value},Vals [x,y] us->∃ u v,us=[u,v]∧RelV x u∧RelV y v
 | _,_,_,.cons r (.cons q .nil)=>⟨_,_,rfl,r,q⟩
theorem Vals.eraseIdx:∀ {xs:List V} {us:List Value} (i:Nat),Vals xs us->Vals (xs.eraseIdx i) (us.eraseIdx i)
 | _,_,_,.nil=>.nil
 | _,_,0,.cons _ t=>t
 | _,_,i + 1,.cons r t=>.cons r (Vals.eraseIdx i t)
theorem Vals.reverse {xs:List V} {us:List Value} (h:Vals xs us):Vals xs.reverse us.reverse:=by
 induction h with
 | nil=>exact .nil
 | cons r t ih=>rw[List.reverse_cons,List.reverse_cons];exact Vals.append ih (.cons r .nil)
theorem zg6 {α:Type}:∀ (l:List α) (i:Nat),(l.eraseIdx i).length≤l.length
 | [],_=>Nat.le_refl _
 | _::_,0=>Nat.le_succ _
 | _::r,i + 1=>Nat.succ_le_succ (zg6 r i)
section
variable {X:Cx} {pins:List (Addr × Obj)} {σ:St} {H:Hp} {s:Shared} {l b:Addr} {xs ys zs:List V}
theorem Inv.lset {its its':List Value} {n:Nat} {f:Array Value->Array Value} {t':Nat} (I:Inv X pins σ H s) (hH:H l=some (.lst xs))
  (e:s.heap.get? l=some { cls:=.type "list",data:=.seq its.toArray n }) (hf:f its.toArray=its'.toArray) (hv:Vals ys its') (hz:ys.length≤sizeLine) :
  Inv X pins σ (upd H l (.lst ys)) { s with heap:=s.heap.update l (Obj.mapSeq f),toks:=t' }:=by
 have q:=PySem.IsL.update e f
 rw[hf] at q
 refine I.write (x:=l) (e:=l) (by rw[hH];exact trivial) (.inl rfl) (fun b' u hb hu=>(Heap.get?_update_other s.heap (Obj.mapSeq f) (Ne.symm hb)).trans hu) ⟨_,q⟩ ?_
 exact⟨hz,its',_,hv,q⟩
theorem Inv.lnew {its:List Value} {t':Nat} (I:Inv X pins σ H s) (hv:Vals ys its) (hz:ys.length≤sizeLine) :
  Inv X pins σ (upd H s.heap.objs.size (.lst ys)) { s with heap:=s.heap.push { cls:=.type "list",data:=.seq its.toArray },toks:=t' } :=
 I.laid (fun _ _ q=>Heap.get?_push_of_some _ q) (Nat.le_refl _) ⟨hz,its,0,hv,Heap.get?_push_size _ rfl⟩
theorem Inv.fresh (I:Inv X pins σ H s):H s.heap.objs.size=none:=I.hok.fresh (Nat.le_refl _)
theorem Inv.lstM (I:Inv X pins σ H s) (hH:H l=some (.lst xs)):xs.length≤sizeLine∧∃ (its:List Value) (n:Nat),Vals xs its∧xs.length=its.length∧s.heap.get? l=some { cls:=.type "list",data:=.seq its.toArray n }:=by
 obtain⟨z,its,n,r,e⟩:=I.hok l _ hH
 exact⟨z,its,n,r,r.length,e⟩
end
section
variable {X:Cx}
inductive rAppend_i  (x:V) (vs:List V) (H:Hp) (Q:VK):Prop
 | mk:∀ l xs y,(x=.ref l)->(vs=[y])->(H l=some (.lst xs))->(xs.length < sizeLine)->(Q .non (upd H l (.lst (xs++[y]))))->rAppend_i x vs H Q
def rAppend :V->List V->Hp->VK->Prop:=fun x vs H Q=>rAppend_i x vs H Q
theorem zdi:MtM X "list.append" rAppend:=by
 intro pins s σ H x vs v us Q I rx rv h
 obtain⟨l,xs,y,rfl,rfl,hH,hz,q⟩:=h
 cases rx
 obtain⟨u,rfl,ru⟩:=rv.one
 obtain⟨z,its,n,r,hl,e⟩:=I.lstM hH
 refine call_meets F.slot_list_append ⟨_,e,rfl⟩ F.entry_list_append (F.args_list_append_2 _ _) (PySem.list_append l its.toArray n u (by rw[List.size_toArray];trivial)) ⟨e,?_⟩
 refine⟨.non,_,I.lset (its':=its++[u]) hH e (by simp) (r.append (.cons ru .nil)) ?_,rfl,q⟩
 rw[List.length_append,List.length_singleton]
 trivial
inductive rPopAt_i  (x:V) (vs:List V) (H:Hp) (Q:VK):Prop
 | mk:∀ l xs i k y,(x=.ref l)->(vs=[.int i])->(H l=some (.lst xs))->(-(2 ^ 63)≤i)->(i < 2 ^ 63)->(seqIndex? i xs.length=some k)->(xs[k]?=some y)->(Q y (upd H l (.lst (xs.eraseIdx k))))->rPopAt_i x vs H Q
def rPopAt :V->List V->Hp->VK->Prop:=fun x vs H Q=>rPopAt_i x vs H Q
theorem zm5:MtM X "list.pop" rPopAt:=by
 intro pins s σ H x vs v us Q I rx rv h
 obtain⟨l,xs,i,k,y,rfl,rfl,hH,h1,h2,hk,hy,q⟩:=h
 cases rx
 obtain⟨u,rfl,ru⟩:=rv.one
 obtain⟨t,rfl⟩:=ru
 obtain⟨z,its,n,r,hl,e⟩:=I.lstM hH
 obtain⟨w,hw,rw'⟩:=r.get hy
 refine call_meets F.slot_list_pop ⟨_,e,rfl⟩ F.entry_list_pop (F.args_list_pop_2 _ _)
  (MeetsSeq.list_pop_at l its.toArray n i t k w (fitsIndex_both h1 h2) (by rw[List.size_toArray,← hl];exact hk) (by rw[← Array.getElem?_toList];exact hw) (by rw[List.size_toArray];trivial)) ⟨e,?_⟩
 refine⟨y,_,I.lset (its':=its.eraseIdx k) hH e ?_ (r.eraseIdx k) ?_,rw',q⟩
 ·show its.toArray.eraseIdxIfInBounds k=(its.eraseIdx k).toArray
  rw[List.eraseIdxIfInBounds_toArray]
 ·have:=zg6 xs k
  trivial
end
section
variable {prog:Program} {w:World} {A:Around} {E:Value->Shared->Prop} {s:Shared}
end
section
variable {X:Cx}
end
end L2
namespace Att
open PySem PySem.W PySem.Calls PyProof.Rows
theorem ze1 {P:Params} {h:Heap}:∀ (ns:List Int) (vs:List Value),WellAll P h vs (ns.map WData.int)->IntsAre vs ns:=by
 intro ns
 induction ns with
 | nil =>
  intro vs w
  rw[List.map_nil] at w
  cases w
  exact .nil
 | cons n ns ih =>
  intro vs w
  rw[List.map_cons] at w
  cases w with
  | cons a b =>
   cases a
   exact .cons _ _ (ih _ b)
theorem zkx {l:OpenLaw} {n:Nat} (hn:l.most=some n) {P:Params} {h:Heap} {args:List WData} {vals:List Value}
  (hpre:l.row.toRowW.claim.pre args=true) (hwl:WellAll P h vals args) :
  ∃ a vs ns,vals=[Value.ref a]∧args=[WData.list (ns.map WData.int)]∧h.get? a=some { cls:=.type "list",data:=.seq vs.toArray }∧IntsAre vs ns∧ns.length≤n:=by
 have hsh:WShape.hasAll [] args [.list .int]=true:=(pre_splitW hpre).1
 have hc:l.pre.holds [] { args:=args }=true:=(pre_splitW hpre).2
 obtain⟨d,r,rfl,h1,h2⟩:=hasAllW_cons hsh
 obtain rfl:=hasAllW_nil h2
 obtain⟨xs,rfl,h3⟩:=hasW_list h1
 obtain⟨ns,rfl⟩:=items_int h3
 have hlen:ns.length≤n:=by
  unfold OpenLaw.pre at hc
  have h4:(WTm.not (.lt (.lit (.int (n:Int))) (.len (.arg 0)))).holds [] { args:=[.list (ns.map .int)] }=true:=by
   have h4:=(holds_andW hc).1
   rw[hn] at h4
   exact h4
  have h5:=condW_of h4 (w_not (w_lt w_lit (w_len_list (w_arg rfl))))
  rw[List.length_map] at h5
  refine Nat.le_of_not_lt fun q=>?_
  have q':(n:Int) < ((ns.length:Nat):Int):=by trivial
  first
   | (rw[decide_eq_true q'] at h5;exact absurd h5 (by decide))
   | (simp at h5;trivial)
 cases hwl with
 | cons w1 w2 =>
  cases w2
  cases w1 with
  | list ho hall=>exact⟨_,_,ns,rfl,rfl,ho,ze1 ns _ hall,hlen⟩
theorem zk2 (l:OpenLaw) (args:List WData):l.row.toRowW.claim.post args (.bool true) args=true :=
 postW_of (r:=l.row.toRowW) (X:=(true == true))
  (show WShape.has [] (.bool true) .bool=true by first | rfl | decide | simp [WShape.has,WShape.arms,WShape.armsAll])
  (show (WTm.eq .res (.lit (.bool true))).value [] { args:=args,res:=some (.bool true),after:=args }=some (.bool (true == true)) from w_eq_bool (w_res rfl) w_lit) rfl
theorem attach_call {l:OpenLaw} {n:Nat} {q:Program} {loose:List Str} {XP:(Str->Option Value)->Heap->Prop} {YP:World->Heap->Prop} {d:DefRec}
  (hn:l.most=some n) (hdf:d.params.defaults=[])
  (call:∀ (w:World) (s₀ s₁:Shared) (mg mb:Str->Option Value) (fa:Addr) (o:Obj) (pm cd doc:Value) (a:Addr) (vs:List Value) (ns:List Int),
   Ground q loose [] XP w s₀ mg mb s₁.heap->YP w s₁.heap ->
   s₁.heap.get? fa=some o->o.data=.func (docDef d.name d.params d.body d.scope pm cd doc)->s₁.heap.CodeRec cd d.name->mg d.name=some (.ref fa) ->
   s₁.heap.get? a=some { cls:=.type "list",data:=.seq vs.toArray }->IntsAre vs ns->ns.length≤n->s₁.gens=#[] ->
   codeAny (model l.prog w) callerA (.call (.ref fa) ⟨[.ref a],[]⟩) (fun r s'=>r=.ok (.ret (.bool true))∧OldK s₁.heap s'.heap∧s'.os=s₁.os∧AllBare s'.gens) s₁) :
  WalkO q loose XP YP l.row.toRowW d [] (fun f vs=>PySem.call f vs):=by
 intro w s₀ s₁ mg mb G Y fa o pm cd doc dV kV ho hd hcd hD hmg hg args vals as hpre hlay hrd hwl hlo
 obtain rfl:dV=.none:=Dflts.none hD hdf
 obtain rfl:kV=.none:=Dflts.noKw hD
 obtain⟨a,vs,ns,rfl,rfl,hobj,hints,hlen⟩:=zkx hn hpre hwl
 refine enter_call (codeAny_mono (call w s₀ s₁ mg mb fa o pm cd doc a vs ns G Y ho (fd_plain hd) hcd hmg hobj hints hlen hg) fun r s' hq=>?_)
 obtain⟨rfl,h2,h3,h4⟩:=hq
 exact⟨.inl ⟨.bool true,.bool true,[],rfl,fun _=>rfl,.bool true,zk2 l _,fun _=>⟨List.Pairwise.nil,fun _ hm=>(nomatch hm)⟩⟩,h2,h3,h4⟩
section
variable {prog:Program} {w:World} {A:Around} {E:Value->Shared->Prop} {s:Shared} {K:Frag}
end
end Att
namespace L2
open PySem PySem.Spec PyProof.Rows
theorem zgw:∀ {vs:List Value} {ns:List Int},IntsAre vs ns->Vals (ns.map V.int) vs
 | _,_,.nil=>.nil
 | _,_,.cons n t h=>.cons ⟨t,rfl⟩ (zgw h)
def Only (H:Hp):Prop:=∀ b,H b=none∨∃ o xs,H b=some (.frz o (.lst xs))
theorem zm6 {P:Program} {w:World} {K:PySem.W.Frag} {mg mb:Str->Option Value} {CX:CXT} {k:Nat} {fa a:Addr} {fd:FuncData} {x:Str} {sp:Sp} {s₁:Shared} {vs:List Value} {ns:List Int}
  (KX:K.In s₁.heap) (hns:s₁.heap.Ns mainGlobals mg) (hb:s₁.heap.Ns builtinsNs mb) (hbb:∀ x:Str,x≠"__name__"->mb x=bootBuiltins x) (hlim:s₁.heap.NoLimit) (hg:s₁.gens=#[])
  (ha:s₁.heap.get? a=some { cls:=.type "list",data:=.seq vs.toArray }) (hi:IntsAre vs ns) (hl:ns.length≤sizeLine) (hr:Room k callerA)
  (F:∀ base:Heap,K.In base->base.Ns mainGlobals mg->FnOk P w K mg base CX k fa fd [x] sp) (hbind:∀ (s:Shared) (u:Value),BindsTo s fd ⟨[u],[]⟩ [(x,u)])
  (hsp:∀ H:Hp,Only H->SqL K H a (ns.map V.int)->sp [.ref a] H (fun v _=>v=.bl true) fun _ _ _=>False)
  (hCX:∀ H e s',CX [] H s₁ (fun _ _ _=>False) e s'->False) :
  codeAny (model P w) callerA (.call (.ref fa) ⟨[.ref a],[]⟩) (fun r s'=>r=.ok (.ret (.bool true))∧OldK s₁.heap s'.heap∧s'.os=s₁.os∧AllBare s'.gens) s₁:=by
 have rv:=zgw hi
 have lenV:=hi.length
  -- from an abstract heap in which nothing but the script may be tracked
 have core : ∀ H : Hp, Only H → SqL K H a (ns.map V.int) → HOk P w H s₁.heap → (∀ b, H b ≠ none → b = a) → (H a ≠ none → K.lookup a = none) →
     codeAny (model P w) callerA (.call (.ref fa) ⟨[.ref a],[]⟩) (fun r s'=>r=.ok (.ret (.bool true))∧OldK s₁.heap s'.heap∧s'.os=s₁.os∧AllBare s'.gens) s₁:=by
  intro H hO hS hok hA hK
  have base_of:∀ {b:Addr} {o:Obj},s₁.heap.get? b=some o->H b=none->(hidT s₁.heap H).get? b=some o:=fun e n=>znc e n
  have noA:∀ {b:Addr} {o:Obj} {es:Array DictEntry} {ep:Nat},s₁.heap.get? b=some o->o.data=.dict es ep->H b=none:=fun {b o es ep} e d=>by
   cases q:H b with
   | none=>rfl
   | some u =>
    have e':b=a:=hA b (by rw[q];simp)
    subst e'
    rw[ha] at e;cases e
    have d':Data.seq vs.toArray _=Data.dict es ep:=d
    cases d'
  have nsK:∀ {b:Addr} {m:Str->Option Value},s₁.heap.Ns b m->(hidT s₁.heap H).Ns b m:=fun {b m} ⟨o,es,ep,e,d,r⟩=>⟨o,es,ep,base_of e (noA e d),d,r⟩
  have hKb:K.In (hidT s₁.heap H):=fun b o e=>base_of (KX b o e) (by
   cases q:H b with
   | none=>rfl
   | some u =>
    have e':b=a:=hA b (by rw[q];simp)
    subst e'
    rw[hK (by rw[q];simp)] at e;cases e)
  have hM:Mod K mg (hidT s₁.heap H):=⟨hKb,nsK hns,⟨mb,nsK hb,hbb⟩,let ⟨mc,h1,h2⟩:=hlim;⟨mc,nsK h1,h2⟩⟩
  have e0:Env0 P w K mg (hidT s₁.heap H) callerA [] s₁ H:=⟨rfl,hM,fun b o e=>zor e,Nat.le_of_eq (zl0 _ _),trivial,fun b hb=>absurd (show b ∈ ([]:List Addr) from hb) (by simp),hok,.of_eq hg⟩
  refine codeAny_mono ((F _ hKb (nsK hns)).run callerA [] s₁ H ⟨[.ref a],[]⟩ [.ref a] [.ref a] _ _ hr e0 (hbind s₁ (.ref a)) (.cons rfl .nil) (hsp H hO hS)) fun r s' h=>?_
  cases r with
  | error e=>exact (hCX H e s' h).elim
  | ok fl =>
   cases fl with
   | next=>exact False.elim h
   | brk=>exact False.elim h
   | cont=>exact False.elim h
   | ret u =>
    obtain⟨v,H',os,bare,un,hok',r',q⟩:=h
    have q':v=.bl true:=q
    subst q'
    obtain rfl:u=Value.bool true:=r'
    refine⟨rfl,OldK.of_keep fun b o e=>?_,os,bare⟩
    cases q:H b with
    | none=>exact un.keep b o e q (by intro z;exact absurd (show b ∈ ([]:List Addr) from z) (by simp)) (by simp)
    | some u =>
     rcases hO b with z | ⟨ob,xs,z⟩
     ·rw[q] at z;cases z
     ·have z2:=un.frzs b ob _ z
      obtain⟨e1,_⟩:=hok b _ z
      obtain⟨e2,_⟩:=hok' b _ z2
      rw[e] at e1;cases e1
      exact e2
 cases hk:K.lookup a with
 | some o =>
    -- the script is one of the module's own objects
  have e:=KX a o hk
  rw[ha] at e
  cases e
  refine core (fun _=>none) (fun _=>.inl rfl) (.inr ⟨_,vs.toArray,_,hk,rfl,rfl,rfl,by rw[List.size_toArray,lenV];exact hl,by simpa using rv⟩) (fun b u z=>by have z':(none:Option HO)=some u:=z;cases z') (fun b z=>absurd rfl z) fun z=>absurd rfl z
 | none =>
  refine core (fun b=>if b=a then some (.frz { cls:=.type "list",data:=.seq vs.toArray } (.lst (ns.map V.int))) else none) (fun b=>?_) (.inl (.inr ⟨{ cls:=.type "list",data:=.seq vs.toArray },if_pos rfl⟩)) (fun b u z=>?_) (fun b z=>?_) fun _=>hk
  ·by_cases hb:b=a
   ·exact .inr ⟨_,_,if_pos hb⟩
   ·exact .inl (if_neg hb)
  ·by_cases hb:b=a
   ·have z':=(if_pos hb).symm.trans z
    cases z'
    subst hb
    exact⟨ha,by rw[List.length_map];exact hl,vs,_,rv,ha⟩
   ·have z':=(if_neg hb).symm.trans z
    cases z'
  ·by_cases hb:b=a
   ·exact hb
   ·exact absurd (if_neg hb) z
end L2
namespace L2
open PySem PySem.Spec PyProof.Rows
theorem zn9 {l:PySem.W.OpenLaw} {n k:Nat} {q:Program} {loose:List Str} {XP:(Str->Option Value)->Heap->Prop} {YP:World->Heap->Prop} {d:DefRec} {K:Params->PySem.W.Frag} {CX:World->CXT} {sp:World->Sp} {x:Str}
  (hn:l.most=some n) (hn2:n≤sizeLine) (hdf:d.params.defaults=[]) (hr:Room k callerA)
  (hY:∀ (w:World) (h:Heap),YP w h->(K w.params).In h)
  (F:∀ (w:World) (mg:Str->Option Value) (fa:Addr) (h:Heap),(K w.params).In h->h.Ns mainGlobals mg->mg d.name=some (.ref fa) ->
   ∃ fd:FuncData,(∀ (s:Shared) (u:Value),BindsTo s fd ⟨[u],[]⟩ [(x,u)]) ∧
    ∀ base:Heap,(K w.params).In base->base.Ns mainGlobals mg->FnOk l.prog w (K w.params) mg base (CX w) k fa fd [x] (sp w))
  (hsp:∀ (w:World) (H:Hp) (a:Addr) (ns:List Int),ns.length≤n->Only H->SqL (K w.params) H a (ns.map V.int)->sp w [.ref a] H (fun v _=>v=.bl true) fun _ _ _=>False)
  (hCX:∀ (w:World) (H:Hp) (s:Shared) (e:Value) (s':Shared),CX w [] H s (fun _ _ _=>False) e s'->False) :
  PySem.W.WalkO q loose XP YP l.row.toRowW d [] (fun f vs=>PySem.call f vs):=by
 refine Att.attach_call hn hdf fun w s₀ s₁ mg mb fa o pm cd doc a vs ns G Y ho hd hcd hmg hobj hints hlen hg=>?_
 have KX:=hY w _ Y
 obtain⟨fd,hb,hF⟩:=F w mg fa _ KX G.T.g hmg
 exact zm6 KX G.T.g G.T.b G.T.builtins G.T.nolimit hg hobj hints (Nat.le_trans hlen hn2) hr hF hb (fun H hO hS=>hsp w H a ns hlen hO hS) fun H e s'=>hCX w H s₁ e s'
end L2
namespace L2
open PySem PySem.Spec PyProof.Rows
def defArgs (s:Stmt):Arguments:=match s with
 | .FunctionDef _ a _ _ _ _ _ _ _ _=>a
 | _=>{ posonlyargs:=[],args:=[],vararg:=none,kwonlyargs:=[],kw_defaults:=[],kwarg:=none,defaults:=[] }
def defBody (s:Stmt):List Stmt:=match s with
 | .FunctionDef _ _ b _ _ _ _ _ _ _=>b
 | _=>[]
def defScope (s:Stmt):Scope:=match s with
 | .FunctionDef _ _ _ _ _ _ sc _ _ _=>sc
 | _=>{ kind:=.function,names:=[],isGenerator:=false,isCoroutine:=false }
abbrev CX0:CXT:=fun _ _ _ _ _ _=>False
abbrev E0:XK:=fun _ _ _=>False
theorem pass0 {X:Cx}:Passes CX0 X E0:=fun _ _ _ _ _ _ _ h=>h.elim
structure Fun (K:PySem.W.Frag) (x qual:Str) (st:Stmt) (f:Addr) (fd:FuncData):Prop where
 ex:∃ (oc:Value) (od:Option Addr) (kV doc pm:Value) (an:Option Addr) (cdv ct:Value) (osl:Array (Option Value)),
  fd=PySem.W.fnOf x qual (defArgs st) (defBody st) (defScope st) .none kV doc pm an cdv ct∧K.lookup f=some ⟨oc,od,.func fd,osl⟩∧PySem.W.codeIn K cdv qual=true
 kp:PySem.W.keepIn K (.ref f)=true
section
variable {P:Program} {w:World} {K:PySem.W.Frag} {mg:Str->Option Value} {base:Heap}
theorem Fun.ok {x qual:Str} {st:Stmt} {f:Addr} {fd:FuncData} {N ps:List Str} {k:Nat} {sp:Sp} (F:Fun K x qual st f fd) (S:FnScope N ps (defScope st)) (len:∀ vs H Q E,sp vs H Q E->vs.length=ps.length)
  (hbody:∀ (cdv:Value) (A:Around) (outer:List Env) (s:Shared) (H:Hp) (vs:List V) (Q:VK) (E:XK),Room k (A.deeper (envOfC qual (defScope st) s.heap.objs.size f cdv))->sp vs H Q E ->
   ∃ t,PSs (cxOf CX0 P w K mg base N qual (defScope st) f cdv A outer s H E).nox (defBody st) t∧t { nx:=fun _ H'=>Q .non H',rt:=Q } (start N vs) H):FnOk P w K mg base CX0 (k + 1) f fd ps sp:=by
 obtain⟨oc,od,kV,doc,pm,an,cdv,ct,osl,rfl,lk,hcd⟩:=F.ex
 refine zqo lk hcd S len fun A outer s H vs Q E hr hsp=>?_
 obtain⟨t,h,q⟩:=hbody cdv A outer s H vs Q E hr hsp
 exact⟨t,h.nox,q⟩
theorem Fun.binds {x qual:Str} {st:Stmt} {f:Addr} {fd:FuncData} {ps:List Str} (F:Fun K x qual st f fd)
  (h:∀ (kV doc pm:Value) (an:Option Addr) (cdv ct:Value) (us:List Value),us.length=ps.length->bindArgs (PySem.W.fnOf x qual (defArgs st) (defBody st) (defScope st) .none kV doc pm an cdv ct) ⟨us,[]⟩=pure (ps.zip us)):Binds K fd ps []:=by
 obtain⟨oc,od,kV,doc,pm,an,cdv,ct,osl,rfl,lk,hcd⟩:=F.ex
 exact .all (h kV doc pm an cdv ct)
theorem zn2 {x qual:Str} {st:Stmt} {f:Addr} {oc:Value} {od an:Option Addr} {osl:Array (Option Value)} {kV doc pm cdv ct:Value} (l:K.lookup f=some ⟨oc,od,.func (PySem.W.fnOf x qual (defArgs st) (defBody st) (defScope st) .none kV doc pm an cdv ct),osl⟩)
  (c:PySem.W.codeIn K cdv qual=true) (k:PySem.W.keepIn K (.ref f)=true):Fun K x qual st f (PySem.W.fnOf x qual (defArgs st) (defBody st) (defScope st) .none kV doc pm an cdv ct):=⟨⟨oc,od,kV,doc,pm,an,cdv,ct,osl,rfl,l,c⟩,k⟩
end
section
variable {X:Cx}
theorem pv (i:Nat) {x:Str} {pos:Pos} (hN:X.N[i]?=some x:=by rfl) (hv:Vis X.env.scope x:=by first | exact Or.inl rfl | exact Or.inr (Or.inl rfl) | exact Or.inr (Or.inr rfl)) (hd:(x == ("__debug__":Str))=false:=by decide)
  (hcd:(x == ("__classdict__":Str))=false:=by decide):PE X (.Name x pos) (tVar i):=zpw hN hv hd hcd
end
theorem iteF {A B:Prop} (h:B):if false=true then A else B:=by
 rw[if_neg Bool.false_ne_true]
 exact h
theorem iteT {A B:Prop} (h:A):if true=true then A else B:=by
 rw[if_pos rfl]
 exact h
theorem ite2 {c A B:Prop} [Decidable c] (h1:c->A) (h2:¬ c->B):if c then A else B:=by
 by_cases h:c
 ·rw[if_pos h]
  exact h1 h
 ·rw[if_neg h]
  exact h2 h
theorem iteNS {c A B:Prop} [Decidable c] (hc:c) (h:B):if (!decide c)=true then A else B:=by
 rw[decide_eq_true hc]
 exact iteF h
def Same (H H':Hp):Prop:=∀ b o,H b=some o->H' b=some o
theorem Same.refl (H:Hp):Same H H:=fun _ _ h=>h
theorem Same.trans {H H1 H2:Hp} (a:Same H H1) (b:Same H1 H2):Same H H2:=fun c o h=>b c o (a c o h)
theorem Same.free {H H':Hp} (e:Same H H') {l:Addr} (h:H' l=Option.none):H l=Option.none:=by
 cases q:H l with
 | none=>rfl
 | some o =>
  rw[e l o q] at h
  cases h
theorem Same.seq {K:PySem.W.Frag} {H H':Hp} {a:Addr} {xs:List V} (e:Same H H') (h:SqL K H a xs):SqL K H' a xs:=by
 rcases h with (h | ⟨o,h⟩) | h
 ·exact .inl (.inl (e _ _ h))
 ·exact .inl (.inr ⟨o,e _ _ h⟩)
 ·exact .inr h
end L2
namespace L2
open PySem PySem.Spec PyProof.Rows
section
variable {κ:Type} [DecidableEq κ]
def valV (kvs:List (κ × V)) (k:κ):Option V:=(kvs.find? fun kv=>decide (kv.1=k)).map (·.2)
def putK (kvs:List (κ × V)) (k:κ) (v:V):List (κ × V) :=
 if (kvs.any fun kv=>decide (kv.1=k))=true then kvs.map (fun kv=>if kv.1=k then (kv.1,v) else kv) else kvs++[(k,v)]
def dropK (kvs:List (κ × V)) (k:κ):List (κ × V):=kvs.filter fun kv=>decide (kv.1≠k)
theorem zf0 {p:κ × V} {r:List (κ × V)} {k:κ} (e:p.1=k):valV (p::r) k=some p.2:=by simp [valV,List.find?_cons,e]
theorem zf1 {p:κ × V} {r:List (κ × V)} {k:κ} (e:¬ p.1=k):valV (p::r) k=valV r k:=by simp [valV,List.find?_cons,e]
theorem zi7 (k:κ):∀ kvs:List (κ × V),(kvs.any fun kv=>decide (kv.1=k))=(valV kvs k).isSome
 | []=>rfl
 | p::r=>by
  rw[List.any_cons]
  by_cases e:p.1=k
  ·simp only [zf0 e,decide_eq_true e,Bool.true_or,Option.isSome_some]
  ·rw[zf1 e,decide_eq_false e,Bool.false_or];exact zi7 k r
theorem zex (kvs:List (κ × V)) (k:κ) (v:V):(putK kvs k v).length≤kvs.length + 1:=by
 unfold putK
 split
 ·rw[List.length_map];trivial
 ·rw[List.length_append,List.length_cons,List.length_nil];trivial
theorem RelO.isSome_eq {o:Option V} {u:Option Value} (r:RelO o u):o.isSome=u.isSome:=by
 cases o with
 | none=>cases u with
  | none=>rfl
  | some _=>exact (show False from r).elim
 | some _=>cases u with
  | none=>exact (show False from r).elim
  | some _=>rfl
theorem KV.val {kvs:List (κ × V)} {vs:List (κ × Value)} (r:KV kvs vs) (k:κ):RelO (valV kvs k) (valueAt vs k):=by
 unfold KV at r
 induction r with
 | nil=>exact True.intro
 | @cons p q ps qs h t ih =>
  obtain⟨h1,h2⟩:=h
  by_cases e:p.1=k
  ·have e':q.1=k:=h1.symm.trans e
   have b:valueAt (q::qs) k=some q.2:=by simp [valueAt,List.find?_cons,e']
   rw[zf0 e,b];exact h2
  ·have e':¬ q.1=k:=fun z=>e (h1.trans z)
   have b:valueAt (q::qs) k=valueAt qs k:=by simp [valueAt,List.find?_cons,e']
   rw[zf1 e,b];exact ih
theorem KV.any {kvs:List (κ × V)} {vs:List (κ × Value)} (r:KV kvs vs) (k:κ):(kvs.any fun kv=>decide (kv.1=k))=vs.any fun kv=>decide (kv.1=k):=by
 unfold KV at r
 induction r with
 | nil=>rfl
 | cons h t ih=>rw[List.any_cons,List.any_cons,ih,h.1]
theorem KV.repl {kvs:List (κ × V)} {vs:List (κ × Value)} (r:KV kvs vs) (k:κ) {y:V} {u:Value} (ry:RelV y u) :
  KV (kvs.map fun kv=>if kv.1=k then (kv.1,y) else kv) (vs.map fun kv=>if kv.1=k then (kv.1,u) else kv):=by
 unfold KV at r ⊢
 induction r with
 | nil=>exact .nil
 | @cons p q ps qs h t ih =>
  rw[List.map_cons,List.map_cons]
  refine .cons ?_ ih
  obtain⟨h1,h2⟩:=h
  by_cases e:p.1=k
  ·rw[if_pos e,if_pos (h1.symm.trans e)];exact⟨h1,ry⟩
  ·rw[if_neg e,if_neg (fun z=>e (h1.trans z))];exact⟨h1,h2⟩
theorem KV.put {kvs:List (κ × V)} {vs:List (κ × Value)} (r:KV kvs vs) (k:κ) {y:V} {u:Value} (ry:RelV y u):KV (putK kvs k y) (stored vs k u):=by
 unfold putK stored
 rw[r.any k]
 by_cases e:(vs.any fun kv=>decide (kv.1=k))=true
 ·rw[if_pos e,if_pos e];exact r.repl k ry
 ·rw[if_neg e,if_neg e];exact Paired.snoc r ⟨rfl,ry⟩
theorem KV.length {kvs:List (κ × V)} {vs:List (κ × Value)} (r:KV kvs vs):kvs.length=vs.length:=Paired.length r
end
theorem zlq {P:Program} {w:World} {k:Key} {u:Value} (r:RelV (kV k) u):(mixKind P w).is k u=true:=by
 cases k with
 | inl i=>obtain⟨t,e⟩:=(show ∃ t,u=Value.int i t from r);subst e;exact zil P w i t
 | inr x=>obtain⟨t,e⟩:=(show ∃ t,u=Value.str x t from r);subst e;exact zik P w x t
theorem zg8 {P:Program} {w:World}:∀ {ks:List Key} {us:List Value},Vals (ks.map kV) us->ItemsAre (mixKind P w) ks us
 | [],_,r=>by rw[List.map_nil] at r;cases r;exact .nil
 | k::ks,_,r=>by
  rw[List.map_cons] at r
  cases r with
  | cons h t=>exact .cons (zlq h) (zg8 t)
abbrev KT (H:Hp):List (List Key × V)->List (List Key × Addr × Value)->Prop:=Paired fun p q=>p.1=q.1∧H q.2.1=some (.tup (p.1.map kV))∧RelV p.2 q.2.2
theorem KT.val {H:Hp} {kvs:List (List Key × V)} {xs:List (List Key × Addr × Value)} (r:KT H kvs xs) (k:List Key):RelO (valV kvs k) ((atKey xs k).map (·.2)):=by
 induction r with
 | nil=>exact True.intro
 | @cons p q ps qs h t ih =>
  obtain⟨h1,_,h2⟩:=h
  by_cases e:p.1=k
  ·have e':q.1=k:=h1.symm.trans e
   have b:atKey (q::qs) k=some q.2:=by simp [atKey,List.find?_cons,e']
   rw[zf0 e,b];exact h2
  ·have e':¬ q.1=k:=fun z=>e (h1.trans z)
   have b:atKey (q::qs) k=atKey qs k:=by simp [atKey,List.find?_cons,e']
   rw[zf1 e,b];exact ih
theorem KT.repl {H:Hp} {kvs:List (List Key × V)} {xs:List (List Key × Addr × Value)} (r:KT H kvs xs) (k:List Key) {y:V} {u:Value} (ry:RelV y u) :
  KT H (kvs.map fun kv=>if kv.1=k then (kv.1,y) else kv) (xs.map (putAt k u)):=by
 induction r with
 | nil=>exact .nil
 | @cons p q ps qs h t ih =>
  rw[List.map_cons,List.map_cons]
  refine .cons ?_ ih
  obtain⟨h1,h2,h3⟩:=h
  unfold putAt
  by_cases e:p.1=k
  ·rw[if_pos e,if_pos (h1.symm.trans e)];exact⟨h1,h2,ry⟩
  ·rw[if_neg e,if_neg (fun z=>e (h1.trans z))];exact⟨h1,h2,h3⟩
theorem KT.put {H:Hp} {kvs:List (List Key × V)} {xs:List (List Key × Addr × Value)} (r:KT H kvs xs) (k:List Key) {b:Addr} {y:V} {u:Value} (hb:H b=some (.tup (k.map kV))) (ry:RelV y u) :
  KT H (putK kvs k y) (storedH xs k b u):=by
 have e:(kvs.any fun kv=>decide (kv.1=k))=(atKey xs k).isSome:=by
  rw[zi7,(r.val k).isSome_eq,Option.isSome_map]
 unfold putK storedH
 rw[e]
 by_cases q:(atKey xs k).isSome=true
 ·rw[if_pos q,if_pos q];exact r.repl k ry
 ·rw[if_neg q,if_neg q];exact Paired.snoc r ⟨rfl,hb,ry⟩
theorem KT.keeps {H H':Hp} {kvs:List (List Key × V)} {xs:List (List Key × Addr × Value)} (r:KT H kvs xs) (ht:∀ b ys,H b=some (.tup ys)->H' b=some (.tup ys)):KT H' kvs xs :=
 Paired.mapP r fun _ _ z=>⟨z.1,ht _ _ z.2.1,z.2.2⟩
section
variable {P:Program} {w:World} {H:Hp} {h:Heap} {a:Addr}
theorem zpu {u:HO} (ok:HOk P w H h) (e:Rd H a u):ObjOk P w H h a u:=e.ok ok
theorem zno {kvs:List (Key × V)} (ok:HOk P w H h) (e:Rd H a (.dK kvs)):kvs.length≤sizeLine∧(a == sysModules)=false∧∃ vs,KV kvs vs∧h.DictOf (mixKind P w) a vs :=
 show ObjOk P w H h a (.dK kvs) from zpu ok e
theorem zqe {kvs:List (Key × V)} (ok:HOk P w H h) (e:H a=some (.dK kvs)):kvs.length≤sizeLine∧(a == sysModules)=false∧∃ vs,KV kvs vs∧h.DictOf (mixKind P w) a vs:=zno ok (.inl e)
theorem zjp {ks:List Key} (ok:HOk P w H h) (e:H a=some (.tup (ks.map kV))):(tupleKind (mixKind P w)).is h ks a:=by
 obtain⟨_,its,r,o,h1,h2,⟨n,h3⟩,_⟩:=(show ObjOk P w H h a (.tup (ks.map kV)) from ok a _ e)
 exact⟨o,its.toArray,n,h1,h2,h3,by simpa using zg8 r⟩
theorem znm {kvs:List (List Key × V)} (ok:HOk P w H h) (e:Rd H a (.dT kvs)):kvs.length≤sizeLine∧(a == sysModules)=false ∧
  ∃ xs,KT H kvs xs∧h.DictOfH (tupleKind (mixKind P w)) a xs:=by
 obtain⟨z,y,xs,r,o,es,ep,h1,h2,h3,h4,h5⟩:=(show ObjOk P w H h a (.dT kvs) from zpu ok e)
 refine⟨z,y,xs,r,o,es,ep,h1,h2,h3,h4,fun x hx=>?_,h5⟩
 have all:∀ {l:List (List Key × V)} {m:List (List Key × Addr × Value)},KT H l m->∀ x ∈ m,(tupleKind (mixKind P w)).is h x.1 x.2.1:=by
  intro l m q
  induction q with
  | nil=>intro x hx;exact nomatch hx
  | @cons p q ps qs hq t ih =>
   intro x hx
   rcases List.mem_cons.mp hx with e | hx
   ·subst e
    exact zjp ok (by rw[← hq.1];exact hq.2.1)
   ·exact ih x hx
 exact all r x hx
theorem zqq {kvs:List (List Key × V)} (ok:HOk P w H h) (e:H a=some (.dT kvs)):kvs.length≤sizeLine∧(a == sysModules)=false ∧
  ∃ xs,KT H kvs xs∧h.DictOfH (tupleKind (mixKind P w)) a xs:=znm ok (.inl e)
end
def DGet (H:Hp) (a:Addr) (y:V) (r:Option V):Prop :=
 (∃ kvs k,Rd H a (.dK kvs)∧y=kV k∧r=valV kvs k)∨∃ kvs k b,Rd H a (.dT kvs)∧y=.ref b∧H b=some (.tup (k.map kV))∧r=valV kvs k
def DPut (H:Hp) (a:Addr) (y v:V) (H':Hp):Prop :=
 (∃ kvs k,H a=some (.dK kvs)∧y=kV k∧kvs.length < sizeLine∧H'=upd H a (.dK (putK kvs k v))) ∨
 ∃ kvs k b,H a=some (.dT kvs)∧y=.ref b∧H b=some (.tup (k.map kV))∧kvs.length < sizeLine∧H'=upd H a (.dT (putK kvs k v))
theorem DGet.k {H:Hp} {a:Addr} {kvs:List (Key × V)} {k:Key} (e:H a=some (.dK kvs)):DGet H a (kV k) (valV kvs k):=.inl ⟨kvs,k,.inl e,rfl,rfl⟩
theorem DPut.k {H:Hp} {a:Addr} {kvs:List (Key × V)} {k:Key} {v:V} (e:H a=some (.dK kvs)) (hl:kvs.length < sizeLine):DPut H a (kV k) v (upd H a (.dK (putK kvs k v))):=.inl ⟨kvs,k,e,rfl,hl,rfl⟩
section
variable {X:Cx} {pins:List (Addr × Obj)} {σ:St} {H:Hp} {s:Shared} {a:Addr} {y v:V} {u r:Value} {o:Option V} {A:Around} {E:Value->Shared->Prop}
theorem Inv.big (I:Inv X pins σ H s):sysModules < s.heap.objs.size:=by
 have h:mainGlobals < s.heap.objs.size:=(I.mod.glob.keeps I.bk).lt
 exact Nat.lt_trans (by decide) h
theorem zl6 {Q:Value->Shared->Prop} (hu:A.units + 1 < cLine) (I:Inv X pins σ H s) (g:DGet H a y (some v)) (ry:RelV y u) (h:∀ w' s',Inv X pins σ H s'->RelV v w'->Q w' s') :
  wpAny (model X.prog X.w) A (getItem (.ref a) u) Q E s:=by
 rcases g with ⟨kvs,k,e,ey,l⟩ | ⟨kvs,k,b,e,ey,eb,l⟩
 ·subst ey
  obtain⟨z,hd,vs,rel,dd⟩:=zno I.hok e
  obtain⟨w',hw,rw'⟩:=RelO.some_of (v:=v) (o:=valueAt vs k) (by rw[l];exact rel.val k)
  exact wpAny_getItem_of (zlq ry) dd.mapOf hw (h w' _ (I.tok _) rw')
 ·subst ey
  cases (show u=Value.ref b from ry)
  obtain⟨z,hd,xs,rel,dd⟩:=znm I.hok e
  obtain⟨w',hw,rw'⟩:=RelO.some_of (v:=v) (o:=(atKey xs k).map (·.2)) (by rw[l];exact rel.val k)
  obtain⟨p,hp,hp2⟩:=Option.map_eq_some_iff.mp hw
  refine wpAny_getItem_heap (tupleKind_room_in1 hu) (zjp I.hok eb) dd hp ?_
  rw[hp2]
  exact h w' _ (I.tok _) rw'
theorem zpd {Q:Value->Shared->Prop} (hu:A.units + 1 < cLine) (I:Inv X pins σ H s) (g:DGet H a y o) (ry:RelV y u) (h:∀ s',Inv X pins σ H s'->Q (.bool (!o.isSome)) s') :
  wpAny (model X.prog X.w) A (compareOp .NotIn u (.ref a)) Q E s:=by
 rcases g with ⟨kvs,k,e,ey,l⟩ | ⟨kvs,k,b,e,ey,eb,l⟩
 ·subst ey
  obtain⟨z,hd,vs,rel,dd⟩:=zno I.hok e
  refine wpAny_notIn_of (zlq ry) hd dd.mapOf ?_
  rw[← (rel.val k).isSome_eq,← l]
  exact h _ (I.tok _)
 ·subst ey
  cases (show u=Value.ref b from ry)
  obtain⟨z,hd,xs,rel,dd⟩:=znm I.hok e
  refine wpAny_notIn_heap (tupleKind_room_in1 hu) (zjp I.hok eb) hd dd ?_
  have q:=(rel.val k).isSome_eq
  rw[Option.isSome_map] at q
  rw[← q,← l]
  exact h _ (I.tok _)
theorem zis {h':Heap} {t':Nat} {ob:HO} (I:Inv X pins σ H s) (mu:Mut (H a)) (hs:Heap.SameBut a s.heap h') (he:∃ q,h'.get? a=some q) (new:ObjOk X.prog X.w (upd H a ob) h' a ob) :
  Inv X pins σ (upd H a ob) { s with heap:=h',toks:=t' } :=
 I.write (x:=a) (e:=a) mu (.inl rfl) (fun b q hb z=>(hs.2 b hb).trans z) he new
theorem zn4 {P:Program} {w:World} {H':Hp} {h':Heap} {kvs:List (Key × V)} {vs:List (Key × Value)} (z:kvs.length≤sizeLine) (hd:(a == sysModules)=false) (rel:KV kvs vs) (dd:h'.DictOf (mixKind P w) a vs) :
  ObjOk P w H' h' a (.dK kvs):=⟨z,hd,vs,rel,dd⟩
theorem zl5 {H':Hp} {Q:Unit->Shared->Prop} (hu:A.units + 1 < cLine) (I:Inv X pins σ H s) (g:DPut H a y v H') (ry:RelV y u) (rv:RelV v r) (h:∀ s',Inv X pins σ H' s'->Q () s') :
  wpAny (model X.prog X.w) A (setItem (.ref a) u r) Q E s:=by
 rcases g with ⟨kvs,k,e,ey,l,eH⟩ | ⟨kvs,k,b,e,ey,eb,l,eH⟩
 ·subst ey eH
  obtain⟨z,hd,vs,rel,dd⟩:=zqe I.hok e
  have hz:vs.length≤sizeLine:=by rw[← rel.length];exact z
  have hl:(putK kvs k v).length≤sizeLine:=by have:=zex kvs k v;trivial
  refine wpAny_setItem_pairs (hsz:=hz) (zlq ry) dd fun h' dd' hs=>h _ ?_
  have he:∃ q,h'.get? a=some q:=let ⟨q,_,_,hq,_⟩:=dd';⟨q,hq⟩
  exact zis I (by rw[e];exact True.intro) hs he (zn4 hl hd (rel.put k rv) dd')
 ·subst ey eH
  cases (show u=Value.ref b from ry)
  obtain⟨z,hd,xs,rel,dd⟩:=zqq I.hok e
  have hz:xs.length≤sizeLine:=by rw[← Paired.length rel];exact z
  have hl:(putK kvs k v).length≤sizeLine:=by have:=zex kvs k v;trivial
  refine wpAny_setItem_heap (hsz:=hz) (tupleKind_room_in1 hu) (zjp I.hok eb) dd fun h' dd' hs=>h _ ?_
  obtain⟨q,es,ep,hq,h2,h3,h4,_,h5⟩:=dd'
  refine zis I (by rw[e];exact True.intro) hs ⟨q,hq⟩ ⟨hl,hd,_,(rel.put k eb rv).keeps fun c ys ec=>?_,q,es,ep,hq,h2,h3,h4,h5⟩
  rw[zas (zqm ec e (fun z=>nomatch z))]
  exact ec
end
section
variable {X:Cx} {pins:List (Addr × Obj)} {σ:St} {H:Hp} {s:Shared} {a:Addr} {kvs:List (Key × V)} {k:Key} {u:Value} {A:Around} {E:Value->Shared->Prop}
end
def NoSl (i:Expr):Prop:=∀ ov iv,subscripted i false ov iv=operate [ov,iv] (getItem ov iv)
theorem zof {prog:Program} {w:World} {A:Around} {E:Value->Shared->Prop} {s:Shared} {env:Env} {value slice:Expr} {pos:Pos} {T id:String} {Q:Value->Shared->Prop}
  (hl:typeLookup (.type T) "__getitem__"=pure (some (.builtin id))) (hs:NoSl slice)
  (h:wpAny (model prog w) A (eval value env) (fun o s₁=>wpAny (model prog w) A (eval slice env) (fun i s₂=>s₂.TypeIs o T∧wpAny (model prog w) A (getItem o i) Q E s₂) E s₁) E s) :
  wpAny (model prog w) A (eval (.Subscript value slice pos) env) Q E s:=by
 refine Subscript_ (wpAny_mono h (fun o s₁ h₁=>wpAny_mono h₁ (fun i s₂ h₂=>?_) fun _ _ x=>x) fun _ _ x=>x)
 obtain⟨hT,h₂⟩:=h₂
 unfold subscriptTail
 refine wpAny_bind ?_
 rw[getitemInPython_of_ne hT.not_modules]
 refine wpAny_bind (wpAny_specialOf hT hl ?_)
 have fin:wpAny (model prog w) A (subscripted slice false o i) (fun r s₃=>wpAny (model prog w) A (letTemporaryGo value o r >>= fun _=>pure r) Q E s₃) E s₂:=by
  rw[hs o i]
  exact wpAny_operating (wpAny_mono h₂ (fun r s₃ h₃=>wpAny_bind (wpAny_letTemporaryGo (wpAny_pure h₃))) fun _ _ x=>x)
 first
  | exact wpAny_pure (wpAny_bind fin)
  | exact wpAny_bind (wpAny_pure (wpAny_bind fin))
  | exact wpAny_bind fin
theorem zir {X:Cx} {pins:List (Addr × Obj)} {σ:St} {H:Hp} {s:Shared} {a:Addr} {y:V} {o:Option V} (I:Inv X pins σ H s) (g:DGet H a y o):s.TypeIs (.ref a) "dict":=by
 rcases g with ⟨kvs,k,e,_,_⟩ | ⟨kvs,k,b,e,_,_,_⟩
 ·obtain⟨_,_,vs,_,dd⟩:=zno I.hok e
  exact dd.typeIs
 ·obtain⟨_,_,xs,_,dd⟩:=znm I.hok e
  exact dd.typeIs
def tDGet (td ty:TE):TE:=fun σ H Q=>td σ H fun x H1=>ty σ H1 fun y H2=>∃ a v,x=.ref a∧DGet H2 a y (some v)∧Q v H2
def tDNotIn (ty td:TE):TE:=fun σ H Q=>ty σ H fun y H1=>td σ H1 fun x H2=>∃ a o,x=.ref a∧DGet H2 a y o∧Q (.bl (!o.isSome)) H2
def sDPut (td ty tv:TE):TS:=fun D σ H=>tv σ H fun v H1=>td σ H1 fun x H2=>ty σ H2 fun y H3=>∃ a H4,x=.ref a∧DPut H3 a y v H4∧D.nx σ H4
section
variable {X:Cx} {o i e value:Expr} {pos pos' tpos:Pos} {td ty tv:TE}
theorem zon (hu:X.A.units + 1 < cLine) (ho:PE X o td) (hi:PE X i ty) (hs:NoSl i):PE X (.Subscript o i pos) (tDGet td ty):=by
 intro pins s σ H Q I h
 refine zof PySem.F.slot_dict_getitem.lookup hs (thn (ho pins s σ H _ I h) fun u s1 ⟨x,H1,I1,rx,q1⟩=>thn (hi pins s1 σ H1 _ I1 q1) fun iv s2 ⟨y,H2,I2,ry,a,v,ex,g,q2⟩=>?_)
 subst ex
 obtain rfl:u=Value.ref a:=rx
 exact⟨zir I2 g,zl6 hu I2 g ry fun w' s3 I3 rw'=>⟨v,H2,I3,rw',q2⟩⟩
theorem zg1 (hu:X.A.units + 1 < cLine) (hi:PE X i ty) (ho:PE X o td):PC X .NotIn i o (tDNotIn ty td):=by
 intro pins s σ H Q I h
 refine thn (hi pins s σ H _ I h) fun iv s1 ⟨y,H1,I1,ry,q1⟩=>thn (ho pins s1 σ H1 _ I1 q1) fun u s2 ⟨x,H2,I2,rx,a,ov,ex,g,q2⟩=>?_
 subst ex
 obtain rfl:u=Value.ref a:=rx
 exact zpd hu I2 g ry fun s3 I3=>⟨.bl (!ov.isSome),H2,I3,rfl,q2⟩
theorem zol (hu:X.A.units + 1 < cLine) (ho:PE X o td) (hi:PE X i ty) (hv:PE X value tv) (hs:swapsWith value (some (.Subscript o i pos')) pos.line X.env=pure false) :
  PS X (.Assign [.Subscript o i pos'] value pos) (sDPut td ty tv):=by
 intro pins s σ H D I h
 refine wpAny_Assign_Subscript (thn (hv pins s σ H _ I h) fun r s1 ⟨v,H1,I1,rv,q1⟩=>thn (ho pins s1 σ H1 _ I1 q1) fun u s2 ⟨x,H2,I2,rx,q2⟩=>thn (hi pins s2 σ H2 _ I2 q2) fun iv s3 ⟨y,H3,I3,ry,a,H4,ex,g,q3⟩=>?_) hs
 subst ex
 obtain rfl:u=Value.ref a:=rx
 exact zl5 hu I3 g ry rv fun s4 I4=>⟨σ,H4,I4,q3⟩
end
theorem znp {P:Program} {w:World} {H:Hp} (h:Heap) (hb:sysModules < h.objs.size):ObjOk P w H (h.push { cls:=.type "dict",data:=.dict #[] }) h.objs.size (.dK []) :=
 ⟨Nat.zero_le _,beq_eq_false_iff_ne.mpr (Ne.symm (Nat.ne_of_lt hb)),[],.nil,Heap.DictOf.new h⟩
section
variable {X:Cx} {pos:Pos}
end
end L2
set_option maxHeartbeats 4000000
namespace Srt
open PySem PySem.W PyProof.Rows
section
variable {N:Nat} {r:Nat->Int} {cmp:Nat->Nat->(Bool->Shared->Prop)->Shared->Prop} {s:Shared}
def ky (r:Nat->Int) (p:Array Nat) (m:Nat):Int:=r (p.getD m 0)
def Up (r:Nat->Int) (p:Array Nat) (n:Nat):Prop:=∀ i j,i≤j->j < n->ky r p i≤ky r p j
def Dn (r:Nat->Int) (p:Array Nat) (n:Nat):Prop:=∀ i j,i≤j->j < n->ky r p j≤ky r p i
def Ask (N:Nat) (r:Nat->Int) (cmp:Nat->Nat->(Bool->Shared->Prop)->Shared->Prop) (s:Shared):Prop :=
 ∀ i j C,i < N->j < N->C (decide (r i < r j)) s->cmp i j C s
def Gd (N:Nat) (p:Array Nat):Prop:=p.Perm (List.toArray (List.range N))
theorem Gd.sz {p:Array Nat} (g:Gd N p):p.size=N:=by
 have:=g.size_eq
 simpa using this
theorem Gd.lt {p:Array Nat} (g:Gd N p) (h:0 < N) (m:Nat):p.getD m 0 < N:=by
 by_cases hm:m < p.size
 ·have e:p.getD m 0=p[m]:=by simp [Array.getD,hm]
  rw[e]
  have h1:p[m] ∈ p:=Array.getElem_mem hm
  have h2:p[m] ∈ List.toArray (List.range N):=g.mem_iff.mp h1
  simpa using h2
 ·have e:p.getD m 0=0:=by simp [Array.getD,hm]
  trivial
theorem zln {p q:Array Nat} {i j:Nat} (h:p[i]?=q[j]?):ky r p i=ky r q j:=by
 have e:∀ (a:Array Nat) (k:Nat),a.getD k 0=(a[k]?).getD 0:=fun a k=>by
  by_cases hk:k < a.size <;> simp [Array.getD,hk]
 unfold ky
 rw[e,e,h]
theorem zlm {p:Array Nat} {i j:Nat} (hj:j≤p.size) (k:Nat):ky r (kas_rev p i j) k=if i≤k∧k < j then ky r p (i + j - 1 - k) else ky r p k:=by
 have e:=getElem?_mirror_all (i:=i) hj k
 by_cases h:i≤k∧k < j
 ·rw[if_pos h] at e ⊢
  exact zln e
 ·rw[if_neg h] at e ⊢
  exact zln e
theorem zp6 {p:Array Nat} {k d:Nat} (hs:k < p.size) (hd:d≤k) (m:Nat) :
  ky r (bubble p k d) m=if m=k - d then ky r p k else if k - d < m∧m≤k then ky r p (m - 1) else ky r p m:=by
 have e:=getElem?_bubble hs d hd m
 by_cases h1:m=k - d
 ·rw[if_pos h1] at e ⊢
  exact zln e
 ·rw[if_neg h1] at e ⊢
  by_cases h2:k - d < m∧m≤k
  ·rw[if_pos h2] at e ⊢
   exact zln e
  ·rw[if_neg h2] at e ⊢
   exact zln e
theorem Gd.rev {p:Array Nat} (g:Gd N p) (i j:Nat):Gd N (kas_rev p i j):=(mirror_perm p i j _).trans g
theorem Gd.bub {p:Array Nat} (g:Gd N p) (i j:Nat):Gd N (bubble p i j):=(bubble_perm p i j).trans g
theorem zmg (h:Ask N r cmp s) (hN:0 < N) {p:Array Nat} (g:Gd N p) {Q:Nat->Shared->Prop}:∀ f n,1≤n->Up r p n ->
  (∀ m,n≤m->m≤n + f->Up r p m->(m < n + f->ky r p m < ky r p (m - 1))->Q m s)->(kas_asc p f n).kasWp cmp Q s
 | 0,n,_,hu,q=>q n (Nat.le_refl _) (Nat.le_refl _) hu (fun z=>absurd z (Nat.lt_irrefl _))
 | f + 1,n,h1,hu,q=>by
  refine h _ _ _ (g.lt hN _) (g.lt hN _) ?_
  by_cases c:r (p.getD n 0) < r (p.getD (n - 1) 0)
  ·rw[decide_eq_true c]
   exact q n (Nat.le_refl _) (by trivial) hu (fun _=>c)
  ·rw[decide_eq_false c]
   refine zmg h hN g f (n + 1) (by trivial) (fun i j hij hj=>?_) (fun m a b u d=>q m (by trivial) (by trivial) u (fun z=>d (by trivial)))
   have c':ky r p (n - 1)≤ky r p n:=by unfold ky;trivial
   by_cases e:j=n
   ·subst e
    by_cases e2:i=j
    ·subst e2;exact Int.le_refl _
    ·exact Int.le_trans (hu i (j - 1) (by trivial) (by trivial)) c'
   ·exact hu i j hij (by trivial)
theorem zez {p:Array Nat} {i j:Nat} (hj:j≤p.size) (v:Int) (he:∀ k,i≤k->k < j->ky r p k=v) (k:Nat):ky r (kas_rev p i j) k=ky r p k:=by
 rw[zlm hj]
 split
 ·rename_i c
  rw[he _ (by trivial) (by trivial),he k c.1 c.2]
 ·rfl
theorem zgn (h:Ask N r cmp s) (hN:0 < N) {Q:Array Nat × Nat × Nat->Shared->Prop}:∀ f p n q,Gd N p->1≤n->n + f≤N->Dn r p n->q + 1≤n->(∀ i,n - (q + 1)≤i->i < n->ky r p i=ky r p (n - 1)) ->
  (∀ p' n' q',Gd N p'->n≤n'->n'≤n + f->Dn r p' n'->q' + 1≤n'->(∀ i,n' - (q' + 1)≤i->i < n'->ky r p' i=ky r p' (n' - 1))->Q (p',n',q') s)->(kas_desc f p n q).kasWp cmp Q s
 | 0,p,n,q,g,_,_,hd,hq,he,z=>z p n q g (Nat.le_refl _) (Nat.le_refl _) hd hq he
 | f + 1,p,n,q,g,h1,hf,hd,hq,he,z=>by
  refine h _ _ _ (g.lt hN _) (g.lt hN _) ?_
  by_cases c:r (p.getD n 0) < r (p.getD (n - 1) 0)
  ·rw[decide_eq_true c]
   have c':ky r p n < ky r p (n - 1):=c
   have dn:∀ {p':Array Nat},(∀ k,ky r p' k=ky r p k)->Dn r p' (n + 1):=fun e i j hij hj=>by
    rw[e,e]
    by_cases ej:j=n
    ·subst ej
     by_cases ei:i=j
     ·subst ei;exact Int.le_refl _
     ·exact Int.le_trans (Int.le_of_lt c') (hd i (j - 1) (by trivial) (by trivial))
    ·exact hd i j hij (by trivial)
   show KasT.kasWp cmp (if q > 0 then kas_desc f (kas_rev p (n - (q + 1)) n) (n + 1) 0 else kas_desc f p (n + 1) 0) Q s
   by_cases hq0:q > 0
   ·rw[if_pos hq0]
    have e:=zez (r:=r) (p:=p) (i:=n - (q + 1)) (j:=n) (by rw[g.sz];trivial) (ky r p (n - 1)) he
    exact zgn h hN f _ (n + 1) 0 (g.rev _ _) (by trivial) (by trivial) (dn e) (by trivial) (fun i a b=>by congr 1;trivial)
     (fun p' n' q' g' a b d e1 e2=>z p' n' q' g' (by trivial) (by trivial) d e1 e2)
   ·rw[if_neg hq0]
    exact zgn h hN f _ (n + 1) 0 g (by trivial) (by trivial) (dn fun _=>rfl) (by trivial) (fun i a b=>by congr 1;trivial)
     (fun p' n' q' g' a b d e1 e2=>z p' n' q' g' (by trivial) (by trivial) d e1 e2)
  ·rw[decide_eq_false c]
   refine h _ _ _ (g.lt hN _) (g.lt hN _) ?_
   by_cases d:r (p.getD (n - 1) 0) < r (p.getD n 0)
   ·rw[decide_eq_true d]
    exact z p n q g (Nat.le_refl _) (by trivial) hd hq he
   ·rw[decide_eq_false d]
    have e:ky r p n=ky r p (n - 1):=by unfold ky;trivial
    refine zgn h hN f p (n + 1) (q + 1) g (by trivial) (by trivial) (fun i j hij hj=>?_) (by trivial) (fun i a b=>?_)
     (fun p' n' q' g' a b d e1 e2=>z p' n' q' g' (by trivial) (by trivial) d e1 e2)
    ·by_cases ej:j=n
     ·subst ej
      by_cases ei:i=j
      ·subst ei;exact Int.le_refl _
      ·rw[e];exact hd i (j - 1) (by trivial) (by trivial)
     ·exact hd i j hij (by trivial)
    ·rw[show n + 1 - 1=n by trivial]
     by_cases ei:i=n
     ·rw[ei]
     ·rw[e];exact he i (by trivial) (by trivial)
theorem zja (h:Ask N r cmp s) (hN:0 < N) {Q:Nat × Array Nat->Shared->Prop} {p:Array Nat} {n:Nat} (g:Gd N p) (h1:1≤n) (hn:n≤N) (hd:Dn r p n)
  (z:∀ m p',Gd N p'->1≤m->m≤N->Up r p' m->Q (m,p') s):(kas_tail3 n N p).kasWp cmp Q s:=by
 unfold kas_tail3
 rw[KasT.kasWp_bind]
 refine zmg h hN (g.rev 0 n) _ n h1 (fun i j hij hj=>?_) (fun m a b u _=>z m _ (g.rev 0 n) (by trivial) (by trivial) u)
 rw[zlm (by rw[g.sz];trivial),zlm (by rw[g.sz];trivial),if_pos (by trivial),if_pos (by trivial)]
 exact hd _ _ (by trivial) (by trivial)
theorem ze3 (h:Ask N r cmp s) (hN:0 < N) {Q:Nat × Array Nat->Shared->Prop} {p:Array Nat} {n:Nat} (g:Gd N p) (h1:1≤n) (hn:n + 1≤N) (hd:Dn r p (n + 1))
  (z:∀ m p',Gd N p'->1≤m->m≤N->Up r p' m->Q (m,p') s):(kas_descPart n N p).kasWp cmp Q s:=by
 unfold kas_descPart
 rw[KasT.kasWp_bind]
 refine zgn h hN _ p (n + 1) 0 g (by trivial) (by trivial) hd (by trivial) (fun i a b=>by congr 1;trivial) (fun p' n' q' g' a b d e1 e2=>?_)
 show KasT.kasWp cmp (if q' > 0 then kas_tail3 n' N (kas_rev p' (n' - (q' + 1)) n') else kas_tail3 n' N p') Q s
 by_cases hq:q' > 0
 ·rw[if_pos hq]
  have e:=zez (r:=r) (p:=p') (i:=n' - (q' + 1)) (j:=n') (by rw[g'.sz];trivial) (ky r p' (n' - 1)) e2
  exact zja h hN (g'.rev _ _) (by trivial) (by trivial) (fun i j hij hj=>by rw[e,e];exact d i j hij hj) z
 ·rw[if_neg hq]
  exact zja h hN g' (by trivial) (by trivial) d z
theorem znr (h:Ask N r cmp s) (hN:0 < N) {Q:Nat × Array Nat->Shared->Prop} {p:Array Nat} (g:Gd N p)
  (z:∀ m p',Gd N p'->1≤m->m≤N->Up r p' m->Q (m,p') s):(kas_count N p).kasWp cmp Q s:=by
 unfold kas_count
 rw[KasT.kasWp_bind]
 refine zmg h hN g _ 1 (Nat.le_refl _) (fun i j hij hj=>?_) (fun m a b u d=>?_)
 ·have:i=j:=by trivial
  subst this;exact Int.le_refl _
 show KasT.kasWp cmp (if (m == N)=true then .ret (m,p) else if m > 1 then .ask (p.getD 0 0) (p.getD (m - 1) 0) fun c=>if c=true then .ret (m,p) else kas_descPart m N (kas_rev p 0 m) else kas_descPart m N p) Q s
 by_cases hm:m=N
 ·rw[if_pos (by simpa using hm)]
  exact z m p g a (by trivial) u
 ·rw[if_neg (by simpa using hm)]
  have d':=d (by trivial)
  by_cases h1:m > 1
  ·rw[if_pos h1]
   refine h _ _ _ (g.lt hN _) (g.lt hN _) ?_
   by_cases c:r (p.getD 0 0) < r (p.getD (m - 1) 0)
   ·rw[decide_eq_true c]
    exact z m p g a (by trivial) u
   ·rw[decide_eq_false c]
    have c':ky r p (m - 1)≤ky r p 0:=by unfold ky;trivial
    have eq:∀ k,0≤k->k < m->ky r p k=ky r p 0:=fun k _ hk=>by
     have a1:=u 0 k (by trivial) hk
     have a2:=u k (m - 1) (by trivial) (by trivial)
     trivial
    have e:=zez (r:=r) (p:=p) (i:=0) (j:=m) (by rw[g.sz];trivial) (ky r p 0) eq
    refine ze3 h hN (g.rev 0 m) (by trivial) (by trivial) (fun i j hij hj=>?_) z
    rw[e,e]
    by_cases ej:j=m
    ·subst ej
     by_cases ei:i=j
     ·subst ei;exact Int.le_refl _
     ·rw[eq i (by trivial) (by trivial)]
      have:=eq (j - 1) (by trivial) (by trivial)
      trivial
    ·rw[eq i (by trivial) (by trivial),eq j (by trivial) (by trivial)]
     exact Int.le_refl _
  ·rw[if_neg h1]
   have e1:m=1:=by trivial
   subst e1
   refine ze3 h hN g (by trivial) (by trivial) (fun i j hij hj=>?_) z
   by_cases ej:j=1
   ·subst ej
    by_cases ei:i=1
    ·subst ei;exact Int.le_refl _
    ·have:i=0:=by trivial
     subst this
     exact Int.le_of_lt d'
   ·have:i=j:=by trivial
    subst this;exact Int.le_refl _
theorem zf8 (h:Ask N r cmp s) (hN:0 < N) {Q:Nat->Shared->Prop} {p:Array Nat} {k:Nat} (g:Gd N p) (hu:Up r p k):∀ f l rr,l≤rr->rr≤k->rr - l≤f->(∀ i,i < l->ky r p i≤ky r p k)->(∀ i,rr≤i->i < k->ky r p k < ky r p i) ->
  (∀ l',l'≤k->(∀ i,i < l'->ky r p i≤ky r p k)->(∀ i,l'≤i->i < k->ky r p k < ky r p i)->Q l' s)->(kas_place p k f l rr).kasWp cmp Q s
 | 0,l,rr,h1,h2,h3,a,b,z=>z l (by trivial) a (fun i x y=>b i (by trivial) y)
 | f + 1,l,rr,h1,h2,h3,a,b,z=>by
  unfold kas_place
  by_cases hl:l ≥ rr
  ·rw[if_pos hl]
   exact z l (by trivial) a (fun i x y=>b i (by trivial) y)
  ·rw[if_neg hl]
   refine h _ _ _ (g.lt hN _) (g.lt hN _) ?_
   by_cases c:r (p.getD k 0) < r (p.getD ((l + rr) / 2) 0)
   ·rw[decide_eq_true c]
    have c':ky r p k < ky r p ((l + rr) / 2):=c
    exact zf8 h hN g hu f l ((l + rr) / 2) (by trivial) (by trivial) (by trivial) a (fun i x y=>Int.lt_of_lt_of_le c' (hu _ _ x y)) z
   ·rw[decide_eq_false c]
    have c':ky r p ((l + rr) / 2)≤ky r p k:=by unfold ky;trivial
    exact zf8 h hN g hu f ((l + rr) / 2 + 1) rr (by trivial) (by trivial) (by trivial) (fun i x=>Int.le_trans (hu i ((l + rr) / 2) (by trivial) (by trivial)) c') b z
theorem zn7 (h:Ask N r cmp s) (hN:0 < N) {Q:Array Nat->Shared->Prop}:∀ f p k,Gd N p->k + f≤N->Up r p k->(∀ p',Gd N p'->Up r p' (k + f)->Q p' s)->(kas_bin f p k).kasWp cmp Q s
 | 0,p,k,g,_,hu,z=>z p g hu
 | f + 1,p,k,g,hk,hu,z=>by
  unfold kas_bin
  rw[KasT.kasWp_bind]
  refine zf8 h hN g hu k 0 k (by trivial) (Nat.le_refl _) (by trivial) (fun i x=>absurd x (Nat.not_lt_zero _)) (fun i x y=>absurd (Nat.lt_of_le_of_lt x y) (Nat.lt_irrefl _)) (fun l hl a b=>?_)
  have e:=fun m=>zp6 (r:=r) (p:=p) (k:=k) (d:=k - l) (by rw[g.sz];trivial) (by trivial) m
  refine zn7 h hN f _ (k + 1) (g.bub _ _) (by trivial) (fun i j hij hj=>?_) (fun p' g' u'=>z p' g' (by rw[show k + (f + 1)=k + 1 + f by trivial];exact u'))
  rw[e,e]
  have ekl:k - (k - l)=l:=by trivial
  rw[ekl]
  by_cases i1:i=l
  ·rw[if_pos i1]
   by_cases j1:j=l
   ·rw[if_pos j1];exact Int.le_refl _
   ·rw[if_neg j1,if_pos (by trivial)]
    exact Int.le_of_lt (b _ (by trivial) (by trivial))
  ·rw[if_neg i1]
   by_cases i2:l < i∧i≤k
   ·rw[if_pos i2,if_neg (by trivial),if_pos (by trivial)]
    exact hu _ _ (by trivial) (by trivial)
   ·rw[if_neg i2]
    by_cases j1:j=l
    ·rw[if_pos j1];exact a _ (by trivial)
    ·rw[if_neg j1]
     by_cases j2:l < j∧j≤k
     ·rw[if_pos j2];exact hu _ _ (by trivial) (by trivial)
     ·rw[if_neg j2];exact hu _ _ hij (by trivial)
theorem zog (h:Ask N r cmp s) (hN:0 < N) {Q:Array Nat->Shared->Prop} (z:∀ p,Gd N p->Up r p N->Q p s):(kas_sort N).kasWp cmp Q s:=by
 unfold kas_sort
 rw[KasT.kasWp_bind]
 refine znr h hN (Array.Perm.refl _) (fun m p g h1 hm u=>?_)
 show KasT.kasWp cmp (if m < N then kas_bin (N - max m 1) p (max m 1) else .ret p) Q s
 by_cases c:m < N
 ·rw[if_pos c,Nat.max_eq_left h1]
  exact zn7 h hN _ p m g (by trivial) u (fun p' g' u'=>z p' g' (by rw[show m + (N - m)=N by trivial] at u';exact u'))
 ·rw[if_neg c]
  have:m=N:=by trivial
  subst this
  exact z p g u
end
end Srt
namespace Srt
open PySem PySem.W PyProof.Rows
section
variable {n:Nat} {lt:Nat->Nat->Bool}
def rank (n:Nat) (lt:Nat->Nat->Bool) (i:Nat):Int:=(((List.range n).countP fun k=>lt k i:Nat):Int)
theorem zdn {α:Type} {p q:α->Bool}:∀ {l:List α} {x:α},(∀ y ∈ l,p y=true->q y=true)->x ∈ l->p x=false->q x=true->l.countP p < l.countP q
 | [],_,_,hx,_,_=>by cases hx
 | a::r,x,h,hx,hp,hq=>by
  have hr:∀ y ∈ r,p y=true->q y=true:=fun y hy=>h y (List.mem_cons_of_mem _ hy)
  have mono:r.countP p≤r.countP q:=List.countP_mono_left hr
  rw[List.countP_cons,List.countP_cons]
  rcases List.mem_cons.mp hx with e | hx
  ·subst e
   simp only [hp,hq,Bool.false_eq_true,if_false,if_true]
   trivial
  ·have ih:=zdn hr hx hp hq
   cases hpa:p a with
   | false=>simp only [Bool.false_eq_true,if_false];split <;> trivial
   | true =>
    have:=h a List.mem_cons_self hpa
    simp only [this,if_true]
    trivial
theorem zk1 (hi:∀ i,lt i i=false) (ht:∀ i j k,i < n->j < n->k < n->lt i j=true->lt j k=true->lt i k=true) (hn:∀ i j k,i < n->j < n->k < n->lt i k=true->lt i j=true∨lt j k=true)
  {i j:Nat} (h1:i < n) (h2:j < n):decide (rank n lt i < rank n lt j)=lt i j:=by
 unfold rank
 cases e:lt i j with
 | true =>
  refine decide_eq_true ?_
  have:=zdn (p:=fun k=>lt k i) (q:=fun k=>lt k j) (l:=List.range n) (x:=i) (fun k hk q=>ht k i j (List.mem_range.mp hk) h1 h2 q e) (List.mem_range.mpr h1) (hi i) e
  trivial
 | false =>
  refine decide_eq_false ?_
  have:(List.range n).countP (fun k=>lt k j)≤(List.range n).countP (fun k=>lt k i):=List.countP_mono_left fun k hk q=>by
   rcases hn k i j (List.mem_range.mp hk) h1 h2 q with z | z
   ·exact z
   ·rw[e] at z;cases z
  trivial
end
section
variable {prog:Program} {w:World} {A:Around} {E:Value->Shared->Prop} {s:Shared}
abbrev Stay (a:Addr) (h h':Heap):Prop:=∀ b o,b≠a->h.get? b=some o->h'.get? b=some o
def outOf (vs:List Value) (p:Array Nat):List Value:=p.toList.map fun i=>vs.getD i Value.none
theorem zk9 (vs:List Value):outOf vs (List.toArray (List.range vs.length))=vs:=by
 unfold outOf
 refine List.ext_getElem (by simp) fun i h1 h2=>?_
 simp
 rw[List.getElem?_eq_getElem h2]
 rfl
theorem zqb {vs:List Value} {p:Array Nat} (g:Gd vs.length p):(outOf vs p).length=vs.length:=by
 unfold outOf
 rw[List.length_map,Array.length_toList,g.sz]
theorem lsort {a:Addr} {vs:List Value} {n:Nat} {P:PySem.Fin->Shared->Prop} {r:Nat->Int} {κ:SortKind} (ho:s.heap.get? a=some (seqObj "list" vs.toArray n)) (h64:vs.length < 64)
  (hk:2≤vs.length->∀ (s':Shared) (Q:SortKind->Shared->Prop),Stay a s.heap s'.heap->Q κ s'->wpAny (model prog w) A (keyKind' vs.toArray) Q (fun _ _=>False) s')
  (hc:∀ (s':Shared) (i j:Nat) (C:Bool->Shared->Prop),Stay a s.heap s'.heap->i < vs.length->j < vs.length->C (decide (r i < r j)) s'->kas_ask prog w A κ vs i j C s')
  (h:∀ (p:Array Nat) (h':Heap) (c:Nat),Gd vs.length p->Up r p vs.length->Stay a s.heap h'->h'.get? a=some (seqObj "list" (outOf vs p).toArray c)->P (.done (.ret .none)) { s with heap:=h' }) :
  wpAny (model prog w) A (Builtin.«list.sort» ⟨[.ref a],[]⟩) P E s:=by
 rw[list_sort_plain]
 have ha:a < s.heap.objs.size:=Heap.lt_size ho
 have line:(64:Nat)≤sizeLine:=by rw[sizeLine_eq];decide
 refine wpAny_bind (listItems_at ho rfl (wpAny_bind (listUpdate_at ho rfl ?_ (by rw[List.size_toArray];trivial) (Nat.zero_le _))))
 have e1:=get?_update_seq ho fun _=>(#[]:Array Value)
 generalize (if ((fun _=>(#[]:Array Value)) vs.toArray).size == vs.toArray.size then n else n + 1)=n1 at e1
 have k1:Stay a s.heap (s.heap.update a (Obj.mapSeq fun _=>(#[]:Array Value))):=fun b o hb q=>(Heap.get?_update_other s.heap _ (Ne.symm hb)).trans q
 refine wpAny_bind (seqEpoch_at e1 rfl (wpAny_bind (wpAny_newTuple ?_ (by show vs.length≤_;trivial))))
 refine wpAny_bind (wpAny_newList ?_ (Nat.zero_le _))
 refine wpAny_holding ?_
 show wpAny (model prog w) A _ P E { s with heap:=(((s.heap.update a (Obj.mapSeq fun _=>(#[]:Array Value))).push (seqObj "tuple" vs.toArray 0)).push (seqObj "list" #[] 0):Heap) }
 generalize hg:((s.heap.update a (Obj.mapSeq fun _=>(#[]:Array Value))).push (seqObj "tuple" vs.toArray 0)).push (seqObj "list" #[] 0)=g
 have e2:g.get? a=some (seqObj "list" #[] n1):=by rw[← hg];exact Heap.get?_push_of_some _ (Heap.get?_push_of_some _ e1)
 have k2:Stay a s.heap g:=fun b o hb q=>by rw[← hg];exact Heap.get?_push_of_some _ (Heap.get?_push_of_some _ (k1 b o hb q))
 have fin:∀ (p:Array Nat),Gd vs.length p->Up r p vs.length->P (.done (.ret .none)) { s with heap:=g.update a (Obj.mapSeq fun _=>(outOf vs p).toArray) }:=fun p g1 u1 =>
  h p _ _ g1 u1 (fun b o hb q=>(Heap.get?_update_other g _ (Ne.symm hb)).trans (k2 b o hb q)) (get?_update_seq e2 fun _=>(outOf vs p).toArray)
 by_cases h2:vs.length < 2
 ·have h2':vs.toArray.size < 2:=by rw[List.size_toArray];exact h2
  simp only [if_pos h2']
  refine wpAny_bind (wpAny_pure ?_)
  rw[StateT.run_pure]
  refine wpAny_bind (wpAny_pure ?_)
  have eo:((arrOf (SortSt.mk' general' (vs.toArray.zip vs.toArray) #[] 7 none)).map (·.2))=vs.toArray:=by
   apply Array.toList_inj.mp
   show ((vs.toArray.zip vs.toArray).map (·.2)).toList=_
   rw[Array.toList_map]
   simp only [Array.toList_zip,List.toList_toArray]
   exact List.map_snd_zip (Nat.le_refl _)
  dsimp only
  refine wpAny_bind (seqEpoch_at e2 rfl ?_)
  rw[eo]
  refine wpAny_bind (listUpdate_at e2 rfl ?_ (Nat.zero_le _) (by rw[List.size_toArray];trivial))
  simp only [bne_self_eq_false,Bool.false_eq_true,if_false]
  have f:=fin (List.toArray (List.range vs.length)) (Array.Perm.refl _) (fun i j hij hj=>by
   have:i=j:=by trivial
   subst this;exact Int.le_refl _)
  rw[zk9] at f
  exact wpAny_pure f
 ·have h2':¬ vs.toArray.size < 2:=by rw[List.size_toArray];exact h2
  simp only [if_neg h2']
  refine wpAny_bind (wpAny_mono (hk (by trivial) { s with heap:=g } (fun κ' s'=>κ'=κ∧s'={ s with heap:=g }) k2 ⟨rfl,rfl⟩) (fun κ' s' hq=>?_) fun _ _ x=>x.elim)
  obtain⟨rfl,rfl⟩:=hq
  refine wpAny_bind (wpAny_mono (kat_run (ks:=vs) (Q:=fun st' s'=>∃ p:Array Nat,arrOf st'=p.map (kas_item (vs.toArray.zip vs.toArray))∧failedOf st'=none∧s'={ s with heap:=g }∧Gd vs.length p∧Up r p vs.length)
   (G:=fun p s'=>s'={ s with heap:=g }∧Gd vs.length p∧Up r p vs.length) rfl (by trivial) h64 (fun p st' s' _ b2 b3 b4=>⟨p,b2,b3,b4.1,b4.2.1,b4.2.2⟩)
   (zog (r:=r) (fun i j C hi hj q=>hc _ i j C k2 hi hj q) (by trivial) fun p g1 u1=>⟨rfl,g1,u1⟩)) ?_ fun _ _ e=>e)
  rintro ⟨⟨⟩,st'⟩ s' ⟨p,har,hf,rfl,g1,u1⟩
  have hout:=kat_snds (ks:=vs) (vs:=vs) rfl har
  have ol:(outOf vs p).length=vs.length:=zqb g1
  dsimp only
  rw[hout]
  refine wpAny_bind (seqEpoch_at e2 rfl ?_)
  refine wpAny_bind (listUpdate_at e2 rfl ?_ (Nat.zero_le _) (by show (outOf vs p).toArray.size≤_;rw[List.size_toArray];trivial))
  rw[hf]
  simp only [bne_self_eq_false,Bool.false_eq_true,if_false]
  exact wpAny_pure (fin p g1 u1)
theorem zgy {l:Addr} {vs:List Value} {Q:Value->Shared->Prop} {r:Nat->Int} {κ:SortKind} (hl:s.heap.IsList l vs.toArray) (h64:vs.length < 64)
  (hk:2≤vs.length->∀ (A':Around) (s':Shared) (Q:SortKind->Shared->Prop),(∀ b o,s.heap.get? b=some o->s'.heap.get? b=some o)->Q κ s'->wpAny (model prog w) A' (keyKind' vs.toArray) Q (fun _ _=>False) s')
  (hc:∀ (A':Around) (s':Shared) (i j:Nat) (C:Bool->Shared->Prop),(∀ b o,s.heap.get? b=some o->s'.heap.get? b=some o)->i < vs.length->j < vs.length->C (decide (r i < r j)) s'->kas_ask prog w A' κ vs i j C s')
  (h:∀ (p:Array Nat) (h':Heap) (c:Nat),Gd vs.length p->Up r p vs.length->(∀ b o,s.heap.get? b=some o->h'.get? b=some o)->h'.get? (s.heap.objs.size + 1)=some (seqObj "list" (outOf vs p).toArray c)->Q (.ref (s.heap.objs.size + 1)) { s with heap:=h' }) :
  wpAny (model prog w) A (call (.builtin "sorted") [.ref l]) Q E s:=by
 have line:(64:Nat)≤sizeLine:=by rw[sizeLine_eq];decide
 refine Calls.call_function_entry kind_sorted plain_sorted entry_sorted (args_sorted1 _) ?_
 unfold Builtin.«sorted»
 refine wpAny_bind (m:=checkCount "sorted" 1 1 _) (wpAny_pure (wpAny_bind (collect_list hl (wpAny_bind (wpAny_newList ?_ (by trivial))) (by trivial))))
 generalize hg:(s.heap.push (seqObj "list" #[] 0)).update s.heap.objs.size (Obj.mapSeq (·++vs.toArray))=g
 have sz:g.objs.size=s.heap.objs.size + 1:=by rw[← hg,Heap.size_update,size_push']
 have k1:∀ b o,s.heap.get? b=some o->g.get? b=some o:=fun b o q=>by
  rw[← hg]
  exact (Heap.get?_update_other _ _ (Ne.symm (Nat.ne_of_lt (Heap.lt_size q)))).trans (Heap.get?_push_of_some _ q)
 have hoL:(g.push { cls:=.type "list",data:=.seq vs.toArray }).get? (s.heap.objs.size + 1)=some (seqObj "list" vs.toArray 0):=by rw[← sz];exact Heap.get?_push_size _ rfl
 have k2:∀ b o,s.heap.get? b=some o->(g.push { cls:=.type "list",data:=.seq vs.toArray }).get? b=some o:=fun b o q=>Heap.get?_push_of_some _ (k1 b o q)
 have ne:∀ b o,s.heap.get? b=some o->b≠s.heap.objs.size + 1:=fun b o q=>Nat.ne_of_lt (Nat.lt_succ_of_lt (Heap.lt_size q))
 show wpAny _ _ _ _ _ { s with heap:=g.push { cls:=.type "list",data:=.seq vs.toArray } }
 rw[sz]
 refine wpAny_bind (wpAny_holding (wpAny_call_entry slot_list_sort ⟨_,hoL,rfl⟩ entry_list_sort ?_ (args_list_sort _)))
 refine lsort (s:={ s with heap:=g.push { cls:=.type "list",data:=.seq vs.toArray } }) (r:=r) (κ:=κ) hoL h64 (fun h2 s' Q' st q=>hk h2 _ s' Q' (fun b o e=>st b o (ne b o e) (k2 b o e)) q)
  (fun s' i j C st hi hj q=>hc _ s' i j C (fun b o e=>st b o (ne b o e) (k2 b o e)) hi hj q) fun p h' c g1 u1 st e=>⟨_,rfl,?_⟩
 exact wpAny_pure ⟨_,rfl,h p h' c g1 u1 (fun b o e=>st b o (ne b o e) (k2 b o e)) e⟩
def lexI:List Int->List Int->Bool
 | [],[]=>false
 | [],_::_=>true
 | _::_,[]=>false
 | x::xs,y::ys=>if x=y then lexI xs ys else decide (x < y)
theorem zgg:∀ xs,lexI xs xs=false
 | []=>rfl
 | x::xs=>by show (if x=x then lexI xs xs else _)=false;rw[if_pos rfl];exact zgg xs
theorem zdy:∀ xs ys zs,lexI xs ys=true->lexI ys zs=true->lexI xs zs=true
 | [],[],_,h,_=>by cases h
 | [],_::_,[],_,h=>by cases h
 | [],_::_,_::_,_,_=>rfl
 | _::_,[],_,h,_=>by cases h
 | _::_,_::_,[],_,h=>by cases h
 | x::xs,y::ys,z::zs,h1,h2=>by
  simp only [lexI] at h1 h2 ⊢
  by_cases e1:x=y
  ·subst e1
   rw[if_pos rfl] at h1
   by_cases e2:x=z
   ·rw[if_pos e2] at h2 ⊢;exact zdy xs ys zs h1 h2
   ·rw[if_neg e2] at h2 ⊢;exact h2
  ·rw[if_neg e1] at h1
   have l1:x < y:=of_decide_eq_true h1
   by_cases e2:y=z
   ·subst e2
    rw[if_neg e1];exact h1
   ·rw[if_neg e2] at h2
    have l2:y < z:=of_decide_eq_true h2
    rw[if_neg (by trivial)]
    exact decide_eq_true (by trivial)
theorem zgf:∀ xs ys zs,lexI xs zs=true->lexI xs ys=true∨lexI ys zs=true
 | [],[],_,h=>.inr h
 | [],_::_,_,_=>.inl rfl
 | _::_,_,[],h=>by cases h
 | _::_,[],_::_,_=>.inr rfl
 | x::xs,y::ys,z::zs,h=>by
  simp only [lexI] at h ⊢
  by_cases e:x=z
  ·subst e
   rw[if_pos rfl] at h
   by_cases e1:x=y
   ·subst e1
    rw[if_pos rfl,if_pos rfl];exact zgf xs ys zs h
   ·rw[if_neg e1,if_neg (Ne.symm e1)]
    by_cases l:x < y
    ·exact .inl (decide_eq_true l)
    ·exact .inr (decide_eq_true (by trivial))
  ·rw[if_neg e] at h
   have l:x < z:=of_decide_eq_true h
   by_cases e1:x=y
   ·subst e1
    rw[if_neg e];exact .inr h
   ·by_cases e2:y=z
    ·subst e2
     rw[if_neg e1];exact .inl h
    ·rw[if_neg e1,if_neg e2]
     by_cases l1:x < y
     ·exact .inl (decide_eq_true l1)
     ·exact .inr (decide_eq_true (by trivial))
def TupI (h:Heap) (v:Value) (k:List Int):Prop:=∃ a o its n,v=.ref a∧h.get? a=some o∧o.cls=.type "tuple"∧o.data=.seq its n∧IntsAre its.toList k
theorem TupI.to {h h':Heap} {v:Value} {k:List Int} (t:TupI h v k) (e:∀ b o,h.get? b=some o->h'.get? b=some o):TupI h' v k :=
 let ⟨a,o,its,n,q1,q2,q3⟩:=t
 ⟨a,o,its,n,q1,e _ _ q2,q3⟩
theorem katI {C:Bool->Shared->Prop}:∀ {xs ys:List Value} {k k':List Int} (i:Nat),IntsAre xs k->IntsAre ys k'->C (lexI k k') s->KatLex prog w A true (decide (k.length < k'.length)) C (xs.zip ys) i s
 | _,_,_,_,i,.nil,.nil,h=>h
 | _,_,_,_,i,.nil,.cons c u h',h=>by
  rw[List.zip_nil_left]
  refine kat_nil ?_
  rw[decide_eq_true (by simp)]
  exact h
 | _,_,_,_,i,.cons a t h',.nil,h=>by
  rw[List.zip_nil_right]
  refine kat_nil ?_
  rw[decide_eq_false (by simp)]
  exact h
 | _,_,_,_,i,.cons a t (vs:=xs) (ns:=k) h1,.cons c u (vs:=ys) (ns:=k') h2,h=>by
  rw[List.zip_cons_cons]
  refine kat_cons (wpAny_eqBool_int ?_)
  have ef:decide ((a::k).length < (c::k').length)=decide (k.length < k'.length):=by simp
  have hh:C (if a=c then lexI k k' else decide (a < c)) s:=h
  rw[ef]
  by_cases e:a=c
  ·rw[if_pos e] at hh
   rw[show (a == c)=true by simpa using e]
   exact kat_yes (katI (i + 1) h1 h2 hh)
  ·rw[if_neg e] at hh
   rw[show (a == c)=false by simpa using e]
   refine kat_no ?_
   cases hi:(true && i == 0) with
   | true=>exact oneLt_int hh
   | false=>exact kat_one _ _ (lt_int hh)
theorem zob {vs:List Value} {ks:List (List Int)} (hk:Paired (TupI s.heap) vs ks) {i j:Nat} {C:Bool->Shared->Prop} (hi:i < vs.length) (hj:j < vs.length) (h:C (lexI (ks.getD i []) (ks.getD j [])) s):kas_ask prog w A (tuples' true) vs i j C s:=by
 have at_:∀ {vs:List Value} {ks:List (List Int)} (i:Nat),Paired (TupI s.heap) vs ks->i < vs.length->TupI s.heap (vs.getD i Value.none) (ks.getD i []):=by
  intro vs ks i p
  induction p generalizing i with
  | nil=>intro h;exact absurd h (by simp)
  | cons r t ih =>
   intro h
   cases i with
   | zero=>exact r
   | succ i=>exact ih i (by simpa using h)
 obtain⟨a,o,its,n,e1,q1,q2,q3,q4⟩:=at_ i hk hi
 obtain⟨a',o',its',n',e1',q1',q2',q3',q4'⟩:=at_ j hk hj
 unfold kas_ask
 rw[e1,e1']
 refine kat_lt q1 q3 q1' q3' ?_
 have l1:its.size=(ks.getD i []).length:=by have:=q4.length;simpa using this
 have l2:its'.size=(ks.getD j []).length:=by have:=q4'.length;simpa using this
 rw[l1,l2]
 exact katI 0 q4 q4' h
theorem zmo {vs:List Value} {ks:List (List Int)} (hk:Paired (TupI s.heap) vs ks) (hne:∀ k ∈ ks,k≠[]) (h2:2≤vs.length) {Q:SortKind->Shared->Prop} (h:Q (tuples' true) s):wpAny (model prog w) A (keyKind' vs.toArray) Q E s:=by
 have mk:∀ {vs:List Value} {ks:List (List Int)},Paired (TupI s.heap) vs ks->(∀ k ∈ ks,k≠[])->∃ fs:List Value,KatTups s.heap vs fs∧fs.length=vs.length∧∀ f ∈ fs,∃ n t,f=.int n t:=by
  intro vs ks p
  induction p with
  | nil=>exact fun _=>⟨[],.nil,rfl,fun f hf=>nomatch hf⟩
  | cons r t ih =>
   intro hn
   obtain⟨fs,g1,g2,g3⟩:=ih fun k hk=>hn k (List.mem_cons_of_mem _ hk)
   obtain⟨a,o,its,n,e1,q1,q2,q3,q4⟩:=r
   have hne:=hn _ List.mem_cons_self
   subst e1
   cases hz:its.toList with
   | nil=>rw[hz] at q4;cases q4;exact absurd rfl hne
   | cons v r =>
    rw[hz] at q4
    obtain⟨m,tk,ev⟩:=q4.all v List.mem_cons_self
    refine⟨v::fs,.cons q1 q2 q3 ?_ g1,by simp [g2],fun f hf=>?_⟩
    ·rw[← Array.getElem?_toList,hz];rfl
    ·rcases List.mem_cons.mp hf with e | hf
     ·exact⟨m,tk,e.trans ev⟩
     ·exact g3 f hf
 obtain⟨fs,g1,g2,g3⟩:=mk hk hne
 refine kat_kind (T:=.type "int") g1 (by trivial) (fun v hv=>?_) (by decide +kernel) h
 obtain⟨m,tk,rfl⟩:=g3 v hv
 exact Looks.of_pure rfl
theorem zly {vs:List Value} {ns:List Int} (hk:IntsAre vs ns) {i j:Nat} {C:Bool->Shared->Prop} (hi:i < vs.length) (hj:j < vs.length) (h:C (decide (ns.getD i 0 < ns.getD j 0)) s):kas_ask prog w A oneType' vs i j C s:=by
 have at_:∀ {vs:List Value} {ns:List Int} (i:Nat),IntsAre vs ns->i < vs.length->∃ t,vs.getD i Value.none=.int (ns.getD i 0) t:=by
  intro vs ns i p
  induction p generalizing i with
  | nil=>intro h;exact absurd h (by simp)
  | cons n t r ih =>
   intro h
   cases i with
   | zero=>exact⟨t,rfl⟩
   | succ i=>exact ih i (by simpa using h)
 obtain⟨t,e1⟩:=at_ i hk hi
 obtain⟨u,e2⟩:=at_ j hk hj
 unfold kas_ask
 rw[e1,e2]
 exact kat_lt_int h
theorem zjr {vs:List Value} {ns:List Int} (hk:IntsAre vs ns) (h2:2≤vs.length) {Q:SortKind->Shared->Prop} (h:Q oneType' s):wpAny (model prog w) A (keyKind' vs.toArray) Q E s:=by
 refine kas_kind (T:=.type "int") h2 (fun v hv=>?_) (by decide +kernel) (by decide +kernel) h
 obtain⟨m,tk,rfl⟩:=hk.all v hv
 exact Looks.of_pure rfl
end
end Srt
namespace Z3
open PySem
section
variable {prog:Program} {w:World} {A:Around} {E:Value->Shared->Prop} {s:Shared}
def SqAt (t:Bool) (h:Heap) (l:Addr) (xs:Array Value):Prop:=if t=true then h.IsTuple l xs else h.IsList l xs
def ItAt (t:Bool) (h:Heap) (it l:Addr) (i:Nat):Prop:=if t=true then h.IsTupleIter it l i else h.IsListIter it l i
def itObj (t:Bool) (l:Addr):Obj:=if t=true then { cls:=.type "tuple_iterator",data:=.fields #[.ref l,.int 0 0] } else { cls:=.type "list_iterator",data:=.fields #[.ref l,.int 0 0] }
theorem SqAt.to {t:Bool} {h h':Heap} {l:Addr} {xs:Array Value} (x:SqAt t h l xs) (e:∀ o,h.get? l=some o->h'.get? l=some o):SqAt t h' l xs:=by
 cases t with
 | true=>exact Heap.IsTuple.at (show h.IsTuple l xs from x) e
 | false=>exact Heap.IsList.at (show h.IsList l xs from x) e
theorem ItAt.to {t:Bool} {h h':Heap} {it l:Addr} {i:Nat} (x:ItAt t h it l i) (e:∀ o,h.get? it=some o->h'.get? it=some o):ItAt t h' it l i:=by
 cases t with
 | true=>exact Heap.IsTupleIter.at (show h.IsTupleIter it l i from x) e
 | false=>exact Heap.IsListIter.at (show h.IsListIter it l i from x) e
theorem ItAt.obj {t:Bool} {h:Heap} {it l:Addr} {i:Nat} (x:ItAt t h it l i):∃ o n,h.get? it=some o∧o.cls=.type n∧o.data=.fields #[.ref l,.int i 0]:=by
 cases t with
 | true=>obtain⟨o,a,b,c⟩:=(show h.IsTupleIter it l i from x);exact⟨o,_,a,b,c⟩
 | false=>obtain⟨o,a,b,c⟩:=(show h.IsListIter it l i from x);exact⟨o,_,a,b,c⟩
theorem ItAt.new {t:Bool} {h:Heap} {l:Addr}:ItAt t (h.push (itObj t l)) h.objs.size l 0:=by
 cases t with
 | true=>exact⟨_,Heap.get?_push_size _ rfl,rfl,rfl⟩
 | false=>exact⟨_,Heap.get?_push_size _ rfl,rfl,rfl⟩
theorem ze0 {t:Bool} {l:Addr} {xs:Array Value} {Q:Value->Shared->Prop} (hl:SqAt t s.heap l xs) (h:Q (.ref s.heap.objs.size) { s with heap:=s.heap.push (itObj t l) }):wpAny (model prog w) A (pyIter (.ref l)) Q E s:=by
 cases t with
 | true=>exact wpAny_pyIter_tuple hl h
 | false=>exact wpAny_pyIter_list hl h
theorem znn {it l:Addr} {i:Nat} {xs:Array Value} {x:Value} {Q:Value->Shared->Prop} (hi:s.heap.IsTupleIter it l i) (hl:s.heap.IsTuple l xs) (hx:xs[i]?=some x)
  (h:∀ h',h'.IsTupleIter it l (i + 1)->Heap.SameBut it s.heap h'->Q x { s with heap:=h' }):wpAny (model prog w) A (Builtin.SmallTypes.nextOf (.ref it)) Q E s:=by
 obtain⟨o1,q1,q2,q3⟩:=id hi
 obtain⟨o2,q4,_,n2,q5⟩:=hl
 unfold Builtin.SmallTypes.nextOf
 refine wpAny_bind (wpAny_callSpecial?_slot (name:=Str.ofString "__next__") hi.typeIs F.slot_tuple_iterator_next (wpAny_call_entry F.slot_tuple_iterator_next hi.typeIs F.entry_tuple_iterator_next ?_ (F.args_tuple_iterator_next_1 _)))
 show wpAny _ _ (field (.ref it) 0 >>= _) _ _ s
 refine wpAny_bind (wpAny_field q1 q3 (x:=.ref l) rfl ?_)
 show wpAny _ _ (if (Value.ref l == Value.none)=true then _ else _) _ _ s
 rw[if_neg (show ¬ ((Value.ref l == Value.none)=true) from Bool.false_ne_true)]
 show wpAny _ _ (field (.ref it) 1 >>= _) _ _ s
 refine wpAny_bind (wpAny_field q1 q3 (x:=.int i 0) rfl ?_)
 show wpAny _ _ (seqItems? (.ref l) >>= _) _ _ s
 refine wpAny_bind (wpAny_seqItems q4 q5 ?_)
 simp only [Int.toNat_natCast,hx]
 refine wpAny_bind (wpAny_setField q1 q3 (by simp) (wpAny_pure ⟨x,rfl,wpAny_pure (h _ ?_ (Heap.SameBut.update ..))⟩))
 exact⟨_,Heap.get?_update_self _ q1 (Obj.isFreed_of_fields (Obj.data_mapFields q3 _)),(Obj.cls_mapFields ..).trans q2,by rw[Obj.data_mapFields q3];simp [rawInt]⟩
theorem zmt {it l:Addr} {i:Nat} {xs:Array Value} {Q:Value->Shared->Prop} (hh:A.handled=none) (hi:s.heap.IsTupleIter it l i) (hl:s.heap.IsTuple l xs) (hx:xs[i]?=none)
  (h:∀ h' e,Heap.ExtBut it s.heap h'->(∃ o,h'.get? e=some o∧o.cls=.type "StopIteration")->E (.ref e) { s with heap:=h' }):wpAny (model prog w) A (Builtin.SmallTypes.nextOf (.ref it)) Q E s:=by
 obtain⟨o1,q1,q2,q3⟩:=id hi
 obtain⟨o2,q4,_,n2,q5⟩:=hl
 unfold Builtin.SmallTypes.nextOf
 refine wpAny_bind (wpAny_callSpecial?_slot (name:=Str.ofString "__next__") hi.typeIs F.slot_tuple_iterator_next (wpAny_call_entry F.slot_tuple_iterator_next hi.typeIs F.entry_tuple_iterator_next ?_ (F.args_tuple_iterator_next_1 _)))
 show wpAny _ _ (field (.ref it) 0 >>= _) _ _ s
 refine wpAny_bind (wpAny_field q1 q3 (x:=.ref l) rfl ?_)
 show wpAny _ _ (if (Value.ref l == Value.none)=true then _ else _) _ _ s
 rw[if_neg (show ¬ ((Value.ref l == Value.none)=true) from Bool.false_ne_true)]
 show wpAny _ _ (field (.ref it) 1 >>= _) _ _ s
 refine wpAny_bind (wpAny_field q1 q3 (x:=.int i 0) rfl ?_)
 show wpAny _ _ (seqItems? (.ref l) >>= _) _ _ s
 refine wpAny_bind (wpAny_seqItems q4 q5 ?_)
 simp only [Int.toNat_natCast,hx]
 refine wpAny_bind (wpAny_rule (wpAny_bind (wpAny_setField q1 q3 (by simp) ?_)))
 show wpAny _ _ (newExc (.type "StopIteration") [] >>= _) _ _ { s with heap:=_ }
 refine wpAny_bind (by
  simp only [newExc,newTuple]
  refine wpAny_bind (wpAny_newObj_type ?_ (by size_fits))
  refine wpAny_bind (m:=firstArgMember _ _) (wpAny_of_eq (a:=Value.none) (by first | rfl | (simp only [firstArgMember];rfl)) ?_)
  refine wpAny_newObj_type ?_ (by size_fits)
  simp only [raiseNew]
  refine wpAny_bind (wpAny_handled ?_)
  first | rw[show A.in1.handled=none from hh] | rw[hh]
  exact wpAny_bind (wpAny_pure (wpAny_throw (h _ _ (((Heap.SameBut.update ..).extBut.push _).push _) ⟨_,Heap.get?_push_size _ rfl,rfl⟩))))
theorem zgm {t:Bool} {it l:Addr} {i:Nat} {xs:Array Value} {x:Value} {Q:Value->Shared->Prop} (hi:ItAt t s.heap it l i) (hl:SqAt t s.heap l xs) (hx:xs[i]?=some x)
  (h:∀ h',ItAt t h' it l (i + 1)->Heap.SameBut it s.heap h'->Q x { s with heap:=h' }):wpAny (model prog w) A (Builtin.SmallTypes.nextOf (.ref it)) Q E s:=by
 cases t with
 | true=>exact znn hi hl hx h
 | false=>exact wpAny_nextOf_list_item hi hl hx h
theorem zh7 {t:Bool} {it l:Addr} {i:Nat} {xs:Array Value} {Q:Value->Shared->Prop} (hh:A.handled=none) (hi:ItAt t s.heap it l i) (hl:SqAt t s.heap l xs) (hx:xs[i]?=none)
  (h:∀ h' e,Heap.ExtBut it s.heap h'->(∃ o,h'.get? e=some o∧o.cls=.type "StopIteration")->E (.ref e) { s with heap:=h' }):wpAny (model prog w) A (Builtin.SmallTypes.nextOf (.ref it)) Q E s:=by
 cases t with
 | true=>exact zmt hh hi hl hx h
 | false=>exact wpAny_nextOf_list_end hh hi hl hx h
structure Zd (t1 t2:Bool) (h:Heap) (z TI TO i1 i2 l1 l2:Addr) (f0:Value) (k:Nat):Prop where
 z:IsZip h z TI TO f0
 ti:IsPair h TI (.ref i1) (.ref i2)
 to:∃ a b,IsPair h TO a b
 a1:ItAt t1 h i1 l1 k
 a2:ItAt t2 h i2 l2 k
structure Ap (z TI TO i1 i2:Addr):Prop where
 n1:TI≠z
 n2:TO≠z
 n3:i1≠z
 n4:i2≠z
 n5:TI≠TO
 n6:TI≠i1
 n7:TI≠i2
 n8:TO≠i1
 n9:TO≠i2
 n10:i1≠i2
def Out (z TI TO i1 i2 l:Addr):Prop:=l≠z∧l≠TI∧l≠TO∧l≠i1∧l≠i2
theorem zmk {t1 t2:Bool} {z TI TO i1 i2 l1 l2:Addr} {k:Nat} {xs ys:Array Value} {x y:Value} {Q:Value->Shared->Prop} (D:Ap z TI TO i1 i2) (o1:Out z TI TO i1 i2 l1) (o2:Out z TI TO i1 i2 l2)
  (Z:Zd t1 t2 s.heap z TI TO i1 i2 l1 l2 .none k) (hl1:SqAt t1 s.heap l1 xs) (hl2:SqAt t2 s.heap l2 ys) (hx:xs[k]?=some x) (hy:ys[k]?=some y)
  (hQ:∀ h',Zd t1 t2 h' z TI TO i1 i2 l1 l2 (rawInt s.heap.objs.size) (k + 1)->IsPair h' s.heap.objs.size x y->h'.objs.size=s.heap.objs.size + 1 ->
   (∀ c o,c≠z->c≠TO->c≠i1->c≠i2->s.heap.get? c=some o->h'.get? c=some o)->Q (.ref s.heap.objs.size) { s with heap:=h' }) :
  wpAny (model prog w) A (Builtin.«zip.__next__» ⟨[.ref z],[]⟩) (fun fin s'=>∃ v,fin=.done (.ret v)∧Q v s') E s:=by
 obtain⟨hz,hti,⟨a,b,hto⟩,h1,h2⟩:=Z
 show wpAny _ _ (field (.ref z) 2 >>= _) _ _ s
 refine wpAny_bind (wpAny_field hz rfl (x:=.bool false) rfl ?_)
 show wpAny _ _ (field (.ref z) 3 >>= _) _ _ s
 refine wpAny_bind (wpAny_field hz rfl (x:=.ref TI) rfl ?_)
 refine wpAny_bind (wpAny_seqItems hti rfl ?_)
 show wpAny _ _ (Builtin.SmallTypes.ownedTupleIsFree (.ref z) >>= _) _ _ s
 refine wpAny_bind ?_
 unfold Builtin.SmallTypes.ownedTupleIsFree
 refine wpAny_bind (wpAny_field hz rfl (x:=.none) rfl (wpAny_pure ?_))
 simp only [if_true]
 refine wpAny_bind (wpAny_rule ?_)
 refine wpAny_bind (wpAny_field hz rfl (x:=.ref TO) rfl ?_)
 refine wpAny_bind (wpAny_setField_rec hz (by simp) fun g1 z1 e1=>?_)
 replace z1:IsZip g1 z TI TO .ellipsis:=z1
 refine wpAny_bind ?_
 simp only [List.zipIdx_cons,List.zipIdx_nil,List.forIn_cons,List.forIn_nil]
 refine wpAny_bind (wpAny_bind (wpAny_onRaise ?_))
 show wpAny _ _ (Builtin.SmallTypes.nextOf (.ref i1) >>= _) _ _ { s with heap:=g1 }
 refine wpAny_bind (zgm (h1.to fun o e=>e1.extBut _ _ D.n3 e) (hl1.to fun o e=>e1.extBut _ _ o1.1 e) hx fun g2 a2 e2=>wpAny_pure ?_)
 have b2:IsPair g2 TO a b:=e2.extBut _ _ D.n8 (e1.extBut _ _ D.n2 hto)
 refine wpAny_bind (wpAny_seqItems b2 rfl ?_)
 refine wpAny_bind (wpAny_updateSeq_pair b2 fun g3 b3 e3=>?_)
 replace b3:IsPair g3 TO x b:=b3
 refine wpAny_bind (wpAny_letGo (wpAny_pure ?_))
 refine wpAny_bind (wpAny_bind (wpAny_onRaise ?_))
 show wpAny _ _ (Builtin.SmallTypes.nextOf (.ref i2) >>= _) _ _ { s with heap:=g3 }
 refine wpAny_bind (zgm (h2.to fun o e=>e3.extBut _ _ D.n9.symm (e2.extBut _ _ D.n10.symm (e1.extBut _ _ D.n4 e))) (hl2.to fun o e=>e3.extBut _ _ o2.2.2.1 (e2.extBut _ _ o2.2.2.2.1 (e1.extBut _ _ o2.1 e))) hy fun g4 a4 e4=>wpAny_pure ?_)
 have b4:IsPair g4 TO x b:=e4.extBut _ _ D.n9 b3
 refine wpAny_bind (wpAny_seqItems b4 rfl ?_)
 refine wpAny_bind (wpAny_updateSeq_pair b4 fun g5 b5 e5=>?_)
 replace b5:IsPair g5 TO x y:=b5
 refine wpAny_bind (wpAny_letGo (wpAny_pure (wpAny_pure ?_)))
 refine wpAny_bind (wpAny_seqItems b5 rfl ?_)
 refine wpAny_bind (wpAny_newTuple ?_)
 have sz:g5.objs.size=s.heap.objs.size:=by rw[e5.1,e4.1,e3.1,e2.1,e1.1]
 have z5:IsZip g5 z TI TO .ellipsis:=e5.extBut _ _ D.n2.symm (e4.extBut _ _ D.n4.symm (e3.extBut _ _ D.n2.symm (e2.extBut _ _ D.n3.symm z1)))
 have k5:∀ c o,c≠z->c≠TO->c≠i1->c≠i2->s.heap.get? c=some o->g5.get? c=some o:=fun c o c1 c2 c3 c4 e =>
  e5.extBut _ _ c2 (e4.extBut _ _ c4 (e3.extBut _ _ c2 (e2.extBut _ _ c3 (e1.extBut _ _ c1 e))))
 have a15:ItAt t1 g5 i1 l1 (k + 1):=a2.to fun o e=>e5.extBut _ _ D.n8.symm (e4.extBut _ _ D.n10 (e3.extBut _ _ D.n8.symm e))
 have a25:ItAt t2 g5 i2 l2 (k + 1):=a4.to fun o e=>e5.extBut _ _ D.n9.symm e
 have zlt:z < g5.objs.size:=Heap.lt_size z5
 show wpAny _ _ (Builtin.SmallTypes.ownedTupleHandOut (.ref z) (.ref g5.objs.size) >>= _) _ _ { s with heap:=_ }
 refine wpAny_bind ?_
 unfold Builtin.SmallTypes.ownedTupleHandOut
 have z6:IsZip (g5.push { cls:=.type "tuple",data:=.seq #[x,y] }) z TI TO .ellipsis:=Heap.get?_push_of_some _ z5
 refine wpAny_bind (wpAny_setField_rec z6 (by simp) fun g7 z7 e7=>?_)
 replace z7:IsZip g7 z TI TO (rawInt g5.objs.size):=z7
 refine wpAny_setField_rec z7 (by simp) fun g8 z8 e8=>?_
 replace z8:IsZip g8 z TI TO (rawInt g5.objs.size):=z8
 have up:∀ c o,c≠z->g5.get? c=some o->g8.get? c=some o:=fun c o c1 e=>e8.extBut _ _ c1 (e7.extBut _ _ c1 (Heap.get?_push_of_some _ e))
 have t8:IsPair g8 g5.objs.size x y:=e8.extBut _ _ (Nat.ne_of_gt zlt) (e7.extBut _ _ (Nat.ne_of_gt zlt) (Heap.get?_push_size _ rfl))
 have sz8:g8.objs.size=g5.objs.size + 1:=by rw[e8.1,e7.1,Heap.size_push]
 rw[sz] at z8 t8 sz8
 refine wpAny_pure ⟨_,rfl,?_⟩
 show Q (.ref g5.objs.size) { s with heap:=g8 }
 rw[sz]
 exact hQ g8 ⟨z8,up _ _ D.n1 (k5 _ _ D.n1 D.n5 D.n6 D.n7 hti),⟨x,y,up _ _ D.n2 b5⟩,a15.to fun o e=>up _ o D.n3 e,a25.to fun o e=>up _ o D.n4 e⟩ t8 sz8 fun c o c1 c2 c3 c4 e=>up c o c1 (k5 c o c1 c2 c3 c4 e)
theorem zmj {t1 t2:Bool} {z TI TO i1 i2 l1 l2:Addr} {k:Nat} {xs ys:Array Value} {Q:Fin->Shared->Prop} (hh:A.handled=none) (D:Ap z TI TO i1 i2) (o1:Out z TI TO i1 i2 l1) (o2:Out z TI TO i1 i2 l2)
  (Z:Zd t1 t2 s.heap z TI TO i1 i2 l1 l2 .none k) (hl1:SqAt t1 s.heap l1 xs) (hl2:SqAt t2 s.heap l2 ys) (hend:xs[k]?=none∨ys[k]?=none)
  (hE:∀ h' e,(∀ c o,c≠z->c≠TO->c≠i1->c≠i2->s.heap.get? c=some o->h'.get? c=some o)->(∃ o,h'.get? e=some o∧o.cls=.type "StopIteration")->E (.ref e) { s with heap:=h' }) :
  wpAny (model prog w) A (Builtin.«zip.__next__» ⟨[.ref z],[]⟩) Q E s:=by
 obtain⟨hz,hti,⟨a,b,hto⟩,h1,h2⟩:=Z
 show wpAny _ _ (field (.ref z) 2 >>= _) _ _ s
 refine wpAny_bind (wpAny_field hz rfl (x:=.bool false) rfl ?_)
 show wpAny _ _ (field (.ref z) 3 >>= _) _ _ s
 refine wpAny_bind (wpAny_field hz rfl (x:=.ref TI) rfl ?_)
 refine wpAny_bind (wpAny_seqItems hti rfl ?_)
 show wpAny _ _ (Builtin.SmallTypes.ownedTupleIsFree (.ref z) >>= _) _ _ s
 refine wpAny_bind ?_
 unfold Builtin.SmallTypes.ownedTupleIsFree
 refine wpAny_bind (wpAny_field hz rfl (x:=.none) rfl (wpAny_pure ?_))
 simp only [if_true]
 refine wpAny_bind (wpAny_rule ?_)
 refine wpAny_bind (wpAny_field hz rfl (x:=.ref TO) rfl ?_)
 refine wpAny_bind (wpAny_setField_rec hz (by simp) fun g1 z1 e1=>?_)
 replace z1:IsZip g1 z TI TO .ellipsis:=z1
 refine wpAny_bind ?_
 simp only [List.zipIdx_cons,List.zipIdx_nil,List.forIn_cons,List.forIn_nil]
 refine wpAny_bind (wpAny_bind (wpAny_onRaise ?_))
 show wpAny _ _ (Builtin.SmallTypes.nextOf (.ref i1) >>= _) _ _ { s with heap:=g1 }
 cases hx:xs[k]? with
 | none =>
  refine wpAny_bind (zh7 hh (h1.to fun o e=>e1.extBut _ _ D.n3 e) (hl1.to fun o e=>e1.extBut _ _ o1.1 e) hx fun g2 e e2 he=>?_)
  obtain⟨oe,p1,p2⟩:=he
  have z2:IsZip g2 z TI TO .ellipsis:=e2 _ _ D.n3.symm z1
  have ez:e≠z:=fun q=>by subst q;rw[z2] at p1;cases p1;simp at p2
  exact wpAny_setField_rec z2 (by simp) fun g3 _ e3=>hE g3 e (fun c o c1 _ c3 _ q=>e3.extBut _ _ c1 (e2 _ _ c3 (e1.extBut _ _ c1 q))) ⟨oe,e3.extBut _ _ ez p1,p2⟩
 | some x =>
  have hy:ys[k]?=none:=by
   rcases hend with q | q
   ·rw[hx] at q;cases q
   ·exact q
  refine wpAny_bind (zgm (h1.to fun o e=>e1.extBut _ _ D.n3 e) (hl1.to fun o e=>e1.extBut _ _ o1.1 e) hx fun g2 a2 e2=>wpAny_pure ?_)
  have b2:IsPair g2 TO a b:=e2.extBut _ _ D.n8 (e1.extBut _ _ D.n2 hto)
  refine wpAny_bind (wpAny_seqItems b2 rfl ?_)
  refine wpAny_bind (wpAny_updateSeq_pair b2 fun g3 b3 e3=>?_)
  refine wpAny_bind (wpAny_letGo (wpAny_pure ?_))
  refine wpAny_bind (wpAny_bind (wpAny_onRaise ?_))
  show wpAny _ _ (Builtin.SmallTypes.nextOf (.ref i2) >>= _) _ _ { s with heap:=g3 }
  refine wpAny_bind (zh7 hh (h2.to fun o e=>e3.extBut _ _ D.n9.symm (e2.extBut _ _ D.n10.symm (e1.extBut _ _ D.n4 e))) (hl2.to fun o e=>e3.extBut _ _ o2.2.2.1 (e2.extBut _ _ o2.2.2.2.1 (e1.extBut _ _ o2.1 e))) hy fun g4 e e4 he=>?_)
  obtain⟨oe,p1,p2⟩:=he
  have z4:IsZip g4 z TI TO .ellipsis:=e4 _ _ D.n4.symm (e3.extBut _ _ D.n2.symm (e2.extBut _ _ D.n3.symm z1))
  have ez:e≠z:=fun q=>by subst q;rw[z4] at p1;cases p1;simp at p2
  exact wpAny_setField_rec z4 (by simp) fun g5 _ e5=>hE g5 e (fun c o c1 c2 c3 c4 q=>e5.extBut _ _ c1 (e4 _ _ c4 (e3.extBut _ _ c2 (e2.extBut _ _ c3 (e1.extBut _ _ c1 q))))) ⟨oe,e5.extBut _ _ ez p1,p2⟩
theorem zlk {t1 t2:Bool} {z TI TO i1 i2 l1 l2:Addr} {k:Nat} {xs ys:Array Value} {x y:Value} {Q:Option Value->Shared->Prop} (D:Ap z TI TO i1 i2) (o1:Out z TI TO i1 i2 l1) (o2:Out z TI TO i1 i2 l2)
  (Z:Zd t1 t2 s.heap z TI TO i1 i2 l1 l2 .none k) (hl1:SqAt t1 s.heap l1 xs) (hl2:SqAt t2 s.heap l2 ys) (hx:xs[k]?=some x) (hy:ys[k]?=some y)
  (hQ:∀ h',Zd t1 t2 h' z TI TO i1 i2 l1 l2 (rawInt s.heap.objs.size) (k + 1)->IsPair h' s.heap.objs.size x y->h'.objs.size=s.heap.objs.size + 1 ->
   (∀ c o,c≠z->c≠TO->c≠i1->c≠i2->s.heap.get? c=some o->h'.get? c=some o)->Q (some (.ref s.heap.objs.size)) { s with heap:=h' }) :
  wpAny (model prog w) A (pyNext (.ref z)) Q E s:=by
 have hT:s.TypeIs (.ref z) "zip":=⟨_,Z.z,rfl⟩
 unfold pyNext
 exact wpAny_bind (wpAny_attempt (wpAny_callSpecial?_slot (name := Str.ofString "__next__") hT F.slot_zip_next (wpAny_call_entry F.slot_zip_next hT F.entry_zip_next
     (zmk D o1 o2 Z hl1 hl2 hx hy fun h' b1 b2 b3 b4=>wpAny_pure (hQ h' b1 b2 b3 b4)) (F.args_zip_next_1 _))))
theorem zlj {t1 t2:Bool} {z TI TO i1 i2 l1 l2:Addr} {k:Nat} {xs ys:Array Value} {Q:Option Value->Shared->Prop} (hh:A.handled=none) (D:Ap z TI TO i1 i2) (o1:Out z TI TO i1 i2 l1) (o2:Out z TI TO i1 i2 l2)
  (Z:Zd t1 t2 s.heap z TI TO i1 i2 l1 l2 .none k) (hl1:SqAt t1 s.heap l1 xs) (hl2:SqAt t2 s.heap l2 ys) (hend:xs[k]?=none∨ys[k]?=none)
  (hQ:∀ h',(∀ c o,c≠z->c≠TO->c≠i1->c≠i2->s.heap.get? c=some o->h'.get? c=some o)->Q none { s with heap:=h' }):wpAny (model prog w) A (pyNext (.ref z)) Q E s:=by
 have hT:s.TypeIs (.ref z) "zip":=⟨_,Z.z,rfl⟩
 unfold pyNext
 refine wpAny_bind (wpAny_attempt (wpAny_callSpecial?_slot (name := Str.ofString "__next__") hT F.slot_zip_next (wpAny_call_entry F.slot_zip_next hT F.entry_zip_next
     (zmj hh D o1 o2 Z hl1 hl2 hend fun h' e hk he=>?_) (F.args_zip_next_1 _))))
 obtain⟨o,p1,p2⟩:=he
 exact wpAny_bind (wpAny_isInstance (T:="StopIteration") (b:=true) ⟨o,p1,p2⟩ isSubtype_stop (wpAny_pure (hQ _ hk)))
abbrev zh1 (h:Heap) (t1:Bool) (l1:Addr):Heap:=h.push (itObj t1 l1)
abbrev zh2 (h:Heap) (t1 t2:Bool) (l1 l2:Addr):Heap:=(zh1 h t1 l1).push (itObj t2 l2)
abbrev zh3 (h:Heap) (t1 t2:Bool) (l1 l2:Addr):Heap:=(zh2 h t1 t2 l1 l2).push { cls:=.type "tuple",data:=.seq #[.ref h.objs.size,.ref (zh1 h t1 l1).objs.size] }
abbrev zh4 (h:Heap) (t1 t2:Bool) (l1 l2:Addr):Heap:=(zh3 h t1 t2 l1 l2).push { cls:=.type "tuple",data:=.seq #[.none,.none] }
abbrev zh5 (h:Heap) (t1 t2:Bool) (l1 l2:Addr):Heap:=(zh4 h t1 t2 l1 l2).push { cls:=.type "zip",data:=.fields #[.none,.bool false,.bool false,.ref (zh2 h t1 t2 l1 l2).objs.size,.ref (zh3 h t1 t2 l1 l2).objs.size] }
theorem zn8 (t1 t2:Bool) (l1 l2:Addr) (xs ys:Array Value) :
  Meets (Builtin.«zip.__new__» ⟨[.type "zip",.ref l1,.ref l2],[]⟩) (fun _ R s=>SqAt t1 s.heap l1 xs∧SqAt t2 s.heap l2 ys∧R (.ok (.ret (.ref (zh4 s.heap t1 t2 l1 l2).objs.size))) { s with heap:=zh5 s.heap t1 t2 l1 l2 }) :=
 .of_wp fun prog w A R s h=>by
  obtain⟨hp,g,d,tk,os⟩:=s;obtain⟨hl1,hl2,h⟩:=h
  have hsub:=sub_zip
  have b1:SqAt t1 (Shared.heap ⟨hp,g,d,tk,os⟩) l1 xs:=hl1
  have b2:SqAt t2 (Shared.heap ⟨hp.push (itObj t1 l1),g,d,tk,os⟩) l2 ys:=SqAt.to hl2 fun o e=>Heap.get?_push_of_some _ e
  wp_walk using ze0 b1,ze0 b2
  exact⟨_,rfl,h⟩
theorem zns {t1 t2:Bool} {l1 l2:Addr} {xs ys:Array Value} {Q:Value->Shared->Prop} (hl1:SqAt t1 s.heap l1 xs) (hl2:SqAt t2 s.heap l2 ys)
  (h:∀ h',Zd t1 t2 h' (s.heap.objs.size + 4) (s.heap.objs.size + 2) (s.heap.objs.size + 3) s.heap.objs.size (s.heap.objs.size + 1) l1 l2 .none 0->h'.objs.size=s.heap.objs.size + 5 ->
   (∀ c o,s.heap.get? c=some o->h'.get? c=some o)->Q (.ref (s.heap.objs.size + 4)) { s with heap:=h' }) :
  wpAny (model prog w) A (call (.type "zip") [.ref l1,.ref l2]) Q E s:=by
 refine callType_new F.called_zip (by decide) (F.typeCall_zip_2 _ _) (F.newCall_zip_2 _ _) (fun obj=>F.args_object_init_3 obj _ _) F.entry_zip_new (zn8 t1 t2 l1 l2 xs ys) ⟨hl1,hl2,?_⟩
 have z1:(zh1 s.heap t1 l1).objs.size=s.heap.objs.size + 1:=Heap.size_push ..
 have z2:(zh2 s.heap t1 t2 l1 l2).objs.size=s.heap.objs.size + 2:=by rw[Heap.size_push,z1]
 have z3:(zh3 s.heap t1 t2 l1 l2).objs.size=s.heap.objs.size + 3:=by rw[Heap.size_push,z2]
 have z4:(zh4 s.heap t1 t2 l1 l2).objs.size=s.heap.objs.size + 4:=by rw[Heap.size_push,z3]
 have z5:(zh5 s.heap t1 t2 l1 l2).objs.size=s.heap.objs.size + 5:=by rw[Heap.size_push,z4]
 have g5:(zh5 s.heap t1 t2 l1 l2).get? (zh4 s.heap t1 t2 l1 l2).objs.size=some _:=Heap.get?_push_size _ rfl
 have g4:(zh5 s.heap t1 t2 l1 l2).get? (zh3 s.heap t1 t2 l1 l2).objs.size=some _:=Heap.get?_push_of_some _ (Heap.get?_push_size _ rfl)
 have g3:(zh5 s.heap t1 t2 l1 l2).get? (zh2 s.heap t1 t2 l1 l2).objs.size=some _:=Heap.get?_push_of_some _ (Heap.get?_push_of_some _ (Heap.get?_push_size _ rfl))
 have g2:ItAt t2 (zh5 s.heap t1 t2 l1 l2) (zh1 s.heap t1 l1).objs.size l2 0:=(ItAt.new (t:=t2) (h:=zh1 s.heap t1 l1) (l:=l2)).to fun o e=>Heap.get?_push_of_some _ (Heap.get?_push_of_some _ (Heap.get?_push_of_some _ e))
 have g1:ItAt t1 (zh5 s.heap t1 t2 l1 l2) s.heap.objs.size l1 0:=(ItAt.new (t:=t1) (h:=s.heap) (l:=l1)).to fun o e=>Heap.get?_push_of_some _ (Heap.get?_push_of_some _ (Heap.get?_push_of_some _ (Heap.get?_push_of_some _ e)))
 show _∧_
 rw[z2,z3,z4] at g5
 rw[z1,z2] at g3
 rw[z3] at g4
 rw[z1] at g2
 rw[z4]
 exact⟨⟨_,g5,rfl⟩,h _ ⟨g5,g3,⟨_,_,g4⟩,g1,g2⟩ z5 fun c o q=>Heap.get?_push_of_some _ (Heap.get?_push_of_some _ (Heap.get?_push_of_some _ (Heap.get?_push_of_some _ (Heap.get?_push_of_some _ q))))⟩
theorem zqi (n:Nat):Ap (n + 4) (n + 2) (n + 3) n (n + 1):=by
 constructor <;> (show (_:Nat)≠(_:Nat)) <;> trivial
theorem zla {n l:Nat} (h:l < n):Out (n + 4) (n + 2) (n + 3) n (n + 1) l:=by
 refine⟨?_,?_,?_,?_,?_⟩ <;> (show (_:Nat)≠(_:Nat)) <;> trivial
end
end Z3
namespace U3
open PySem PyProof.Rows
section
variable {prog:Program} {w:World} {A:Around} {E:Value->Shared->Prop} {s:Shared}
theorem zju {it l:Addr} {xs:Array Value} (hne:l≠it):∀ (n i:Nat) (s:Shared) (Q:List Value->Shared->Prop),s.heap.IsListIter it l i->s.heap.IsList l xs->i + n≤xs.size ->
  (∀ h',h'.IsListIter it l (i + n)->Heap.SameBut it s.heap h'->Q ((xs.toList.drop i).take n) { s with heap:=h' })->wpAny (model prog w) A (draw (.ref it) n) Q E s
 | 0,i,s,Q,hi,_,_,h=>by
  show wpAny _ _ (pure []) Q E s
  exact wpAny_pure (by simpa using h s.heap hi (Heap.SameBut.refl ..))
 | n + 1,i,s,Q,hi,hl,hle,h=>by
  have lt:i < xs.size:=by trivial
  show wpAny _ _ (pyNext (.ref it) >>= _) Q E s
  refine wpAny_bind (wpAny_pyNext_list_item hi hl (x:=xs[i]) (by simp [lt]) fun g1 i1 e1=>?_)
  refine wpAny_bind (wpAny_holding (zju hne n (i + 1) _ _ i1 (hl.extBut e1.extBut hne) (by trivial) fun g2 i2 e2=>wpAny_pure ?_))
  have hd:xs.toList.drop i=xs[i]::xs.toList.drop (i + 1):=by simp [List.drop_eq_getElem_cons,lt]
  have q:=h g2 (by rw[show i + (n + 1)=i + 1 + n by trivial];exact i2) (e1.trans e2)
  rw[hd,List.take_succ_cons] at q
  exact q
theorem zj1 {l:Addr} {xs:Array Value} {targets:List (Bool × (Value->Sem Unit))} {Q:Unit->Shared->Prop} (hh:A.handled=none) (hl:s.heap.IsList l xs)
  (hn:targets.length=xs.size) (hs:targets.findIdx? (·.1)=none)
  (h:∀ h',Heap.ExtBut s.heap.objs.size s.heap h'->wpAny (model prog w) A (assignInOrder (targets.map (·.2)) xs.toList) Q E { s with heap:=h' }) :
  wpAny (model prog w) A (unpack (.ref l) targets) Q E s:=by
 have ne:l≠s.heap.objs.size:=by obtain⟨o,ho,_⟩:=hl;exact Nat.ne_of_lt (Heap.lt_size ho)
 unfold unpack
 rw[hn,hs]
 refine wpAny_bind (wpAny_holding ?_)
 unfold unpackItems
 refine wpAny_bind ?_
 unfold notIterableAtAll
 refine wpAny_bind (wpAny_specialOf hl.typeIs slot_list_iter.lookup ?_)
 refine wpAny_pure ?_
 simp only [Bool.false_eq_true,if_false]
 refine wpAny_bind (wpAny_holding (wpAny_pyIter_list hl ?_))
 refine wpAny_bind (wpAny_holding (zju ne xs.size 0 _ _ ⟨_,Heap.get?_push_size _ rfl,rfl,rfl⟩ (hl.push _) (by trivial) fun g1 i1 e1=>?_))
 have all:List.take xs.size (List.drop 0 xs.toList)=xs.toList:=by
  rw[List.drop_zero];exact List.take_of_length_le (by simp)
 rw[all,if_neg (by simp)]
 have l1:g1.IsList l xs:=(hl.push _).extBut e1.extBut ne
 refine wpAny_bind (wpAny_holding (wpAny_pyNext_list_end hh i1 l1 (by simp) fun g2 e2=>?_))
 simp only [Option.isSome_none,Bool.false_eq_true,if_false]
 exact wpAny_pure (h g2 fun b o hb e=>e2 b o hb (e1.extBut b o hb (Heap.get?_push_of_some _ e)))
theorem assign_tuple_lst {env:Env} {elts:List Expr} {x1} {pos:Pos} {l:Addr} {xs:Array Value} {Q:Unit->Shared->Prop} (hh:A.handled=none) (hl:s.heap.IsList l xs)
  (hn:(assignEach elts env).length=xs.size) (hs:(assignEach elts env).findIdx? (·.1)=none)
  (h:∀ h',Heap.ExtBut s.heap.objs.size s.heap h'->wpAny (model prog w) A (assignInOrder ((assignEach elts env).map (·.2)) xs.toList) Q E { s with heap:=h' }) :
  wpAny (model prog w) A (assign (.Tuple elts x1 pos) env (.ref l)) Q E s:=by
 rw[assign_Tuple]
 exact wpAny_bind (wpAny_standAt (zj1 hh hl hn hs h))
end
end U3
namespace L3
open PySem PySem.Spec PyProof.Rows L2
abbrev Fls:Value->Shared->Prop:=fun _ _=>False
abbrev testsOf (ifs:List Expr) (env:Env):Sem Bool :=
 forIn ifs true fun c r=>if r=true then do let ok ← isTrue c env (eval c env);pure (ForInStep.yield ok) else pure (ForInStep.yield r)
section
variable {prog:Program} {w:World} {A:Around} {R:Result->Shared->Prop} {s:Shared}
theorem zkh {elt tg iter:Expr} {ifs:List Expr} {scope:Scope} {pos:Pos} {it acc:Value} {env:Env} (W:Nat->Shared->Prop)
  (step:∀ n s,W n s->wpAny (model prog w) A (pyNext it) (fun r s1=>(r=none∧R (.ok .next) s1)∨∃ v,r=some v ∧
   wpAny (model prog w) A (letOwnedTupleGo tg it v) (fun _ s2=>wpAny (model prog w) A (assign tg env v) (fun _ s3 =>
    wpAny (model prog w) A (testsOf ifs env) (fun ok s4=>if ok=true then wpAny (model prog w) A (eval elt env) (fun x s5 =>
     wpAny (model prog w) A (call (.builtin "list.append") [acc,x]) (fun _ s6=>∃ m,m < n∧W m s6) Fls s5) Fls s4 else ∃ m,m < n∧W m s4) Fls s3) Fls s2) Fls s1) Fls s)
  (n:Nat) (h:W n s):codeAny (model prog w) A (.compLoop (.ListComp elt [⟨tg,iter,ifs,0⟩] scope pos) 0 it acc env) R s:=by
 refine codeAny_loop rfl W (fun k s1 hk=>?_) n h
 show wpAny _ A ((compTurn (.ListComp elt [⟨tg,iter,ifs,0⟩] scope pos) 0 it acc env).onRaise (fun x=>do noteFrame x env;theTreesLotGoes x)) _ _ s1
 refine wpAny_noted ?_
 rw[compTurn_list]
 refine wpAny_bind (wpAny_standAt (wpAny_bind (wpAny_mono (step k s1 hk) (fun r s2 h2=>?_) fun _ _ z=>z.elim)))
 rcases h2 with ⟨rfl,h2⟩ | ⟨v,rfl,h2⟩
 ·exact wpAny_pure h2
 ·refine wpAny_bind (wpAny_mono h2 (fun _ s3 h3=>?_) fun _ _ z=>z.elim)
  refine wpAny_bind (wpAny_mono h3 (fun _ s4 h4=>?_) fun _ _ z=>z.elim)
  refine wpAny_bind (wpAny_mono h4 (fun ok s5 h5=>?_) fun _ _ z=>z.elim)
  cases ok with
  | false=>exact wpAny_pure ⟨rfl,h5⟩
  | true =>
   refine wpAny_bind (wpAny_bind (wpAny_mono h5 (fun x s6 h6=>?_) fun _ _ z=>z.elim))
   refine wpAny_bind (wpAny_mono h6 (fun _ s7 h7=>?_) fun _ _ z=>z.elim)
   exact wpAny_pure (wpAny_pure ⟨rfl,h7⟩)
end
def clOf (cells:List (Str × Addr)):List (Str × NameKind)->List (Str × Addr)->List (Str × Addr)
 | [],cs=>cs
 | (n,k)::r,cs=>clOf cells r (if k=.free then (n,(cells.lookup n).getD 0)::cs else cs)
theorem zjx {cells:List (Str × Addr)}:∀ {names:List (Str × NameKind)} {cs:List (Str × Addr)} {p:Str × Addr},p ∈ clOf cells names cs->p ∈ cs∨((p.1,NameKind.free) ∈ names∧p.2=(cells.lookup p.1).getD 0)
 | [],_,_,h=>.inl h
 | (n,k)::r,cs,p,h=>by
  rcases zjx (names:=r) h with q | ⟨q1,q2⟩
  ·by_cases hk:k=.free
   ·rw[if_pos hk] at q
    rcases List.mem_cons.mp q with e | q
    ·subst e;subst hk;exact .inr ⟨List.mem_cons_self,rfl⟩
    ·exact .inl q
   ·rw[if_neg hk] at q;exact .inl q
  ·exact .inr ⟨List.mem_cons_of_mem _ q1,q2⟩
theorem zjy {cells:List (Str × Addr)}:∀ {names:List (Str × NameKind)} {cs:List (Str × Addr)} {x:Str},((x,NameKind.free) ∈ names∨∃ c,(x,c) ∈ cs)->∃ c,(x,c) ∈ clOf cells names cs
 | [],_,_,h=>h.elim (fun z=>nomatch z) id
 | (n,k)::r,cs,x,h=>by
  refine zjy (names:=r) ?_
  rcases h with h | ⟨c,h⟩
  ·rcases List.mem_cons.mp h with e | h
   ·cases e
    exact .inr ⟨_,by rw[if_pos rfl];exact List.mem_cons_self⟩
   ·exact .inl h
  ·refine .inr ⟨c,?_⟩
   split
   ·exact List.mem_cons_of_mem _ h
   ·exact h
theorem zd1 {env:Env}:∀ (names:List (Str × NameKind)) (cs:List (Str × Addr)),(∀ y ∈ names,y.2=.free->∃ c,env.cells.lookup y.1=some c) ->
  (forIn names cs fun x r=>(match x with | (n,k)=>if (k == NameKind.free)=true then do let c ← cellOf env n;pure (ForInStep.yield ((n,c)::r)) else pure (ForInStep.yield r):Sem (ForInStep (List (Str × Addr)))))=pure (clOf env.cells names cs)
 | [],cs,_=>rfl
 | (n,k)::r,cs,h=>by
  rw[List.forIn_cons]
  by_cases hk:k=.free
  ·subst hk
   obtain⟨c,hc⟩:=h (n,.free) List.mem_cons_self rfl
   have e1:cellOf env n=pure c:=by unfold cellOf;rw[hc]
   have e2:clOf env.cells ((n,NameKind.free)::r) cs=clOf env.cells r ((n,c)::cs):=by
    show clOf env.cells r (if NameKind.free=NameKind.free then (n,(env.cells.lookup n).getD 0)::cs else cs)=_
    rw[if_pos rfl,hc]
    rfl
   rw[e2,← zd1 r ((n,c)::cs) fun y hy=>h y (List.mem_cons_of_mem _ hy)]
   simp only [beq_self_eq_true,if_true,e1,pure_bind]
  ·have e2:clOf env.cells ((n,k)::r) cs=clOf env.cells r cs:=by
    show clOf env.cells r (if k=NameKind.free then _ else cs)=_
    rw[if_neg hk]
   have hb:(k == NameKind.free)=false:=by simpa using hk
   rw[e2,← zd1 r cs fun y hy=>h y (List.mem_cons_of_mem _ hy)]
   simp only [hb,Bool.false_eq_true,if_false,pure_bind]
theorem zkj {scope:Scope} {env:Env} (h:∀ y ∈ scope.names,y.2=.free->∃ c,env.cells.lookup y.1=some c):closureFor scope env=pure (clOf env.cells scope.names []):=by
 have q:=zd1 (env:=env) scope.names [] h
 unfold closureFor
 refine Eq.trans ?_ q
 first | rfl | simp
theorem zca {env:Env}:∀ {names:List (Str × NameKind)} {x:Str},names.lookup x=some .free ->
  (names.map fun (n,k)=>if (k == NameKind.free && env.scope.kind == .function && env.kindOf n == some .cell) then (n,NameKind.cell) else (n,k)).lookup x=some .cell ∨
  (names.map fun (n,k)=>if (k == NameKind.free && env.scope.kind == .function && env.kindOf n == some .cell) then (n,NameKind.cell) else (n,k)).lookup x=some .free
 | [],_,h=>by simp at h
 | (n,k)::r,x,h=>by
  have ih:=@zca env r x
  rw[List.map_cons]
  by_cases hx:(x == n)=true
  ·rw[List.lookup_cons,hx] at h
   have h':k=.free:=by simpa using h
   subst h'
   dsimp only
   split
   ·left;rw[List.lookup_cons,hx]
   ·right;rw[List.lookup_cons,hx]
  ·have hx':(x == n)=false:=by simpa using hx
   rw[List.lookup_cons,hx'] at h
   dsimp only
   split
   ·rw[List.lookup_cons,hx'];exact ih h
   ·rw[List.lookup_cons,hx'];exact ih h
theorem zfv {env:Env}:∀ {names:List (Str × NameKind)} {x:Str},(∀ y ∈ names,y.2≠.cell) ->
  ((names.map fun (n,k)=>if (k == NameKind.free && env.scope.kind == .function && env.kindOf n == some .cell) then (n,NameKind.cell) else (n,k)).lookup x=some .cell ∨
  (names.map fun (n,k)=>if (k == NameKind.free && env.scope.kind == .function && env.kindOf n == some .cell) then (n,NameKind.cell) else (n,k)).lookup x=some .free)->(x,NameKind.free) ∈ names
 | [],_,_,h=>by simp at h
 | (n,k)::r,x,hc,h=>by
  rw[List.map_cons] at h
  by_cases hx:(x == n)=true
  ·have e:x=n:=by simpa using hx
   subst e
   dsimp only at h
   by_cases hk:(k == NameKind.free && env.scope.kind == .function && env.kindOf x == some .cell)=true
   ·rw[if_pos hk] at h
    have:k=.free:=by
     simp only [Bool.and_eq_true] at hk
     simpa using hk.1.1
    subst this
    exact List.mem_cons_self
   ·rw[if_neg hk,List.lookup_cons,hx] at h
    rcases h with h | h
    ·exact absurd (by simpa using h) (hc (x,k) List.mem_cons_self)
    ·have:k=.free:=by simpa using h
     subst this
     exact List.mem_cons_self
  ·have hx':(x == n)=false:=by simpa using hx
   refine List.mem_cons_of_mem _ (zfv (env:=env) (fun y hy=>hc y (List.mem_cons_of_mem _ hy)) ?_)
   dsimp only at h
   split at h
   ·rw[List.lookup_cons,hx'] at h;exact h
   ·rw[List.lookup_cons,hx'] at h;exact h
def compOk (N:List Str) (sc0 scope:Scope) (fr:List Str) (js:List Nat):Bool :=
 decide (scope.kind=.function) && (scope.names.all fun y=>decide (y.2≠.cell) && (decide (y.2≠.free) || decide (sc0.names.lookup y.1=some .cell) || decide (sc0.names.lookup y.1=some .free)) &&
  (decide (y.2≠.local) || decide (scope.names.lookup y.1=some .local))) && decide (fr.length=js.length) &&
 ((fr.zip js).all fun p=>decide (N[p.2]?=some p.1) && decide (scope.names.lookup p.1=some .free) && (decide (sc0.names.lookup p.1=some .cell) || decide (sc0.names.lookup p.1=some .free)))
def cxComp (X:Cx) (own fr:List Str) (scope:Scope) (fp:List Addr) (pins:List (Addr × Obj)) (s3:Shared) (H3:Hp):Cx :=
 { X with N:=own++fr,s₀:=s3,H₀:=H3,env:=compEnvC scope (clOf X.env.cells scope.names []) s3.heap.objs.size X.env,outer:=X.stack,stack:=X.stack,ex:=fp,fn:=fun _=>false,pn:=X.pn++pins,xe:=Fls }
def PTs (X:Cx) (ifs:List Expr) (t:TT):Prop :=
 ∀ (pins:List (Addr × Obj)) (s:Shared) (σ:L2.St) (H:Hp) (Q:Bool->Hp->Prop),Inv X pins σ H s->t σ H Q->wpAny (model X.prog X.w) X.A (testsOf ifs X.env) (TP X pins σ Q) X.xe s
def tTrue:TT:=fun _ H Q=>Q true H
theorem zbg {X:Cx}:PTs X [] tTrue:=fun _ _ _ H _ I h=>wpAny_tests_nil ⟨H,I,h⟩
theorem zf7 {X:Cx} {c:Expr} {t:TT} (h:PT X c t):PTs X [c] t:=fun pins s σ H Q I q=>wpAny_tests_one (h pins s σ H Q I q)
def start3 (own:List Str) (js:List Nat) (σ:L2.St):L2.St:=List.replicate own.length none++js.map fun j=>(σ[j]?).join
def CompGo (own:List Str) (js:List Nat) (g:TG) (tt:TT) (te:TE) (σ:L2.St) (Q:VK) (J:It) (H1:Hp):Prop:=∀ D,H1 D=none->∃ W:Nat->Nat->List V->L2.St->Hp->Prop,
 (∃ m,W 0 m [] (start3 own js σ) (upd H1 D (.lst [])))∧∀ i m ys σ' H',W i m ys σ' H'->H' D=some (.lst ys) ->
  (J.stop i H'∧Q (.ref D) H')∨(J.go i H'∧∀ x H2,J.yld i H' x H2->g x σ' H2 fun σ3 H3=>tt σ3 H3 fun b H4 =>
   if b=true then te σ3 H4 fun v H5=>H5 D=some (.lst ys)∧ys.length < sizeLine∧∃ m',m' < m∧W (i + 1) m' (ys++[v]) σ3 (upd H5 D (.lst (ys++[v])))
   else H4 D=some (.lst ys)∧∃ m',m' < m∧W (i + 1) m' ys σ3 H4)
def tComp (own:List Str) (js:List Nat) (wi:TI) (g:TG) (tt:TT) (te:TE):TE:=fun σ H Q=>wi σ H fun J H1=>CompGo own js g tt te σ Q J H1
section
variable {X:Cx} {elt tg iter:Expr} {ifs:List Expr} {scope sc0:Scope} {pos:Pos} {own fr N:List Str} {js:List Nat} {wi:TI} {g:TG} {tt:TT} {te:TE}
theorem zlr {σ:L2.St} {js:List Nat} {k:Nat} {v:V} (e:(js.map fun j=>(σ[j]?).join)[k]?=some (some v)):∃ j,js[k]?=some j∧σ[j]?=some (some v):=by
 rw[List.getElem?_map] at e
 cases hj:js[k]? with
 | none=>rw[hj] at e;cases e
 | some j =>
  rw[hj] at e
  refine⟨j,rfl,?_⟩
  have e':(σ[j]?).join=some v:=by simpa using e
  cases hs:σ[j]? with
  | none=>rw[hs] at e';cases e'
  | some o=>rw[hs] at e';exact congrArg some e'
theorem zm9 {pins:List (Addr × Obj)} {σ:L2.St} {H3:Hp} {s3:Shared} {fp:List Addr} {h4:Heap} {t4:Nat} {m4:Str->Option Value}
  (hN:X.N=N) (hsc:X.env.scope=sc0) (hok:compOk N sc0 scope fr js=true) (I:Inv X pins σ H3 s3) (hf:∀ b ∈ fp,FpOk X pins H3 b) (hlt:∀ b ∈ fp,b < s3.heap.objs.size)
  (k:∀ b o,s3.heap.get? b=some o->h4.get? b=some o) (hns:h4.Ns s3.heap.objs.size m4):Inv (cxComp X own fr scope fp pins s3 H3) [] (start3 own js σ) H3 { s3 with heap:=h4,toks:=t4 }:=by
 subst hN hsc
 unfold compOk at hok
 simp only [Bool.and_eq_true,decide_eq_true_eq,List.all_eq_true] at hok
 obtain⟨⟨⟨hk,hall⟩,hlen⟩,hfr⟩:=hok
 have hfree:∀ y ∈ scope.names,y.2=.free->∃ c,X.env.cells.lookup y.1=some c:=fun y hy e=>by
  have q:=(hall y hy).1.2
  simp only [Bool.or_eq_true,decide_eq_true_eq] at q
  rcases q with (q | q) | q
  ·exact absurd e q
  ·exact I.ok.has y.1 (.inl q)
  ·exact I.ok.has y.1 (.inr q)
 have hcl:∀ x c,(clOf X.env.cells scope.names []).lookup x=some c->X.env.cells.lookup x=some c:=fun x c e=>by
  rcases zjx (PySem.mem_of_lookup e) with z | ⟨z1,z2⟩
  ·exact absurd z (by simp)
  ·obtain⟨c',hc'⟩:=hfree _ z1 rfl
   have hc'':X.env.cells.lookup x=some c':=hc'
   have z2':c=(X.env.cells.lookup x).getD 0:=z2
   rw[hc''] at z2' ⊢
   simp at z2'
   rw[z2']
 have hasC:∀ x,(x,NameKind.free) ∈ scope.names->∃ c,(clOf X.env.cells scope.names []).lookup x=some c:=fun x hx=>by
  obtain⟨c,hc⟩:=zjy (cells:=X.env.cells) (cs:=[]) (.inl hx)
  cases q:(clOf X.env.cells scope.names []).lookup x with
  | some c'=>exact⟨c',rfl⟩
  | none =>
   have:∀ (l:List (Str × Addr)),(x,c) ∈ l->l.lookup x≠none:=fun l=>by
    induction l with
    | nil=>intro z;cases z
    | cons p r ih =>
     intro z
     obtain⟨p1,p2⟩:=p
     rw[List.lookup_cons]
     rcases List.mem_cons.mp z with z | z
     ·cases z
      simp
     ·split
      ·simp
      ·exact ih z
   exact absurd q (this _ hc)
 have hcell:∀ y ∈ scope.names,y.2≠.cell:=fun y hy=>(hall y hy).1.1
 have sz:X.base.objs.size≤s3.heap.objs.size:=Nat.le_trans I.ok.bsz I.sz
 refine⟨⟨I.ok.mod,hk,I.ok.glob,I.ok.blt,Nat.le_refl _,fun x y c e1 e2=>I.ok.inj x y c (hcl x c e1) (hcl y c e2),fun x hx=>hasC x (zfv hcell hx),fun x c z=>absurd z (by simp [cxComp]),
  I.ok.hd,I.ok.frames,.inl rfl,fun b hb=>⟨Nat.ne_of_lt (hlt b hb),fun x c e=>(hf b hb).2.2.2.2.1 x c (hcl x c e)⟩,I.bs,sz,fun b o e hb=>?_,fun b hb z=>?_,I.stack,I.stkFree⟩,
  rfl,I.bare,Un.kept k,⟨m4,hns,fun i x v e1 e2 e3=>?_⟩,fun x c e=>?_,I.hok.fresh (Nat.le_refl _),fun x c e=>I.freeC x c (hcl x c e),fun p hp=>?_,I.hok.kept k,?_⟩
 ·obtain⟨_,_,_,f3,_⟩:=hf b hb
  rcases f3 with f3 | f3
  ·exact I.ok.noex b o e f3
  ·exact absurd (Nat.lt_of_lt_of_le (Heap.lt_size e) (Nat.le_trans I.ok.bsz f3)) (Nat.lt_irrefl _)
 ·obtain⟨_,f1,f2,_⟩:=hf b hb
  rcases List.mem_cons.mp (I.stkSub b z) with z | z
  ·exact f1 z
  ·exact f2 z
 ·have e2':(List.replicate own.length (none:Option V)++js.map fun j=>(σ[j]?).join)[i]?=some (some v):=e2
  have e1':(own++fr)[i]?=some x:=e1
  by_cases hi:i < own.length
  ·rw[List.getElem?_append_left (by simpa using hi),List.getElem?_replicate,if_pos hi] at e2'
   cases e2'
  ·rw[List.getElem?_append_right (by simpa using hi),List.length_replicate] at e2'
   rw[List.getElem?_append_right (by trivial)] at e1'
   obtain⟨j,hj,hv⟩:=zlr e2'
   have hz:(fr.zip js)[i - own.length]?=some (x,j):=by
    rw[List.getElem?_zip_eq_some]
    exact⟨e1',hj⟩
   have q:=hfr _ (List.mem_of_getElem? hz)
   obtain⟨⟨q1,q2⟩,q3⟩:=q
   have q3'':X.env.scope.names.lookup x=some .cell∨X.env.scope.names.lookup x=some .free:=by simpa using q3
   have q3':X.env.kindOf x=some .cell∨X.env.kindOf x=some .free:=q3''
   obtain⟨m,hn,hl⟩:=I.loc
   obtain⟨u,r,l⟩:=hl j x v q1 hv (q3'.elim (fun z=>.inr (.inl z)) fun z=>.inr (.inr z))
   refine⟨u,r,.inr ⟨zca q2,?_⟩⟩
   rcases l with ⟨z,_⟩ | ⟨_,c,hc,hcellv⟩
   ·rcases q3' with w | w <;> (rw[z] at w;cases w)
   ·obtain⟨c',hc'⟩:=hasC x (PySem.mem_of_lookup q2)
    have e:=hcl x c' hc'
    rw[hc] at e
    cases e
    obtain⟨o,ho,hd⟩:=hcellv
    exact⟨c,hc',o,k c o ho,hd⟩
 ·obtain⟨v,o,ho,hd⟩:=I.cell x c (hcl x c e)
  exact⟨v,o,k c o ho,hd⟩
 ·have hp':p ∈ X.pn++pins:=by
   have:p ∈ (X.pn++pins)++([]:List (Addr × Obj)):=hp
   simpa using this
  obtain⟨a,b,c,d,f⟩:=I.pin p hp'
  refine⟨k _ _ a,b,Nat.ne_of_lt (Heap.lt_size a),fun z=>?_,f⟩
  rcases List.mem_cons.mp (I.stkSub p.1 z) with z | z
  ·exact c z
  ·exact d z
 ·show (List.replicate own.length (none:Option V)++js.map fun j=>(σ[j]?).join).length=(own++fr).length
  simp [hlen]
theorem zhg {pins:List (Addr × Obj)} {s:Shared} {σ:L2.St} {H:Hp} {Q:VK} {use:Option (Value->Sem Unit)} {Qo:Value->Shared->Prop} {cpos:Pos}
  (hc:X.calm=true) (hi:PI X tg iter wi) (hg:∀ fp pins s3 H3,PG (cxComp X own fr scope fp pins s3 H3) tg g) (ht:∀ fp pins s3 H3,PTs (cxComp X own fr scope fp pins s3 H3) ifs tt)
  (he:∀ fp pins s3 H3,PE (cxComp X own fr scope fp pins s3 H3) elt te) (hok:compOk N sc0 scope fr js=true) (hN:X.N=N) (hsc:X.env.scope=sc0)
  (hs:∀ x,foldedSetIterable iter X.env x=pure x) (I:Inv X pins σ H s) (h:tComp own js wi g tt te σ H Q)
  (fin:∀ (C D:Addr) (s6:Shared) (H6:Hp) (m6:Str->Option Value),Inv X pins σ H6 s6->FpOk X pins H6 C->s6.heap.Ns C m6->Q (.ref D) H6->compPost (model X.prog X.w) X.A X.xe use Qo (.ref D) C (.ok .next) s6) :
  wpAny (model X.prog X.w) X.A (comprehension (.ListComp elt [⟨tg,iter,ifs,0⟩] scope pos) scope X.env cpos (newList []) false (eval iter X.env) use) Qo X.xe s:=by
 have hok':=hok
 unfold compOk at hok'
 simp only [Bool.and_eq_true,decide_eq_true_eq,List.all_eq_true] at hok'
 obtain⟨⟨⟨hk,hall⟩,hlen⟩,hfr⟩:=hok'
 have hcell:∀ y ∈ scope.names,y.2≠.cell:=fun y hy=>(hall y hy).1.1
 have hloc:∀ y ∈ scope.names,y.2=.local->scope.names.lookup y.1=some .local:=fun y hy e=>by
  have q:=(hall y hy).2
  simp only [Bool.or_eq_true,decide_eq_true_eq] at q
  rcases q with q | q
  ·exact absurd e q
  ·exact q
 have hfree:∀ y ∈ scope.names,y.2=.free->∃ c,X.env.cells.lookup y.1=some c:=fun y hy e=>by
  have q:=(hall y hy).1.2
  simp only [Bool.or_eq_true,decide_eq_true_eq] at q
  rw[← hsc] at q
  rcases q with (q | q) | q
  ·exact absurd e q
  ·exact I.ok.has y.1 (.inl q)
  ·exact I.ok.has y.1 (.inr q)
 refine wpAny_comprehension_free (use:=use) rfl hs (zkj hfree) hk hloc (thn (hi pins s σ H _ I h) fun v s1 h1=>thn h1 fun itv s2 h2=>?_)
 obtain⟨it,fp,tn,J,H2,e,I2,T,st2,f2,rd⟩:=h2
 subst e
 have hD2:H2 s2.heap.objs.size=none:=I2.fresh
 obtain⟨W,⟨m0,w0⟩,turn⟩:=rd s2.heap.objs.size hD2
  -- the new list
 refine wpAny_newList ?_ (Nat.zero_le _)
 have I3:Inv X pins σ (upd H2 s2.heap.objs.size (.lst [])) { s2 with heap:=s2.heap.push { cls:=.type "list",data:=.seq ([]:List Value).toArray } }:=I2.lnew (t':=s2.toks) .nil (Nat.zero_le _)
 generalize hs3:({ s2 with heap:=s2.heap.push { cls:=.type "list",data:=.seq ([]:List Value).toArray } }:Shared)=s3 at I3
 generalize hD:s2.heap.objs.size=D at *
 have fpl:∀ b ∈ fp,b < D:=fun b hb=>by
  obtain⟨o,ho,_⟩:=T.obj _ _ st2 b hb
  rw[← hD];exact Heap.lt_size ho
 have k23:∀ b o,s2.heap.get? b=some o->s3.heap.get? b=some o:=fun b o e=>by rw[← hs3];exact Heap.get?_push_of_some _ e
 have hD3:s3.heap.objs.size=D + 1:=by rw[← hs3,← hD];exact Heap.size_push ..
 have f3:∀ b ∈ fp,FpOk X pins (upd H2 D (.lst [])) b:=fun b hb=>by
  obtain⟨f0,f⟩:=f2 b hb
  exact⟨by rw[zas (Nat.ne_of_lt (fpl b hb))];exact f0,f⟩
 refine wpAny_newFunctionEnv hcell (by intro y hy;simp at hy) (fun h4 hns4 hsb4=>?_) hk
 have k34:∀ b o,s3.heap.get? b=some o->h4.get? b=some o:=fun b o e=>hsb4.extBut b o (Nat.ne_of_lt (Heap.lt_size e)) (Heap.get?_push_of_some _ e)
 have I4:=zm9 (own:=own) (t4:=s3.toks + ([]:List (Str × Value)).length) hN hsc hok I3 f3 (fun b hb=>Nat.lt_of_lt_of_le (fpl b hb) (by rw[hD3];exact Nat.le_succ _)) k34 hns4
 have tn4:tn 0 h4:=T.keep 0 s2.heap h4 st2 fun b hb o e=>k34 b o (k23 b o e)
 have I4o:=I4.ok
 have fpS:∀ {H'':Hp},(∀ b ∈ fp,H'' b=none)->∀ b ∈ fp,FpOk (cxComp X own fr scope fp pins s3 (upd H2 D (.lst []))) [] H'' b:=fun hn b hb =>
  ⟨hn b hb,(I4o.exf b hb).1,I4o.exfs b hb,.inl hb,(I4o.exf b hb).2,fun p hp=>(f2 b hb).2.2.2.2.2 p (by
   have:p ∈ (X.pn++pins)++([]:List (Addr × Obj)):=hp
   simpa using this)⟩
 have loop : codeAny (model X.prog X.w) X.A (.compLoop (.ListComp elt [⟨tg, iter, ifs, 0⟩] scope pos) 0 (.ref it) (.ref D) (compEnvC scope (clOf X.env.cells scope.names []) s3.heap.objs.size X.env))
     (compPost (model X.prog X.w) X.A X.xe use Qo (.ref D) s3.heap.objs.size) { s3 with heap:=h4,toks:=s3.toks + ([]:List (Str × Value)).length }:=by
  refine zkh (fun n s'=>∃ i ys σ' H',Inv (cxComp X own fr scope fp pins s3 (upd H2 D (.lst []))) [] σ' H' s'∧tn i s'.heap∧(∀ b ∈ fp,H' b=none)∧H' D=some (.lst ys)∧W i n ys σ' H')
   ?step m0 ⟨0,[],_,_,I4,tn4,fun b hb=>(f3 b hb).1,zae,w0⟩
  rintro n s5 ⟨i,ys,σ5,H5,I5,tn5,fr5,d5,w5⟩
  rcases turn i n ys σ5 H5 w5 d5 with ⟨stop,q⟩ | ⟨go,stp⟩
  ·refine thn (T.done (cxComp X own fr scope fp pins s3 (upd H2 D (.lst []))) rfl rfl rfl hc i [] s5 σ5 H5 Fls I5 (fpS fr5) tn5 stop) fun r s6 ⟨hr,I6⟩=>.inl ⟨hr,?_⟩
   obtain⟨m6,hn6,_⟩:=id I6.loc
   have u1:Un (frs X.stack) fp H2 H5 s2.heap s6.heap:=(Un.laid k23 (Nat.le_of_eq hD) hD2).trans I6.base
   have fC:H5 s3.heap.objs.size=none:=I6.free
   have IX:Inv X pins σ H5 s6:=I2.call' (s':=s6) (ch:=fp) (by
    have:=I6.os
    rw[← hs3] at this
    exact this) u1 I6.hok I6.bare fun b hb=>by
     obtain⟨_,g1,_,g3,g4,g5⟩:=f2 b hb
     exact⟨g3,g1,g4,g5⟩
   exact fin s3.heap.objs.size D s6 H5 m6 IX (I2.fpOk (by rw[hD3,hD];exact Nat.le_succ _) fC) hn6 q
  ·refine thn (T.item (cxComp X own fr scope fp pins s3 (upd H2 D (.lst []))) rfl rfl rfl hc i [] s5 σ5 H5 Fls I5 (fpS fr5) tn5 go) fun r s6 ⟨u,hr,h6⟩=>.inr ⟨u,hr,thn h6 fun _ s7 ⟨x,H7,I7,r7,y7,tn7,fr7⟩=>?_⟩
   have I7':=I7.pinned (fpS fr7) (T.obj _ _ tn7)
   refine thn (hg fp pins s3 (upd H2 D (.lst [])) _ s7 σ5 H7 x u _ I7' r7 (stp x H7 y7)) fun _ s8 ⟨σ8,H8,I8,q8⟩=>?_
   refine thn (ht fp pins s3 (upd H2 D (.lst [])) _ s8 σ8 H8 _ I8 q8) fun ok s9 ⟨H9,I9,q9⟩=>?_
   have back:∀ {σ':L2.St} {H':Hp} {s':Shared},Inv (cxComp X own fr scope fp pins s3 (upd H2 D (.lst []))) ([]++pinsAt fp s7.heap) σ' H' s'->tn (i + 1) s'.heap∧∀ b ∈ fp,H' b=none:=fun {σ' H' s'} J=>by
    refine⟨T.keep _ _ _ tn7 fun b hb o e=>(J.pin (b,o) (List.mem_append_right _ (List.mem_append_right _ (zcu hb e)))).1,fun b hb=>?_⟩
    obtain⟨o,e,_⟩:=T.obj _ _ tn7 b hb
    exact (J.pin (b,o) (List.mem_append_right _ (List.mem_append_right _ (zcu hb e)))).2.1
   cases ok with
   | false =>
    rw[if_neg Bool.false_ne_true] at q9
    obtain⟨d9,m',hm,w9⟩:=q9
    rw[if_neg Bool.false_ne_true]
    exact⟨m',hm,i + 1,ys,σ8,H9,I9.unpinned,(back I9).1,(back I9).2,d9,w9⟩
   | true =>
    rw[if_pos rfl] at q9 ⊢
    refine thn (he fp pins s3 (upd H2 D (.lst [])) _ s9 σ8 H9 _ I9 q9) fun xv s10 ⟨v,H10,I10,r10,d10,len,m',hm,w10⟩=>?_
    refine thn (zdi (X:=cxComp X own fr scope fp pins s3 (upd H2 D (.lst []))) _ s10 σ8 H10 (.ref D) [v] (.ref D) [xv] (fun _ H'=>H'=upd H10 D (.lst (ys++[v]))) I10 rfl (.cons r10 .nil) ⟨D,ys,v,rfl,rfl,d10,len,rfl⟩) fun _ s11 ⟨_,H11,I11,_,e11⟩=>?_
    subst e11
    exact⟨m',hm,i + 1,ys++[v],σ8,_,I11.unpinned,(back I11).1,(back I11).2,zae,w10⟩
 exact codeAny_compStart_list loop (T.self X.A 0 _ _ _ tn4 loop)
theorem zbp (hc:X.calm=true) (hi:PI X tg iter wi) (hg:∀ fp pins s3 H3,PG (cxComp X own fr scope fp pins s3 H3) tg g) (ht:∀ fp pins s3 H3,PTs (cxComp X own fr scope fp pins s3 H3) ifs tt)
  (he:∀ fp pins s3 H3,PE (cxComp X own fr scope fp pins s3 H3) elt te) (hok:compOk N sc0 scope fr js=true:=by decide +kernel) (hN:X.N=N:=by rfl) (hsc:X.env.scope=sc0:=by rfl)
  (hs:∀ x,foldedSetIterable iter X.env x=pure x:=by intro _;rfl):PE X (.ListComp elt [⟨tg,iter,ifs,0⟩] scope pos) (tComp own js wi g tt te):=by
 intro pins s σ H Q I h
 rw[eval_ListComp]
 refine zhg hc hi hg ht he hok hN hsc hs I h fun C D s6 H6 m6 I6 f6 n6 q6=>⟨m6,n6,fun h7 sb=>⟨.ref D,H6,?_,rfl,q6⟩⟩
 obtain⟨f0,f1,_,f3,f4,f5⟩:=f6
 exact I6.turned (it:=C) (t':=s6.toks) (fun b o hb e=>sb.extBut b o hb e) f0 f1 f3 f4 f5
theorem zbl {i:Nat} {y:Str} {py spos:Pos} (hc:X.calm=true) (hi:PI X tg iter wi) (hg:∀ fp pins s3 H3,PG (cxComp X own fr scope fp pins s3 H3) tg g) (ht:∀ fp pins s3 H3,PTs (cxComp X own fr scope fp pins s3 H3) ifs tt)
  (he:∀ fp pins s3 H3,PE (cxComp X own fr scope fp pins s3 H3) elt te) (hNd:X.N.Nodup) (hy:X.N[i]?=some y) (hx:Loc X.env.scope y) (hok:compOk N sc0 scope fr js=true:=by decide +kernel) (hN:X.N=N:=by rfl) (hsc:X.env.scope=sc0:=by rfl)
  (hsw:swapsWith (.ListComp elt [⟨tg,iter,ifs,0⟩] scope pos) (some (.Name y py)) spos.line X.env=pure true:=by rfl) (hf:X.fn y=true∨X.env.scope.names.lookup y=some .local:=by first | exact .inl rfl | exact .inr rfl | assumption)
  (hs:∀ x,foldedSetIterable iter X.env x=pure x:=by intro _;rfl):PS X (.Assign [.Name y py] (.ListComp elt [⟨tg,iter,ifs,0⟩] scope pos) spos) (tAsg (tComp own js wi g tt te) (gName i)):=by
 intro pins s σ H D I h
 rw[exec_Assign_Name_used _ _ _ _ hsw]
 refine wpAny_bind (wpAny_standAt (wpAny_bind ?_))
 show wpAny _ _ (do let _ ← comprehension (.ListComp elt [⟨tg,iter,ifs,0⟩] scope pos) scope X.env _ (newList []) false (eval iter X.env) (some (assign (.Name y py) X.env))) _ _ s
 refine wpAny_bind (wpAny_mono (zhg (use:=some (assign (.Name y py) X.env)) (Qo:=fun _ s'=>SP X pins D .next s') hc hi hg ht he hok hN hsc hs I h fun C L s6 H6 m6 I6 f6 n6 q6=>?_) (fun _ s' q=>wpAny_pure (wpAny_pure q)) fun _ _ z=>z)
 obtain⟨f0,f1,f2,f3,f4,f5⟩:=f6
 show wpAny _ _ (assign (.Name y py) X.env (.ref L)) _ _ s6
 refine wpAny_assign_Name (zgx I6 hNd hy hx (v:=.ref L) rfl (fun s7 I7 ⟨a,sb,ha⟩=>?_) hf)
 have ne:C≠a:=by
  rcases ha with e | e
  ·rw[e];exact f1
  ·exact fun z=>f4 y a e z.symm
 refine⟨m6,n6.sameBut sb ne,fun h8 sb8=>⟨σ.set i (some (.ref L)),H6,?_,q6⟩⟩
 exact I7.turned (it:=C) (t':=s7.toks) (fun b o hb e=>sb8.extBut b o hb e) f0 f1 f3 f4 f5
end
end L3
namespace L3
open PySem PySem.Spec PyProof.Rows L2
section
variable {X:Cx} {pins:List (Addr × Obj)} {σ:L2.St} {H H':Hp} {s:Shared} {h':Heap} {ch:List Addr} {t':Nat}
theorem turnsTo (I:Inv X pins σ H s) (hf:∀ b ∈ ch,FpOk X pins H b) (k:∀ b o,b ∉ ch->s.heap.get? b=some o->h'.get? b=some o) (hH:∀ b u,H b=some u->H' b=some u)
  (hfree:∀ b o,s.heap.get? b=some o->H b=none->H' b=none) (hok:HOk X.prog X.w H' h'):Inv X pins σ H' { s with heap:=h',toks:=t' }:=by
 refine I.step (g':=s.gens) (d':=s.drawn) (ch:=ch) (fun b hb=>?_) (fun b o _ _ hc e _=>k b o hc e) (fun b o _ _ hc e _=>⟨o.slots,k b o hc e⟩) (fun b o _ e n=>hfree b o e n) (fun b o hc e=>⟨o,k b o hc e⟩)
  (fun b xs e=>hH _ _ e) (fun b o u e=>hH _ _ e) (fun b ps e=>⟨#[],by rw[hH _ _ e];simp⟩) (fun m hm=>?_) hok I.bare
 ·obtain⟨_,f1,_,f3,f4,f5⟩:=hf b hb
  exact⟨f3,f1,f4,f5⟩
 ·obtain⟨o,es,ep,ho,r⟩:=hm
  exact⟨o,es,ep,k _ o (fun z=>(hf _ z).2.1 rfl) ho,r⟩
theorem turns (I:Inv X pins σ H s) (hf:∀ b ∈ ch,FpOk X pins H b) (k:∀ b o,b ∉ ch->s.heap.get? b=some o->h'.get? b=some o):Inv X pins σ H { s with heap:=h',toks:=t' }:=by
 refine turnsTo I hf k (fun _ _ e=>e) (fun _ _ _ n=>n) fun b u e=>?_
 refine (I.hok b u e).stay (fun c v hc q=>k c v (fun z=>?_) q) (fun _ q=>q) fun _ _ q=>q
 have n:=(hf c z).1
 rcases hc with rfl | hc
 ·rw[n] at e;cases e
 ·rw[n] at hc;cases hc
theorem turnsTup {xs:List V} {its:List Value} {T:Addr} (I:Inv X pins σ H s) (hf:∀ b ∈ ch,FpOk X pins H b) (k:∀ b o,b ∉ ch->s.heap.get? b=some o->h'.get? b=some o) (hT:s.heap.objs.size≤T)
  (hz:xs.length≤sizeLine) (hv:Vals xs its) (ht:TupN h' T its.toArray):Inv X pins σ (upd H T (.tup xs)) { s with heap:=h',toks:=t' }:=by
 have fr:H T=none:=I.hok.fresh hT
 have ne:∀ b u,H b=some u->b≠T:=fun b u e=>zat e fr
 refine turnsTo I hf k (fun b u e=>by rw[zas (ne b u e)];exact e) (fun b o e n=>by rw[zas (Nat.ne_of_lt (Nat.lt_of_lt_of_le (Heap.lt_size e) hT))];exact n) fun b u e=>?_
 by_cases hb:b=T
 ·subst hb
  rw[zae] at e
  cases e
  exact⟨hz,its,hv,ht⟩
 ·rw[zas hb] at e
  refine (I.hok b u e).stay (fun c v hc q=>k c v (fun z=>?_) q) (fun c q=>by rw[zas (ne c _ q)];exact q) fun c ys q=>by rw[zas (ne c _ q)];exact q
  have n:=(hf c z).1
  rcases hc with rfl | hc
  ·rw[n] at e;cases e
  ·rw[n] at hc;cases hc
end
def SqX (t:Bool) (K:PySem.W.Frag) (H:Hp) (a:Addr) (xs:List V):Prop:=if t=true then SqT K H a xs else SqL K H a xs
section
variable {X:Cx} {pins:List (Addr × Obj)} {σ:L2.St} {H:Hp} {s:Shared} {a:Addr} {xs ys:List V} {t:Bool}
theorem seqX (I:Inv X pins σ H s) (h:SqX t X.K H a xs):∃ its:List Value,Vals xs its∧Z3.SqAt t s.heap a its.toArray∧xs.length≤sizeLine:=by
 cases t with
 | true=>obtain⟨its,r,p,z⟩:=I.tuple (show SqT X.K H a xs from h);exact⟨its,r,p,z⟩
 | false=>obtain⟨its,r,p,z⟩:=I.list (show SqL X.K H a xs from h);exact⟨its,r,p.isList,z⟩
theorem zf4 (I:Inv X pins σ H s) (h:SqX t X.K H a xs) (h':SqX t X.K H a ys):xs=ys:=by
 cases t with
 | true=>exact I.tuple_inj h h'
 | false=>exact I.list_inj h h'
end
def Itz (t1 t2:Bool) (K:PySem.W.Frag) (l1 l2:Addr):It :=
 ⟨fun i H=>∃ xs ys x y,SqX t1 K H l1 xs∧SqX t2 K H l2 ys∧xs[i]?=some x∧ys[i]?=some y,
  fun i H v H'=>∃ T x y,H T=none∧v=.ref T∧H'=upd H T (.tup [x,y])∧(∀ xs,SqX t1 K H l1 xs->xs[i]?=some x)∧(∀ ys,SqX t2 K H l2 ys->ys[i]?=some y),
  fun i H=>∃ xs ys,SqX t1 K H l1 xs∧SqX t2 K H l2 ys∧(xs.length≤i∨ys.length≤i)⟩
theorem zmn {P:Program} {w:World} {K:PySem.W.Frag} {elts:List Expr} {kk:Nat} {pos:Pos} {t1 t2:Bool} {z TI TO i1 i2 l1 l2:Addr} (D:Z3.Ap z TI TO i1 i2) (o1:Z3.Out z TI TO i1 i2 l1) (o2:Z3.Out z TI TO i1 i2 l2) :
  Turn P w K (.Tuple elts kk pos) (Itz t1 t2 K l1 l2) [z,TI,TO,i1,i2] z (fun i h=>Z3.Zd t1 t2 h z TI TO i1 i2 l1 l2 .none i) where
 mem:=by simp
 obj:=fun i h st b hb=>by
  obtain⟨q1,q2,⟨_,_,q3⟩,q4,q5⟩:=st
  obtain⟨o4,n4,e4,_,d4⟩:=q4.obj
  obtain⟨o5,n5,e5,_,d5⟩:=q5.obj
  simp only [List.mem_cons,List.not_mem_nil,or_false] at hb
  rcases hb with rfl | rfl | rfl | rfl | rfl
  ·exact⟨_,q1,fun v q=>by cases q⟩
  ·exact⟨_,q2,fun v q=>by cases q⟩
  ·exact⟨_,q3,fun v q=>by cases q⟩
  ·exact⟨_,e4,fun v q=>by rw[d4] at q;cases q⟩
  ·exact⟨_,e5,fun v q=>by rw[d5] at q;cases q⟩
 keep:=fun i h h' st k=>by
  obtain⟨q1,q2,⟨a,b,q3⟩,q4,q5⟩:=st
  exact⟨k z (by simp) _ q1,k TI (by simp) _ q2,⟨a,b,k TO (by simp) _ q3⟩,q4.to fun o e=>k i1 (by simp) o e,q5.to fun o e=>k i2 (by simp) o e⟩
 item:=by
  intro X hP hw hK hc i pins s σ H E I hf st hg
  subst hP hw hK
  obtain⟨xs,ys,x,y,q1,q2,hx,hy⟩:=hg
  obtain⟨its1,r1,p1,z1⟩:=seqX I q1
  obtain⟨its2,r2,p2,z2⟩:=seqX I q2
  obtain⟨u1,hu1,ru1⟩:=r1.get hx
  obtain⟨u2,hu2,ru2⟩:=r2.get hy
  have hf4:∀ b ∈ [z,TO,i1,i2],FpOk X pins H b:=fun b hb=>hf b (by
   simp only [List.mem_cons,List.not_mem_nil,or_false] at hb ⊢
   rcases hb with rfl | rfl | rfl | rfl <;> simp)
  refine Z3.zlk D o1 o2 st p1 p2 (x:=u1) (y:=u2) (by simpa using hu1) (by simpa using hu2) fun h' zd tp sz kp=>?_
  have I1 : Inv X pins σ (upd H s.heap.objs.size (.tup [x, y])) { s with heap := h', toks := s.toks } := turnsTup (ch := [z, TO, i1, i2]) (its := [u1, u2]) I hf4 (fun b o hb e => by
      simp only [List.mem_cons,List.not_mem_nil,or_false,not_or] at hb
      exact kp b o hb.1 hb.2.1 hb.2.2.1 hb.2.2.2 e) (Nat.le_refl _) (by show 2≤sizeLine;rw[sizeLine_eq];decide) (.cons ru1 (.cons ru2 .nil)) ⟨_,tp,rfl,⟨_,rfl⟩,rfl⟩
  have fr:H s.heap.objs.size=none:=I.fresh
  have zne:∀ b ∈ [z,TI,TO,i1,i2],b≠s.heap.objs.size:=fun b hb e=>by
   have key:∃ o,s.heap.get? b=some o:=by
    obtain⟨q1,q2,⟨_,_,q3⟩,q4,q5⟩:=st
    obtain⟨o4,n4,e4,_,d4⟩:=q4.obj
    obtain⟨o5,n5,e5,_,d5⟩:=q5.obj
    simp only [List.mem_cons,List.not_mem_nil,or_false] at hb
    rcases hb with rfl | rfl | rfl | rfl | rfl
    ·exact⟨_,q1⟩
    ·exact⟨_,q2⟩
    ·exact⟨_,q3⟩
    ·exact⟨_,e4⟩
    ·exact⟨_,e5⟩
   obtain⟨o,ho⟩:=key
   exact absurd (Heap.lt_size ho) (by rw[e];exact Nat.lt_irrefl _)
  refine⟨_,rfl,wpAny_letOwnedTupleGo_zip zd.z fun h2 zd2 sb=>?_⟩
  obtain⟨f0,f1,f2,f3,f4,f5⟩:=hf z (by simp)
  have I2:Inv X pins σ (upd H s.heap.objs.size (.tup [x,y])) { s with heap:=h2,toks:=s.toks }:=Inv.turned (s:={ s with heap:=h',toks:=s.toks }) (it:=z) (t':=s.toks) I1 (fun b o hb e=>sb.extBut b o hb e) (by rw[zas (zne z (by simp))];exact f0) f1 f3 f4 f5
  refine⟨.ref s.heap.objs.size,_,I2,rfl,⟨_,x,y,fr,rfl,rfl,fun zs hz=>by rw[zf4 I hz q1];exact hx,fun zs hz=>by rw[zf4 I hz q2];exact hy⟩,?_,fun b hb=>by rw[zas (zne b hb)];exact (hf b hb).1⟩
  obtain⟨_,w2,⟨a3,b3,w3⟩,w4,w5⟩:=zd
  exact⟨zd2,sb.extBut _ _ D.n1 w2,⟨a3,b3,sb.extBut _ _ D.n2 w3⟩,w4.to fun o e=>sb.extBut _ _ D.n3 e,w5.to fun o e=>sb.extBut _ _ D.n4 e⟩
 done:=by
  intro X hP hw hK hc i pins s σ H E I hf st hg
  subst hP hw hK
  obtain⟨xs,ys,q1,q2,hx⟩:=hg
  obtain⟨its1,r1,p1,z1⟩:=seqX I q1
  obtain⟨its2,r2,p2,z2⟩:=seqX I q2
  have l1:=r1.length
  have l2:=r2.length
  have hf4:∀ b ∈ [z,TO,i1,i2],FpOk X pins H b:=fun b hb=>hf b (by
   simp only [List.mem_cons,List.not_mem_nil,or_false] at hb ⊢
   rcases hb with rfl | rfl | rfl | rfl <;> simp)
  refine Z3.zlj (I.ok.hd hc) D o1 o2 st p1 p2 (hx.elim (fun q=>.inl (by simp;trivial)) fun q=>.inr (by simp;trivial)) fun h' kp=>⟨rfl,?_⟩
  exact turns (ch:=[z,TO,i1,i2]) (t':=s.toks) I hf4 fun b o hb e=>by
   simp only [List.mem_cons,List.not_mem_nil,or_false,not_or] at hb
   exact kp b o hb.1 hb.2.1 hb.2.2.1 hb.2.2.2 e
 self:=fun _ _ _ _ _ st h=>wpAny_pyIter_zip st.z h
def iZip (t1 t2:Bool) (K:PySem.W.Frag) (ta:TA):TI:=fun σ H R=>ta σ H fun vs H1=>∃ l1 l2,vs=[.ref l1,.ref l2]∧(∃ xs,SqX t1 K H1 l1 xs)∧(∃ ys,SqX t2 K H1 l2 ys)∧R (Itz t1 t2 K l1 l2) H1
theorem zfs {X:Cx} {elts:List Expr} {kk:Nat} {pos':Pos} (t1 t2:Bool) {a b:Expr} {ta:TA} {p pos:Pos} (hg:Gl X "zip") (hm:X.mg "zip"=none) (ha:PA X [a,b] ta)
  (hs:starEach [a,b] X.env=[(false,eval a X.env),(false,eval b X.env)]:=by rfl) (hs2:starEach [b] X.env=[(false,eval b X.env)]:=by rfl) :
  PI X (.Tuple elts kk pos') (.Call (.Name "zip" p) [a,b] [] pos) (iZip t1 t2 X.K ta):=by
 intro pins s σ H R I h
 refine Call_ (zfw I hg hm boot_zip (PyProof.Rows.callWith_type1 (thn (ha pos pins s σ H _ I h) fun us s1 ⟨vs,H1,I1,r1,q1⟩=>?_) (by rw[hs,hs2]) (by rw[hs2];rfl)))
 obtain⟨l1,l2,e,⟨xs,qx⟩,⟨ys,qy⟩,q⟩:=q1
 subst e
 cases r1 with
 | cons r rr =>
  cases rr with
  | cons r' rr =>
   cases rr
   cases r
   cases r'
   obtain⟨its1,r1,p1,z1⟩:=seqX I1 qx
   obtain⟨its2,r2,p2,z2⟩:=seqX I1 qy
   have lt:∀ {t:Bool} {l:Addr} {xs:Array Value},Z3.SqAt t s1.heap l xs->l < s1.heap.objs.size:=fun {t l xs} q=>by
    cases t with
    | true=>obtain⟨o,e,_⟩:=(show s1.heap.IsTuple l xs from q);exact Heap.lt_size e
    | false=>obtain⟨o,e,_⟩:=(show s1.heap.IsList l xs from q);exact Heap.lt_size e
   refine Z3.zns p1 p2 fun h' zd sz kp=>wpAny_pyIter_zip zd.z ?_
   have I2:Inv X pins σ H1 { s1 with heap:=h',toks:=s1.toks }:=I1.kept (t':=s1.toks) kp
   refine⟨s1.heap.objs.size + 4,[s1.heap.objs.size + 4,s1.heap.objs.size + 2,s1.heap.objs.size + 3,s1.heap.objs.size,s1.heap.objs.size + 1],_,_,H1,rfl,I2,zmn (Z3.zqi _) (Z3.zla (lt p1)) (Z3.zla (lt p2)),zd,fun b hb=>?_,q⟩
   have hb':s1.heap.objs.size≤b:=by
    simp only [List.mem_cons,List.not_mem_nil,or_false] at hb
    rcases hb with rfl | rfl | rfl | rfl | rfl
    ·exact Nat.le_add_right _ _
    ·exact Nat.le_add_right _ _
    ·exact Nat.le_add_right _ _
    ·exact Nat.le_refl _
    ·exact Nat.le_add_right _ _
   exact I1.fpOk hb' (I1.hok.fresh hb')
section
variable {X:Cx} {pos:Pos}
inductive gLst_i (K:PySem.W.Frag) (n:Nat) (t:TGs) (v:V) (σ:L2.St) (H:Hp) (Q:L2.St->Hp->Prop):Prop
 | mk:∀ a xs,(v=.ref a)->(SqL K H a xs)->(xs.length=n)->(t xs σ H Q)->gLst_i K n t v σ H Q
def gLst (K:PySem.W.Frag) (n:Nat) (t:TGs):TG:=fun v σ H Q=>gLst_i K n t v σ H Q
theorem zpv {es:List Expr} {k:Nat} {t:TGs} {n:Nat} (hc:X.calm=true) (h:PGs X es t) (hn:(assignEach es X.env).length=n:=by rfl) (hst:(assignEach es X.env).findIdx? (·.1)=none:=by rfl):PG X (.Tuple es k pos) (gLst X.K n t):=by
 intro pins s σ H v u Q I r hw
 obtain⟨a,xs,e1,hq,hl,hw⟩:=hw
 subst e1
 cases r
 obtain⟨its,rv,ht,hz⟩:=I.list hq
 refine U3.assign_tuple_lst (I.ok.hd hc) ht.isList (by simp [hn,← hl,rv.length]) hst fun h' hx=>?_
 have I1:Inv X pins σ H { s with heap:=h' }:=I.kept (t':=s.toks) fun b o e=>hx b o (Nat.ne_of_lt (Heap.lt_size e)) e
 exact h pins _ σ H xs _ Q I1 (by simpa using rv) hw
theorem zmp {prog:Program} {w:World} {A:Around} {bs:List Bool} {its:List Value} (r:Vals (bs.map V.bl) its):TruthOf prog w A (fun i v=>its.toArray[i]?=some v) (fun i=>bs.getD i true):=by
 intro i v s Q E hP hq
 have hP':its[i]?=some v:=by simpa using hP
 have hl:=r.length
 have hi:i < its.length:=(List.getElem?_eq_some_iff.mp hP').1
 have hb:i < bs.length:=by rw[List.length_map] at hl;trivial
 obtain⟨u,hu,ru⟩:=r.get (i:=i) (x:=V.bl bs[i]) (by rw[List.getElem?_map,List.getElem?_eq_getElem hb];rfl)
 rw[hP'] at hu
 cases hu
 have e:v=Value.bool bs[i]:=ru
 subst e
 have e2:bs.getD i true=bs[i]:=by simp [List.getD,hb]
 have hq':Q (bs.getD i true) s:=hq
 rw[e2] at hq'
 exact wpAny_truthy_bool hq'
theorem zmi (bs:List Bool):((List.range bs.length).all fun i=>bs.getD i true)=bs.all id:=by
 rw[Bool.eq_iff_iff,List.all_eq_true,List.all_eq_true]
 constructor
 ·intro h b hb
  obtain⟨i,hi,e⟩:=List.getElem_of_mem hb
  have:=h i (List.mem_range.mpr hi)
  rw[← e]
  simpa [List.getD,hi] using this
 ·intro h i hi
  have hi':=List.mem_range.mp hi
  have:=h bs[i] (List.getElem_mem hi')
  simpa [List.getD,hi'] using this
inductive call_all_i (K:PySem.W.Frag) (xs:List V) (H:Hp) (Q:VK):Prop
 | mk:∀ (p:Addr) (bs:List Bool),(xs=[.ref p])->(SqL K H p (bs.map V.bl))->(Q (.bl (bs.all id)) H)->call_all_i K xs H Q
theorem zce (hh:X.calm=true):CallR X (.builtin "all") (call_all_i X.K):=by
 intro pins s σ H xs us Q I r h
 obtain⟨p,bs,rfl,hq,q⟩:=h
 obtain⟨u,rfl,rx⟩:=vals1 r
 cases rx
 obtain⟨its,rv,pl,hz⟩:=I.list hq
 have hl:=rv.length
 have lt:p≠s.heap.objs.size:=by obtain⟨o,e,_⟩:=pl.isList;exact Nat.ne_of_lt (Heap.lt_size e)
 refine call_all_walk (wpAny_pyIter_list pl.isList ?_)
 have W:=Walks.list (prog:=X.prog) (w:=X.w) (A:=X.A.in1) (show X.A.in1.handled=none from I.ok.hd hh) s.heap.objs.size p lt its.toArray
 refine⟨s.heap.objs.size,_,_,_,_,_,_,rfl,W,⟨⟨_,Heap.get?_push_size _ rfl,rfl,rfl⟩,pl.isList.push _⟩,zmp rv,fun h' tk hk=>?_⟩
 refine⟨.bl (bs.all id),H,I.kept (t':=tk) fun b o e=>hk b o (fun z=>?_) (Heap.get?_push_of_some _ e),?_,q⟩
 ·have:b=s.heap.objs.size:=by simpa using z
  exact absurd (Heap.lt_size e) (by rw[this];exact Nat.lt_irrefl _)
 ·show Value.bool _=Value.bool _
  have e1:its.toArray.size=bs.length:=by rw[List.size_toArray,← hl,List.length_map]
  rw[e1,zmi]
inductive call_isi_i (K:PySem.W.Frag) (n:String) (xs:List V) (H:Hp) (Q:VK):Prop
 | mk:∀ x t b,(xs=[x,.ty n])->(TyOf K H x t)->(PySem.W.kitOne K t (.type n)=some b)->(Q (.bl b) H)->call_isi_i K n xs H Q
theorem zcx {n:String}:CallR X (.builtin "isinstance") (call_isi_i X.K n):=by
 intro pins s σ H xs us Q I r h
 obtain⟨x,t,b,rfl,ty,e,q⟩:=h
 obtain⟨u,c,rfl,ru,rc⟩:=r.two
 cases rc
 exact zlu I ru ty e fun tk=>⟨.bl b,H,I.tok tk,rfl,q⟩
variable {a b c d:Expr} {ta tb tc td:TE}
end
end L3
namespace L3
open PySem PySem.Spec PyProof.Rows L2
mutual
def Is (K:PySem.W.Frag) (H:Hp):PyData->V->Prop
 | .none,v=>v=.non
 | .bool b,v=>v=.bl b
 | .int i,v=>v=.int i
 | .str x,v=>v=.str x
 | .tuple ds,v=>∃ p vs,v=.ref p∧H p=some (.tup vs)∧IsAll K H ds vs
 | .list ds,v=>∃ p vs,v=.ref p∧H p=some (.lst vs)∧IsAll K H ds vs
 | .dict kvs,v=>kvs=[]∧∃ p,v=.ref p∧H p=some (.dK [])
def IsAll (K:PySem.W.Frag) (H:Hp):List PyData->List V->Prop
 | [],vs=>vs=[]
 | d::ds,vs=>∃ v r,vs=v::r∧Is K H d v∧IsAll K H ds r
end
section
variable {K:PySem.W.Frag} {H H':Hp}
mutual
theorem Is.same (e:Same H H'):∀ (d:PyData) {v:V},Is K H d v->Is K H' d v
 | .none,_,h=>h
 | .bool _,_,h=>h
 | .int _,_,h=>h
 | .str _,_,h=>h
 | .tuple ds,_,h=>let ⟨p,vs,q1,q2,q3⟩:=h;⟨p,vs,q1,e _ _ q2,IsAll.same e ds q3⟩
 | .list ds,_,h=>let ⟨p,vs,q1,q2,q3⟩:=h;⟨p,vs,q1,e _ _ q2,IsAll.same e ds q3⟩
 | .dict kvs,_,h=>let ⟨q0,p,q1,q2⟩:=h;⟨q0,p,q1,e _ _ q2⟩
theorem IsAll.same (e:Same H H'):∀ (ds:List PyData) {vs:List V},IsAll K H ds vs->IsAll K H' ds vs
 | [],_,h=>h
 | d::ds,_,h=>let ⟨v,r,q1,q2,q3⟩:=h;⟨v,r,q1,Is.same e d q2,IsAll.same e ds q3⟩
end
theorem IsAll.length:∀ {ds:List PyData} {vs:List V},IsAll K H ds vs->vs.length=ds.length
 | [],_,h=>by rw[show _=[] from h];rfl
 | d::ds,_,⟨v,r,q1,q2,q3⟩=>by rw[q1,List.length_cons,List.length_cons,IsAll.length q3]
theorem IsAll.get':∀ {ds:List PyData} {vs:List V} {i:Nat} {v:V},IsAll K H ds vs->vs[i]?=some v->∃ d,ds[i]?=some d∧Is K H d v
 | [],_,i,v,h,e=>by rw[show _=[] from h] at e;simp at e
 | d::ds,_,0,v,⟨u,r,q1,q2,q3⟩,e=>by
  subst q1
  have e':u=v:=by simpa using e
  subst e';exact⟨d,rfl,q2⟩
 | d::ds,_,i + 1,v,⟨u,r,q1,q2,q3⟩,e=>by
  subst q1
  obtain⟨d',h1,h2⟩:=IsAll.get' (i:=i) q3 (by simpa using e)
  exact⟨d',by simpa using h1,h2⟩
theorem IsAll.of:∀ {ds:List PyData} {vs:List V},vs.length=ds.length->(∀ (i:Nat) (d:PyData) (v:V),ds[i]?=some d->vs[i]?=some v->Is K H d v)->IsAll K H ds vs
 | [],[],_,_=>rfl
 | [],_::_,h,_=>by simp at h
 | _::_,[],h,_=>by simp at h
 | d::ds,v::vs,h,q=>⟨v,vs,rfl,q 0 d v rfl rfl,IsAll.of (by simpa using h) fun i d' v' h1 h2=>q (i + 1) d' v' (by simpa using h1) (by simpa using h2)⟩
theorem IsAll.ints (ns:List Int):IsAll K H (ns.map .int) (ns.map V.int):=by
 refine IsAll.of (by simp) fun i d v h1 h2=>?_
 rw[List.getElem?_map] at h1 h2
 cases e:ns[i]? with
 | none=>rw[e] at h1;cases h1
 | some n=>rw[e] at h1 h2;cases h1;cases h2;exact rfl
theorem IsAll.of_ints:∀ {ns:List Int} {vs:List V},IsAll K H (ns.map .int) vs->vs=ns.map V.int
 | [],_,h=>h
 | n::ns,_,⟨v,r,q1,q2,q3⟩=>by
  have e:v=.int n:=q2
  rw[q1,e,IsAll.of_ints q3];rfl
end
section
variable {X:Cx} {pins:List (Addr × Obj)} {σ:L2.St} {H:Hp} {s:Shared}
mutual
theorem zcc (I:Inv X pins σ H s):∀ (d:PyData) {v:V} {u:Value},Is X.K H d v->RelV v u->∃ as,Reads s.heap u d as
 | .none,_,_,h,r=>by
  have e:_=V.non:=h
  subst e;cases r;exact⟨_,.none⟩
 | .bool b,_,_,h,r=>by
  have e:_=V.bl b:=h
  subst e;cases r;exact⟨_,.bool b⟩
 | .int i,_,_,h,r=>by
  have e:_=V.int i:=h
  subst e;obtain⟨t,rfl⟩:=r;exact⟨_,.int i t⟩
 | .str x,_,_,h,r=>by
  have e:_=V.str x:=h
  subst e;obtain⟨t,rfl⟩:=r;exact⟨_,.str x t⟩
 | .tuple ds,_,_,h,r=>by
  obtain⟨p,vs,rfl,q2,q3⟩:=(show ∃ p vs,_=V.ref p∧H p=some (.tup vs)∧IsAll X.K H ds vs from h)
  cases r
  obtain⟨its,rv,⟨o,e1,e2,n,e3⟩,_⟩:=I.tuple (SqT.of q2)
  obtain⟨as,ra⟩:=zc3 I ds q3 rv
  exact⟨_,.tuple e1 e2 e3 (by simpa using ra)⟩
 | .list ds,_,_,h,r=>by
  obtain⟨p,vs,rfl,q2,q3⟩:=(show ∃ p vs,_=V.ref p∧H p=some (.lst vs)∧IsAll X.K H ds vs from h)
  cases r
  obtain⟨its,rv,⟨o,n,e1,e2,_,e3⟩,_⟩:=I.list (SqL.of q2)
  obtain⟨as,ra⟩:=zc3 I ds q3 rv
  exact⟨_,.list e1 e2 e3 (by simpa using ra)⟩
 | .dict kvs,_,_,h,r=>by
  obtain⟨e0,p,rfl,q2⟩:=(show kvs=[]∧∃ p,_=V.ref p∧H p=some (.dK []) from h)
  subst e0
  cases r
  obtain⟨_,_,vs,kv,o,es,ep,g1,g2,g3,_,g4,_⟩:=(show ObjOk X.prog X.w H s.heap p (.dK []) from I.hok p _ q2)
  cases kv
  have e1:es.toList=[]:=by cases h:es.toList with
   | nil=>rfl
   | cons x r=>rw[h] at g4;cases g4
  exact⟨_,.dict g1 g2.1 g3 (by rw[e1];exact .nil) (by rw[e1];exact .nil)⟩
theorem zc3 (I:Inv X pins σ H s):∀ (ds:List PyData) {vs:List V} {us:List Value},IsAll X.K H ds vs->Vals vs us->∃ as,ReadsAll s.heap us ds as
 | [],_,_,h,r=>by
  have e:_=[]:=h
  subst e;cases r;exact⟨_,.nil⟩
 | d::ds,_,_,h,r=>by
  obtain⟨v,vr,rfl,q2,q3⟩:=(show ∃ v r,_=v::r∧Is X.K H d v∧IsAll X.K H ds r from h)
  cases r with
  | cons r1 r2 =>
   obtain⟨as,a1⟩:=zcc I d q2 r1
   obtain⟨bs,a2⟩:=zc3 I ds q3 r2
   exact⟨_,.cons a1 a2⟩
end
inductive op_eqD_i (K:PySem.W.Frag) (uu:Nat) (x:V) (y:V) (H:Hp) (Q:VK):Prop
 | mk:∀ da db,(Is K H da x)->(Is K H db y)->(da.canLay0=true)->(db.canLay0=true)->(uu + min da.depth db.depth < cLine)->(Q (.bl (PyData.eqv da db)) H)->op_eqD_i K uu x y H Q
theorem zp2:OpR X (compareOp .Eq) (op_eqD_i X.K X.A.units):=by
 intro pins s σ H x y v u Q I rx ry h
 obtain⟨da,db,h1,h2,c1,c2,hu,q⟩:=h
 obtain⟨as,ra⟩:=zcc I da h1 rx
 obtain⟨bs,rb⟩:=zcc I db h2 ry
 exact SeqAt.compareEq_reads ra rb c1 c2 hu (za4 I q rfl)
inductive op_neD_i (K:PySem.W.Frag) (uu:Nat) (x:V) (y:V) (H:Hp) (Q:VK):Prop
 | mk:∀ da db,(Is K H da x)->(Is K H db y)->(da.canLay0=true)->(db.canLay0=true)->(uu + min da.depth db.depth < cLine)->(Q (.bl (!PyData.eqv da db)) H)->op_neD_i K uu x y H Q
theorem zlb:OpR X (compareOp .NotEq) (op_neD_i X.K X.A.units):=by
 intro pins s σ H x y v u Q I rx ry h
 obtain⟨da,db,h1,h2,c1,c2,hu,q⟩:=h
 obtain⟨as,ra⟩:=zcc I da h1 rx
 obtain⟨bs,rb⟩:=zcc I db h2 ry
 exact SeqAt.compareNe_reads ra rb c1 c2 hu (za4 I q rfl)
theorem znd {ys:List V} {its:List Value} (r:Vals ys its) {i:Nat} (hi:i < ys.length):RelV (ys.getD i .non) (its.getD i .none):=by
 have hl:=r.length
 obtain⟨u,hu,ru⟩:=r.get (i:=i) (x:=ys[i]) (List.getElem?_eq_getElem hi)
 have e1:ys.getD i .non=ys[i]:=by simp [List.getD,hi]
 have e2:its.getD i .none=u:=by simp [List.getD,hu]
 rw[e1,e2];exact ru
theorem zef {ys:List V} {its:List Value} (r:Vals ys its):∀ (l:List Nat),(∀ i ∈ l,i < ys.length)->Vals (l.map fun i=>ys.getD i .non) (l.map fun i=>its.getD i Value.none)
 | [],_=>.nil
 | i::l,h=>.cons (znd r (h i List.mem_cons_self)) (zef r l fun j hj=>h j (List.mem_cons_of_mem _ hj))
theorem zfx {n:Nat} {p:Array Nat} (g:Srt.Gd n p):∀ i ∈ p.toList,i < n:=fun i hi=>by
 have:=g.mem_iff.mp (Array.mem_toList_iff.mp hi)
 simpa using this
theorem zio {α:Type} {n:Nat} {p:Array Nat} (g:Srt.Gd n p) (f:Nat->α):(p.toList.map f).Perm ((List.range n).map f):=by
 have h:=Array.perm_iff_toList_perm.mp g
 exact (by simpa using h:p.toList.Perm (List.range n)).map f
theorem zh6 {n:Nat} {p:Array Nat} {r:Nat->Int} {R:Nat->Nat->Prop} (g:Srt.Gd n p) (u:Srt.Up r p n) (h:∀ i j,i < n->j < n->r i≤r j->R i j):p.toList.Pairwise R:=by
 rw[List.pairwise_iff_getElem]
 intro i j hi hj hij
 have sz:=g.sz
 have hi':i < p.size:=by simpa using hi
 have hj':j < p.size:=by simpa using hj
 have q:=u i j (Nat.le_of_lt hij) (by trivial)
 have e:∀ k (hk:k < p.size),p.getD k 0=p[k]:=fun k hk=>by simp [Array.getD,hk]
 unfold Srt.ky at q
 rw[e i hi',e j hj'] at q
 have m:∀ k (hk:k < p.size),p[k] < n:=fun k hk=>zfx g _ (by simp)
 have:=h p[i] p[j] (m i hi') (m j hj') q
 simpa using this
theorem zbk {α:Type} (l:List α) (d:α):(List.range l.length).map (fun i=>l.getD i d)=l:=by
 refine List.ext_getElem (by simp) fun i h1 h2=>?_
 simp [List.getD,h2]
inductive call_sortedI_i (K:PySem.W.Frag) (xs:List V) (H:Hp) (Q:VK):Prop
 | mk:∀ p ns,(xs=[.ref p])->(SqL K H p (ns.map V.int))->(ns.length < 64)->(∀ ms:List Int,ms.Perm ns->ms.Pairwise (·≤·)->∀ l,H l=none->Q (.ref l) (upd H l (.lst (ms.map V.int))))->call_sortedI_i K xs H Q
theorem zd7:CallR X (.builtin "sorted") (call_sortedI_i X.K):=by
 intro pins s σ H xs us Q I r h
 obtain⟨p,ns,rfl,hq,h64,q⟩:=h
 obtain⟨u,rfl,rx⟩:=vals1 r
 cases rx
 obtain⟨its,rv,pl,hz⟩:=I.list hq
 have hl:=rv.length
 rw[List.length_map] at hl
 have hI:IntsAre its ns:=zbm rv
 have line:(64:Nat)≤sizeLine:=by rw[sizeLine_eq];decide
 refine Srt.zgy (r:=fun i=>ns.getD i 0) (κ:=oneType') pl.isList (by trivial) (fun h2 A' s' Q' _ q'=>Srt.zjr hI h2 q') (fun A' s' i j C _ hi hj q'=>Srt.zly hI hi hj q') fun pp h' c g u kp e=>?_
 have g':Srt.Gd ns.length pp:=by rw[hl];exact g
 have u':Srt.Up (fun i=>ns.getD i 0) pp ns.length:=by rw[hl];exact u
 have pm:(pp.toList.map fun i=>ns.getD i 0).Perm ns:=by
  have:=zio g' fun i=>ns.getD i 0
  rw[zbk] at this
  exact this
 have pw:(pp.toList.map fun i=>ns.getD i 0).Pairwise (·≤·):=by
  rw[List.pairwise_map]
  exact zh6 g' u' fun i j _ _ z=>z
 have fr:H (s.heap.objs.size + 1)=none:=I.hok.fresh (Nat.le_succ _)
 have ev:((pp.toList.map fun i=>ns.getD i 0).map V.int)=pp.toList.map fun i=>(ns.map V.int).getD i .non:=by
  rw[List.map_map]
  refine List.map_congr_left fun i hi=>?_
  have:=zfx g' i hi
  simp [List.getD,this]
 refine⟨.ref (s.heap.objs.size + 1),_,I.laid (a:=s.heap.objs.size + 1) (o:=.lst ((pp.toList.map fun i=>ns.getD i 0).map V.int)) (t':=s.toks) kp (Nat.le_succ _) ⟨?_,Srt.outOf its pp,c,?_,e⟩,rfl,q _ pm pw _ fr⟩
 ·have:=pm.length_eq
  rw[List.length_map,this];trivial
 ·rw[ev]
  exact zef rv pp.toList fun i hi=>by rw[List.length_map];exact zfx g' i hi
inductive call_sortedT_i (K:PySem.W.Frag) (xs:List V) (H:Hp) (Q:VK):Prop
 | mk:∀ p ys ks,(xs=[.ref p])->(SqL K H p ys)->(ys.length < 64)->(Paired (fun (y:V) (k:List Int)=>∃ a,y=.ref a∧SqT K H a (k.map V.int)) ys ks)->((∀ k ∈ ks,k≠[]))->(∀ qs:List (V × List Int),qs.Perm (ys.zip ks)->qs.Pairwise (fun a b=>Srt.lexI b.2 a.2=false)->∀ l,H l=none->Q (.ref l) (upd H l (.lst (qs.map (·.1)))))->call_sortedT_i K xs H Q
theorem zd6:CallR X (.builtin "sorted") (call_sortedT_i X.K):=by
 intro pins s σ H xs us Q I r h
 obtain⟨p,ys,ks,rfl,hq,h64,hp,hne,q⟩:=h
 obtain⟨u,rfl,rx⟩:=vals1 r
 cases rx
 obtain⟨its,rv,pl,hz⟩:=I.list hq
 have hl:=rv.length
 have hlk:ys.length=ks.length:=Paired.length hp
 have line:(64:Nat)≤sizeLine:=by rw[sizeLine_eq];decide
 have hT:∀ {ys:List V} {ks:List (List Int)} {its:List Value},Paired (fun (y:V) (k:List Int)=>∃ a,y=.ref a∧SqT X.K H a (k.map V.int)) ys ks->Vals ys its->Paired (Srt.TupI s.heap) its ks:=by
  intro ys ks its hp
  induction hp generalizing its with
  | nil=>intro rv;cases rv;exact .nil
  | cons r t ih =>
   intro rv
   cases rv with
   | cons r1 r2 =>
    refine .cons ?_ (ih r2)
    obtain⟨a,rfl,qa⟩:=r
    cases r1
    obtain⟨its',rv',⟨o,e1,e2,n,e3⟩,_⟩:=I.tuple qa
    exact⟨a,o,its'.toArray,n,rfl,e1,e2,e3,by simpa using zbm rv'⟩
 have tp:=hT hp rv
 have mono:∀ {h':Heap},(∀ b o,s.heap.get? b=some o->h'.get? b=some o)->Paired (Srt.TupI h') its ks:=fun k=>Paired.mapP tp fun v k' z=>z.to k
 refine Srt.zgy (r:=Srt.rank its.length fun i j=>Srt.lexI (ks.getD i []) (ks.getD j [])) (κ:=tuples' true) pl.isList (by trivial) (fun h2 A' s' Q' k q'=>Srt.zmo (mono k) hne h2 q')
  (fun A' s' i j C k hi hj q'=>Srt.zob (mono k) hi hj (by rw[Srt.zk1 (lt:=fun i j=>Srt.lexI (ks.getD i []) (ks.getD j [])) (fun i=>Srt.zgg _) (fun _ _ _ _ _ _=>Srt.zdy _ _ _) (fun _ _ _ _ _ _=>Srt.zgf _ _ _) hi hj] at q';exact q')) fun pp h' c g u kp e=>?_
 have fr:H (s.heap.objs.size + 1)=none:=I.hok.fresh (Nat.le_succ _)
 have pm:(pp.toList.map fun i=>(ys.getD i .non,ks.getD i [])).Perm (ys.zip ks):=by
  have h1:=zio g fun i=>(ys.getD i V.non,ks.getD i [])
  have e1:(List.range its.length).map (fun i=>(ys.getD i V.non,ks.getD i []))=ys.zip ks:=by
   refine List.ext_getElem (by simp;trivial) fun i h1 h2=>?_
   have hi:i < its.length:=by simpa using h1
   have a1:i < ys.length:=by trivial
   have a2:i < ks.length:=by trivial
   simp [List.getD,a1,a2]
  rw[e1] at h1
  exact h1
 have pw:(pp.toList.map fun i=>(ys.getD i V.non,ks.getD i [])).Pairwise (fun a b=>Srt.lexI b.2 a.2=false):=by
  rw[List.pairwise_map]
  refine zh6 g u fun i j hi hj z=>?_
  have w:=Srt.zk1 (n:=its.length) (lt:=fun i j=>Srt.lexI (ks.getD i []) (ks.getD j [])) (fun i=>Srt.zgg _) (fun _ _ _ _ _ _=>Srt.zdy _ _ _) (fun _ _ _ _ _ _=>Srt.zgf _ _ _) hj hi
  rw[decide_eq_false (by trivial)] at w
  exact w.symm
 have ev:(pp.toList.map fun i=>(ys.getD i V.non,ks.getD i [])).map (·.1)=pp.toList.map fun i=>ys.getD i V.non:=by
  rw[List.map_map];rfl
 refine⟨.ref (s.heap.objs.size + 1),_,I.laid (a:=s.heap.objs.size + 1) (o:=.lst ((pp.toList.map fun i=>(ys.getD i V.non,ks.getD i [])).map (·.1))) (t':=s.toks) kp (Nat.le_succ _) ⟨?_,Srt.outOf its pp,c,?_,e⟩,rfl,q _ pm pw _ fr⟩
 ·have:=pm.length_eq
  rw[List.length_map,this,List.length_zip];trivial
 ·rw[ev]
  exact zef rv pp.toList fun i hi=>by have:=zfx g i hi;trivial
end
end L3
namespace L3
open PySem PySem.Spec PyProof.Rows L2
def Ok (P:Program) (w:World) (K:PySem.W.Frag) (mg:Str->Option Value) (base:Heap) (k:Nat) (x:Str) (ps:List Str) (sp:Sp):Prop :=
 ∃ (f:Addr) (fd:FuncData),FnOk P w K mg base CX0 k f fd ps sp∧Binds K fd ps []∧PySem.W.keepIn K (.ref f)=true∧mg x=some (.ref f)
def DefOk (K:PySem.W.Frag) (mg:Str->Option Value) (x:Str) (st:Stmt) (ps:List Str):Prop :=
 ∃ (f:Addr) (fd:FuncData),Fun K x x st f fd∧Binds K fd ps []∧mg x=some (.ref f)
section
variable {P:Program} {w:World} {K:PySem.W.Frag} {mg:Str->Option Value} {base:Heap} {x:Str} {ps N:List Str} {sp sp':Sp} {k:Nat} {st:Stmt}
theorem Ok.mono {j:Nat} (O:Ok P w K mg base j x ps sp) (h:j≤k):Ok P w K mg base k x ps sp:=let ⟨f,fd,F,r⟩:=O;⟨f,fd,F.mono h,r⟩
theorem zbi (D:DefOk K mg x st ps) (S:FnScope N ps (defScope st)) (len:∀ vs H Q E,sp vs H Q E->vs.length=ps.length)
  (hbody:∀ (f:Addr) (cdv:Value) (A:Around) (outer:List Env) (s:Shared) (H:Hp) (vs:List V) (Q:VK) (E:XK),Room k (A.deeper (envOfC x (defScope st) s.heap.objs.size f cdv))->sp vs H Q E ->
   ∃ t,PSs (cxOf CX0 P w K mg base N x (defScope st) f cdv A outer s H E).nox (defBody st) t∧t { nx:=fun _ H'=>Q .non H',rt:=Q } (start N vs) H):Ok P w K mg base (k + 1) x ps sp:=by
 obtain⟨f,fd,F,b,m⟩:=D
 exact⟨f,fd,F.ok S len (fun cdv A outer s H vs Q E hr h=>hbody f cdv A outer s H vs Q E hr h),b,F.kp,m⟩
theorem zad {X:Cx} {p pos:Pos} {e:Expr} {es:List Expr} {t:TA} (O:Ok X.prog X.w X.K X.mg X.base k x ps sp) (hr:Room k X.A) (hg:Gl X x) (ha:PA X (e::es) t)
  (hdb:(x == ("__debug__":Str))=false:=by decide) (he:starEach (e::es) X.env=(false,eval e X.env)::starEach es X.env:=by rfl) (hpl:(backTo pos (starEach es X.env)).any (·.1)=false:=by rfl) :
  PE X (.Call (.Name x p) (e::es) [] pos) (tCall sp [] E0 t):=by
 obtain⟨f,fd,F,b,kp,m⟩:=O
 exact zoo F hr hg m kp b .nil pass0 ha hdb he hpl
end
structure Bi (mg:Str->Option Value):Prop where
 z_len:mg "len"=none
 z_range:mg "range"=none
 z_zip:mg "zip"=none
 z_all:mg "all"=none
 z_sorted:mg "sorted"=none
 z_isinstance:mg "isinstance"=none
 z_min:mg "min"=none
 z_max:mg "max"=none
 z_tuple:mg "tuple"=none
 z_list:mg "list"=none
 z_int:mg "int"=none
 z_bool:mg "bool"=none
 z_str:mg "str"=none
 z_enumerate:mg "enumerate"=none
 z_sum:mg "sum"=none
 z_abs:mg "abs"=none
 z_set:mg "set"=none
 z_reversed:mg "reversed"=none
 z_any:mg "any"=none
 z_repr:mg "repr"=none
 z_dict:mg "dict"=none
def But (p:Addr) (H H':Hp):Prop:=∀ b o,b≠p->H b=some o->H' b=some o
section
variable {K:PySem.W.Frag} {H H1 H2:Hp} {p a:Addr} {o:HO} {xs ys:List V}
theorem But.refl:But p H H:=fun _ _ _ h=>h
theorem But.trans (a:But p H H1) (b:But p H1 H2):But p H H2:=fun c o n h=>b c o n (a c o n h)
theorem But.upd:But p H (upd H p o):=fun b u n h=>by rw[zas n];exact h
theorem Same.but (h:Same H H1):But p H H1:=fun b o _ q=>h b o q
theorem But.new (h:H a=none):But p H (L2.upd H a o):=fun b u _ q=>by rw[zas (zat q h)];exact q
theorem zam (h:H a=none):Same H (upd H a o):=fun b u q=>by rw[zas (zat q h)];exact q
end
mutual
def tupD:PyData->Bool
 | .none | .bool _ | .int _ | .str _=>true
 | .tuple ds=>tupAll ds
 | .list _ | .dict _=>false
def tupAll:List PyData->Bool
 | []=>true
 | d::ds=>tupD d && tupAll ds
end
mutual
theorem Is.but {K:PySem.W.Frag} {H H':Hp} {p:Addr} {xs:List V} (e:But p H H') (hp:H p=some (.lst xs)):∀ (d:PyData) {v:V},tupD d=true->Is K H d v->Is K H' d v
 | .none,_,_,h=>h
 | .bool _,_,_,h=>h
 | .int _,_,_,h=>h
 | .str _,_,_,h=>h
 | .tuple ds,_,t,h=>let ⟨q,vs,q1,q2,q3⟩:=h;⟨q,vs,q1,e _ _ (fun z=>by subst z;rw[hp] at q2;cases q2) q2,IsAll.but e hp ds t q3⟩
 | .list ds,_,t,h=>by cases t
 | .dict _,_,t,h=>by cases t
theorem IsAll.but {K:PySem.W.Frag} {H H':Hp} {p:Addr} {xs:List V} (e:But p H H') (hp:H p=some (.lst xs)):∀ (ds:List PyData) {vs:List V},tupAll ds=true->IsAll K H ds vs->IsAll K H' ds vs
 | [],_,_,h=>h
 | d::ds,_,t,h=>by
  have t':(tupD d && tupAll ds)=true:=t
  rw[Bool.and_eq_true] at t'
  obtain⟨v,r,q1,q2,q3⟩:=h
  exact⟨v,r,q1,Is.but e hp d t'.1 q2,IsAll.but e hp ds t'.2 q3⟩
end
def Pot (H:Hp) (p:Addr):Prop:=∃ a b:Int,H p=some (.lst [.int a,.int b])∧0≤a∧0≤b∧b < 2147483647
theorem Pot.lst {H:Hp} {p:Addr} (h:Pot H p):∃ xs,H p=some (.lst xs):=let ⟨a,b,e,_⟩:=h;⟨_,e⟩
inductive spPot_i (K:PySem.W.Frag) (vs:List V) (H:Hp) (Q:VK):Prop
 | mk:∀ a k (ns:List Int),(vs=[.ref a,.int k])->(SqL K H a (ns.map V.int))->(0≤k)->(k≤100)->(∀ l H',Same H H'->H l=none->Pot H' l->Q (.ref l) H')->spPot_i K vs H Q
def spPot (K:PySem.W.Frag):Sp:=fun vs H Q _=>spPot_i K vs H Q
inductive spTake_i  (vs:List V) (H:Hp) (Q:VK):Prop
 | mk:∀ p m,(vs=[.ref p,.int m])->(Pot H p)->(0 < m)->(m < 1073741824)->(∀ r H',0≤r->r < m->But p H H'->Pot H' p->Q (.int r) H')->spTake_i vs H Q
def spTake :Sp:=fun vs H Q _=>spTake_i vs H Q
inductive spLength_i  (vs:List V) (H:Hp) (Q:VK):Prop
 | mk:∀ p y,(vs=[.ref p,.int y])->(Pot H p)->(0≤y)->(y < 5)->(∀ r H',1≤r->r≤10 ^ 18->But p H H'->Pot H' p->Q (.int r) H')->spLength_i vs H Q
def spLength :Sp:=fun vs H Q _=>spLength_i vs H Q
inductive spTied_i  (vs:List V) (H:Hp) (Q:VK):Prop
 | mk:∀ p n y a b,(vs=[.ref p,.int n,.int y,.int a,.int b])->(Pot H p)->(∀ k H',But p H H'->Pot H' p->Q (.bl k) H')->spTied_i vs H Q
def spTied :Sp:=fun vs H Q _=>spTied_i vs H Q
inductive spOrder_i  (vs:List V) (H:Hp) (Q:VK):Prop
 | mk:∀ p m,(vs=[.ref p,.int m])->(Pot H p)->(0≤m)->(m≤1000)->(∀ l H' (ms:List Int),But p H H'->Pot H' p->H l=none->l≠p->H' l=some (.lst (ms.map V.int))->ms.Perm ((List.range m.toNat).map fun i:Nat=>(i:Int))->Q (.ref l) H')->spOrder_i vs H Q
def spOrder :Sp:=fun vs H Q _=>spOrder_i vs H Q
abbrev Tie:=Int × Int × Int
def tieI (t:Tie):List Int:=[t.1,t.2.1,t.2.2]
def tieD (t:Tie):PyData:=.tuple ((tieI t).map .int)
def webD (n:Int) (ties:List Tie):PyData:=.tuple [.int n,.tuple (ties.map tieD)]
def endLt (s t:Tie):Prop:=s.1 < t.1∨(s.1=t.1∧s.2.1 < t.2.1)
structure WebOk (n:Int) (ties:List Tie):Prop where
 n1:1≤n
 n24:n≤24
 rise:ties.Pairwise endLt
 few:ties.length≤60
 tie:∀ t ∈ ties,0≤t.1∧t.1 < t.2.1∧t.2.1 < n∧1≤t.2.2∧t.2.2≤10 ^ 18
inductive spWeb_i (K:PySem.W.Frag) (vs:List V) (H:Hp) (Q:VK):Prop
 | mk:∀ p m,(vs=[.ref p,.int m])->(Pot H p)->(1≤m)->(m≤24)->(∀ v H' n ties,But p H H'->Pot H' p->WebOk n ties->n≤m->Is K H' (webD n ties) v->Q v H')->spWeb_i K vs H Q
def spWeb (K:PySem.W.Frag):Sp:=fun vs H Q _=>spWeb_i K vs H Q
end L3
namespace L3
structure Grown (n:Nat) (ms:List Int) (b a:Nat) (ties:List Tie):Prop where
 few:ties.length≤60
 ok:∀ t ∈ ties,0≤t.1∧t.1 < t.2.1∧t.2.1 < (n:Int)∧1≤t.2.2∧t.2.2≤10 ^ 18
 of:∀ t ∈ ties,∃ a' b':Nat,a' < b'∧b' < n∧(b' < b∨(b'=b∧a' < a))∧((t.1=ms.getD a' 0∧t.2.1=ms.getD b' 0)∨(t.1=ms.getD b' 0∧t.2.1=ms.getD a' 0))
 nd:ties.Pairwise fun s t=>¬ (s.1=t.1∧s.2.1=t.2.1)
theorem Grown.start {n:Nat} {ms:List Int}:Grown n ms 0 0 []:=⟨Nat.zero_le _,(fun t h=>by cases h),(fun t h=>by cases h),List.Pairwise.nil⟩
theorem Grown.down {n:Nat} {ms:List Int} {b:Nat} {ties:List Tie} (g:Grown n ms b b ties):Grown n ms (b + 1) 0 ties :=
 ⟨g.few,g.ok,fun t h=>by
  obtain⟨a',b',h1,h2,h3,h4⟩:=g.of t h
  exact⟨a',b',h1,h2,.inl (by trivial),h4⟩,g.nd⟩
theorem Grown.skip {n:Nat} {ms:List Int} {b a:Nat} {ties:List Tie} (g:Grown n ms b a ties):Grown n ms b (a + 1) ties :=
 ⟨g.few,g.ok,fun t h=>by
  obtain⟨a',b',h1,h2,h3,h4⟩:=g.of t h
  exact⟨a',b',h1,h2,by trivial,h4⟩,g.nd⟩
structure Perm0 (n:Nat) (ms:List Int):Prop where
 len:ms.length=n
 lo:∀ i,i < n->0≤ms.getD i 0∧ms.getD i 0 < (n:Int)
 inj:∀ i j,i < n->j < n->ms.getD i 0=ms.getD j 0->i=j
theorem Perm0.of {n:Nat} {ms:List Int} (h:ms.Perm ((List.range n).map fun i:Nat=>(i:Int))):Perm0 n ms:=by
 have hl:ms.length=n:=by simpa using h.length_eq
 have nd:ms.Nodup:=(h.nodup_iff).mpr (by
  rw[List.Nodup,List.pairwise_map]
  exact (List.nodup_range (n:=n)).imp fun h z=>h (by trivial))
 refine⟨hl,fun i hi=>?_,fun i j hi hj e=>?_⟩
 ·have e:ms.getD i 0=ms[i]:=by simp [List.getD,show i < ms.length by trivial]
  have m:ms[i]'(by trivial) ∈ (List.range n).map fun i:Nat=>(i:Int):=h.mem_iff.mp (List.getElem_mem _)
  rw[e]
  obtain⟨k,hk,ek⟩:=List.mem_map.mp m
  have:=List.mem_range.mp hk
  trivial
 ·have e1:ms.getD i 0=ms[i]:=by simp [List.getD,show i < ms.length by trivial]
  have e2:ms.getD j 0=ms[j]:=by simp [List.getD,show j < ms.length by trivial]
  rw[e1,e2] at e
  exact (List.getElem_inj nd).mp e
theorem Grown.add {n:Nat} {ms:List Int} {b a:Nat} {ties:List Tie} {x y l:Int} (g:Grown n ms b a ties) (pm:Perm0 n ms) (ha:a < b) (hb:b < n) (hf:ties.length < 60) (hl:1≤l) (hl2:l≤10 ^ 18)
  (hxy:(x=ms.getD a 0∧y=ms.getD b 0)∨(x=ms.getD b 0∧y=ms.getD a 0)) (hle:x≤y):Grown n ms b (a + 1) (ties++[(x,y,l)]):=by
 have han:=Nat.lt_trans ha hb
 have la:=pm.lo a han
 have lb:=pm.lo b hb
 have ne:ms.getD a 0≠ms.getD b 0:=fun e=>Nat.ne_of_lt ha (pm.inj a b han hb e)
 refine⟨by rw[List.length_append,List.length_singleton];exact hf,fun t ht=>?_,fun t ht=>?_,?_⟩
 ·rcases List.mem_append.mp ht with h | h
  ·exact g.ok t h
  ·have e:t=(x,y,l):=List.mem_singleton.mp h
   subst e
   refine⟨?_,?_,?_,hl,hl2⟩
   ·show 0≤x
    rcases hxy with ⟨q1,q2⟩ | ⟨q1,q2⟩
    ·rw[q1];exact la.1
    ·rw[q1];exact lb.1
   ·show x < y
    refine Int.lt_iff_le_and_ne.mpr ⟨hle,fun z=>?_⟩
    rcases hxy with ⟨q1,q2⟩ | ⟨q1,q2⟩
    ·exact ne (q1.symm.trans (z.trans q2))
    ·exact ne (q2.symm.trans (z.symm.trans q1))
   ·show y < (n:Int)
    rcases hxy with ⟨q1,q2⟩ | ⟨q1,q2⟩
    ·rw[q2];exact lb.2
    ·rw[q2];exact la.2
 ·rcases List.mem_append.mp ht with h | h
  ·obtain⟨a',b',h1,h2,h3,h4⟩:=g.of t h
   exact⟨a',b',h1,h2,h3.imp id fun z=>⟨z.1,Nat.lt_succ_of_lt z.2⟩,h4⟩
  ·have e:t=(x,y,l):=List.mem_singleton.mp h
   subst e
   exact⟨a,b,ha,hb,.inr ⟨rfl,Nat.lt_succ_self _⟩,hxy⟩
 ·rw[List.pairwise_append]
  refine⟨g.nd,List.pairwise_singleton _ _,fun t ht u hu=>?_⟩
  have e:u=(x,y,l):=List.mem_singleton.mp hu
  subst e
  rintro ⟨e1,e2⟩
  obtain⟨a',b',h1,h2,h3,h4⟩:=g.of t ht
  have e1':t.1=x:=e1
  have e2':t.2.1=y:=e2
  have h1n:=Nat.lt_trans h1 h2
  have fin:a'=a->b'=b->False:=fun ea eb=>h3.elim (fun z=>Nat.ne_of_lt z eb) fun z=>Nat.ne_of_lt z.2 ea
  have fin2:a'=b->b'=a->False:=fun ea eb=>Nat.lt_asymm ha (by rw[← ea,← eb];exact h1)
  rcases h4 with ⟨p1,p2⟩ | ⟨p1,p2⟩ <;> rcases hxy with ⟨q1,q2⟩ | ⟨q1,q2⟩
  ·exact fin (pm.inj a' a h1n han (p1.symm.trans (e1'.trans q1))) (pm.inj b' b h2 hb (p2.symm.trans (e2'.trans q2)))
  ·exact fin2 (pm.inj a' b h1n hb (p1.symm.trans (e1'.trans q1))) (pm.inj b' a h2 han (p2.symm.trans (e2'.trans q2)))
  ·exact fin2 (pm.inj a' b h1n hb (p2.symm.trans (e2'.trans q2))) (pm.inj b' a h2 han (p1.symm.trans (e1'.trans q1)))
  ·exact fin (pm.inj a' a h1n han (p2.symm.trans (e2'.trans q2))) (pm.inj b' b h2 hb (p1.symm.trans (e1'.trans q1)))
theorem zoj {ts:List Tie} (h:ts.Pairwise fun a b=>Srt.lexI (tieI b) (tieI a)=false) (nd:ts.Pairwise fun s t=>¬ (s.1=t.1∧s.2.1=t.2.1)):ts.Pairwise endLt:=by
 refine (h.and nd).imp fun {a b} hab=>?_
 obtain⟨h1,h2⟩:=hab
 obtain⟨a1,a2,a3⟩:=a
 obtain⟨b1,b2,b3⟩:=b
 simp only [tieI,Srt.lexI] at h1
 show a1 < b1∨(a1=b1∧a2 < b2)
 have h2':¬ (a1=b1∧a2=b2):=h2
 by_cases e1:b1=a1
 ·rw[if_pos e1] at h1
  by_cases e2:b2=a2
  ·exact absurd ⟨e1.symm,e2.symm⟩ h2'
  ·rw[if_neg e2] at h1
   have:=of_decide_eq_false h1
   exact .inr ⟨e1.symm,by trivial⟩
 ·rw[if_neg e1] at h1
  have:=of_decide_eq_false h1
  exact .inl (by trivial)
end L3
namespace L3
open PySem PySem.Spec PyProof.Rows L2
section
variable {X:Cx} {pos:Pos}
theorem zlc:OpR X (binaryOp .Mult) (rI (fun i j=>IntMulOk i j) fun i j=>.int (i * j)):=opI fun _ _ _ _ _ _ _ hc q=>mul_int q hc
theorem mulB:IntMulOk ((10:Int) ^ (60:Int).toNat) ((10:Int) ^ (60:Int).toNat):=IntMulOk.of_bits (by decide +kernel) (by decide +kernel)
theorem mulB2:IntMulOk ((10:Int) ^ (60:Int).toNat * (10:Int) ^ (60:Int).toNat) ((10:Int) ^ (60:Int).toNat):=IntMulOk.of_bits (by decide +kernel) (by decide +kernel)
theorem posB:(0:Int) < (10:Int) ^ (60:Int).toNat * (10:Int) ^ (60:Int).toNat * (10:Int) ^ (60:Int).toNat:=by decide +kernel
inductive call_range_i  (xs:List V) (H:Hp) (Q:VK):Prop
 | mk:∀ (j:Int),(xs=[.int j])->(∀ p,H p=none->Q (.ref p) (upd H p (.rng 0 j)))->call_range_i xs H Q
theorem zcb:CallR X (.type "range") (call_range_i):=by
 intro pins s σ H xs us Q I r h
 obtain⟨j,rfl,q⟩:=h
 obtain⟨u,rfl,t,rfl⟩:=vals1 r
 refine call_range_1 ⟨.ref s.heap.objs.size,_,I.laid (a:=s.heap.objs.size) (o:=.rng 0 j) (fun b o e=>Heap.get?_push_of_some _ e) (Nat.le_refl _) ⟨_,_,_,Heap.get?_push_size _ rfl⟩,rfl,q _ I.fresh⟩
inductive call_list_rng_i  (xs:List V) (H:Hp) (Q:VK):Prop
 | mk:∀ (p:Addr) (j:Int),(xs=[.ref p])->(H p=some (.rng 0 j))->(0≤j)->(j≤1000)->(∀ l,H l=none->Q (.ref l) (upd H l (.lst ((List.range j.toNat).map fun i:Nat=>V.int (i:Int)))))->call_list_rng_i xs H Q
theorem zby (hh:X.calm=true):CallR X (.type "list") (call_list_rng_i):=by
 intro pins s σ H xs us Q I r h
 obtain⟨p,j,rfl,hp,hj0,hj,q⟩:=h
 obtain⟨u,rfl,rx⟩:=vals1 r
 cases rx
 obtain⟨t,u,v,e⟩:=(show ObjOk X.prog X.w H s.heap p (.rng 0 j) from I.hok p _ hp)
 refine call_list_range (n:=j.toNat) (I.ok.hd hh) (show IsRange s.heap p 0 j 1 t u v from e) (small_one (by trivial) (by trivial) (by trivial) (by trivial)) (by rw[rangeSize_one];split <;> trivial) (by trivial) fun h' tk acc c hk hS hacc=>?_
 refine⟨.ref s.heap.objs.size,_,I.laid (a:=s.heap.objs.size) (o:=.lst ((List.range j.toNat).map fun i:Nat=>V.int (i:Int))) (t':=tk) hk (Nat.le_refl _) ⟨?_,acc.toList,c,?_,by simpa using hS⟩,rfl,q _ I.fresh⟩
 ·rw[List.length_map,List.length_range,sizeLine_eq];trivial
 ·have go:∀ (n:Nat) (l:List Value),l.length=n->(∀ (k:Nat) (v:Value),l[k]?=some v->∃ t,v=Value.int (0 + (k:Int) * 1) t)->Vals ((List.range n).map fun i:Nat=>V.int (i:Int)) l:=by
   intro n l hl hv
   have gen:∀ (l:List Value) (o:Nat),(∀ (k:Nat) (v:Value),l[k]?=some v->∃ t,v=Value.int ((o + k:Nat):Int) t)->Vals ((List.range' o l.length).map fun i:Nat=>V.int (i:Int)) l:=by
    intro l
    induction l with
    | nil=>intro o _;exact .nil
    | cons x r ih =>
     intro o h
     rw[List.length_cons,List.range'_succ,List.map_cons]
     obtain⟨t,ht⟩:=h 0 x rfl
     refine .cons ⟨t,by simpa using ht⟩ (ih (o + 1) fun k v hk=>?_)
     obtain⟨t,ht⟩:=h (k + 1) v (by simpa using hk)
     exact⟨t,by rw[ht];congr 1;trivial⟩
   have:=gen l 0 fun k v hk=>by
    obtain⟨t,ht⟩:=hv k v hk
    exact⟨t,by rw[ht];congr 1;trivial⟩
   rw[hl] at this
   rw[List.range_eq_range']
   exact this
  refine go _ _ (by simpa using hacc.1) fun k v hk=>hacc.2 k v (by simpa using hk)
end
theorem zfy {α:Type}:∀ (l:List α) (k:Nat) (h:k < l.length),(l[k]::l.eraseIdx k).Perm l
 | [],k,h=>absurd h (Nat.not_lt_zero _)
 | a::l,0,_=>List.Perm.refl _
 | a::l,k + 1,h=>by
  have h':k < l.length:=by simpa using h
  show (l[k]::a::l.eraseIdx k).Perm (a::l)
  exact (List.Perm.swap a l[k] _).trans ((zfy l k h').cons a)
theorem zg5 {α β:Type} (f:α->β):∀ (l:List α) (k:Nat),(l.eraseIdx k).map f=(l.map f).eraseIdx k
 | [],_=>rfl
 | _::_,0=>rfl
 | a::l,k + 1=>by
  show f a::(l.eraseIdx k).map f=f a::(l.map f).eraseIdx k
  rw[zg5 f l k]
end L3
namespace L3
open PySem PySem.Spec PyProof.Rows L2
def TieL (H:Hp) (ys:List V) (ts:List Tie):Prop:=Paired (fun (y:V) (t:Tie)=>∃ a,y=.ref a∧H a=some (.tup ((tieI t).map V.int))) ys ts
theorem TieL.keep {H H':Hp} {ys:List V} {ts:List Tie} (h:TieL H ys ts) (k:∀ a xs,H a=some (.tup xs)->H' a=some (.tup xs)):TieL H' ys ts :=
 Paired.mapP h fun y t ⟨a,e1,e2⟩=>⟨a,e1,k _ _ e2⟩
theorem TieL.snoc {H:Hp} {ys:List V} {ts:List Tie} {a:Addr} {t:Tie} (h:TieL H ys ts) (e:H a=some (.tup ((tieI t).map V.int))):TieL H (ys++[.ref a]) (ts++[t]):=Paired.snoc h ⟨a,rfl,e⟩
theorem zfu {α β γ:Type} {F:β->γ->Prop} (f:α->β) (g:α->γ):∀ {l:List α},(∀ x ∈ l,F (f x) (g x))->Paired F (l.map f) (l.map g)
 | [],_=>.nil
 | x::l,h=>.cons (h x List.mem_cons_self) (zfu f g fun y hy=>h y (List.mem_cons_of_mem _ hy))
theorem zft {α β γ:Type} {F:α->β->Prop} {f:β->γ}:∀ {l:List α} {r:List β},Paired F l r->∀ q ∈ l.zip (r.map f),∃ b,q.2=f b∧F q.1 b
 | _,_,.nil,q,h=>by cases h
 | _,_,.cons (a:=a) (b:=b) x t,q,h=>by
  rw[List.map_cons,List.zip_cons_cons] at h
  rcases List.mem_cons.mp h with e | h
  ·subst e;exact⟨b,rfl,x⟩
  ·exact zft t q h
theorem zeq {F:V->Tie->Prop} {G:V->List Int->Prop} (h:∀ y t,F y t->G y (tieI t)):∀ {ys:List V} {ts:List Tie},Paired F ys ts->Paired G ys (ts.map tieI)
 | _,_,.nil=>.nil
 | _,_,.cons x t=>.cons (h _ _ x) (zeq h t)
def tieOf:List Int->Tie
 | [a,b,c]=>(a,b,c)
 | _=>(0,0,0)
theorem zoe (t:Tie):tieOf (tieI t)=t:=rfl
theorem zod {H:Hp} {ys:List V} {ts:List Tie} (h:TieL H ys ts) {qs:List (V × List Int)} (p:qs.Perm (ys.zip (ts.map tieI))) (w:qs.Pairwise fun a b=>Srt.lexI b.2 a.2=false) :
  ∃ ts':List Tie,ts'.Perm ts∧TieL H (qs.map (·.1)) ts'∧ts'.Pairwise fun a b=>Srt.lexI (tieI b) (tieI a)=false:=by
 have mem:∀ q ∈ qs,∃ t,q.2=tieI t∧∃ a,q.1=.ref a∧H a=some (.tup ((tieI t).map V.int)):=fun q hq=>zft h q (p.mem_iff.mp hq)
 have back:∀ q ∈ qs,tieI (tieOf q.2)=q.2:=fun q hq=>by
  obtain⟨t,e,_⟩:=mem q hq
  rw[e];rfl
 refine⟨qs.map fun q=>tieOf q.2,?_,zfu _ _ fun q hq=>?_,?_⟩
 ·have e1:(qs.map fun q=>tieOf q.2).Perm ((ys.zip (ts.map tieI)).map fun q=>tieOf q.2):=p.map _
  have e2:(ys.zip (ts.map tieI)).map (fun q=>tieOf q.2)=ts:=by
   have l:ys.length=(ts.map tieI).length:=by rw[List.length_map];exact Paired.length h
   have:(ys.zip (ts.map tieI)).map (fun q=>tieOf q.2)=((ys.zip (ts.map tieI)).map (·.2)).map tieOf:=by rw[List.map_map];rfl
   rw[this,List.map_snd_zip (Nat.le_of_eq l.symm),List.map_map]
   exact (List.map_congr_left fun t _=>zoe t).trans (List.map_id _)
  rw[e2] at e1
  exact e1
 ·obtain⟨t,e,a,ea,eh⟩:=mem q hq
  refine⟨a,ea,?_⟩
  rw[back q hq,e];exact eh
 ·rw[List.pairwise_map]
  refine w.imp_of_mem fun {a b} ha hb z=>?_
  rw[back a ha,back b hb];exact z
theorem TieL.is {K:PySem.W.Frag} {H:Hp}:∀ {ys:List V} {ts:List Tie},TieL H ys ts->IsAll K H (ts.map tieD) ys
 | _,_,.nil=>rfl
 | _,_,.cons (a:=y) (b:=t) ⟨a,e1,e2⟩ r=>⟨_,_,rfl,⟨a,_,e1,e2,IsAll.ints _⟩,TieL.is r⟩
theorem zj2 {x y:Int} {ms:List Int} (p:ms.Perm [x,y]) (w:ms.Pairwise (·≤·)):∃ a b,ms=[a,b]∧a≤b∧((a=x∧b=y)∨(a=y∧b=x)):=by
 have hl:=p.length_eq
 match ms,hl,p,w with
 | [a,b],_,p,w =>
  refine⟨a,b,rfl,by simpa using w,?_⟩
  have ha:a ∈ [x,y]:=p.mem_iff.mp (by simp)
  rcases List.mem_cons.mp ha with e | e
  ·subst e
   have:=(List.perm_cons a).mp p
   have e2:b=y:=by simpa using List.perm_singleton.mp this
   exact .inl ⟨rfl,e2⟩
  ·have e':a=y:=by simpa using e
   subst e'
   have p2:[a,b].Perm [a,x]:=p.trans (List.Perm.swap a x [])
   have:=(List.perm_cons a).mp p2
   have e2:b=x:=by simpa using List.perm_singleton.mp this
   exact .inr ⟨rfl,e2⟩
end L3
namespace L3
open PySem PySem.Spec PyProof.Rows L2
def TupKeep (H H':Hp):Prop:=∀ a xs,H a=some (.tup xs)->H' a=some (.tup xs)
section
variable {J:It} {g:TG} {te:TE} {own:List Str} {js:List Nat} {σ:L2.St} {H1:Hp} {Q:VK}
theorem zej (n:Nat) (Sg:L2.St->Prop) (R:Nat->V->Hp->Prop) (hn:n≤1000) (h0:Sg (start3 own js σ)) (mono:∀ i v H H',TupKeep H H'->R i v H->R i v H')
  (go:∀ i H',i < n->Same H1 H'->J.go i H') (stop:∀ H',Same H1 H'->J.stop n H')
  (step:∀ i x σ' H' H2,i < n->Same H1 H'->J.yld i H' x H2->Sg σ'->∀ C:L2.St->V->Hp->Prop,(∀ σ3 v H5,Sg σ3->Same H' H5->R i v H5->C σ3 v H5)->g x σ' H2 fun σ3 H3=>te σ3 H3 fun v H5=>C σ3 v H5)
  (fin:∀ D ys H',H1 D=none->Same H1 H'->H' D=some (.lst ys)->ys.length=n->(∀ i v,ys[i]?=some v->R i v H')->Q (.ref D) H'):CompGo own js g tTrue te σ Q J H1:=by
 intro D hD
 refine⟨fun i m ys σ' H'=>m=n - i∧i≤n∧Sg σ'∧Same H1 H'∧ys.length=i∧∀ j v,ys[j]?=some v->R j v H',⟨n,rfl,Nat.zero_le _,h0,zam hD,rfl,fun j v e=>by simp at e⟩,?_⟩
 rintro i m ys σ' H' ⟨rfl,hi,sg,sm,hl,hr⟩ hd
 by_cases hlt:i < n
 ·refine .inr ⟨go i H' hlt sm,fun x H2 hy=>?_⟩
  refine step i x σ' H' H2 hlt sm hy sg (fun σ3 v H5=>H5 D=some (.lst ys)∧ys.length < sizeLine∧∃ m',m' < n - i∧(m'=n - (i + 1)∧i + 1≤n∧Sg σ3∧Same H1 (upd H5 D (.lst (ys++[v])))∧(ys++[v]).length=i + 1∧∀ j u,(ys++[v])[j]?=some u->R j u (upd H5 D (.lst (ys++[v]))))) fun σ3 v H5 sg3 s5 r5=>?_
  have hd5:=s5 _ _ hd
  refine⟨hd5,Nat.lt_of_le_of_lt (by trivial:ys.length≤1000) (by decide),n - (i + 1),by trivial,rfl,hlt,sg3,fun b o e=>?_,by rw[List.length_append,List.length_singleton,hl],fun j u e=>?_⟩
  ·rw[zas (zat e hD)];exact s5 _ _ (sm _ _ e)
  ·have tk5:TupKeep H5 (upd H5 D (.lst (ys++[v]))):=fun a xs e=>by rw[zas (fun z=>by rw[z,hd5] at e;cases e)];exact e
   by_cases hj:j < ys.length
   ·rw[List.getElem?_append_left hj] at e
    exact mono _ _ _ _ tk5 (mono _ _ _ _ (fun a xs z=>s5 _ _ z) (hr j u e))
   ·rw[List.getElem?_append_right (by trivial)] at e
    have ej:j=ys.length:=by
     have:=(List.getElem?_eq_some_iff.mp e).1
     simp at this;trivial
    subst ej
    have eu:v=u:=by simpa using e
    subst eu
    rw[hl]
    exact mono _ _ _ _ tk5 r5
 ·have e:i=n:=by trivial
  subst e
  exact .inl ⟨stop H' sm,fin D ys H' hD sm hd hl hr⟩
theorem zjv {K:PySem.W.Frag} {a:Addr} {xs:List V} (hx:H1 a=some (.tup xs)) (Sg:L2.St->Prop) (R:Nat->V->Hp->Prop) (hn:xs.length≤1000) (h0:Sg (start3 own js σ)) (mono:∀ i v H H',TupKeep H H'->R i v H->R i v H')
  (step:∀ i x σ' H',xs[i]?=some x->Same H1 H'->Sg σ'->∀ C:L2.St->V->Hp->Prop,(∀ σ3 v H5,Sg σ3->Same H' H5->R i v H5->C σ3 v H5)->g x σ' H' fun σ3 H3=>te σ3 H3 fun v H5=>C σ3 v H5)
  (fin:∀ D ys H',H1 D=none->Same H1 H'->H' D=some (.lst ys)->ys.length=xs.length->(∀ i v,ys[i]?=some v->R i v H')->Q (.ref D) H'):CompGo own js g tTrue te σ Q (Itt K a) H1:=by
 refine zej xs.length Sg R hn h0 mono (fun i H' hi s=>⟨xs,xs[i],SqT.of (s _ _ hx),by simp [hi]⟩) (fun H' s=>⟨xs,SqT.of (s _ _ hx),Nat.le_refl _⟩) (fun i x σ' H' H2 hi s hy sg C hC=>?_) fin
 obtain⟨rfl,hy⟩:=hy
 exact step i x σ' _ (hy xs (SqT.of (s _ _ hx))) s sg C hC
theorem zbx {K:PySem.W.Frag} {a:Addr} {xs:List V} (hx:H1 a=some (.lst xs)) (Sg:L2.St->Prop) (R:Nat->V->Hp->Prop) (hn:xs.length≤1000) (h0:Sg (start3 own js σ)) (mono:∀ i v H H',TupKeep H H'->R i v H->R i v H')
  (step:∀ i x σ' H',xs[i]?=some x->Same H1 H'->Sg σ'->∀ C:L2.St->V->Hp->Prop,(∀ σ3 v H5,Sg σ3->Same H' H5->R i v H5->C σ3 v H5)->g x σ' H' fun σ3 H3=>te σ3 H3 fun v H5=>C σ3 v H5)
  (fin:∀ D ys H',H1 D=none->Same H1 H'->H' D=some (.lst ys)->ys.length=xs.length->(∀ i v,ys[i]?=some v->R i v H')->Q (.ref D) H'):CompGo own js g tTrue te σ Q (Itl K a) H1:=by
 refine zej xs.length Sg R hn h0 mono (fun i H' hi s=>⟨xs,xs[i],SqL.of (s _ _ hx),by simp [hi]⟩) (fun H' s=>⟨xs,SqL.of (s _ _ hx),Nat.le_refl _⟩) (fun i x σ' H' H2 hi s hy sg C hC=>?_) fin
 obtain⟨rfl,hy⟩:=hy
 exact step i x σ' _ (hy xs (SqL.of (s _ _ hx))) s sg C hC
theorem SqX.of {t:Bool} {K:PySem.W.Frag} {H:Hp} {a:Addr} {xs:List V} (h:H a=some (if t=true then .tup xs else .lst xs)):SqX t K H a xs:=by
 cases t with
 | true=>exact SqT.of h
 | false=>exact SqL.of h
theorem zdo {t1 t2:Bool} {K:PySem.W.Frag} {a b:Addr} {xs zs:List V} (hx:H1 a=some (if t1=true then .tup xs else .lst xs)) (hz:H1 b=some (if t2=true then .tup zs else .lst zs)) (Sg:L2.St->Prop) (R:Nat->V->Hp->Prop) (hn:xs.length≤1000)
  (h0:Sg (start3 own js σ)) (mono:∀ i v H H',TupKeep H H'->R i v H->R i v H')
  (step:∀ i x z T σ' H',xs[i]?=some x->zs[i]?=some z->Same H1 H'->H' T=none->Sg σ'->∀ C:L2.St->V->Hp->Prop,(∀ σ3 v H5,Sg σ3->Same H' H5->R i v H5->C σ3 v H5)->g (.ref T) σ' (upd H' T (.tup [x,z])) fun σ3 H3=>te σ3 H3 fun v H5=>C σ3 v H5)
  (fin:∀ D ys H',H1 D=none->Same H1 H'->H' D=some (.lst ys)->ys.length=min xs.length zs.length->(∀ i v,ys[i]?=some v->R i v H')->Q (.ref D) H'):CompGo own js g tTrue te σ Q (Itz t1 t2 K a b) H1:=by
 have s1:∀ H',Same H1 H'->SqX t1 K H' a xs:=fun H' s=>SqX.of (s _ _ hx)
 have s2:∀ H',Same H1 H'->SqX t2 K H' b zs:=fun H' s=>SqX.of (s _ _ hz)
 refine zej (min xs.length zs.length) Sg R (by trivial) h0 mono (fun i H' hi s=>⟨xs,zs,xs[i]'(by trivial),zs[i]'(by trivial),s1 H' s,s2 H' s,by simp [show i < xs.length by trivial],by simp [show i < zs.length by trivial]⟩)
  (fun H' s=>⟨xs,zs,s1 H' s,s2 H' s,by trivial⟩) (fun i x σ' H' H2 hi s hy sg C hC=>?_) fin
 obtain⟨T,x1,z1,hT,rfl,rfl,e1,e2⟩:=hy
 exact step i x1 z1 T σ' H' (e1 _ (s1 H' s)) (e2 _ (s2 H' s)) s hT sg C hC
end
theorem zcg {f:Nat->Bool} {n:Nat} {ys:List V} (hl:ys.length=n) (h:∀ (i:Nat) (v:V),ys[i]?=some v->v=V.bl (f i)):ys=((List.range n).map f).map V.bl:=by
 refine List.ext_getElem? fun i=>?_
 by_cases hi:i < n
 ·obtain⟨v,hv⟩:∃ v,ys[i]?=some v:=⟨ys[i],List.getElem?_eq_getElem (by trivial)⟩
  rw[hv,h i v hv]
  simp [hi]
 ·rw[List.getElem?_eq_none (by trivial),List.getElem?_eq_none (by simp;trivial)]
def tyD:PyData->String
 | .none=>"NoneType"
 | .bool _=>"bool"
 | .int _=>"int"
 | .str _=>"str"
 | .tuple _=>"tuple"
 | .list _=>"list"
 | .dict _=>"dict"
theorem zpl {K:PySem.W.Frag} {H:Hp}:∀ {d:PyData} {v:V},Is K H d v->TyOf K H v (.type (tyD d))
 | .none,_,h=>by rw[show _=V.non from h];exact .non
 | .bool b,_,h=>by rw[show _=V.bl b from h];exact .bl b
 | .int i,_,h=>by rw[show _=V.int i from h];exact .int i
 | .str x,_,h=>by rw[show _=V.str x from h];exact .str x
 | .tuple _,_,⟨p,vs,e,h,_⟩=>by rw[e];exact .tup h
 | .list _,_,⟨p,vs,e,h,_⟩=>by rw[e];exact .lst h
 | .dict _,_,⟨_,p,e,h⟩=>by rw[e];exact .dK h
def wholeB:PyData->Bool
 | .int _=>true
 | _=>false
def tieB (n:Int):PyData->Bool
 | .tuple [.int a,.int b,.int l]=>decide (0≤a) && decide (a < b) && decide (b < n) && decide (1≤l) && decide (l≤10 ^ 18)
 | _=>false
def few:PyData->Prop
 | .tuple ds=>ds.length≤1000
 | .list ds=>ds.length≤1000
 | _=>True
inductive spD1_i (K:PySem.W.Frag) (pre:PyData->Prop) (f:PyData->Bool) (vs:List V) (H:Hp) (Q:VK):Prop
 | mk:∀ d v,(vs=[v])->(Is K H d v)->(pre d)->(∀ H',Same H H'->Q (.bl (f d)) H')->spD1_i K pre f vs H Q
def spD1 (K:PySem.W.Frag) (pre:PyData->Prop) (f:PyData->Bool):Sp:=fun vs H Q _=>spD1_i K pre f vs H Q
end L3
namespace L3
open PySem PySem.Spec PyProof.Rows L2
section
variable {g:TG} {te:TE} {own:List Str} {js:List Nat} {σ:L2.St} {H1:Hp} {Q:VK}
end
def e2 (e:Int × Int):List Int:=[e.1,e.2]
def risingB (es:List (Int × Int)):Bool:=((List.range (min es.length (es.drop 1).length)).map fun i=>HT.lexLt (e2 (es.getD i (0,0))) (e2 ((es.drop 1).getD i (0,0)))).all id
def TwoL (H:Hp) (ys:List V) (es:List (Int × Int)):Prop:=Paired (fun (y:V) (e:Int × Int)=>∃ a,y=.ref a∧H a=some (.tup [.int e.1,.int e.2])) ys es
theorem cut1 (ys:List V):cutV ys (some 1) none=ys.drop 1:=by
 unfold cutV
 have e1:HT.sIx ys.length ys.length none=ys.length:=rfl
 have e2:HT.sIx ys.length 0 (some 1)=min 1 ys.length:=by
  unfold HT.sIx
  simp
 rw[e1,e2]
 by_cases h:ys.length=0
 ·have:ys=[]:=List.eq_nil_of_length_eq_zero h
  subst this;rfl
 ·have:min 1 ys.length=1:=by trivial
  rw[this]
  exact List.take_of_length_le (by simp)
section
variable {g:TG} {te:TE} {own:List Str} {js:List Nat} {σ:L2.St} {H1:Hp} {Q:VK}
end
section
variable {X:Cx} {own fr:List Str} {scope:Scope} {fp:List Addr} {pins:List (Addr × Obj)} {s3:Shared} {H3:Hp} {pos:Pos}
theorem zcn {es:List Expr} {k:Nat} {t:TGs} {n:Nat} (hc:X.calm=true) (h:PGs (cxComp X own fr scope fp pins s3 H3) es t)
  (hn:(assignEach es (cxComp X own fr scope fp pins s3 H3).env).length=n:=by rfl) (hst:(assignEach es (cxComp X own fr scope fp pins s3 H3).env).findIdx? (·.1)=none:=by rfl):PG (cxComp X own fr scope fp pins s3 H3) (.Tuple es k pos) (gTup X.K n t) :=
 zci (X:=cxComp X own fr scope fp pins s3 H3) hc h hn hst
theorem zb6:IxR (cxComp X own fr scope fp pins s3 H3) (rIxT X.K):=zal (X:=cxComp X own fr scope fp pins s3 H3)
theorem zka:OpR (cxComp X own fr scope fp pins s3 H3) (compareOp .In) (rIn X.K false):=zle (X:=cxComp X own fr scope fp pins s3 H3)
theorem zcd:OpR (cxComp X own fr scope fp pins s3 H3) (compareOp .NotIn) (rIn X.K true):=zd5 (X:=cxComp X own fr scope fp pins s3 H3)
theorem zgp:CallR (cxComp X own fr scope fp pins s3 H3) (.builtin "len") (call_len_seq_i X.K):=zag (X:=cxComp X own fr scope fp pins s3 H3)
end
end L3
namespace L3
open PySem PySem.Spec PyProof.Rows L2
def KeepOk (m:Nat) (ks:List Nat):Prop:=ks.Pairwise (· < ·)∧∀ k ∈ ks,k < m
def keepI (ks:List Nat):List Int:=ks.map fun k:Nat=>(k:Int)
def keepD (ks:List Nat):PyData:=.tuple ((keepI ks).map .int)
theorem KeepOk.len {m:Nat} {ks:List Nat} (h:KeepOk m ks):ks.length≤m:=by
 have go:∀ (ks:List Nat) (lo m:Nat),ks.Pairwise (· < ·)->(∀ k ∈ ks,lo≤k∧k < m)->ks.length + lo≤max m lo:=by
  intro ks
  induction ks with
  | nil=>intro lo m _ _;simp;trivial
  | cons k r ih =>
   intro lo m hp hb
   have h1:=hb k List.mem_cons_self
   have:=ih (k + 1) m (List.pairwise_cons.mp hp).2 fun j hj=>⟨(List.pairwise_cons.mp hp).1 j hj,(hb j (List.mem_cons_of_mem _ hj)).2⟩
   rw[List.length_cons]
   trivial
 have:=go ks 0 m h.1 fun k hk=>⟨Nat.zero_le _,h.2 k hk⟩
 trivial
theorem za1 {K:PySem.W.Frag} {H:Hp} {n:Int} {ts:List Tie} {v:V} (h:Is K H (webD n ts) v):∃ (p g:Addr) (ws:List V),v=.ref p∧H p=some (.tup [.int n,.ref g])∧H g=some (.tup ws)∧IsAll K H (ts.map tieD) ws∧ws.length=ts.length:=by
 obtain⟨p,vs,rfl,hp,v1,r1,rfl,e1,v2,r2,rfl,⟨g,ws,rfl,hg,hall⟩,e3⟩:=h
 have e1':v1=.int n:=e1
 have e3':r2=[]:=e3
 subst e1' e3'
 exact⟨p,g,ws,rfl,hp,hg,hall,by have:=hall.length;rw[List.length_map] at this;exact this⟩
end L3
namespace Z3
open PySem
section
variable {prog:Program} {w:World} {A:Around} {E:Value->Shared->Prop} {s:Shared}
theorem znj (t:Bool) (l:Addr) (xs:Array Value) :
  Meets (Builtin.«enumerate.__new__» ⟨[.type "enumerate",.ref l],[]⟩) (fun _ R s=>SqAt t s.heap l xs ∧
   R (.ok (.ret (.ref (s.heap.push (itObj t l)).objs.size))) { s with heap:=(s.heap.push (itObj t l)).push { cls:=.type "enumerate",data:=.fields #[.none,.bool false,.ref s.heap.objs.size,rawInt 0,.none,.none] } }) :=
 .of_wp fun prog w A R s h=>by
  obtain⟨hp,g,d,tk,os⟩:=s;obtain⟨hl,h⟩:=h
  have hsub:=sub_enumerate
  have b1:SqAt t (Shared.heap ⟨hp,g,d,tk,os⟩) l xs:=hl
  obtain⟨o,ho⟩:∃ o,hp.get? l=some o:=by
   cases t with
   | true=>obtain⟨o,q,_⟩:=(show hp.IsTuple l xs from hl);exact⟨o,q⟩
   | false=>obtain⟨o,q,_⟩:=(show hp.IsList l xs from hl);exact⟨o,q⟩
  wp_walk using AutoSeq1.wpAny_loadPart' ho
  refine wpAny_stack_any fun st=>?_
  refine wpAny_pure ?_
  split
  ·rename_i c _ _ _ _ _
   rcases (c == Value.type "enumerate") with _ | _
   ·wp_walk using AutoSeq1.wpAny_loadPart' ho,ze0 b1
    exact⟨_,rfl,h⟩
   ·wp_walk using AutoSeq1.wpAny_loadPart' ho,ze0 b1
    exact⟨_,rfl,h⟩
  ·wp_walk using AutoSeq1.wpAny_loadPart' ho,ze0 b1
   exact⟨_,rfl,h⟩
theorem zmd {t:Bool} {l:Addr} {xs:Array Value} {Q:Value->Shared->Prop} (hl:SqAt t s.heap l xs)
  (h:∀ h',IsEnum h' (s.heap.objs.size + 1) s.heap.objs.size ((0:Nat):Int) .none->ItAt t h' s.heap.objs.size l 0->h'.objs.size=s.heap.objs.size + 2->(∀ b o,s.heap.get? b=some o->h'.get? b=some o)->Q (.ref (s.heap.objs.size + 1)) { s with heap:=h' }) :
  wpAny (model prog w) A (call (.type "enumerate") [.ref l]) Q E s:=by
 refine callType_new F.called_enumerate (by decide) (F.typeCall_enumerate_1 _) (F.newCall_enumerate_1 _) (fun obj=>F.args_object_init_2 obj _) F.entry_enumerate_new (znj t l xs) ⟨hl,?_⟩
 have z1:(s.heap.push (itObj t l)).objs.size=s.heap.objs.size + 1:=Heap.size_push ..
 have g1:ItAt t ((s.heap.push (itObj t l)).push { cls:=.type "enumerate",data:=.fields #[.none,.bool false,.ref s.heap.objs.size,rawInt 0,.none,.none] }) s.heap.objs.size l 0:=(ItAt.new (t:=t) (h:=s.heap) (l:=l)).to fun o e=>Heap.get?_push_of_some _ e
 have g2:((s.heap.push (itObj t l)).push { cls:=.type "enumerate",data:=.fields #[.none,.bool false,.ref s.heap.objs.size,rawInt 0,.none,.none] }).get? (s.heap.push (itObj t l)).objs.size=some _:=Heap.get?_push_size _ rfl
 show _∧_
 rw[z1] at g2 ⊢
 exact⟨⟨_,g2,rfl⟩,h _ g2 g1 (by rw[Heap.size_push,z1]) fun b o q=>Heap.get?_push_of_some _ (Heap.get?_push_of_some _ q)⟩
theorem zl2 {t:Bool} {e it l:Addr} {i:Nat} {xs:Array Value} {x old:Value} {Q:Value->Shared->Prop} (he:IsEnum s.heap e it i old) (hi:ItAt t s.heap it l i) (hl:SqAt t s.heap l xs) (hx:xs[i]?=some x) (ne:e≠it)
  (hQ:∀ h',IsEnumOut h' e it ((i:Int) + 1) x s.heap.objs.size->ItAt t h' it l (i + 1)->h'.get? s.heap.objs.size=some { cls:=.type "tuple",data:=.seq #[.int i s.toks,x] }->h'.objs.size=s.heap.objs.size + 1 ->
   (∀ b o,b≠e->b≠it->s.heap.get? b=some o->h'.get? b=some o)->Q (.ref s.heap.objs.size) { s with heap:=h',toks:=s.toks + 1 }) :
  wpAny (model prog w) A (Builtin.«enumerate.__next__» ⟨[.ref e],[]⟩) (fun fin s'=>∃ v,fin=.done (.ret v)∧Q v s') E s:=by
 obtain⟨hp,g,d,tk,os⟩:=s
 show wpAny _ _ (field (.ref e) 2 >>= _) _ _ _
 refine wpAny_bind (wpAny_field he rfl (x:=.ref it) rfl (wpAny_bind (zgm hi hl hx fun k1 i1 s1=>?_)))
 replace s1:Heap.SameBut it hp k1:=s1
 have q1:IsEnum k1 e it i old:=(s1.2 e ne).trans he
 show wpAny _ _ (field (.ref e) 3 >>= _) _ _ ⟨k1,g,d,tk,os⟩
 refine wpAny_bind (wpAny_field q1 rfl (x:=rawInt i) rfl ?_)
 show wpAny _ _ (field (.ref e) 4 >>= _) _ _ ⟨k1,g,d,tk,os⟩
 refine wpAny_bind (wpAny_field q1 rfl (x:=.none) rfl ?_)
 show wpAny _ _ (mkInt i >>= _) _ _ ⟨k1,g,d,tk,os⟩
 refine wpAny_bind (wpAny_mkInt ?_)
 show wpAny _ _ (setField (.ref e) 3 (rawInt ((i:Int) + 1)) >>= _) _ _ ⟨k1,g,d,tk + 1,os⟩
 refine wpAny_bind (wpAny_setField_rec q1 (by simp) fun k2 q2 s2=>?_)
 replace s2:Heap.SameBut e k1 k2:=s2
 replace q2:IsEnum k2 e it ((i:Int) + 1) old:=q2
 show wpAny _ _ (setField (.ref e) 4 .none >>= _) _ _ ⟨k2,g,d,tk + 1,os⟩
 refine wpAny_bind (wpAny_setField_rec q2 (by simp) fun k3 q3 s3=>?_)
 replace s3:Heap.SameBut e k2 k3:=s3
 replace q3:IsEnum k3 e it ((i:Int) + 1) old:=q3
 show wpAny _ _ (newTuple [.int i tk,x] >>= _) _ _ ⟨k3,g,d,tk + 1,os⟩
 refine wpAny_bind (wpAny_newTuple ?_)
 have q4:IsEnum (k3.push { cls:=.type "tuple",data:=.seq #[.int i tk,x] }) e it ((i:Int) + 1) old:=Heap.get?_push_of_some _ q3
 generalize hk4:k3.push { cls:=.type "tuple",data:=.seq #[.int i tk,x] }=k4 at q4
 have sz:k3.objs.size=hp.objs.size:=by rw[s3.1,s2.1,s1.1]
 have lt:e < hp.objs.size:=Heap.lt_size he
 have t4:k4.get? hp.objs.size=some { cls:=.type "tuple",data:=.seq #[.int i tk,x] }:=by rw[← hk4,← sz];exact Heap.get?_push_size _ rfl
 have z4:k4.objs.size=hp.objs.size + 1:=by rw[← hk4,Heap.size_push,sz]
 have up4:∀ b o,b≠e->b≠it->hp.get? b=some o->k4.get? b=some o:=fun b o n1 n2 q=>by
  rw[← hk4];exact Heap.get?_push_of_some _ (s3.extBut b o n1 (s2.extBut b o n1 (s1.extBut b o n2 q)))
 have i4:ItAt t k4 it l (i + 1):=i1.to fun o q=>by
  rw[← hk4];exact Heap.get?_push_of_some _ (s3.extBut _ _ ne.symm (s2.extBut _ _ ne.symm q))
 show wpAny _ _ (Builtin.SmallTypes.ownedTupleIsFree (.ref e) >>= _) _ _ ⟨k4,g,d,tk + 1,os⟩
 rw[sz]
 clear hk4 q3 s3 q2 s2 q1 s1 i1 sz k3 k2 k1
 refine wpAny_bind ?_
 unfold Builtin.SmallTypes.ownedTupleIsFree
 refine wpAny_bind (wpAny_field q4 rfl (x:=.none) rfl (wpAny_pure ?_))
 simp only [if_true]
 refine wpAny_bind (wpAny_rule (wpAny_bind (wpAny_field q4 rfl (x:=old) rfl (wpAny_bind (wpAny_setField_rec q4 (by simp) fun k5 q5 s5=>?_)))))
 replace s5:Heap.SameBut e k4 k5:=s5
 replace q5:IsEnum k5 e it ((i:Int) + 1) x:=q5
 show wpAny _ _ (Builtin.SmallTypes.ownedTupleHandOut (.ref e) (.ref hp.objs.size) >>= _) _ _ ⟨k5,g,d,tk + 1,os⟩
 refine wpAny_bind ?_
 unfold Builtin.SmallTypes.ownedTupleHandOut
 refine wpAny_bind (wpAny_setField_rec q5 (by simp) fun k6 q6 s6=>?_)
 replace s6:Heap.SameBut e k5 k6:=s6
 replace q6:IsEnumOut k6 e it ((i:Int) + 1) x hp.objs.size:=q6
 refine wpAny_setField_rec q6 (by simp) fun k7 q7 s7=>?_
 replace s7:Heap.SameBut e k6 k7:=s7
 replace q7:IsEnumOut k7 e it ((i:Int) + 1) x hp.objs.size:=q7
 have up:∀ b o,b≠e->k4.get? b=some o->k7.get? b=some o:=fun b o n q=>s7.extBut b o n (s6.extBut b o n (s5.extBut b o n q))
 exact wpAny_bind (wpAny_letGo (wpAny_pure ⟨_,rfl,hQ k7 q7 (i4.to fun o q=>up _ o ne.symm q) (up _ _ (Nat.ne_of_gt lt) t4) (by rw[s7.1,s6.1,s5.1,z4]) fun b o n1 n2 q=>up b o n1 (up4 b o n1 n2 q)⟩))
theorem zfk {t:Bool} {e it l:Addr} {i:Nat} {xs:Array Value} {x old:Value} {Q:Option Value->Shared->Prop} (he:IsEnum s.heap e it i old) (hi:ItAt t s.heap it l i) (hl:SqAt t s.heap l xs) (hx:xs[i]?=some x) (ne:e≠it)
  (hQ:∀ h',IsEnumOut h' e it ((i:Int) + 1) x s.heap.objs.size->ItAt t h' it l (i + 1)->h'.get? s.heap.objs.size=some { cls:=.type "tuple",data:=.seq #[.int i s.toks,x] }->h'.objs.size=s.heap.objs.size + 1 ->
   (∀ b o,b≠e->b≠it->s.heap.get? b=some o->h'.get? b=some o)->Q (some (.ref s.heap.objs.size)) { s with heap:=h',toks:=s.toks + 1 }) :
  wpAny (model prog w) A (pyNext (.ref e)) Q E s:=by
 have ty:s.TypeIs (.ref e) "enumerate":=⟨_,he,rfl⟩
 unfold pyNext
 exact wpAny_bind (wpAny_attempt (wpAny_callSpecial?_slot (name := Str.ofString "__next__") ty F.slot_enumerate_next (wpAny_call_entry F.slot_enumerate_next ty F.entry_enumerate_next
     (zl2 he hi hl hx ne fun h' a b c d k=>wpAny_pure (hQ h' a b c d k)) (F.args_enumerate_next_1 _))))
theorem zfj {t:Bool} {e it l:Addr} {i:Nat} {xs:Array Value} {old:Value} {Q:Option Value->Shared->Prop} (hh:A.handled=none) (he:IsEnum s.heap e it i old) (hi:ItAt t s.heap it l i) (hl:SqAt t s.heap l xs) (hx:xs[i]?=none)
  (hQ:∀ h',Heap.ExtBut it s.heap h'->Q none { s with heap:=h' }):wpAny (model prog w) A (pyNext (.ref e)) Q E s:=by
 have ty:s.TypeIs (.ref e) "enumerate":=⟨_,he,rfl⟩
 unfold pyNext
 refine wpAny_bind (wpAny_attempt (wpAny_callSpecial?_slot (name:=Str.ofString "__next__") ty F.slot_enumerate_next (wpAny_call_entry F.slot_enumerate_next ty F.entry_enumerate_next ?_ (F.args_enumerate_next_1 _))))
 show wpAny _ _ (field (.ref e) 2 >>= _) _ _ _
 refine wpAny_bind (wpAny_field he rfl (x:=.ref it) rfl (wpAny_bind (zh7 hh hi hl hx fun h' x k ⟨o,p1,p2⟩=>?_)))
 exact wpAny_bind (wpAny_isInstance (T:="StopIteration") (b:=true) ⟨o,p1,p2⟩ isSubtype_stop (wpAny_pure (hQ _ k)))
end
end Z3
namespace L3
open PySem PySem.Spec PyProof.Rows L2
def Itn (t:Bool) (K:PySem.W.Frag) (l:Addr):It :=
 ⟨fun i H=>∃ xs x,SqX t K H l xs∧xs[i]?=some x,
  fun i H v H'=>∃ T x,H T=none∧v=.ref T∧H'=upd H T (.tup [.int (i:Nat),x])∧(∀ xs,SqX t K H l xs->xs[i]?=some x),
  fun i H=>∃ xs,SqX t K H l xs∧xs.length≤i⟩
theorem zku {P:Program} {w:World} {K:PySem.W.Frag} {elts:List Expr} {kk:Nat} {pos:Pos} {t:Bool} {e it l:Addr} (n1:e≠it) (n2:l≠e) (n3:l≠it) :
  Turn P w K (.Tuple elts kk pos) (Itn t K l) [e,it] e (fun i h=>(∃ old,IsEnum h e it (i:Int) old)∧Z3.ItAt t h it l i) where
 mem:=by simp
 obj:=fun i h st b hb=>by
  obtain⟨⟨old,q1⟩,q2⟩:=st
  obtain⟨o2,m2,e2,_,d2⟩:=q2.obj
  simp only [List.mem_cons,List.not_mem_nil,or_false] at hb
  rcases hb with rfl | rfl
  ·exact⟨_,q1,fun v q=>by cases q⟩
  ·exact⟨_,e2,fun v q=>by rw[d2] at q;cases q⟩
 keep:=fun i h h' st k=>by
  obtain⟨⟨old,q1⟩,q2⟩:=st
  exact⟨⟨old,k e (by simp) _ q1⟩,q2.to fun o z=>k it (by simp) o z⟩
 item:=by
  intro X hP hw hK hc i pins s σ H E I hf st hg
  subst hP hw hK
  obtain⟨xs,x,q1,hx⟩:=hg
  obtain⟨⟨old,en⟩,ia⟩:=st
  obtain⟨its1,r1,p1,z1⟩:=seqX I q1
  obtain⟨u1,hu1,ru1⟩:=r1.get hx
  refine Z3.zfk en ia p1 (x:=u1) (by simpa using hu1) n1 fun h' eo ia' tp sz kp=>?_
  have I1 : Inv X pins σ (upd H s.heap.objs.size (.tup [.int (i : Nat), x])) { s with heap := h', toks := s.toks + 1 } := turnsTup (ch := [e, it]) (its := [.int i s.toks, u1]) I hf (fun b o hb z => by
      simp only [List.mem_cons,List.not_mem_nil,or_false,not_or] at hb
      exact kp b o hb.1 hb.2 z) (Nat.le_refl _) (by show 2≤sizeLine;rw[sizeLine_eq];decide) (.cons ⟨_,rfl⟩ (.cons ru1 .nil)) ⟨_,tp,rfl,⟨_,rfl⟩,rfl⟩
  have fr:H s.heap.objs.size=none:=I.fresh
  have elt:e < s.heap.objs.size:=Heap.lt_size en
  have ilt:it < s.heap.objs.size:=by obtain⟨o2,m2,e2,_⟩:=ia.obj;exact Heap.lt_size e2
  have zne:∀ b ∈ [e,it],b≠s.heap.objs.size:=fun b hb=>by
   simp only [List.mem_cons,List.not_mem_nil,or_false] at hb
   rcases hb with rfl | rfl
   ·exact Nat.ne_of_lt elt
   ·exact Nat.ne_of_lt ilt
  refine⟨_,rfl,wpAny_letOwnedTupleGo_enum eo fun h2 en2 sb=>?_⟩
  obtain⟨f0,f1,f2,f3,f4,f5⟩:=hf e (by simp)
  have I2:Inv X pins σ (upd H s.heap.objs.size (.tup [.int (i:Nat),x])) { s with heap:=h2,toks:=s.toks + 1 }:=Inv.turned (s:={ s with heap:=h',toks:=s.toks + 1 }) (it:=e) (t':=s.toks + 1) I1 (fun b o hb z=>sb.extBut b o hb z) (by rw[zas (zne e (by simp))];exact f0) f1 f3 f4 f5
  refine⟨.ref s.heap.objs.size,_,I2,rfl,⟨_,x,fr,rfl,rfl,fun zs hz=>by rw[zf4 I hz q1];exact hx⟩,?_,fun b hb=>by rw[zas (zne b hb)];exact (hf b hb).1⟩
  exact⟨⟨_,by simpa using en2⟩,ia'.to fun o z=>sb.extBut _ _ n1.symm z⟩
 done:=by
  intro X hP hw hK hc i pins s σ H E I hf st hg
  subst hP hw hK
  obtain⟨xs,q1,hx⟩:=hg
  obtain⟨⟨old,en⟩,ia⟩:=st
  obtain⟨its1,r1,p1,z1⟩:=seqX I q1
  have l1:=r1.length
  refine Z3.zfj (I.ok.hd hc) en ia p1 (by simp;trivial) fun h' kp=>⟨rfl,?_⟩
  exact turns (ch:=[e,it]) (t':=s.toks) I hf fun b o hb z=>by
   simp only [List.mem_cons,List.not_mem_nil,or_false,not_or] at hb
   exact kp b o hb.2 z
 self:=fun _ _ _ _ _ st h=>by
  obtain⟨⟨old,en⟩,_⟩:=st
  exact wpAny_pyIter_enum en h
def iEnum (t:Bool) (K:PySem.W.Frag) (ta:TA):TI:=fun σ H R=>ta σ H fun vs H1=>∃ l,vs=[.ref l]∧(∃ xs,SqX t K H1 l xs)∧R (Itn t K l) H1
theorem zk5 {X:Cx} {elts:List Expr} {kk:Nat} {pos':Pos} (t:Bool) {a:Expr} {ta:TA} {p pos:Pos} (hg:Gl X "enumerate") (hm:X.mg "enumerate"=none) (ha:PA X [a] ta)
  (hs:starEach [a] X.env=[(false,eval a X.env)]:=by rfl) (hs2:starEach [] X.env=[]:=by rfl) :
  PI X (.Tuple elts kk pos') (.Call (.Name "enumerate" p) [a] [] pos) (iEnum t X.K ta):=by
 intro pins s σ H R I h
 refine Call_ (zfw I hg hm boot_enumerate (PyProof.Rows.callWith_type1 (thn (ha pos pins s σ H _ I h) fun us s1 ⟨vs,H1,I1,r1,q1⟩=>?_) (by rw[hs,hs2]) (by rw[hs2];rfl)))
 obtain⟨l,e,⟨xs,qx⟩,q⟩:=q1
 subst e
 obtain⟨u,rfl,rx⟩:=vals1 r1
 cases rx
 obtain⟨its1,r1,p1,z1⟩:=seqX I1 qx
 have lt:l < s1.heap.objs.size:=by
  cases t with
  | true=>obtain⟨o,e,_⟩:=(show s1.heap.IsTuple l _ from p1);exact Heap.lt_size e
  | false=>obtain⟨o,e,_⟩:=(show s1.heap.IsList l _ from p1);exact Heap.lt_size e
 refine Z3.zmd p1 fun h' en ia sz kp=>wpAny_pyIter_enum en ?_
 have I2:Inv X pins σ H1 { s1 with heap:=h',toks:=s1.toks }:=I1.kept (t':=s1.toks) kp
 refine⟨s1.heap.objs.size + 1,[s1.heap.objs.size + 1,s1.heap.objs.size],_,_,H1,rfl,I2,zku (Nat.succ_ne_self _) (Nat.ne_of_lt (Nat.lt_succ_of_lt lt)) (Nat.ne_of_lt lt),⟨⟨_,en⟩,ia⟩,fun b hb=>?_,q⟩
 have hb':s1.heap.objs.size≤b:=by
  simp only [List.mem_cons,List.not_mem_nil,or_false] at hb
  rcases hb with rfl | rfl
  ·exact Nat.le_succ _
  ·exact Nat.le_refl _
 exact I1.fpOk hb' (I1.hok.fresh hb')
end L3
namespace HT
open PySem PyProof.Rows
section
variable {prog:Program} {w:World} {A:Around} {E:Value->Shared->Prop} {s:Shared}
theorem zh0 {t:Addr} {items:Array Value} {Q:Bool->Shared->Prop} (ht:IsTup s.heap t items) (h:Q true s):wpAny (model prog w) A (Builtin.Tuple.tupleIsExact (.ref t)) Q E s:=by
 unfold Builtin.Tuple.tupleIsExact
 exact wpAny_bind (wpAny_typeOf ht.typeIs (wpAny_pure h))
theorem zc9 {t sl:Addr} {items:Array Value} {vl vu:Value} {lo hi:Option Int} {Q:Value->Shared->Prop} (ht:IsTup s.heap t items) (hs:s.heap.IsSliceOf sl vl vu .none) (pl:IsPart vl lo) (pu:IsPart vu hi)
  (hw:sIx items.size 0 lo=0∧sIx items.size items.size hi=items.size) (h:Q (.ref t) s):wpAny (model prog w) A (getItem (.ref t) (.ref sl)) Q E s:=by
 obtain⟨os,hos,hcs,hds⟩:=id hs
 have ty:s.TypeIs (.ref sl) "slice":=⟨os,hos,hcs⟩
 unfold getItem
 try with_reducible refine wpAny_holding ?_
 first | refine wpAny_bind (wpAny_pure ?_) | skip
 refine wpAny_bind (wpAny_sequenceKey ht.typeIs (by decide) (wpAny_bind (wpAny_callSpecial?_slot (name:=Str.ofString "__getitem__") ht.typeIs PyProof.Rows.slot_tuple_getitem
  (wpAny_call_entry PyProof.Rows.slot_tuple_getitem ht.typeIs entry_tuple_getitem ?_ (args_tuple_getitem _ _)))))
 show wpAny _ _ (Builtin.Tuple.tupleItemsOf (.ref t) >>= _) _ _ s
 refine wpAny_bind (tupleItemsOf_ ht (wpAny_bind (wpAny_typeOf ty ?_)))
 rw[if_pos (by decide)]
 refine wpAny_bind (zch hs pl pu ?_)
 have yes:(((sIx items.size 0 lo:Nat):Int) == 0 && (1:Int) == 1 && (sIx items.size items.size hi - sIx items.size 0 lo) == items.size)=true:=by
  rw[hw.1,hw.2];simp
 show wpAny _ _ (if (((sIx items.size 0 lo:Nat):Int) == 0 && (1:Int) == 1 && (sIx items.size items.size hi - sIx items.size 0 lo) == items.size)=true then _ else _) _ _ s
 rw[if_pos yes]
 refine wpAny_bind (zh0 ht ?_)
 rw[if_pos rfl]
 exact wpAny_bind (wpAny_rule (wpAny_bind (wpAny_pure (wpAny_pure ⟨_,rfl,wpAny_pure h⟩))))
theorem zdg (xs:List Value):((List.range xs.length).filterMap fun (m:Nat)=>xs.toArray[((xs.length:Int) - 1 + (m:Int) * (-1)).toNat]?)=xs.reverse:=by
 refine List.ext_getElem? fun i=>?_
 have key:∀ (n:Nat),n≤xs.length->((List.range n).filterMap fun (m:Nat)=>xs.toArray[((xs.length:Int) - 1 + (m:Int) * (-1)).toNat]?)=xs.reverse.take n:=by
  intro n
  induction n with
  | zero=>intro _;simp
  | succ n ih =>
   intro hn
   rw[List.range_succ,List.filterMap_append,ih (by trivial),List.take_add_one]
   congr 1
   have e:((xs.length:Int) - 1 + (n:Int) * (-1)).toNat=xs.length - 1 - n:=by trivial
   have e2:xs.reverse[n]?=xs[xs.length - 1 - n]?:=List.getElem?_reverse (by trivial)
   have h1:xs.length - 1 - n < xs.length:=by trivial
   rw[List.filterMap_cons,e,e2]
   simp [h1]
 rw[key _ (Nat.le_refl _),List.take_of_length_le (by simp)]
theorem zj6 {sl:Addr} {t:Tok} {n:Nat} {Q:Int × Int × Nat->Shared->Prop} (hs:s.heap.IsSliceOf sl .none .none (.int (-1) t)) (h:Q ((n:Int) - 1,-1,n) s) :
  wpAny (model prog w) A (Builtin.Slice.sliceApplied (.ref sl) (pure (n:Int))) Q E s:=by
 obtain⟨os,hos,hcs,hds⟩:=id hs
 unfold Builtin.Slice.sliceApplied Builtin.Slice.sliceFields
 refine wpAny_bind (wpAny_bind (wpAny_field hos hds (x:=.none) rfl (wpAny_bind (wpAny_field hos hds (x:=.none) rfl (wpAny_bind (wpAny_field hos hds (x:=.int (-1) t) rfl (wpAny_pure ?_)))))))
 refine wpAny_bind (slicePart_int ?_)
 show wpAny _ _ (if ((-1:Int) == 0)=true then _ else _) _ _ s
 rw[if_neg (by decide)]
 refine wpAny_bind (slicePart_none (wpAny_bind (slicePart_none (wpAny_bind (wpAny_pure ?_)))))
 have e:Builtin.Slice.slicePlaces ((n:Int) - 1) (-1) (-1)=n:=by
  unfold Builtin.Slice.slicePlaces
  rw[if_neg (by decide)]
  split
  ·have:((n:Int) - 1 - -1 - 1) / (- -1) + 1=(n:Int):=by
    rw[show (- -1:Int)=1 by decide,Int.ediv_one];trivial
   rw[this];exact Int.toNat_natCast n
  ·have:n=0:=by trivial
   subst this;rfl
 show wpAny _ _ (pure ((n:Int) - 1,(-1:Int),Builtin.Slice.slicePlaces ((n:Int) - 1) (-1) (-1))) _ _ s
 rw[e]
 exact wpAny_pure h
theorem zb4 {t sl:Addr} {its:List Value} {u:Tok} {Q:Value->Shared->Prop} (ht:IsTup s.heap t its.toArray) (hs:s.heap.IsSliceOf sl .none .none (.int (-1) u))
  (h:Q (.ref s.heap.objs.size) { s with heap:=s.heap.push { cls:=.type "tuple",data:=.seq its.reverse.toArray } }) (hsz:its.length≤sizeLine):wpAny (model prog w) A (getItem (.ref t) (.ref sl)) Q E s:=by
 have fit:sizeOk (.seq its.reverse.toArray):=by
  show its.reverse.toArray.size≤sizeLine
  rw[List.size_toArray,List.length_reverse];exact hsz
 obtain⟨os,hos,hcs,hds⟩:=id hs
 have ty:s.TypeIs (.ref sl) "slice":=⟨os,hos,hcs⟩
 unfold getItem
 try with_reducible refine wpAny_holding ?_
 first | refine wpAny_bind (wpAny_pure ?_) | skip
 refine wpAny_bind (wpAny_sequenceKey ht.typeIs (by decide) (wpAny_bind (wpAny_callSpecial?_slot (name:=Str.ofString "__getitem__") ht.typeIs PyProof.Rows.slot_tuple_getitem
  (wpAny_call_entry PyProof.Rows.slot_tuple_getitem ht.typeIs entry_tuple_getitem ?_ (args_tuple_getitem _ _)))))
 show wpAny _ _ (Builtin.Tuple.tupleItemsOf (.ref t) >>= _) _ _ s
 refine wpAny_bind (tupleItemsOf_ ht (wpAny_bind (wpAny_typeOf ty ?_)))
 rw[if_pos (by decide)]
 have en:its.toArray.size=its.length:=List.size_toArray
 rw[en]
 refine wpAny_bind (zj6 hs ?_)
 show wpAny _ _ (if (((its.length:Int) - 1) == 0 && (-1:Int) == 1 && its.length == its.length)=true then _ else _) _ _ s
 rw[if_neg (by simp),zdg]
 first
  | exact wpAny_bind (m:=Builtin.Tuple.tupleExact _) (wpAny_newObj_type (wpAny_pure ⟨_,rfl,wpAny_pure h⟩) fit)
  | exact wpAny_bind (m:=Builtin.Tuple.tupleExact _) (wpAny_newObj_type (wpAny_bind (wpAny_pure (wpAny_pure ⟨_,rfl,wpAny_pure h⟩))) fit)
  | exact wpAny_bind (wpAny_bind (m:=Builtin.Tuple.tupleExact _) (wpAny_newObj_type (wpAny_pure (wpAny_pure ⟨_,rfl,wpAny_pure h⟩)) fit))
  | exact wpAny_bind (wpAny_bind (m:=Builtin.Tuple.tupleExact _) (wpAny_newObj_type (wpAny_pure ⟨_,rfl,wpAny_pure h⟩) fit))
theorem zph {t b:Addr} {ws:List Value} {Q:Value->Shared->Prop} (ht:IsTup s.heap t ([]:List Value).toArray) (hb:IsTup s.heap b ws.toArray) (h:Q (.ref b) s):wpAny (model prog w) A (binaryOp .Add (.ref t) (.ref b)) Q E s:=by
 obtain⟨⟨cls,dd,data,sl⟩,ho,hc,n,hd⟩:=id ht
 obtain⟨⟨cls2,dd2,data2,sl2⟩,ho2,hc2,n2,hd2⟩:=id hb
 simp only at hc hd hc2 hd2
 subst hc hd hc2 hd2
 exact concat_meets ⟨_,ho,rfl⟩ ⟨_,ho2,rfl⟩ noFill_tuple_add seq_tuple_add PySem.F.slot_tuple_add PySem.F.entry_tuple_add (PySem.F.args_tuple_add_2 _ _) (tuple_addW0 t b _ ws.toArray n n2 dd dd2 sl sl2 rfl) ⟨ho,ho2,h⟩
end
end HT
namespace L3
open PySem PySem.Spec PyProof.Rows L2
section
variable {X:Cx} {pins:List (Addr × Obj)} {σ:L2.St} {H:Hp} {s:Shared} {e:Expr} {te:TE} {pos p2:Pos}
theorem znq {xs:List V} {lo hi:Option Int} (h:HT.sIx xs.length 0 lo=0∧HT.sIx xs.length xs.length hi=xs.length):cutV xs lo hi=xs:=by
 unfold cutV
 rw[h.1,h.2]
 simp
inductive rSlA_i  (x:V) (lo:Option Int) (hi:Option Int) (H:Hp) (Q:VK):Prop
 | mk:∀ a xs,(x=.ref a)->(H a=some (.tup xs))->(∀ p H',Same H H'->H' p=some (.tup (cutV xs lo hi))->Q (.ref p) H')->rSlA_i x lo hi H Q
def rSlA :V->Option Int->Option Int->Hp->VK->Prop:=fun x lo hi H Q=>rSlA_i x lo hi H Q
theorem zaz:SlR X rSlA:=by
 intro pins s σ H x v vl vu lo hi sl Q I rx hs pl pu h
 obtain⟨a,xs,rfl,hx,q⟩:=h
 by_cases c:HT.sIx xs.length 0 lo=0∧HT.sIx xs.length xs.length hi=xs.length
 ·cases rx
  obtain⟨its,r,ht,hz⟩:=I.tuple (SqT.of hx)
  have hlen:its.toArray.size=xs.length:=by rw[List.size_toArray];exact r.length.symm
  refine⟨"tuple",_,PyProof.Rows.slot_tuple_getitem.lookup,ht.typeIs,HT.zc9 ht hs pl pu (by rw[hlen];exact c) ⟨.ref a,H,I,rfl,q _ _ (Same.refl H) (by rw[znq c];exact hx)⟩⟩
 ·exact zpq (X:=X) pins s σ H (.ref a) v vl vu lo hi sl Q I rx hs pl pu ⟨a,xs,rfl,SqT.of hx,c,fun p hp=>q p _ (zam hp) zae⟩
inductive rCatA_i  (x:V) (y:V) (H:Hp) (Q:VK):Prop
 | mk:∀ a b xs ys,(x=.ref a)->(y=.ref b)->(H a=some (.tup xs))->(H b=some (.tup ys))->(xs.length + ys.length≤sizeLine)->(∀ p H',Same H H'->H' p=some (.tup (xs++ys))->Q (.ref p) H')->rCatA_i x y H Q
def rCatA :R2:=fun x y H Q=>rCatA_i x y H Q
theorem zbj:OpR X (binaryOp .Add) rCatA:=by
 intro pins s σ H x y v u Q I rx ry h
 obtain⟨a,b,xs,ys,rfl,rfl,ha,hb,hz,q⟩:=h
 by_cases c:xs=[]
 ·subst c
  cases rx
  cases ry
  obtain⟨its,r1,p1,_⟩:=I.tuple (SqT.of ha)
  obtain⟨its2,r2,p2,_⟩:=I.tuple (SqT.of hb)
  cases r1
  exact HT.zph p1 p2 ⟨.ref b,H,I,rfl,q _ _ (Same.refl H) hb⟩
 ·refine zoq (X:=X) pins s σ H _ _ v u Q I rx ry ⟨a,b,xs,ys,rfl,rfl,SqT.of ha,SqT.of hb,c,hz,fun e=>q _ _ (Same.refl H) (by rw[e,List.append_nil];exact ha),fun _ p hp=>q p _ (zam hp) zae⟩
end
end L3
namespace L3
open PySem PySem.Spec PyProof.Rows L2
theorem iteB2 {b:Bool} {A B:Prop} (h1:b=true->B) (h2:b=false->A):if (!b)=true then A else B:=by
 cases b with
 | true=>exact h1 rfl
 | false=>exact h2 rfl
def numB (m:Nat):PyData->Bool
 | .int i=>decide (0≤i) && decide (i < (m:Int))
 | _=>false
def intOf:PyData->Int
 | .int i=>i
 | _=>0
def risI (ns:List Int):Bool:=((List.range (min ns.length (ns.drop 1).length)).map fun i=>decide (ns.getD i 0 < (ns.drop 1).getD i 0)).all id
def keepB (m:Nat):PyData->Bool
 | .tuple ds=>ds.all (numB m) && risI (ds.map intOf)
 | _=>false
inductive spNum_i (K:PySem.W.Frag) (vs:List V) (H:Hp) (Q:VK):Prop
 | mk:∀ (n:Int) (ts:List Tie) (d:PyData) (v u:V),(vs=[v,u])->(Is K H (webD n ts) v)->(Is K H d u)->(∀ H',Same H H'->Q (.bl (numB ts.length d)) H')->spNum_i K vs H Q
def spNum (K:PySem.W.Frag):Sp:=fun vs H Q _=>spNum_i K vs H Q
inductive spRisI_i  (vs:List V) (H:Hp) (Q:VK):Prop
 | mk:∀ p ns,(vs=[.ref p])->(H p=some (.tup (ns.map V.int)))->(ns.length≤1000)->(∀ H',Same H H'->Q (.bl (risI ns)) H')->spRisI_i vs H Q
def spRisI :Sp:=fun vs H Q _=>spRisI_i vs H Q
inductive spIsKeep_i (K:PySem.W.Frag) (vs:List V) (H:Hp) (Q:VK):Prop
 | mk:∀ (n:Int) (ts:List Tie) (d:PyData) (v u:V),(vs=[v,u])->(Is K H (webD n ts) v)->(Is K H d u)->(few d)->(∀ H',Same H H'->Q (.bl (keepB ts.length d)) H')->spIsKeep_i K vs H Q
def spIsKeep (K:PySem.W.Frag):Sp:=fun vs H Q _=>spIsKeep_i K vs H Q
theorem zjj (ns:List Int):risI ns=true↔ns.Pairwise (· < ·):=by
 have step:risI ns=true↔∀ i (h:i + 1 < ns.length),ns[i] < ns[i + 1]:=by
  unfold risI
  rw[List.all_map,List.all_eq_true]
  constructor
  ·intro h i hi
   have:=h i (List.mem_range.mpr (by rw[List.length_drop];trivial))
   have e1:ns.getD i 0=ns[i]:=by simp [List.getD,show i < ns.length by trivial]
   have e2:(ns.drop 1).getD i 0=ns[i + 1]:=by simp [List.getD,hi,Nat.add_comm 1 i]
   have q:decide (ns.getD i 0 < (ns.drop 1).getD i 0)=true:=this
   rw[e1,e2] at q
   exact of_decide_eq_true q
  ·intro h i hi
   have hi':=List.mem_range.mp hi
   rw[List.length_drop] at hi'
   have h1:i + 1 < ns.length:=by trivial
   have e1:ns.getD i 0=ns[i]:=by simp [List.getD,show i < ns.length by trivial]
   have e2:(ns.drop 1).getD i 0=ns[i + 1]:=by simp [List.getD,h1,Nat.add_comm 1 i]
   show decide (ns.getD i 0 < (ns.drop 1).getD i 0)=true
   rw[e1,e2]
   exact decide_eq_true (h i h1)
 rw[step,List.pairwise_iff_getElem]
 constructor
 ·intro h i j hi hj hij
  have:∀ k (hk:i + 1 + k < ns.length),ns[i] < ns[i + 1 + k]:=by
   intro k
   induction k with
   | zero=>intro hk;exact h i hk
   | succ k ih=>intro hk;exact Int.lt_trans (ih (by trivial)) (h (i + 1 + k) hk)
  have:=this (j - i - 1) (by trivial)
  have e:i + 1 + (j - i - 1)=j:=by trivial
  simpa only [e] using this
 ·intro h i hi
  exact h i (i + 1) (by trivial) hi (by trivial)
theorem zgj {ds:List PyData} (h:∀ d ∈ ds,∃ i,d=.int i):ds=(ds.map intOf).map .int:=by
 rw[List.map_map]
 conv=>lhs;rw[← List.map_id ds]
 refine List.map_congr_left fun d hd=>?_
 obtain⟨i,rfl⟩:=h d hd
 rfl
theorem zos {m:Nat} {d:PyData} (h:numB m d=true):∃ i,d=.int i∧0≤i∧i < m:=by
 cases d with
 | int i =>
  have h':(decide (0≤i) && decide (i < (m:Int)))=true:=h
  rw[Bool.and_eq_true] at h'
  exact⟨i,rfl,of_decide_eq_true h'.1,of_decide_eq_true h'.2⟩
 | _=>cases h
structure Pre (m:Nat) (ds:List PyData) (i:Nat) (a:Int):Prop where
 num:∀ d ∈ ds.take i,numB m d=true
 up:((ds.take i).map intOf).Pairwise (· < ·)
 top:∀ x ∈ (ds.take i).map intOf,x≤a
 at_:a=-1∨a ∈ (ds.take i).map intOf
theorem zem {α:Type} {ds:List α} {i:Nat} {d:α} (e:ds[i]?=some d):ds.take (i + 1)=ds.take i++[d]:=by
 rw[List.take_add_one,e];rfl
def flatD:V->Bool
 | .non | .bl _ | .int _ | .str _=>true
 | _=>false
theorem Pot.same {H H':Hp} {p:Addr} (h:Pot H p) (s:Same H H'):Pot H' p:=let ⟨a,b,e,z⟩:=h;⟨a,b,s _ _ e,z⟩
theorem zi8:∀ ts:List Tie,tupAll (ts.map tieD)=true
 | []=>rfl
 | t::r=>by show (tupD (tieD t) && tupAll (r.map tieD))=true;rw[zi8 r];rfl
theorem zel (n:Int) (ts:List Tie):tupD (webD n ts)=true:=by
 show (true && (tupAll (ts.map tieD) && true))=true
 rw[zi8 ts];rfl
end L3
namespace L3
end L3
namespace L3
open PySem PySem.Spec PyProof.Rows L2
theorem lI {c:TT} {a b:TS} {D:Ends} {σ:L2.St} {H:Hp} (h:let A:=a;let B:=b;let E:=D;let S:=σ;tIfS c A B E S H):tIfS c a b D σ H:=h
end L3
namespace HT
open PySem PyProof.Rows
section
open PySem.SeqAt
open PySem.AutoSeq1 (wpAny_loadPart')
open PySem.MeetsSeq PySem.MeetsSeq2 PySem.MeetsSeq3
end
section
variable {prog:Program} {w:World} {A:Around} {E:Value->Shared->Prop} {s:Shared}
end
end HT
namespace L3
open PySem PySem.Spec PyProof.Rows L2
section
variable {X:Cx}
end
end L3
namespace L3
open PySem PySem.Spec PyProof.Rows L2
def wide:Nat->PyData->Prop
 | 0,_=>True
 | k + 1,.tuple ds=>ds.length≤1000∧∀ d ∈ ds,wide k d
 | k + 1,.list ds=>ds.length≤1000∧∀ d ∈ ds,wide k d
 | _ + 1,_=>True
def endsD:PyData->Int × Int
 | .tuple [.int a,.int b,.int _]=>(a,b)
 | _=>(0,0)
def tiesB (n:Int):PyData->Bool
 | .tuple ds=>decide (ds.length≤60) && ds.all (tieB n) && risingB (ds.map endsD)
 | _=>false
def Gd (H:Hp):Nat->V->Prop
 | 0,v=>flatD v=true
 | k + 1,v=>flatD v=true∨(∃ p vs,v=.ref p∧(H p=some (.tup vs)∨H p=some (.lst vs))∧vs.length≤1000∧∀ u ∈ vs,Gd H k u)∨(∃ p,v=.ref p∧H p=some (.dK []))
def lt2 (e f:Int × Int):Prop:=e.1 < f.1∨(e.1=f.1∧e.2 < f.2)
structure PreT (n:Int) (ds:List PyData) (i:Nat) (a:Int × Int):Prop where
 tie:∀ d ∈ ds.take i,tieB n d=true
 up:((ds.take i).map endsD).Pairwise lt2
 top:∀ x ∈ (ds.take i).map endsD,x=a∨lt2 x a
 at_:a=(-1,-1)∨a ∈ (ds.take i).map endsD
end L3
namespace L3
open PySem PySem.Spec PyProof.Rows L2
section
variable {X:Cx} {es:List Expr} {t:TA} {pos:Pos}
def tTupG (t:TA):TE:=fun σ H Q=>t σ H fun xs H1=>xs.length≤1000∧∀ p H',Same H1 H'->H1 p=none->H' p=some (.tup xs)->Q (.ref p) H'
def tLstG (t:TA):TE:=fun σ H Q=>t σ H fun xs H1=>xs.length≤1000∧∀ p H',Same H1 H'->H1 p=none->H' p=some (.lst xs)->Q (.ref p) H'
theorem zbo {x1} (h:PA X es t):PE X (.Tuple es x1 pos) (tTupG t):=by
 intro pins s σ H Q I hq
 refine wpAny_Tuple_spliced (thn (h pos pins s σ H _ I hq) fun us s1 ⟨xs,J,I1,r,z,q⟩=>?_)
 have z':xs.length≤sizeLine:=Nat.le_trans z (by decide)
 have fr:J s1.heap.objs.size=none:=I1.hok.fresh (Nat.le_refl _)
 refine⟨by rw[← r.length];exact z',.ref s1.heap.objs.size,upd J s1.heap.objs.size (.tup xs),I1.laid (t':=s1.toks) (fun b u e=>Heap.get?_push_of_some _ e) (Nat.le_refl _) ⟨z',us,r,⟨_,Heap.get?_push_size _ rfl,rfl,⟨_,rfl⟩,rfl⟩⟩,rfl,q _ _ (zam fr) fr zae⟩
theorem zc5 (h:PA X es t):PE X (.List es pos) (tLstG t):=by
 intro pins s σ H Q I hq
 refine wpAny_List_spliced (thn (h pos pins s σ H _ I hq) fun us s1 ⟨xs,J,I1,r,z,q⟩=>?_)
 have z':xs.length≤sizeLine:=Nat.le_trans z (by decide)
 have fr:J s1.heap.objs.size=none:=I1.hok.fresh (Nat.le_refl _)
 refine⟨by rw[← r.length];exact z',.ref s1.heap.objs.size,upd J s1.heap.objs.size (.lst xs),I1.laid (t':=s1.toks) (fun b u e=>Heap.get?_push_of_some _ e) (Nat.le_refl _) ⟨z',us,0,r,Heap.get?_push_size _ rfl⟩,rfl,q _ _ (zam fr) fr zae⟩
inductive rAppendG_i  (x:V) (vs:List V) (H:Hp) (Q:VK):Prop
 | mk:∀ l xs y,(x=.ref l)->(vs=[y])->(H l=some (.lst xs))->(xs.length < 1000)->(∀ H',But l H H'->H' l=some (.lst (xs++[y]))->Q .non H')->rAppendG_i x vs H Q
def rAppendG :V->List V->Hp->VK->Prop:=fun x vs H Q=>rAppendG_i x vs H Q
theorem zct:MtM X "list.append" rAppendG:=by
 intro pins s σ H x vs v us Q I rx rv h
 obtain⟨l,xs,y,rfl,rfl,hH,hz,q⟩:=h
 exact zdi (X:=X) pins s σ H _ _ v us Q I rx rv ⟨l,xs,y,rfl,rfl,hH,Nat.lt_of_lt_of_le hz (by decide),q _ But.upd zae⟩
inductive call_listG_i  (xs:List V) (H:Hp) (Q:VK):Prop
 | mk:∀ p ys,(xs=[.ref p])->((H p=some (.lst ys)∨H p=some (.tup ys)))->(∀ l H',Same H H'->H l=none->H' l=some (.lst ys)->Q (.ref l) H')->call_listG_i xs H Q
theorem zkk:CallR X (.type "list") (call_listG_i):=by
 intro pins s σ H xs us Q I r h
 obtain⟨p,ys,rfl,hp,q⟩:=h
 exact zhm (X:=X) pins s σ H _ us Q I r ⟨p,ys,rfl,hp.elim (fun e=>.inl (SqL.of e)) (fun e=>.inr (SqT.of e)),fun l hl=>q l _ (zam hl) hl zae⟩
end
def Sm (H:Hp) (t:Addr):Prop:=∃ vs:List V,(H t=some (.tup vs)∨H t=some (.lst vs))∧vs.length≤1000∧vs.all flatD=true
def GdF (H:Hp) (xs:List V):Prop:=∀ u ∈ xs,∃ t,u=.ref t∧Sm H t
def GdL (l:Addr) (H:Hp) (xs:List V):Prop:=∀ u ∈ xs,∃ t,u=.ref t∧t≠l∧Sm H t
section
variable {g:TG} {te:TE} {own:List Str} {js:List Nat} {σ:L2.St} {H1:Hp} {Q:VK}
theorem zki {lo:Int} {n:Nat} (Sg:L2.St->Prop) (R:Nat->V->Hp->Prop) (hn:n≤1000) (h0:Sg (start3 own js σ)) (mono:∀ i v H H',TupKeep H H'->R i v H->R i v H')
  (step:∀ i σ' H',i < n->Same H1 H'->Sg σ'->∀ C:L2.St->V->Hp->Prop,(∀ σ3 v H5,Sg σ3->Same H' H5->R i v H5->C σ3 v H5)->g (.int (lo + i)) σ' H' fun σ3 H3=>te σ3 H3 fun v H5=>C σ3 v H5)
  (fin:∀ D ys H',H1 D=none->Same H1 H'->H' D=some (.lst ys)->ys.length=n->(∀ i v,ys[i]?=some v->R i v H')->Q (.ref D) H'):CompGo own js g tTrue te σ Q (Itr lo n) H1:=by
 refine zej n Sg R hn h0 mono (fun i H' hi s=>hi) (fun H' s=>Nat.le_refl _) (fun i x σ' H' H2 hi s hy sg C hC=>?_) fin
 obtain⟨rfl,rfl⟩:=hy
 exact step i σ' _ hi s sg C hC
end
inductive call_tupleG_i  (xs:List V) (H:Hp) (Q:VK):Prop
 | mk:∀ p ys,(xs=[.ref p])->(H p=some (.lst ys))->(∀ l H',Same H H'->H l=none->H' l=some (.tup ys)->Q (.ref l) H')->call_tupleG_i xs H Q
theorem zdb {X:Cx}:CallR X (.type "tuple") (call_tupleG_i):=by
 intro pins s σ H xs us Q I r h
 obtain⟨p,ys,rfl,hp,q⟩:=h
 exact zdp (X:=X) pins s σ H _ us Q I r ⟨p,ys,rfl,.inl ⟨SqL.of hp,fun l hl=>q l _ (zam hl) hl zae⟩⟩
inductive call_sortedTG_i  (xs:List V) (H:Hp) (Q:VK):Prop
 | mk:∀ p ys ks,(xs=[.ref p])->(H p=some (.lst ys))->(ys.length < 64)->(Paired (fun (y:V) (k:List Int)=>∃ a,y=.ref a∧H a=some (.tup (k.map V.int))) ys ks)->((∀ k ∈ ks,k≠[]))->(∀ qs:List (V × List Int),qs.Perm (ys.zip ks)->qs.Pairwise (fun a b=>Srt.lexI b.2 a.2=false)->∀ l H',Same H H'->H l=none->H' l=some (.lst (qs.map (·.1)))->Q (.ref l) H')->call_sortedTG_i xs H Q
theorem zdq {X:Cx}:CallR X (.builtin "sorted") (call_sortedTG_i):=by
 intro pins s σ H xs us Q I r h
 obtain⟨p,ys,ks,rfl,hp,h64,pr,ne,q⟩:=h
 exact zd6 (X:=X) pins s σ H _ us Q I r ⟨p,ys,ks,rfl,SqL.of hp,h64,Paired.mapP pr fun y k ⟨a,e1,e2⟩=>⟨a,e1,SqT.of e2⟩,ne,fun qs pq wq l hl=>q qs pq wq l _ (zam hl) hl zae⟩
def Row3 (H:Hp) (v:V):Prop:=∃ (t:Addr) (x y z:Int),v=.ref t∧H t=some (.tup [.int x,.int y,.int z])
theorem zkq {qs:List (V × List Int)} {ys:List V} {ks:List (List Int)} (p:qs.Perm (ys.zip ks)):(∀ v ∈ qs.map (·.1),v ∈ ys)∧(qs.map (·.1)).length≤ys.length:=by
 refine⟨fun v hv=>?_,?_⟩
 ·obtain⟨⟨a,b⟩,hq,rfl⟩:=List.mem_map.mp hv
  exact (List.of_mem_zip (p.mem_iff.mp hq)).1
 ·rw[List.length_map,p.length_eq,List.length_zip];trivial
structure BE (X:Cx) (e:Expr) (t:TE):Prop where
 h:PE X e t
structure BA (X:Cx) (es:List Expr) (t:TA):Prop where
 h:PA X es t
structure BS (X:Cx) (st:Stmt) (t:TS):Prop where
 h:PS X st t
structure BSs (X:Cx) (ss:List Stmt) (t:TS):Prop where
 h:PSs X ss t
section
variable {X:Cx}
theorem zaj {st:Stmt} {rest:List Stmt} {t u:TS} (a:BS X st t) (b:BSs X rest u):BSs X (st::rest) (tSeq t u):=⟨zai a.h b.h⟩
theorem zar {st:Stmt} {t:TS} (a:BS X st t):BSs X [st] t:=⟨zak a.h⟩
theorem zbn {pos:Pos} {i:Nat} {x:Str} {e:Expr} {te:TE} {pos':Pos} (hN:X.N.Nodup) (hi:X.N[i]?=some x) (hx:L2.Loc X.env.scope x) (he:BE X e te) (hs:swapsWith e (some (.Name x pos')) pos.line X.env=pure false:=by rfl)
  (hf:X.fn x=true∨X.env.scope.names.lookup x=some .local:=by first | exact .inl rfl | exact .inr rfl | assumption):BS X (.Assign [.Name x pos'] e pos) (tAsg te (gName i)):=⟨za9 hN hi hx he.h hs hf⟩
theorem ziy {es:List Expr} {t:TA} {pos:Pos} (a:BA X es t):BE X (.List es pos) (tLstG t):=⟨zc5 a.h⟩
theorem zb1 {es:List Expr} {t:TA} {pos:Pos} {x1:Nat} (a:BA X es t):BE X (.Tuple es x1 pos) (tTupG t):=⟨zbo a.h⟩
theorem zb5:BA X [] tNil:=⟨zac⟩
theorem zbb {e:Expr} {es:List Expr} {te:TE} {t:TA} (a:BE X e te) (b:BA X es t) (hs:starEach (e::es) X.env=(false,eval e X.env)::starEach es X.env:=by rfl):BA X (e::es) (tCons te t):=⟨zaa a.h b.h hs⟩
theorem zdc {a b:Expr} {ta tb:TE} {pos:Pos} {op:Operator} {r:R2} (ho:OpR X (binaryOp op) r) (ha:BE X a ta) (hb:BE X b tb):BE X (.BinOp a op b pos) (tOp r ta tb):=⟨zay ho ha.h hb.h⟩
end
end L3
namespace L3
open PySem PySem.Spec PyProof.Rows L2
section
variable {X:Cx}
theorem zb3 {c:Expr} {a b:List Stmt} {tc:TT} {t u:TS} {pos:Pos} (hc:PT X c tc) (ha:BSs X a t) (hb:BSs X b u):BS X (.If c a b pos) (tIfS tc t u):=⟨zb2 hc ha.h hb.h⟩
theorem za6:BSs X [] tNext:=⟨za5⟩
theorem zbd {e:Expr} {te:TE} {pos:Pos} (he:BE X e te):BS X (.Return (some e) pos) (tRet te):=⟨zav he.h⟩
theorem zqr {a b:Expr} {ta tb:TE} {pos:Pos} {r:R2} (hr:IxR X r) (ha:BE X a ta) (hb:BE X b tb) (hs:PlainIx b):BE X (.Subscript a b pos) (tOp r ta tb):=⟨zao hr ha.h hb.h hs⟩
theorem zcf {tg iter:Expr} {body:List Stmt} {wi:TI} {g:TG} {tb:TS} {pos:Pos} (hp:PassesOwn (model X.prog X.w) X.A X.env X.xe) (hc:X.calm=true) (hi:PI X tg iter wi) (hg:PG X tg g) (hb:BSs X body tb)
  (hs:∀ x,foldedSetIterable iter X.env x=pure x:=by intro _;rfl):BS X (.For tg iter body [] pos) (tFor wi g tb):=⟨zde hp hc hi hg hb.h hs⟩
end
end L3
namespace Far
inductive Walk (A:List (Nat × Nat × Int)) (s:Nat):Nat->Int->Prop
 | nil:Walk A s s 0
 | snoc {u v:Nat} {l x:Int}:Walk A s u x->(u,v,l) ∈ A->Walk A s v (x + l)
variable {A:List (Nat × Nat × Int)} {s:Nat}
def Pos (A:List (Nat × Nat × Int)):Prop:=∀ u v l,(u,v,l) ∈ A->1≤l
def Dst (A:List (Nat × Nat × Int)) (s v:Nat) (o:Option Int):Prop:=(∀ y,o=some y->Walk A s v y)∧∀ L,Walk A s v L->∃ y,o=some y∧y≤L
theorem least {P:Nat->Prop}:∀ n,P n->∃ m,P m∧∀ k,P k->m≤k:=by
 intro n
 induction n using Nat.strongRecOn with
 | ind n ih =>
  intro h
  by_cases c:∃ k,k < n∧P k
  ·obtain⟨k,hk,pk⟩:=c;exact ih k hk pk
  ·exact⟨n,h,fun k pk=>by
    by_cases z:k < n
    ·exact absurd ⟨k,z,pk⟩ c
    ·trivial⟩
def Sym (A:List (Nat × Nat × Int)):Prop:=∀ u v l,(u,v,l) ∈ A->(v,u,l) ∈ A
def lt2 (e f:Int × Int):Prop:=e.1 < f.1∨(e.1=f.1∧e.2 < f.2)
def get {α:Type} (cs:List (Option α)) (v:Nat):Option α:=cs.getD v none
def ct {α:Type}:List (Option α)->Nat
 | []=>0
 | none::r=>ct r
 | some _::r=>ct r + 1
def WM:Int:=2 ^ 130
def mW:Option (Int × Int)->Nat
 | none=>(2 ^ 250)
 | some c=>(c.1 * WM + c.2).toNat
def mu:List (Option (Int × Int))->Nat
 | []=>0
 | c::r=>mW c + mu r
structure Good (A:List (Nat × Nat × Int)) (n s:Nat) (cs:List (Option (Int × Int))):Prop where
 len:cs.length=n
 walk:∀ v c,get cs v=some c->Walk A s v c.1
 w0:∀ v c,get cs v=some c->0≤c.2∧c.2≤c.1 * 2 ^ 60
 top:∀ v c,get cs v=some c->c.1≤((ct cs:Nat) - 1:Int) * 10 ^ 18
 start:∃ c,get cs s=some c∧c.1≤0
def Stab (A:List (Nat × Nat × Int)) (cs:List (Option (Int × Int))):Prop:=∀ u v l c,(u,v,l) ∈ A->get cs u=some c->∃ c',get cs v=some c'∧c'.1≤c.1 + l
structure Snd (A:List (Nat × Nat × Int)) (n s:Nat) (D:List (Option Int)):Prop where
 len:D.length=n
 walk:∀ v x,get D v=some x->Walk A s v x
 start:∃ x,get D s=some x∧x≤0
structure Rnd (A:List (Nat × Nat × Int)) (n s:Nat) (δ:Nat->Option Int) (D0:List (Option Int)) (B:(Nat × Nat × Int)->Prop) (D:List (Option Int)):Prop where
 snd:Snd A n s D
 keep:∀ v,get D0 v=δ v->get D v=δ v
 arc:∀ u v l x,B (u,v,l)->get D0 u=δ u->δ u=some x->∃ y,get D v=some y∧y≤x + l
section
variable {n:Nat} {δ:Nat->Option Int} {D0 D:List (Option Int)} {B:(Nat × Nat × Int)->Prop} {u v:Nat} {l:Int}
def plus (B:(Nat × Nat × Int)->Prop) (a:Nat × Nat × Int):(Nat × Nat × Int)->Prop:=fun b=>B b∨b=a
end
theorem zdn {α:Type} {p q:α->Bool}:∀ {xs:List α},(∀ x ∈ xs,p x=true->q x=true)->(∃ x ∈ xs,q x=true∧p x=false)->xs.countP p < xs.countP q
 | [],_,⟨x,h,_⟩=>by cases h
 | a::r,h,⟨x,hx,e1,e2⟩=>by
  rw[List.countP_cons,List.countP_cons]
  have le:r.countP p≤r.countP q:=List.countP_mono_left fun x hx=>h x (List.mem_cons_of_mem _ hx)
  rcases List.mem_cons.mp hx with rfl | hx
  ·rw[e1,e2];simp;trivial
  ·have:=zdn (xs:=r) (fun x hx=>h x (List.mem_cons_of_mem _ hx)) ⟨x,hx,e1,e2⟩
   have:=h a List.mem_cons_self
   cases e:p a <;> cases e':q a <;> simp_all <;> trivial
def cnt (n:Nat) (δ:Nat->Option Int) (D:List (Option Int)):Nat:=(List.range n).countP fun v=>decide (get D v=δ v)
def Done (n:Nat) (δ:Nat->Option Int) (D:List (Option Int)) (k:Nat):Prop:=(∀ v,v < n->get D v=δ v)∨k + 1≤cnt n δ D
def PSt (c0:List (Option (Int × Int))) (B:(Nat × Nat × Int)->Prop) (cs:List (Option (Int × Int))) (ag:Bool):Prop :=
 (ag=false∧cs=c0∧∀ u v l c,B (u,v,l)->get c0 u=some c->∃ c',get c0 v=some c'∧c'.1≤c.1 + l)∨(ag=true∧mu cs < mu c0)
section
variable {c0 cs:List (Option (Int × Int))} {B B':(Nat × Nat × Int)->Prop} {ag:Bool} {u v:Nat} {l w:Int}
end
end Far
namespace L3
open PySem PySem.Spec PyProof.Rows L2
def tieAt (ts:List Tie) (k:Nat):Tie:=ts.getD k (0,0,0)
def arcs2 (t:Tie):List (Nat × Nat × Int):=[(t.1.toNat,t.2.1.toNat,t.2.2),(t.2.1.toNat,t.1.toNat,t.2.2)]
def arcs (ts:List Tie) (ks:List Nat):List (Nat × Nat × Int):=ks.flatMap fun k=>arcs2 (tieAt ts k)
theorem arcs_mem {ts:List Tie} {ks:List Nat} {a:Nat × Nat × Int}:a ∈ arcs ts ks↔∃ k,k ∈ ks∧a ∈ arcs2 (tieAt ts k):=by
 unfold arcs;rw[List.mem_flatMap]
theorem arcs2_mem {t:Tie} {a:Nat × Nat × Int}:a ∈ arcs2 t↔a=(t.1.toNat,t.2.1.toNat,t.2.2)∨a=(t.2.1.toNat,t.1.toNat,t.2.2):=by
 unfold arcs2;simp
theorem za7 {ts:List Tie} {k:Nat} (h:k < ts.length):ts[k]?=some (tieAt ts k)∧tieAt ts k ∈ ts:=by
 have e:ts[k]?=some (tieAt ts k):=by unfold tieAt;rw[List.getD_eq_getElem?_getD,List.getElem?_eq_getElem h];rfl
 exact⟨e,List.mem_of_getElem? e⟩
section
variable {n:Int} {ts:List Tie} {ks:List Nat}
end
def CV (H:Hp) (v:V):Option (Int × Int)->Prop
 | none=>v=.non
 | some e=>∃ t,v=.ref t∧H t=some (.tup [.int e.1,.int e.2])
def CostL (H:Hp) (vs:List V) (cs:List (Option (Int × Int))):Prop:=vs.length=cs.length∧∀ i v,vs[i]?=some v->CV H v (Far.get cs i)
section
variable {H H' J J':Hp} {vs cvs avs ws:List V} {cs:List (Option (Int × Int))} {lw lc la t:Addr} {n k:Nat} {x y:Int}
structure RH (H J:Hp) (lw lc la:Addr) (ws:List V) (n:Nat) (cs:List (Option (Int × Int))):Prop where
 same:Same H J
 fc:H lc=none
 fa:H la=none
 nwc:lw≠lc
 nwa:lw≠la
 nca:lc≠la
 wl:J lw=some (.lst ws)
 co:∃ cvs,J lc=some (.lst cvs)∧CostL J cvs cs
 ah:∃ avs,J la=some (.lst avs)∧avs.length=n
end
def ov:Option Int->V
 | none=>.non
 | some x=>.int x
theorem zaq {α:Type} {xs:List α} {i:Int} {x:α} (h0:0≤i) (h:xs[i.toNat]?=some x):atI xs i=some x:=by
 have hl:=(List.getElem?_eq_some_iff.mp h).1
 unfold atI ixN
 rw[if_pos h0,if_pos (by trivial)]
 exact h
theorem zbf {K:PySem.W.Frag} {H:Hp}:∀ {ts:List Tie} {ws:List V} {k:Nat},IsAll K H (ts.map tieD) ws->k < ts.length->∃ a,ws[k]?=some (.ref a)∧H a=some (.tup [.int (tieAt ts k).1,.int (tieAt ts k).2.1,.int (tieAt ts k).2.2])
 | t::r,ws,0,h,_=>by
  obtain⟨v,vs,rfl,h1,_⟩:=h
  obtain⟨a,xs,rfl,ha,hx⟩:=h1
  have e:xs=(tieI t).map V.int:=IsAll.of_ints (ns:=tieI t) hx
  subst e
  exact⟨a,rfl,ha⟩
 | t::r,ws,k + 1,h,hk=>by
  obtain⟨v,vs,rfl,_,h2⟩:=h
  obtain⟨a,e,ha⟩:=zbf (ts:=r) (ws:=vs) (k:=k) h2 (by simpa using hk)
  exact⟨a,e,ha⟩
theorem zdz {K:PySem.W.Frag} {H:Hp} {ks:List Nat} {v:V} (h:Is K H (keepD ks) v):∃ p,v=.ref p∧H p=some (.tup ((keepI ks).map V.int)):=by
 obtain⟨p,vs,rfl,hp,hx⟩:=h
 have e:=IsAll.of_ints hx
 subst e
 exact⟨p,rfl,hp⟩
theorem zoz {ks:List Nat} {i:Nat} {x:V} (h:((keepI ks).map V.int)[i]?=some x):∃ k,ks[i]?=some k∧x=.int (k:Int):=by
 unfold keepI at h
 rw[List.map_map,List.getElem?_map] at h
 cases e:ks[i]? with
 | none=>rw[e] at h;cases h
 | some k=>rw[e] at h;cases h;exact⟨k,rfl,rfl⟩
def WK (K:PySem.W.Frag) (H:Hp) (n:Int) (ts:List Tie) (ks:List Nat) (wv kv:V):Prop:=Is K H (webD n ts) wv∧WebOk n ts∧Is K H (keepD ks) kv∧KeepOk ts.length ks
theorem WK.same {K:PySem.W.Frag} {H H':Hp} {n:Int} {ts:List Tie} {ks:List Nat} {wv kv:V} (h:WK K H n ts ks wv kv) (s:Same H H'):WK K H' n ts ks wv kv:=⟨Is.same s _ h.1,h.2.1,Is.same s _ h.2.2.1,h.2.2.2⟩
end L3
namespace HT
open PySem PyProof.Rows
open Sem (wp)
section
variable {prog:Program} {w:World} {A:Around} {E:Value->Shared->Prop} {s:Shared}
end
end HT
namespace L3
open PySem PySem.Spec PyProof.Rows L2
def hAt (hs:List Int) (a:Int):Int:=hs.getD a.toNat 0
def absI (i:Int):Int:=if i < 0 then -i else i
def acrossI (ts:List Tie) (hs:List Int) (k:Nat):Int:=absI (hAt hs (tieAt ts k).1 - hAt hs (tieAt ts k).2.1)
def holdB (n:Int) (ts:List Tie) (ks:List Nat) (hs:List Int):Bool:=decide (hs.length=n.toNat) && ks.all fun k=>decide (acrossI ts hs k≤(tieAt ts k).2.2)
def capO (roof:Int):Option Int->Int
 | none=>roof
 | some x=>if roof < x then roof else x
def IntT (H:Hp) (p:Addr) (hs:List Int):Prop:=H p=some (.tup (hs.map V.int))∧hs.length≤1000
theorem IntT.same {H H':Hp} {p:Addr} {hs:List Int} (h:IntT H p hs) (s:Same H H'):IntT H' p hs:=⟨s _ _ h.1,h.2⟩
def AllI (xs:List V):Prop:=∃ ns:List Int,xs=ns.map V.int
theorem zgi:∀ hs:List Int,PyData.canLayAll0 (hs.map .int)=true
 | []=>rfl
 | t::r=>by
  show (PyData.canLay0 (.int t) && PyData.canLayAll0 (r.map .int))=true
  rw[zgi r]
  rfl
theorem zhc:∀ hs:List Int,PyData.depthAll (hs.map .int)≤1
 | []=>Nat.zero_le _
 | t::r=>by
  show max (PyData.depth (.int t)) (PyData.depthAll (r.map .int))≤1
  have h1:=zhc r
  have h2:PyData.depth (.int t)≤1:=Nat.le_trans (Nat.le_of_eq (by rfl:PyData.depth (.int t)=0)) (by decide)
  trivial
inductive spShown_i (K:PySem.W.Frag) (vs:List V) (H:Hp) (Q:VK):Prop
 | mk:∀ n ts ks wv kv p hs,(vs=[wv,kv,.ref p])->(WK K H n ts ks wv kv)->(IntT H p hs)->(holdB n ts ks hs=true)->(∀ H',Same H H'->Q (.bl true) H')->spShown_i K vs H Q
def spShown (K:PySem.W.Frag):Sp:=fun vs H Q _=>spShown_i K vs H Q
section
variable {g:TG} {te:TE} {own:List Str} {js:List Nat} {σ:L2.St} {H1:Hp} {Q:VK}
end
end L3
namespace L3
open PySem PySem.Spec PyProof.Rows L2
section
variable {J:It} {g:TG} {tt:TT} {te:TE} {own:List Str} {js:List Nat} {σ:L2.St} {H1:Hp} {Q:VK}
theorem zjw (n:Nat) (Sg:L2.St->Prop) (sel:Nat->Option V) (hn:n≤1000) (h0:Sg (start3 own js σ))
  (go:∀ i H',i < n->Same H1 H'->J.go i H') (stop:∀ H',Same H1 H'->J.stop n H')
  (step:∀ i x σ' H' H2,i < n->Same H1 H'->J.yld i H' x H2->Sg σ'->∀ (C:L2.St->V->Hp->Prop) (L:L2.St->Hp->Prop),(∀ σ3 v H5,Sg σ3->Same H' H5->sel i=some v->C σ3 v H5)->(∀ σ3 H5,Sg σ3->Same H' H5->sel i=none->L σ3 H5) ->
   g x σ' H2 fun σ3 H3=>tt σ3 H3 fun b H4=>if b=true then te σ3 H4 fun v H5=>C σ3 v H5 else L σ3 H4)
  (fin:∀ D H',H1 D=none->Same H1 H'->H' D=some (.lst ((List.range n).filterMap sel))->Q (.ref D) H'):CompGo own js g tt te σ Q J H1:=by
 intro D hD
 refine⟨fun i m ys σ' H'=>m=n - i∧i≤n∧Sg σ'∧Same H1 H'∧ys=(List.range i).filterMap sel,⟨n,rfl,Nat.zero_le _,h0,zam hD,rfl⟩,?_⟩
 rintro i m ys σ' H' ⟨rfl,hi,sg,sm,rfl⟩ hd
 have len:((List.range i).filterMap sel).length≤i:=by have:=List.length_filterMap_le sel (List.range i);rw[List.length_range] at this;exact this
 by_cases hlt:i < n
 ·refine .inr ⟨go i H' hlt sm,fun x H2 hy=>?_⟩
  refine step i x σ' H' H2 hlt sm hy sg
   (fun σ3 v H5=>H5 D=some (.lst ((List.range i).filterMap sel))∧((List.range i).filterMap sel).length < sizeLine∧∃ m',m' < n - i∧(m'=n - (i + 1)∧i + 1≤n∧Sg σ3∧Same H1 (upd H5 D (.lst ((List.range i).filterMap sel++[v])))∧(List.range i).filterMap sel++[v]=(List.range (i + 1)).filterMap sel))
   (fun σ3 H5=>H5 D=some (.lst ((List.range i).filterMap sel))∧∃ m',m' < n - i∧(m'=n - (i + 1)∧i + 1≤n∧Sg σ3∧Same H1 H5∧(List.range i).filterMap sel=(List.range (i + 1)).filterMap sel)) (fun σ3 v H5 sg3 s5 e=>?_) (fun σ3 H5 sg3 s5 e=>?_)
  ·refine⟨s5 _ _ hd,Nat.lt_of_le_of_lt (by trivial:((List.range i).filterMap sel).length≤1000) (by decide),n - (i + 1),by trivial,rfl,hlt,sg3,fun b o z=>?_,?_⟩
   ·rw[zas (zat z hD)];exact s5 _ _ (sm _ _ z)
   ·rw[List.range_succ,List.filterMap_append];simp [e]
  ·refine⟨s5 _ _ hd,n - (i + 1),by trivial,rfl,hlt,sg3,sm.trans s5,?_⟩
   rw[List.range_succ,List.filterMap_append];simp [e]
 ·have e:i=n:=by trivial
  subst e
  exact .inl ⟨stop H' sm,fin D H' hD sm hd⟩
theorem zhf {lo:Int} {n:Nat} (Sg:L2.St->Prop) (sel:Nat->Option V) (hn:n≤1000) (h0:Sg (start3 own js σ))
  (step:∀ i σ' H',i < n->Same H1 H'->Sg σ'->∀ (C:L2.St->V->Hp->Prop) (L:L2.St->Hp->Prop),(∀ σ3 v H5,Sg σ3->Same H' H5->sel i=some v->C σ3 v H5)->(∀ σ3 H5,Sg σ3->Same H' H5->sel i=none->L σ3 H5) ->
   g (.int (lo + i)) σ' H' fun σ3 H3=>tt σ3 H3 fun b H4=>if b=true then te σ3 H4 fun v H5=>C σ3 v H5 else L σ3 H4)
  (fin:∀ D H',H1 D=none->Same H1 H'->H' D=some (.lst ((List.range n).filterMap sel))->Q (.ref D) H'):CompGo own js g tt te σ Q (Itr lo n) H1:=by
 refine zjw n Sg sel hn h0 (fun i H' hi s=>hi) (fun H' s=>Nat.le_refl _) (fun i x σ' H' H2 hi s hy sg C L hC hL=>?_) fin
 obtain⟨rfl,rfl⟩:=hy
 exact step i σ' _ hi s sg C L hC hL
end
end L3
namespace Far
variable {A:List (Nat × Nat × Int)} {s:Nat}
def Con (A:List (Nat × Nat × Int)) (s v:Nat):Prop:=∃ x,Walk A s v x
noncomputable def rB (A:List (Nat × Nat × Int)) (s v:Nat):Bool:=@decide (Con A s v) (Classical.propDecidable _)
noncomputable def rN (A:List (Nat × Nat × Int)) (n s:Nat):List Nat:=(List.range n).filter (rB A s)
noncomputable def isHd (A:List (Nat × Nat × Int)) (n p:Nat):Bool:=decide ((rN A n p).head?=some p)
noncomputable def pcs (A:List (Nat × Nat × Int)) (n:Nat):List (List Nat):=((List.range n).filter (isHd A n)).map (rN A n)
end Far
namespace L3
open PySem PySem.Spec PyProof.Rows L2
def natV (ns:List Nat):List V:=ns.map fun v:Nat=>V.int (v:Int)
theorem za8 (ns:List Nat):natV ns=(keepI ns).map V.int:=by unfold natV keepI;rw[List.map_map];rfl
theorem zf5 (p:Nat->Bool):∀ is:List Nat,is.filterMap (fun i=>if p i=true then some (V.int (i:Int)) else none)=natV (is.filter p)
 | []=>rfl
 | i::r=>by
  rw[List.filterMap_cons,List.filter_cons]
  cases e:p i with
  | true=>rw[if_pos rfl,if_pos rfl,zf5 p r];rfl
  | false=>rw[if_neg Bool.false_ne_true,if_neg Bool.false_ne_true,zf5 p r]
theorem ze2 {a:Int} (h:0≤a) (ns:List Nat):inV (.int a) (natV ns)=decide (a.toNat ∈ ns):=by
 unfold inV natV
 rw[List.any_map,Bool.eq_iff_iff,List.any_eq_true,decide_eq_true_iff]
 constructor
 ·rintro ⟨v,hv,e⟩
  have e':((v:Int) == a)=true:=e
  have:(v:Int)=a:=by simpa using e'
  have e2:a.toNat=v:=by trivial
  rw[e2];exact hv
 ·intro m
  exact⟨_,m,show (((a.toNat:Nat):Int) == a)=true by rw[Int.toNat_of_nonneg h];simp⟩
theorem zdl (ns:List Nat):(natV ns).all flatV=true:=by
 unfold natV;rw[List.all_map];exact List.all_eq_true.mpr fun _ _=>rfl
end L3
namespace Srt
open PySem PySem.Spec PyProof.Rows PySem.W
section
variable {prog:Program} {w:World} {A:Around} {E:Value->Shared->Prop} {s:Shared}
end
end Srt
namespace HT
open PySem PyProof.Rows
section
variable {prog:Program} {w:World} {A:Around} {E:Value->Shared->Prop} {s:Shared}
theorem ziv {Q:List Value->Shared->Prop} {r:Addr} {a b c:Int} {t u v:Tok} {n:Nat} (hh:A.handled=none) (hr:IsRange s.heap r a b c t u v) (hsmall:Builtin.Range.small a b c=true)
  (hn:Builtin.Range.rangeSize a b c=n) (hlen:n≤2 ^ 24)
  (hQ:∀ h' tk acc',(∀ b o,s.heap.get? b=some o->h'.get? b=some o)->ItemsOf (fun i v=>∃ t,v=.int (a + i * c) t) acc' n->Q acc'.toList { s with heap:=h',toks:=tk }) :
  wpAny (model prog w) A (collect (.ref r)) Q E s:=by
 unfold collect
 refine wpAny_bind (wpAny_runValue (codeAny_builtin PySem.F.entry_proto_collect ?_))
 rw[Around.under_plainId PySem.F.plain_proto_collect _]
 show wpAny _ A.in1 (newList [] >>= fun l=>again (.builtin "list.__iadd__" ⟨[l,.ref r],[]⟩)) _ _ s
 refine wpAny_bind (wpAny_newObj_type ?_)
 refine wpAny_pure ⟨plainId_quiet PySem.F.plain_list_iadd _,codeAny_builtin PySem.F.entry_list_iadd ?_⟩
 rw[Around.under_plainId PySem.F.plain_list_iadd _]
 show wpAny _ A.in1 (Builtin.List.listExtendWith (.ref s.heap.objs.size) (.ref r) (.ref s.heap.objs.size)) _ _ _
 have hS:(s.heap.push { cls:=.type "list",data:=.seq ([]:List Value).toArray }).get? s.heap.objs.size=some { cls:=.type "list",data:=.seq #[] }:=Heap.get?_push_size _ rfl
 have fin' : ∀ (h' : Heap) (tk : Nat) (acc' : Array Value) (c' : Nat), (∀ b o, s.heap.get? b = some o → h'.get? b = some o) → h'.get? s.heap.objs.size = some { cls := .type "list", dict := none, data := .seq acc' c', slots := #[] } → ItemsOf (fun i v => ∃ t, v = .int (a + i * c) t) acc' n →
     wpAny (model prog w) A (load s.heap.objs.size >>= fun o=>match o.data with | .seq xs _=>pure xs.toList | _=>unsupported "internal:collect") Q E { s with heap:=h',toks:=tk }:=fun h' tk acc' c' hk hS' hacc=>wpAny_bind (wpAny_load hS' (wpAny_pure (hQ h' tk acc' hk hacc)))
 refine wpAny_mono (wpAny_extend_range (A:=A) (R:=fun r s'=>r=.ok (.ret (.ref s.heap.objs.size))∧∃ (h':Heap) (tk:Nat) (acc':Array Value) (c':Nat),s'={ s with heap:=h',toks:=tk }∧(∀ b o,s.heap.get? b=some o->h'.get? b=some o)∧h'.get? s.heap.objs.size=some { cls:=.type "list",dict:=none,data:=.seq acc' c',slots:=#[] }∧ItemsOf (fun i v=>∃ t,v=.int (a + i * c) t) acc' n)
  (s:={ s with heap:=s.heap.push { cls:=.type "list",data:=.seq ([]:List Value).toArray } }) hh (Heap.get?_push_of_some _ hr) hsmall hn hlen s.heap.objs.size (.ref s.heap.objs.size) 0 hS fun h' tk acc' c' hk hS' hacc=>⟨rfl,h',tk,acc',c',rfl,fun b o e=>hk b o (Nat.ne_of_lt (Heap.lt_size e)) (Heap.get?_push_of_some _ e),hS',hacc⟩) (fun fin s' h=>?_) (fun e s' h=>?_)
 ·cases fin with
  | done f =>
   obtain⟨e,h',tk,acc',c',rfl,h1,h2,h3⟩:=h
   cases e
   exact fin' h' tk acc' c' h1 h2 h3
  | again c'=>exact⟨h.1,codeAny_mono h.2 fun r s'' hr=>by obtain⟨rfl,h',tk,acc',c',rfl,h1,h2,h3⟩:=hr;exact fin' h' tk acc' c' h1 h2 h3⟩
 ·exact absurd h.1 (by simp)
end
theorem zc8 (r:Addr) (a b c:Int) (t u v:Tok) (n:Nat) (hsmall:Builtin.Range.small a b c=true) (hn:Builtin.Range.rangeSize a b c=n) (hlen:n≤1000) :
  Meets (Builtin.«tuple.__new__» ⟨[.type "tuple",.ref r],[]⟩)
   (fun A R s=>A.handled=none∧IsRange s.heap r a b c t u v∧∀ (h':Heap) (tk:Nat) (acc':Array Value),(∀ b o',s.heap.get? b=some o'->h'.get? b=some o')->ItemsOf (fun i v=>∃ t,v=.int (a + i * c) t) acc' n->R (.ok (.ret (.ref h'.objs.size))) { s with heap:=h'.push { cls:=.type "tuple",data:=.seq acc' },toks:=tk }) :=
 .of_wp fun prog w A R s h=>by
  obtain⟨hp,g,d,tk,os⟩:=s;obtain⟨hh,hr,h⟩:=h
  have hsub:=sub_tuple_self
  have hinit:=init_tuple_lookup
  have hmh:=madeHere_tuple
  have hT:Shared.TypeIs ⟨hp,g,d,tk,os⟩ (.ref r) "range":=⟨_,hr,rfl⟩
  wp_walk using wpAny_typeOf hT,ziv (A:=A.in1) hh hr hsmall hn (Nat.le_trans hlen (by decide))
  intro h' tk' acc' hk hacc
  show wpAny _ _ (Builtin.Tuple.tupleExact acc'.toList.toArray >>= fun v=>ret v) _ _ _
  unfold Builtin.Tuple.tupleExact
  have sz:acc'.size=n:=hacc.1
  refine wpAny_bind (wpAny_newObj_type ?_ (by show acc'.toList.toArray.size≤sizeLine;rw[show acc'.toList.toArray=acc' by simp,sz,sizeLine_eq];trivial))
  refine wpAny_pure ⟨_,rfl,?_⟩
  have e:acc'.toList.toArray=acc':=by simp
  rw[e]
  exact h h' tk' acc' hk hacc
section
variable {prog:Program} {w:World} {A:Around} {E:Value->Shared->Prop} {s:Shared}
theorem zeb {Q:Value->Shared->Prop} {r:Addr} {a b c:Int} {t u v:Tok} {n:Nat} (hh:A.handled=none) (hr:IsRange s.heap r a b c t u v) (hsmall:Builtin.Range.small a b c=true)
  (hn:Builtin.Range.rangeSize a b c=n) (hlen:n≤1000)
  (hQ:∀ (h':Heap) (tk:Nat) (acc':Array Value),(∀ b o,s.heap.get? b=some o->h'.get? b=some o)->ItemsOf (fun i v=>∃ t,v=.int (a + i * c) t) acc' n->Q (.ref h'.objs.size) { s with heap:=h'.push { cls:=.type "tuple",data:=.seq acc' },toks:=tk }) :
  wpAny (model prog w) A (call (.type "tuple") [.ref r]) Q E s :=
 callType_new PySem.F.called_tuple (by decide) (PySem.F.typeCall_tuple_1 _) (PySem.F.newCall_tuple_1 _) (fun obj=>PySem.F.args_object_init_2 obj _) PySem.F.entry_tuple_new
  (zc8 r a b c t u v n hsmall hn hlen) ⟨hh,hr,fun h' tk acc' hk hacc=>⟨⟨_,Heap.get?_push_size _ rfl,rfl⟩,hQ h' tk acc' hk hacc⟩⟩
end
end HT
namespace L3
open PySem PySem.Spec PyProof.Rows L2
section
variable {X:Cx}
inductive call_tuple_rng_i  (xs:List V) (H:Hp) (Q:VK):Prop
 | mk:∀ (p:Addr) (j:Int),(xs=[.ref p])->(H p=some (.rng 0 j))->(0≤j)->(j≤1000)->(∀ l H',Same H H'->H l=none->H' l=some (.tup (natV (List.range j.toNat)))->Q (.ref l) H')->call_tuple_rng_i xs H Q
theorem zfl (hh:X.calm=true):CallR X (.type "tuple") (call_tuple_rng_i):=by
 intro pins s σ H xs us Q I r h
 obtain⟨p,j,rfl,hp,hj0,hj,q⟩:=h
 obtain⟨u,rfl,rx⟩:=vals1 r
 cases rx
 obtain⟨t,u,v,e⟩:=(show ObjOk X.prog X.w H s.heap p (.rng 0 j) from I.hok p _ hp)
 refine HT.zeb (n:=j.toNat) (I.ok.hd hh) (show IsRange s.heap p 0 j 1 t u v from e) (small_one (by trivial) (by trivial) (by trivial) (by trivial)) (by rw[rangeSize_one];split <;> trivial) (by trivial) fun h' tk acc hk hacc=>?_
 have I1:Inv X pins σ H { s with heap:=h',toks:=tk }:=I.kept (t':=tk) hk
 have fr:H h'.objs.size=none:=I1.hok.fresh (Nat.le_refl _)
 refine⟨.ref h'.objs.size,upd H h'.objs.size (.tup (natV (List.range j.toNat))),I1.laid (t':=tk) (o:=.tup (natV (List.range j.toNat))) (fun b o e=>Heap.get?_push_of_some _ e) (Nat.le_refl _) ⟨?_,acc.toList,?_,(by rw[show acc.toList.toArray=acc by simp];exact⟨_,Heap.get?_push_size _ rfl,rfl,⟨_,rfl⟩,rfl⟩)⟩,rfl,q _ _ (zam fr) fr zae⟩
 ·unfold natV;rw[List.length_map,List.length_range,sizeLine_eq];trivial
 ·have go:∀ (n:Nat) (l:List Value),l.length=n->(∀ (k:Nat) (v:Value),l[k]?=some v->∃ t,v=Value.int (0 + (k:Int) * 1) t)->Vals ((List.range n).map fun i:Nat=>V.int (i:Int)) l:=by
   intro n l hl hv
   have gen:∀ (l:List Value) (o:Nat),(∀ (k:Nat) (v:Value),l[k]?=some v->∃ t,v=Value.int ((o + k:Nat):Int) t)->Vals ((List.range' o l.length).map fun i:Nat=>V.int (i:Int)) l:=by
    intro l
    induction l with
    | nil=>intro o _;exact .nil
    | cons x r ih =>
     intro o h
     rw[List.length_cons,List.range'_succ,List.map_cons]
     obtain⟨t,ht⟩:=h 0 x rfl
     refine .cons ⟨t,by simpa using ht⟩ (ih (o + 1) fun k v hk=>?_)
     obtain⟨t,ht⟩:=h (k + 1) v (by simpa using hk)
     exact⟨t,by rw[ht];congr 1;trivial⟩
   have:=gen l 0 fun k v hk=>by
    obtain⟨t,ht⟩:=hv k v hk
    exact⟨t,by rw[ht];congr 1;trivial⟩
   rw[hl,← List.range_eq_range'] at this
   exact this
  exact go j.toNat acc.toList (by rw[Array.length_toList];exact hacc.1) fun k v hv=>hacc.2 k v (by simpa using hv)
end
section
variable {g:TG} {tt:TT} {te:TE} {own:List Str} {js:List Nat} {σ:L2.St} {H1:Hp} {Q:VK}
theorem zhe {K:PySem.W.Frag} {a:Addr} {xs:List V} (hx:H1 a=some (.tup xs)) (Sg:L2.St->Prop) (sel:Nat->Option V) (hn:xs.length≤1000) (h0:Sg (start3 own js σ))
  (step:∀ i x σ' H',xs[i]?=some x->Same H1 H'->Sg σ'->∀ (C:L2.St->V->Hp->Prop) (L:L2.St->Hp->Prop),(∀ σ3 v H5,Sg σ3->Same H' H5->sel i=some v->C σ3 v H5)->(∀ σ3 H5,Sg σ3->Same H' H5->sel i=none->L σ3 H5) ->
   g x σ' H' fun σ3 H3=>tt σ3 H3 fun b H4=>if b=true then te σ3 H4 fun v H5=>C σ3 v H5 else L σ3 H4)
  (fin:∀ D H',H1 D=none->Same H1 H'->H' D=some (.lst ((List.range xs.length).filterMap sel))->Q (.ref D) H'):CompGo own js g tt te σ Q (Itt K a) H1:=by
 refine zjw xs.length Sg sel hn h0 (fun i H' hi s=>⟨xs,xs[i],SqT.of (s _ _ hx),by simp [hi]⟩) (fun H' s=>⟨xs,SqT.of (s _ _ hx),Nat.le_refl _⟩) (fun i x σ' H' H2 hi s hy sg C L hC hL=>?_) fin
 obtain⟨rfl,hy⟩:=hy
 exact step i x σ' _ (hy xs (SqT.of (s _ _ hx))) s sg C L hC hL
end
def outs (m:Nat) (ks:List Nat):List Nat:=(List.range m).filter fun k=>decide (k ∉ ks)
noncomputable def gO (ts:List Tie) (ks:List Nat) (k:Nat):Option Int :=
 @dite (Option Int) (∃ o,Far.Dst (arcs ts ks) (tieAt ts k).1.toNat (tieAt ts k).2.1.toNat o) (Classical.propDecidable _) (fun h=>Classical.choose h) fun _=>none
inductive spWhole_i (K:PySem.W.Frag) (vs:List V) (H:Hp) (Q:VK):Prop
 | mk:∀ n ts v,(vs=[v])->(Is K H (webD n ts) v)->(ts.length≤60)->(∀ l H',Same H H'->H l=none->H' l=some (.tup (natV (List.range ts.length)))->Q (.ref l) H')->spWhole_i K vs H Q
def spWhole (K:PySem.W.Frag):Sp:=fun vs H Q _=>spWhole_i K vs H Q
inductive spOuts_i (K:PySem.W.Frag) (vs:List V) (H:Hp) (Q:VK):Prop
 | mk:∀ n ts ks wv kv,(vs=[wv,kv])->(WK K H n ts ks wv kv)->(∀ l H',Same H H'->H l=none->H' l=some (.lst (natV (outs ts.length ks)))->Q (.ref l) H')->spOuts_i K vs H Q
def spOuts (K:PySem.W.Frag):Sp:=fun vs H Q _=>spOuts_i K vs H Q
theorem zbr {ns:List Nat} {i:Nat} {x:V} (h:(natV ns)[i]?=some x):∃ k,ns[i]?=some k∧x=.int (k:Int):=by
 rw[za8] at h;exact zoz h
end L3
namespace Far
variable {A:List (Nat × Nat × Int)} {s:Nat}
structure Ahd (A:List (Nat × Nat × Int)) (s:Nat) (cs:List (Option (Int × Int))) (as:List (Option Nat)):Prop where
 len:as.length=cs.length
 root:get as s=none
 has:∀ v c,get cs v=some c->v≠s->get as v≠none
 arc:∀ v u,get as v=some u->∃ l cu cv,(u,v,l) ∈ A∧get cs u=some cu∧get cs v=some cv∧cu.1 + l≤cv.1
inductive Tr (A:List (Nat × Nat × Int)) (a:Nat):List Nat->Nat->Int->Prop
 | one:Tr A a [a] a 0
 | snoc {ws:List Nat} {u v:Nat} {x l:Int}:Tr A a ws u x->(u,v,l) ∈ A->Tr A a (ws++[v]) v (x + l)
end Far
namespace L3
open PySem PySem.Spec PyProof.Rows L2
def oa:Option Nat->V
 | none=>.non
 | some u=>.int (u:Int)
structure RA (H J:Hp) (lw lc la:Addr) (ws:List V) (cs:List (Option (Int × Int))) (as:List (Option Nat)):Prop where
 same:Same H J
 fc:H lc=none
 fa:H la=none
 nwc:lw≠lc
 nwa:lw≠la
 nca:lc≠la
 wl:J lw=some (.lst ws)
 co:∃ cvs,J lc=some (.lst cvs)∧CostL J cvs cs
 ah:J la=some (.lst (as.map oa))
section
variable {H H' J J':Hp} {vs cvs ws:List V} {cs:List (Option (Int × Int))} {as:List (Option Nat)} {lw lc la t:Addr} {k:Nat} {x y:Int}
end
def WayV (H:Hp) (A:List (Nat × Nat × Int)) (a b:Nat) (v:V):Prop:=(v=.non∧Far.Dst A a b none)∨∃ t ws x,v=.ref t∧H t=some (.tup (natV ws))∧ws.length≤24∧Far.Tr A a ws b x∧Far.Dst A a b (some x)
def isTB (ts:List Tie) (u v:Nat) (k:Nat):Bool:=decide ((tieAt ts k).1=min (u:Int) v) && decide ((tieAt ts k).2.1=max (u:Int) v)
def tbN (ts:List Tie) (u v:Nat):Option Nat:=(List.range ts.length).find? (isTB ts u v)
theorem zpo {n:Int} {ts:List Tie} {ks:List Nat} (ok:WebOk n ts) (ko:KeepOk ts.length ks) {u v:Nat} {l:Int} (h:(u,v,l) ∈ arcs ts ks):∃ k,tbN ts u v=some k∧k < ts.length∧(tieAt ts k).2.2=l:=by
 obtain⟨k,hk,m⟩:=arcs_mem.mp h
 have hkl:=ko.2 k hk
 have tk:=ok.tie _ (za7 hkl).2
 have isk:isTB ts u v k=true∧(tieAt ts k).2.2=l:=by
  unfold isTB
  rcases arcs2_mem.mp m with e | e
  ·have e1:u=(tieAt ts k).1.toNat:=congrArg (·.1) e
   have e2:v=(tieAt ts k).2.1.toNat:=congrArg (·.2.1) e
   have e3:l=(tieAt ts k).2.2:=congrArg (·.2.2) e
   have eu:(u:Int)=(tieAt ts k).1:=by rw[e1];exact Int.toNat_of_nonneg tk.1
   have ev:(v:Int)=(tieAt ts k).2.1:=by rw[e2];exact Int.toNat_of_nonneg (Int.le_of_lt (Int.lt_of_le_of_lt tk.1 tk.2.1))
   rw[eu,ev,Int.min_eq_left (Int.le_of_lt tk.2.1),Int.max_eq_right (Int.le_of_lt tk.2.1)]
   exact⟨by rw[decide_eq_true rfl,decide_eq_true rfl];rfl,e3.symm⟩
  ·have e1:u=(tieAt ts k).2.1.toNat:=congrArg (·.1) e
   have e2:v=(tieAt ts k).1.toNat:=congrArg (·.2.1) e
   have e3:l=(tieAt ts k).2.2:=congrArg (·.2.2) e
   have eu:(u:Int)=(tieAt ts k).2.1:=by rw[e1];exact Int.toNat_of_nonneg (Int.le_of_lt (Int.lt_of_le_of_lt tk.1 tk.2.1))
   have ev:(v:Int)=(tieAt ts k).1:=by rw[e2];exact Int.toNat_of_nonneg tk.1
   rw[eu,ev,Int.min_eq_right (Int.le_of_lt tk.2.1),Int.max_eq_left (Int.le_of_lt tk.2.1)]
   exact⟨by rw[decide_eq_true rfl,decide_eq_true rfl];rfl,e3.symm⟩
 cases e:tbN ts u v with
 | none =>
  have:=List.find?_eq_none.mp e k (List.mem_range.mpr hkl)
  exact absurd isk.1 this
 | some k' =>
  have p:=List.find?_some e
  have hk':k' < ts.length:=List.mem_range.mp (List.mem_of_find?_eq_some e)
  refine⟨k',rfl,hk',?_⟩
  have same:k'=k:=by
   have q1:=p
   have q2:=isk.1
   unfold isTB at q1 q2
   rw[Bool.and_eq_true] at q1 q2
   have a1:=of_decide_eq_true q1.1
   have a2:=of_decide_eq_true q1.2
   have b1:=of_decide_eq_true q2.1
   have b2:=of_decide_eq_true q2.2
   have ri:=List.pairwise_iff_getElem.mp ok.rise
   have g:∀ j (hj:j < ts.length),ts[j]=tieAt ts j:=fun j hj=>by
    have:=(za7 hj).1
    rw[List.getElem?_eq_getElem hj] at this
    exact Option.some.inj this
   rcases Nat.lt_trichotomy k' k with z | z | z
   ·have:=ri k' k hk' hkl z
    rw[g k' hk',g k hkl] at this
    exact (this.elim (fun z=>Int.ne_of_lt z (a1.trans b1.symm)) fun z=>Int.ne_of_lt z.2 (a2.trans b2.symm)).elim
   ·exact z
   ·have:=ri k k' hkl hk' z
    rw[g k' hk',g k hkl] at this
    exact (this.elim (fun z=>Int.ne_of_lt z (b1.trans a1.symm)) fun z=>Int.ne_of_lt z.2 (b2.trans a2.symm)).elim
  rw[same];exact isk.2
def tlen (ts:List Tie) (u v:Nat):Int:=(tieAt ts ((tbN ts u v).getD 0)).2.2
def wl (ts:List Tie):List Nat->Int
 | u::v::r=>tlen ts u v + wl ts (v::r)
 | _=>0
def linked (ts:List Tie):List Nat->Prop
 | u::v::r=>(∃ k,tbN ts u v=some k∧k < ts.length)∧linked ts (v::r)
 | _=>True
theorem zoc {A:List (Nat × Nat × Int)} {a v:Nat} {ws:List Nat} {x:Int} (h:Far.Tr A a ws v x):∃ r,ws=r++[v]:=by
 cases h with
 | one=>exact⟨[],rfl⟩
 | snoc _ _=>exact⟨_,rfl⟩
theorem zks (ts:List Tie) (u v:Nat):∀ r:List Nat,wl ts (r++[u]++[v])=wl ts (r++[u]) + tlen ts u v
 | []=>by show tlen ts u v + 0=0 + tlen ts u v;trivial
 | [a]=>by show tlen ts a u + (tlen ts u v + 0)=tlen ts a u + 0 + tlen ts u v;trivial
 | a::b::r=>by
  have:=zks ts u v (b::r)
  show tlen ts a b + wl ts ((b::r)++[u]++[v])=tlen ts a b + wl ts ((b::r)++[u]) + tlen ts u v
  rw[this];trivial
theorem zew (ts:List Tie) (u v:Nat) (h:∃ k,tbN ts u v=some k∧k < ts.length):∀ r:List Nat,linked ts (r++[u])->linked ts (r++[u]++[v])
 | [],_=>⟨h,trivial⟩
 | [a],hl=>⟨hl.1,h,trivial⟩
 | a::b::r,hl=>⟨hl.1,zew ts u v h (b::r) hl.2⟩
theorem zqj {n:Int} {ts:List Tie} {ks:List Nat} (ok:WebOk n ts) (ko:KeepOk ts.length ks) {a v:Nat} {ws:List Nat} {x:Int} (h:Far.Tr (arcs ts ks) a ws v x):wl ts ws=x∧linked ts ws:=by
 induction h with
 | one=>exact⟨rfl,trivial⟩
 | @snoc ws u v x l t m ih =>
  obtain⟨r,rfl⟩:=zoc t
  obtain⟨k,e1,e2,e3⟩:=zpo ok ko m
  refine⟨?_,zew ts u v ⟨k,e1,e2⟩ r ih.2⟩
  rw[zks,ih.1]
  unfold tlen
  rw[e1]
  show x + (tieAt ts k).2.2=x + l
  rw[e3]
theorem zdk {ts:List Tie}:∀ {ws:List Nat} {i u v:Nat},linked ts ws->ws[i]?=some u->ws[i + 1]?=some v->∃ k,tbN ts u v=some k∧k < ts.length
 | a::b::r,0,u,v,h,e1,e2=>by cases e1;cases e2;exact h.1
 | a::b::r,i + 1,u,v,h,e1,e2=>zdk (ws:=b::r) (i:=i) h.2 (by simpa using e1) (by simpa using e2)
 | [a],0,u,v,_,_,e2=>by cases e2
 | [a],i + 1,u,v,_,e1,_=>by cases e1
 | [],i,u,v,_,e1,_=>by cases e1
def alongN (ts:List Tie) (ws:List Nat):List Nat:=(List.range (ws.length - 1)).map fun i=>(tbN ts (ws.getD i 0) (ws.getD (i + 1) 0)).getD 0
inductive spTB_i (K:PySem.W.Frag) (vs:List V) (H:Hp) (Q:VK):Prop
 | mk:∀ (n:Int) (ts:List Tie) (wv:V) (u v:Nat),(vs=[wv,.int (u:Int),.int (v:Int)])->(Is K H (webD n ts) wv)->(ts.length≤60)->(∀ H',Same H H'->Q (oa (tbN ts u v)) H')->spTB_i K vs H Q
def spTB (K:PySem.W.Frag):Sp:=fun vs H Q _=>spTB_i K vs H Q
inductive spAlong_i (K:PySem.W.Frag) (vs:List V) (H:Hp) (Q:VK):Prop
 | mk:∀ (n:Int) (ts:List Tie) (wv:V) (t:Addr) (ws:List Nat),(vs=[wv,.ref t])->(Is K H (webD n ts) wv)->(ts.length≤60)->(H t=some (.tup (natV ws)))->(ws.length≤24)->(linked ts ws)->(∀ l H',Same H H'->H' l=some (.lst (natV (alongN ts ws)))->Q (.ref l) H')->spAlong_i K vs H Q
def spAlong (K:PySem.W.Frag):Sp:=fun vs H Q _=>spAlong_i K vs H Q
theorem znu {ts:List Tie} {ws:List Nat} (h:linked ts ws):∀ k ∈ alongN ts ws,k < ts.length:=fun k hk=>by
 unfold alongN at hk
 obtain⟨i,hi,rfl⟩:=List.mem_map.mp hk
 have hi':=List.mem_range.mp hi
 have e1:ws[i]?=some (ws.getD i 0):=by rw[List.getD_eq_getElem?_getD,List.getElem?_eq_getElem (by trivial)];rfl
 have e2:ws[i + 1]?=some (ws.getD (i + 1) 0):=by rw[List.getD_eq_getElem?_getD,List.getElem?_eq_getElem (by trivial)];rfl
 obtain⟨k,e,hk⟩:=zdk h e1 e2
 rw[e];exact hk
theorem zm3 (a b x y:Int):PyData.eqv (.tuple (([a,b]:List Int).map .int)) (.tuple (([x,y]:List Int).map .int))=(decide (a=x) && decide (b=y)):=by
 show (_ && (_ && true))=_
 rw[Bool.and_true]
 rfl
def but (ks:List Nat) (k:Nat):List Nat:=ks.filter fun j=>decide (j≠k)
def withinB (t l:Int):Option Int->Bool
 | none=>false
 | some x=>decide (x≤t * l)
end L3
namespace Far
def sumP:List Nat->Nat
 | []=>0
 | k::r=>2 ^ k + sumP r
abbrev Arc:=Nat × Nat × Int × Nat
inductive Rt (B:List Arc) (a:Nat):List Nat->List Nat->Nat->Int->Int->Prop
 | one:Rt B a [a] [] a 0 0
 | snoc {ws S:List Nat} {u v:Nat} {x y l:Int} {k:Nat}:Rt B a ws S u x y->(u,v,l,k) ∈ B->v ∉ ws->Rt B a (ws++[v]) (S++[k]) v (x + l) (y + 2 ^ k)
structure Keys (B:List Arc):Prop where
 sym:∀ u v l k,(u,v,l,k) ∈ B->(v,u,l,k) ∈ B
 key:∀ u v l u' v' l' k,(u,v,l,k) ∈ B->(u',v',l',k) ∈ B->l'=l∧((u'=u∧v'=v)∨(u'=v∧v'=u))
 ne:∀ u v l k,(u,v,l,k) ∈ B->u≠v
 pos:∀ u v l k,(u,v,l,k) ∈ B->1≤l
 few:∀ u v l k,(u,v,l,k) ∈ B->k < 60
variable {B:List Arc} {a b:Nat} {ws S:List Nat} {x y:Int}
end Far
namespace Far
structure Best (B:List Arc) (n s:Nat) (cs:List (Option (Int × Int))) (as:List (Option Nat)):Prop where
 len:cs.length=n
 alen:as.length=n
 start:get cs s=some (0,0)
 root:get as s=none
 has:∀ v c,get cs v=some c->v≠s->get as v≠none
 nn:∀ v c,get cs v=some c->0≤c.1
 stab:∀ u v l k c,(u,v,l,k) ∈ B->get cs u=some c->∃ c',get cs v=some c'∧¬ lt2 (c.1 + l,c.2 + 2 ^ k) c'
 arc:∀ v u,get as v=some u->∃ l k cu,(u,v,l,k) ∈ B∧get cs u=some cu∧get cs v=some (cu.1 + l,cu.2 + 2 ^ k)
inductive TPw (as:List (Option Nat)) (s:Nat):List Nat->Nat->Prop
 | root:TPw as s [s] s
 | step {ws:List Nat} {u v:Nat}:get as v=some u->TPw as s ws u->TPw as s (ws++[v]) v
section
variable {B:List Arc} {n s:Nat} {cs:List (Option (Int × Int))} {as:List (Option Nat)}
end
def comb (c:Int × Int):Int:=c.1 * 2 ^ 61 + c.2
def arcsC (B:List Arc):List (Nat × Nat × Int):=B.map fun b=>(b.1,b.2.1,b.2.2.1 * 2 ^ 61 + 2 ^ b.2.2.2)
section
variable {B:List Arc} {n s:Nat} {cs:List (Option (Int × Int))} {as:List (Option Nat)}
end
end Far
namespace Far
variable {B:List Arc} {A:List (Nat × Nat × Int)} {n s:Nat}
structure Run (B:List Arc) (s:Nat) (cs:List (Option (Int × Int))) (as:List (Option Nat)):Prop where
 len:as.length=cs.length
 start:get cs s=some (0,0)
 root:get as s=none
 has:∀ v c,get cs v=some c->v≠s->get as v≠none
 arc:∀ v u,get as v=some u->∃ l k cu cv,(u,v,l,k) ∈ B∧get cs u=some cu∧get cs v=some cv∧¬ lt2 cv (cu.1 + l,cu.2 + 2 ^ k)
def PS2 (c0:List (Option (Int × Int))) (R:Arc->Prop) (cs:List (Option (Int × Int))) (ag:Bool):Prop :=
 (ag=false∧cs=c0∧∀ u v l k c,R (u,v,l,k)->get c0 u=some c->∃ c',get c0 v=some c'∧¬ lt2 (c.1 + l,c.2 + 2 ^ k) c')∨(ag=true∧mu cs < mu c0)
def plusA (R:Arc->Prop) (a:Arc):Arc->Prop:=fun b=>R b∨b=a
section
variable {c0 cs:List (Option (Int × Int))} {R R':Arc->Prop} {ag:Bool} {u v k:Nat} {l:Int}
end
end Far
namespace Far
def arcsF (B:List Arc):List (Nat × Nat × Int):=B.map fun b=>(b.1,b.2.1,b.2.2.1)
section
variable {B:List Arc} {n s:Nat} {cs:List (Option (Int × Int))} {as:List (Option Nat)} {a b:Nat} {ws S:List Nat} {x y:Int}
structure Uni (B:List Arc) (a b:Nat) (ws S:List Nat) (x y:Int):Prop where
 rt:Rt B a ws S b x y
 least:∀ ws' S' x' y',Rt B a ws' S' b x' y'->¬ lt2 (x',y') (x,y)
end
end Far
namespace L3
open PySem PySem.Spec PyProof.Rows L2
def arcs2B (t:Tie) (k:Nat):List Far.Arc:=[(t.1.toNat,t.2.1.toNat,t.2.2,k),(t.2.1.toNat,t.1.toNat,t.2.2,k)]
def arcsB (ts:List Tie) (ks:List Nat):List Far.Arc:=ks.flatMap fun k=>arcs2B (tieAt ts k) k
end L3
namespace HT
open PySem PyProof.Rows
section
variable {prog:Program} {w:World} {A:Around} {E:Value->Shared->Prop} {s:Shared}
abbrev setS (ns:List Int) (m:Nat):Int->Bool:=fun x=>(firstMet (fun i=>ns.getD i 0) m).any fun y=>y == x
abbrev setN (ns:List Int) (m:Nat):Nat:=(firstMet (fun i=>ns.getD i 0) m).length
theorem zi9 {h:Heap} {t:Addr} {xs:Array Value} (it:h.IsTuple t xs) (o:Obj):(h.push o).IsTuple t xs:=let ⟨ob,e,r⟩:=it;⟨ob,Heap.get?_push_of_some _ e,r⟩
abbrev seto (led:Bool):Obj:={ cls:=.type "set",dict:=none,data:=.set #[] 0 (.fresh 0 0 led) }
theorem zhj {t:Addr} {xs:Array Value} {ns:List Int} {Q:Value->Shared->Prop} (hh:A.handled=none) (ht:s.heap.IsTuple t xs) (hi:IntsAre xs.toList ns) (hb:xs.size + 1 < scanBound)
  (h:∀ (h':Heap) (tk:Nat),h'.SetOf (intKind prog w) s.heap.objs.size (setS ns xs.size) (setN ns xs.size)->(∀ b o,b < s.heap.objs.size->s.heap.get? b=some o->h'.get? b=some o)->Q (.ref s.heap.objs.size) { s with heap:=h',toks:=tk }) :
  wpAny (model prog w) A (call (.type "set") [.ref t]) Q E s:=by
 obtain⟨c,tl,hmro⟩:=PySem.F.called_set.mro
 have hmade:=PySem.F.called_set.made;have hsub:=PySem.F.called_set.sub
 refine wpAny_call (codeAny_of_tree ?_);show wpAny _ _ (callAny (.type "set") _) _ _ _
 refine wpAny_pure ⟨Code.quiet_builtin _ (by decide +kernel),codeAny_builtin PySem.F.entry_type_call ?_⟩
 rw[Around.under_plain (PySem.weight_type_call_type "set" [.ref t] []) rfl]
 have h1:=PySem.F.called_set.notType;have h2:=PySem.F.called_set.canCreate;have hct:=PySem.F.typeCall_set_1 (.ref t)
 repeat (any_goals (first | assumption | wp_step))
 refine codeAny_mono (PySem.code_set_new_1 (.ref t) (E:=E) (Q₁:=fun obj s₁=>∃ led:Bool,obj=.ref s.heap.objs.size∧s₁={ s with heap:=s.heap.push (seto led) }) fun led=>⟨led,rfl,rfl⟩) fun r s₁ hr=>?_
 match r,hr with
 | .error e,hr=>exact hr
 | .ok .next,hr=>exact hr.elim
 | .ok .brk,hr=>exact hr.elim
 | .ok .cont,hr=>exact hr.elim
 | .ok (.ret obj),hr =>
  obtain⟨led,rfl,rfl⟩:=hr
  have gS:(s.heap.push (seto led)).get? s.heap.objs.size=some (seto led):=Heap.get?_push_size _ rfl
  have hT:Shared.TypeIs { s with heap:=s.heap.push (seto led) } (.ref s.heap.objs.size) "set":=⟨_,gS,rfl⟩
  have hli:=PySem.F.called_set.init.lookup;have hbi:=PySem.F.called_set.init.bind (.ref s.heap.objs.size)
  repeat (any_goals (first | assumption | wp_step))
  refine codeAny_mono (codeAny_call_builtin (R:=wants (fun r s₂=>r=.none∧∃ h' tk,s₂={ s with heap:=h',toks:=tk }∧h'.SetOf (intKind prog w) s.heap.objs.size (setS ns xs.size) (setN ns xs.size)∧(∀ b o,b < s.heap.objs.size->s.heap.get? b=some o->h'.get? b=some o)) E) PySem.F.called_set.init.plain PySem.F.entry_set_init (PySem.check_set_init_1 hT ?_)) fun r₂ s₂ hr₂=>?_
  ·obtain⟨ot,ho,hc,m,hd⟩:=id ht
   obtain⟨ocls,odict,odata,oslots⟩:=ot
   simp only at hc hd;subst hc hd
   have ho':(s.heap.push (seto led)).get? t=some { cls:=.type "tuple",dict:=odict,data:=.seq xs m,slots:=oslots }:=Heap.get?_push_of_some _ ho
   have f1:=PySem.F.sub_tuple_set;have f2:=PySem.F.sub_tuple_frozenset
   have f3:(Value.type "tuple" == Value.type "dict")=false:=by decide
   have it1:(s.heap.push (seto led)).IsTuple t xs:=⟨_,ho',rfl,m,rfl⟩
   unfold Builtin.«set.__init__» noKeywords Builtin.Frozenset.updateFrom
   generalize hPI:pyIter=PI
   wp_walk;subst hPI
   refine wpAny_pyIter_tuple it1 (wpAny_bind (wpAny_runValue ?_))
   have lt:t < s.heap.objs.size:=Heap.lt_size ho
   have hh3:A.in1.in1.in1.handled=none:=by simp [hh]
   have sz1:(s.heap.push (seto led)).objs.size=s.heap.objs.size + 1:=Heap.size_push ..
   have tI:t≠(s.heap.push (seto led)).objs.size:=by rw[sz1];exact Nat.ne_of_lt (Nat.lt_succ_of_lt lt)
   have Sfp:s.heap.objs.size ∉ [(s.heap.push (seto led)).objs.size,t]:=by
    rw[sz1];simp only [List.mem_cons,List.not_mem_nil,or_false,not_or];exact⟨Nat.ne_of_lt (Nat.lt_succ_self _),(Nat.ne_of_lt lt).symm⟩
   have vals:∀ (i:Nat) (v:Value),xs[i]?=some v->∃ u,v=.int ((fun i=>ns.getD i 0) i) u:=fun i v hv=>IntsAre.int_at hi i v (by rw[Array.getElem?_toList];exact hv)
   refine codeAny_set_update_loopS ((Walks.tuple hh3 _ t tI xs).toS) s.heap.objs.size Sfp (fun i=>ns.getD i 0) vals hb (xs.size - 0) 0 _ (by trivial) (Nat.zero_le _) ?st ?s0 ?fin
   case st=>exact⟨⟨_,Heap.get?_push_size _ rfl,rfl,rfl⟩,zi9 it1 _⟩
   case s0=>exact SetOf_congr ((setObjOf_fresh (knd:=intKind prog w) led).setOf (Heap.get?_push_of_some _ gS) (by unfold scanBound;trivial)) (fun _=>rfl) rfl
   case fin =>
    rintro ⟨h',g',d',tk',os'⟩ hm hS'
    obtain rfl:g'=s.gens:=hm.gens
    obtain rfl:d'=s.drawn:=hm.drawn
    obtain rfl:os'=s.os:=hm.os
    refine wpAny_pure (wpAny_pure ⟨rfl,h',tk',rfl,hS',fun b o hlt e=>hm.heap b o ?_ (Heap.get?_push_of_some _ (Heap.get?_push_of_some _ e))⟩)
    rw[sz1];simp only [List.mem_cons,List.not_mem_nil,or_false,not_or]
    exact⟨Nat.ne_of_lt hlt,Nat.ne_of_lt (Nat.lt_succ_of_lt hlt)⟩
  ·match r₂,hr₂ with
   | .error e,hr₂=>exact hr₂
   | .ok .next,hr₂=>exact hr₂.elim
   | .ok .brk,hr₂=>exact hr₂.elim
   | .ok .cont,hr₂=>exact hr₂.elim
   | .ok (.ret v),hr₂ =>
    obtain⟨rfl,h',tk,rfl,hS',hk⟩:=hr₂
    repeat (any_goals (first | assumption | wp_step))
    exact h h' tk hS' hk
end
end HT
namespace L3
open PySem PySem.Spec PyProof.Rows L2
theorem zdm (val:Nat->Int):∀ i,(firstMet val i).length=i↔((List.range i).map val).Nodup
 | 0=>by rw[firstMet_zero];simp
 | i + 1=>by
  have ih:=zdm val i
  have le:=firstMet_length_le val i
  have an:=firstMet_any val i (val i)
  rw[firstMet_succ,List.range_succ,List.map_append,List.nodup_append]
  unfold step_dedup
  by_cases c:(firstMet val i).any (fun y=>y == val i)=true
  ·rw[if_pos c]
   constructor
   ·intro z;trivial
   ·rintro ⟨_,_,z⟩
    rw[an,List.any_eq_true] at c
    obtain⟨y,hy,e⟩:=c
    exact absurd (by simpa using e) (z y hy (val i) (by simp))
  ·rw[if_neg c,List.length_append,List.length_singleton]
   constructor
   ·intro z
    refine⟨ih.mp (by trivial),by simp,fun a ha b hb e=>c ?_⟩
    rw[an,List.any_eq_true]
    have:b=val i:=by simpa using hb
    exact⟨a,ha,by rw[e,this];simp⟩
   ·rintro ⟨z,_⟩
    rw[ih.mpr z]
theorem zb8 (ns:List Int):HT.setN ns ns.length=ns.length↔ns.Nodup:=by
 have:=zdm (fun i=>ns.getD i 0) ns.length
 rw[zbk] at this
 exact this
section
variable {X:Cx}
inductive call_setT_i  (xs:List V) (H:Hp) (Q:VK):Prop
 | mk:∀ (p:Addr) (ns:List Int),(xs=[.ref p])->(H p=some (.tup (ns.map V.int)))->(ns.length≤1000)->(∀ q H',Same H H'->H q=none->H' q=some (.set (HT.setS ns ns.length) (HT.setN ns ns.length))->Q (.ref q) H')->call_setT_i xs H Q
theorem zhk (hh:X.calm=true):CallR X (.type "set") (call_setT_i):=by
 intro pins s σ H xs us Q I r h
 obtain⟨p,ns,rfl,hp,hl,q⟩:=h
 obtain⟨u,rfl,rx⟩:=vals1 r
 cases rx
 obtain⟨its,rv,pt,hz⟩:=I.tuple (SqT.of hp)
 have hlen:=rv.length
 rw[List.length_map] at hlen
 have fr:H s.heap.objs.size=none:=I.hok.fresh (Nat.le_refl _)
 have esz:its.toArray.size=ns.length:=by rw[List.size_toArray,← hlen]
 refine HT.zhj (ns:=ns) (I.ok.hd hh) (show s.heap.IsTuple p its.toArray from pt) (by simpa using zbm rv) (by rw[esz];unfold scanBound;trivial) fun h' tk hS hk=>?_
 rw[esz] at hS
 exact⟨.ref s.heap.objs.size,_,I.laid (a:=s.heap.objs.size) (o:=.set (HT.setS ns ns.length) (HT.setN ns ns.length)) (t':=tk) (fun b o e=>hk b o (Heap.lt_size e) e) (Nat.le_refl _) hS,rfl,q _ _ (zam fr) fr zae⟩
inductive call_lenS_i  (xs:List V) (H:Hp) (Q:VK):Prop
 | mk:∀ (p:Addr) (S:Int->Bool) (n:Nat),(xs=[.ref p])->(H p=some (.set S n))->(Q (.int (n:Int)) H)->call_lenS_i xs H Q
theorem zhn:CallR X (.builtin "len") (call_lenS_i):=by
 intro pins s σ H xs us Q I r h
 obtain⟨p,S,n,rfl,hp,q⟩:=h
 obtain⟨u,rfl,rx⟩:=vals1 r
 cases rx
 obtain⟨o,es,ep,t,ho,hex,hd,_,_,hb,hf,hn⟩:=(show ObjOk X.prog X.w H s.heap p (.set S n) from I.hok p _ hp)
 refine call_len_set ho hex hd hf (by unfold scanBound at hb;trivial) ⟨.int (n:Int),H,I.tok _,⟨s.toks + 1,by rw[hn]⟩,q⟩
end
end L3
namespace L3
open PySem PySem.Spec PyProof.Rows L2
end L3
namespace L3
open PySem PySem.Spec PyProof.Rows L2
end L3
namespace L3
open PySem PySem.Spec PyProof.Rows L2
section
variable {own:List Str} {js:List Nat} {g:TG} {te:TE} {σ:L2.St} {Q:VK} {H1:Hp}
end
end L3
namespace L3
open PySem PySem.Spec PyProof.Rows L2
end L3
namespace L3
open PySem PySem.Spec PyProof.Rows L2
end L3
namespace HT
open PySem PyProof.Rows
section
variable {prog:Program} {w:World} {A:Around} {R:Result->Shared->Prop} {I:Addr} {fp wr:List Addr} {G:Array GenState->Array GenState->Prop} {St:Nat->Shared->Prop} {its:List Value} {ns:List Int}
end
section
variable {prog:Program} {w:World} {A:Around} {E:Value->Shared->Prop} {s:Shared}
end
end HT
namespace L3
open PySem PySem.Spec PyProof.Rows L2
end L3
namespace L3
open PySem PySem.Spec PyProof.Rows L2
theorem IsAll.at_ {K:PySem.W.Frag} {H:Hp}:∀ {ds:List PyData} {vs:List V} {i:Nat} {d:PyData},IsAll K H ds vs->ds[i]?=some d->∃ v,vs[i]?=some v∧Is K H d v
 | [],vs,i,d,_,h=>by cases h
 | d0::ds,vs,0,d,⟨v,r,e,h1,_⟩,h=>by
  cases h
  exact⟨v,by rw[e];rfl,h1⟩
 | d0::ds,vs,i + 1,d,⟨v,r,e,_,h2⟩,h=>by
  obtain⟨u,e1,e2⟩:=IsAll.at_ (i:=i) h2 h
  exact⟨u,by rw[e];exact e1,e2⟩
theorem IsAll.from_ {K:PySem.W.Frag} {H:Hp}:∀ {ds:List PyData} {vs:List V} {i:Nat} {v:V},IsAll K H ds vs->vs[i]?=some v->∃ d,ds[i]?=some d∧Is K H d v
 | [],vs,i,v,h,e=>by
  have:vs=[]:=h
  rw[this] at e;cases e
 | d0::ds,vs,0,v,⟨u,r,e0,h1,_⟩,e=>by
  rw[e0] at e;cases e
  exact⟨d0,rfl,h1⟩
 | d0::ds,vs,i + 1,v,⟨u,r,e0,_,h2⟩,e=>by
  rw[e0] at e
  exact IsAll.from_ (i:=i) h2 e
section
variable {own:List Str} {js:List Nat} {g:TG} {tt:TT} {te:TE} {σ:L2.St} {Q:VK} {H1:Hp}
end
end L3
namespace L3
open PySem PySem.Spec PyProof.Rows L2
def lvl (ls:List (List Nat)) (i:Nat):List Nat:=ls.getD i []
structure LevOk (n:Nat) (ls:List (List Nat)):Prop where
 one:1≤ls.length
 six:ls.length≤6
 first:lvl ls 0=List.range n
 rise:∀ i,(lvl ls i).Pairwise (· < ·)
 inn:∀ i,∀ p ∈ lvl ls i,p < n
 down:∀ i,∀ p ∈ lvl ls (i + 1),p ∈ lvl ls i
def IsTop (ls:List (List Nat)) (w b:Nat):Prop:=b < ls.length∧w ∈ lvl ls b∧∀ i,i < ls.length->w ∈ lvl ls i->i≤b
def Bun (ls:List (List Nat)) (D:List (Option Int)) (w:Nat):Prop:=∃ x,Far.get D w=some x∧∀ b p y,IsTop ls w b->p ∈ lvl ls (b + 1)->Far.get D p=some y->x < y
noncomputable def bunB (ls:List (List Nat)) (D:List (Option Int)) (w:Nat):Bool:=@decide (Bun ls D w) (Classical.propDecidable _)
def FarsOf (ts:List Tie) (n s:Nat) (D:List (Option Int)):Prop:=D.length=n∧∀ u,u < n->Far.Dst (arcs ts (List.range ts.length)) s u (Far.get D u)
def FarsT (H:Hp) (p lf:Addr) (n:Nat) (ts:List Tie):Prop:=∃ ys,H lf=some (.lst ys)∧lf≠p∧ys.length=n∧∀ i v,ys[i]?=some v->∃ l D,v=.ref l∧l≠p∧H l=some (.lst (D.map ov))∧FarsOf ts n i D
end L3
namespace HT
open PySem PyProof.Rows
section
variable {prog:Program} {w:World} {A:Around} {R:Result->Shared->Prop} {I:Addr} {fp wr:List Addr} {G:Array GenState->Array GenState->Prop} {St:Nat->Shared->Prop} {its:List Value} {ks:List (List Int)}
end
section
variable {prog:Program} {w:World} {A:Around} {E:Value->Shared->Prop} {s:Shared}
end
end HT
namespace L3
open PySem PySem.Spec PyProof.Rows L2
theorem zmm {xs:List V} {us:List Value} (r:Vals xs us):∀ {i:Nat} {u:Value},us[i]?=some u->∃ x,xs[i]?=some x∧RelV x u:=by
 induction r with
 | nil=>intro i u e;cases e
 | cons r _ ih =>
  intro i u e
  cases i with
  | zero=>cases e;exact⟨_,rfl,r⟩
  | succ i=>exact ih (i:=i) e
end L3
namespace L3
open PySem PySem.Spec PyProof.Rows L2
noncomputable def topN (ls:List (List Nat)) (w:Nat):Nat:=@dite _ (∃ b,IsTop ls w b) (Classical.propDecidable _) (fun h=>Classical.choose h) (fun _=>0)
structure IsPiv (ls:List (List Nat)) (m:Nat) (D:List (Option Int)) (o:Option Nat):Prop where
 no:o=none->∀ q ∈ lvl ls m,Far.get D q=none
 yes:∀ p,o=some p->p ∈ lvl ls m∧∃ x,Far.get D p=some x∧∀ q ∈ lvl ls m,∀ y,Far.get D q=some y->x≤y∧(y=x->topN ls q≤topN ls p∧(topN ls q=topN ls p->p≤q))
def tupI (k:List Int):PyData:=.tuple (k.map .int)
section
variable {own:List Str} {js:List Nat} {g:TG} {tt:TT} {te:TE} {σ:L2.St} {Q:VK} {H1:Hp}
end
end L3
namespace L3
open PySem PySem.Spec PyProof.Rows L2
noncomputable def pivN (ls:List (List Nat)) (m:Nat) (D:List (Option Int)):Nat:=@dite _ (∃ p,IsPiv ls m D (some p)) (Classical.propDecidable _) (fun h=>Classical.choose h) (fun _=>0)
noncomputable def clN (ls:List (List Nat)):Nat->Nat->Nat->Nat->List (Option Int)->List (Option Int)->Int->List (List Int)
 | 0,w,a,b,_,_,x=>[[(w:Int),(a:Int),(b:Int),x]]
 | f + 1,w,a,b,Da,Db,x=>[(w:Int),(a:Int),(b:Int),x]::(if bunB ls Db w=true then [] else clN ls f (pivN ls (topN ls w + 1) Db) b a Db Da ((Far.get Db (pivN ls (topN ls w + 1) Db)).getD 0))
structure Cs (ts:List Tie) (n:Nat) (ls:List (List Nat)) (d:Int) (j w a b:Nat) (Da Db:List (Option Int)) (x:Int):Prop where
 fa:FarsOf ts n a Da
 fb:FarsOf ts n b Db
 wn:w < n
 an:a < n
 bn:b < n
 xa:Far.get Da w=some x
 lim:x≤j * d
 ab:Far.get Da b=some d
 ba:Far.get Db a=some d
 yb:∃ y,Far.get Db w=some y
 tp:j≤topN ls w
 bu:bunB ls Da w=true
section
variable {n:Int} {ts:List Tie} {ls:List (List Nat)} {d x:Int} {j w a b:Nat} {Da Db:List (Option Int)}
end
structure RowsOk (ls:List (List Nat)) (n:Nat) (d:Int) (Du Dv:List (Option Int)) (rows:List (List Int)):Prop where
 few:rows.length≤ls.length
 lim:∀ (i:Nat) (r:List Int),rows[i]?=some r->∃ p a b x:Int,r=[p,a,b,x]∧x≤i * d
 last:∃ (pre:List (List Int)) (w:Nat) (a b x:Int),rows=pre++[[(w:Int),a,b,x]]∧w < n∧bunB ls Du w=true∧bunB ls Dv w=true
def ClimbV (K:PySem.W.Frag) (H:Hp) (ls:List (List Nat)) (n u v:Nat) (Du Dv:List (Option Int)) (r:V):Prop:=(r=.non∧Far.get Du v=none)∨∃ t ys d,r=.ref t∧Far.get Du v=some d∧H t=some (.tup ys)∧IsAll K H ((clN ls ls.length u u v Du Dv 0).map tupI) ys∧RowsOk ls n d Du Dv (clN ls ls.length u u v Du Dv 0)
def FarsM (H:Hp) (lf:Addr) (n:Nat) (ts:List Tie):Prop:=∃ ys,H lf=some (.lst ys)∧ys.length=n∧∀ i v,ys[i]?=some v->∃ l D,v=.ref l∧H l=some (.lst (D.map ov))∧FarsOf ts n i D
structure Clb (ts:List Tie) (n:Int) (ls:List (List Nat)) (d:Int) (u v:Nat) (Du Dv:List (Option Int)) (pre:List (List Int)) (w a b:Nat) (Da Db:List (Option Int)) (x:Int):Prop where
 cs:Cs ts n.toNat ls d pre.length w a b Da Db x
 sides:(Da=Du∧Db=Dv)∨(Da=Dv∧Db=Du)
 lim:∀ (i:Nat) (r:List Int),(pre++[[(w:Int),(a:Int),(b:Int),x]])[i]?=some r->∃ p a b x:Int,r=[p,a,b,x]∧x≤i * d
 rest:pre++clN ls (ls.length - pre.length) w a b Da Db x=clN ls ls.length u u v Du Dv 0
section
variable {n:Int} {ts:List Tie} {ls:List (List Nat)} {d x:Int} {u v w a b:Nat} {Du Dv Da Db:List (Option Int)} {pre:List (List Int)}
end
end L3
namespace L3
open PySem PySem.Spec PyProof.Rows L2
section
variable {K:PySem.W.Frag} {J J':Hp} {ls:List (List Nat)} {n u v:Nat} {Du Dv:List (Option Int)} {r r1 r2:V}
end
end L3
namespace PySem.SeqAt
open PySem.Spec PySem.MeetsSeq PySem.MeetsSeq2 PySem.MeetsSeq3 PySem.SeqRoads2
open AutoSeq1 (wpAny_loadPart')
end PySem.SeqAt
namespace L3
open PySem PySem.Spec PyProof.Rows L2
section
variable {X:Cx} {o e:Expr} {es:List Expr} {to:TE} {t:TA} {name:Str} {apos cpos:Pos} {id:String} {r:V->List V->Hp->VK->Prop}
end
theorem zfr {α:Type} (f:Nat->Option α):∀ (m:Nat) (L:List α),L.length=m->(∀ k,k < m->f k=L[k]?)->(List.range m).filterMap f=L
 | 0,L,hl,_=>by rw[List.eq_nil_of_length_eq_zero hl];rfl
 | m + 1,L,hl,h=>by
  have hm:m < L.length:=by trivial
  have e:L=L.take m++[L[m]]:=by rw[List.take_append_getElem hm,List.take_of_length_le (by trivial)]
  rw[List.range_succ,List.filterMap_append,zfr f m (L.take m) (by rw[List.length_take];trivial) (fun k hk=>by rw[h k (by trivial),List.getElem?_take,if_pos hk])]
  rw[show [m].filterMap f=[L[m]] by rw[List.filterMap_cons,h m (by trivial),List.getElem?_eq_getElem hm];rfl]
  exact e.symm
theorem zdg (its:List Value) (j:Nat):((List.range (its.length - j)).filterMap fun (m:Nat)=>its.toArray[(((its.length:Nat):Int) - 1 + (m:Int) * (-1)).toNat]?)=(its.drop j).reverse:=by
 refine zfr _ _ _ (by rw[List.length_reverse,List.length_drop]) fun k hk=>?_
 rw[List.getElem?_reverse (by rw[List.length_drop];exact hk),List.getElem?_drop,List.length_drop]
 rw[List.getElem?_toArray]
 congr 1
 trivial
def bk (hi:Option Int) (n j:Nat):Prop:=(hi=none∧j=0)∨(hi=some 0∧j=1∧1≤n)
theorem zi6 {hi:Option Int} {n j:Nat} (h:bk hi n j):Builtin.Slice.sliceAdjust none hi (-1) (n:Int)=((n:Int) - 1,(j:Int) - 1):=by
 unfold Builtin.Slice.sliceAdjust
 simp only [show ((-1:Int) < 0) by trivial,if_true]
 rcases h with ⟨rfl,rfl⟩ | ⟨rfl,rfl,h1⟩
 ·rfl
 ·refine Prod.ext rfl ?_
  show (if (0:Int) < 0 then max (0 + (n:Int)) (-1) else min 0 ((n:Int) - 1))=((1:Nat):Int) - 1
  rw[if_neg (by trivial)]
  trivial
theorem zh9 {n j:Nat} (h:j≤n):Builtin.Slice.slicePlaces ((n:Int) - 1) ((j:Int) - 1) (-1)=n - j:=by
 unfold Builtin.Slice.slicePlaces
 rw[if_neg (by trivial)]
 split
 ·rw[show -(-1:Int)=1 by rfl,Int.ediv_one];trivial
 ·trivial
theorem zqg {hi:Option Int} {n j:Nat} (h:bk hi n j):j≤n:=by
 rcases h with ⟨_,rfl⟩ | ⟨_,rfl,h1⟩
 ·exact Nat.zero_le _
 ·exact h1
section
variable {prog:Program} {w:World} {A:Around} {E:Value->Shared->Prop} {s:Shared}
theorem zdr {sl:Addr} {vl vu vs:Value} {hi:Option Int} {n j:Nat} {Q:Int × Int × Nat->Shared->Prop} (hs:s.heap.IsSliceOf sl vl vu vs) (pl:IsPart vl none) (pu:IsPart vu hi) (ps:IsPart vs (some (-1))) (hb:bk hi n j)
  (h:Q ((n:Int) - 1,-1,n - j) s):wpAny (model prog w) A (Builtin.Slice.sliceApplied (.ref sl) (pure (n:Int))) Q E s:=by
 obtain⟨os,hos,hcs,hds⟩:=id hs
 unfold Builtin.Slice.sliceApplied Builtin.Slice.sliceFields
 refine wpAny_bind (wpAny_bind (wpAny_field hos hds (x:=vl) rfl (wpAny_bind (wpAny_field hos hds (x:=vu) rfl (wpAny_bind (wpAny_field hos hds (x:=vs) rfl (wpAny_pure ?_)))))))
 refine wpAny_bind (HT.zb7 ps ?_)
 show wpAny _ _ (if ((-1:Int) == 0)=true then _ else _) _ _ s
 rw[if_neg (by decide)]
 refine wpAny_bind (HT.zb7 pl (wpAny_bind (HT.zb7 pu (wpAny_bind (wpAny_pure ?_)))))
 show wpAny _ _ (match Builtin.Slice.sliceAdjust none hi (-1) (n:Int) with | (lo,hi)=>pure (lo,(-1:Int),Builtin.Slice.slicePlaces lo hi (-1))) _ _ s
 rw[zi6 hb]
 show wpAny _ _ (pure ((n:Int) - 1,(-1:Int),Builtin.Slice.slicePlaces ((n:Int) - 1) ((j:Int) - 1) (-1))) _ _ s
 rw[zh9 (zqg hb)]
 exact wpAny_pure h
theorem zb4 {t sl:Addr} {its:List Value} {vl vu vs:Value} {hi:Option Int} {j:Nat} {Q:Value->Shared->Prop} (ht:IsTup s.heap t its.toArray) (hs:s.heap.IsSliceOf sl vl vu vs) (pl:IsPart vl none) (pu:IsPart vu hi) (ps:IsPart vs (some (-1))) (hb:bk hi its.length j)
  (h:Q (.ref s.heap.objs.size) { s with heap:=s.heap.push { cls:=.type "tuple",data:=.seq (its.drop j).reverse.toArray } })
  (hsz:its.length≤sizeLine):wpAny (model prog w) A (getItem (.ref t) (.ref sl)) Q E s:=by
 have htake:sizeOk (.seq (its.drop j).reverse.toArray):=by
  show (its.drop j).reverse.toArray.size≤sizeLine
  rw[List.size_toArray,List.length_reverse,List.length_drop]
  trivial
 obtain⟨os,hos,hcs,hds⟩:=id hs
 have hTs:s.TypeIs (.ref sl) "slice":=⟨os,hos,hcs⟩
 unfold getItem
 try with_reducible refine wpAny_holding ?_
 first | refine wpAny_bind (wpAny_pure ?_) | skip
 refine wpAny_bind (wpAny_sequenceKey ht.typeIs (by decide) ?_)
 refine wpAny_bind (wpAny_callSpecial?_slot (name:=Str.ofString "__getitem__") ht.typeIs PyProof.Rows.slot_tuple_getitem
  (wpAny_call_entry PyProof.Rows.slot_tuple_getitem ht.typeIs entry_tuple_getitem ?_ (args_tuple_getitem _ _)))
 show wpAny _ _ (Builtin.Tuple.tupleItemsOf (.ref t) >>= _) _ _ s
 refine wpAny_bind (tupleItemsOf_ ht ?_)
 refine wpAny_bind (wpAny_typeOf hTs ?_)
 rw[if_pos (by decide)]
 refine wpAny_bind (zdr (n:=its.toArray.size) (j:=j) hs pl pu ps (by rw[List.size_toArray];exact hb) ?_)
 rw[List.size_toArray]
 show wpAny _ _ (if ((((its.length:Nat):Int) - 1 == 0) && ((-1:Int) == 1) && ((its.length - j) == its.length))=true then _ else _) _ _ s
 rw[if_neg (by rw[show ((-1:Int) == 1)=false by decide,Bool.and_false,Bool.false_and];decide),zdg]
 first
  | exact wpAny_bind (m:=Builtin.Tuple.tupleExact _) (wpAny_newObj_type (wpAny_pure ⟨_,rfl,wpAny_pure h⟩) htake)
  | exact wpAny_bind (m:=Builtin.Tuple.tupleExact _) (wpAny_newObj_type (wpAny_bind (wpAny_pure (wpAny_pure ⟨_,rfl,wpAny_pure h⟩))) htake)
  | exact wpAny_bind (wpAny_bind (m:=Builtin.Tuple.tupleExact _) (wpAny_newObj_type (wpAny_pure (wpAny_pure ⟨_,rfl,wpAny_pure h⟩)) htake))
  | exact wpAny_bind (wpAny_bind (m:=Builtin.Tuple.tupleExact _) (wpAny_newObj_type (wpAny_pure ⟨_,rfl,wpAny_pure h⟩) htake))
end
def SlB (X:Cx) (r:V->Option Int->Hp->VK->Prop):Prop :=
 ∀ (pins:List (Addr × Obj)) (s:Shared) (σ:L2.St) (H:Hp) (x:V) (v vl vu vs:Value) (hi:Option Int) (sl:Addr) (Q:VK),Inv X pins σ H s->RelV x v->s.heap.IsSliceOf sl vl vu vs->IsPart vl none->IsPart vu hi->IsPart vs (some (-1))->r x hi H Q ->
  ∃ T id,typeLookup (.type T) "__getitem__"=pure (some (.builtin id))∧s.TypeIs v T∧wpAny (model X.prog X.w) X.A (getItem v (.ref sl)) (EP X pins σ Q) X.xe s
def tSlB (r:V->Option Int->Hp->VK->Prop) (te:TE) (th:TO) (ts:TE):TE:=fun σ H Q=>te σ H fun x H1=>th σ H1 fun u H3=>ts σ H3 fun z H4=>z=.int (-1)∧r x u H4 Q
section
variable {X:Cx} {e st:Expr} {te ts:TE} {lo hi:Option Expr} {th:TO} {pos p2:Pos}
theorem zg0 {r:V->Option Int->Hp->VK->Prop} (hr:SlB X r) (he:PE X e te) (hu:PO X hi th) (hs:PE X st ts):PE X (.Subscript e (.Slice none hi (some st) p2) pos) (tSlB r te th ts):=by
 intro pins s σ H Q I h
 refine Subscript_ (thn (he pins s σ H _ I h) fun v s1 ⟨x,H1,I1,r1,q1⟩=>?_)
 refine wpAny_Slice ?_
 rw[evalPart_none]
 refine wpAny_pure (thn (hu pins s1 σ H1 _ I1 q1) fun vu s3 ⟨u,H3,I3,pu,q3⟩=>?_)
 rw[evalPart_some]
 refine thn (hs pins s3 σ H3 _ I3 q3) fun vz s4 ⟨z,H4,I4',rz,ez,q4⟩=>?_
 subst ez
 obtain⟨t,rfl⟩:=rz
 have I4:Inv X pins σ H4 { s4 with heap:=s4.heap.push { cls:=.type "slice",data:=.fields #[.none,vu,.int (-1) t] } }:=I4'.kept (t':=s4.toks) fun b ob q=>Heap.get?_push_of_some _ q
 obtain⟨T,id,hT,ht,hg⟩:=hr pins { s4 with heap:=s4.heap.push { cls:=.type "slice",data:=.fields #[.none,vu,.int (-1) t] } } σ H4 x v .none vu (.int (-1) t) u s4.heap.objs.size Q I4 r1 (Heap.IsSliceOf.new ..) .none pu (.int _ _) q4
 show wpAny (model X.prog X.w) X.A (subscriptTail e (.Slice none hi (some st) p2) v (.ref s4.heap.objs.size)) (EP X pins σ Q) X.xe { s4 with heap:=s4.heap.push { cls:=.type "slice",data:=.fields #[.none,vu,.int (-1) t] } }
 exact tail_any (ops:=[v,.ref s4.heap.objs.size]) ht hT hg (by with_unfolding_all rfl)
inductive rBkT_i (K:PySem.W.Frag) (x:V) (hi:Option Int) (H:Hp) (Q:VK):Prop
 | mk:∀ a xs j,(x=.ref a)->(H a=some (.tup xs))->(bk hi xs.length j)->(∀ p H',Same H H'->H p=none->H' p=some (.tup (xs.drop j).reverse)->Q (.ref p) H')->rBkT_i K x hi H Q
def rBkT (K:PySem.W.Frag):V->Option Int->Hp->VK->Prop:=fun x hi H Q=>rBkT_i K x hi H Q
theorem zpr:SlB X (rBkT X.K):=by
 intro pins s σ H x v vl vu vs hi sl Q I rx hs pl pu ps h
 obtain⟨a,xs,j,rfl,hx,hb,q⟩:=h
 cases rx
 obtain⟨its,r,ht,hz⟩:=I.tuple (SqT.of hx)
 have hlen:its.length=xs.length:=r.length.symm
 refine⟨"tuple",_,PyProof.Rows.slot_tuple_getitem.lookup,ht.typeIs,?_⟩
 refine zb4 ht hs pl pu ps (j:=j) (by rw[hlen];exact hb) ?_ (by rw[hlen];exact hz)
 refine⟨.ref s.heap.objs.size,_,I.laid (t':=s.toks) (o:=.tup (xs.drop j).reverse) (fun b ob q=>Heap.get?_push_of_some _ q) (Nat.le_refl _) ?_,rfl,q _ _ (zam (I.hok.fresh (Nat.le_refl _))) (I.hok.fresh (Nat.le_refl _)) zae⟩
 exact⟨by rw[List.length_reverse,List.length_drop];trivial,_,(r.drop j).reverse,TupN.new _ _⟩
inductive rBkL_i (K:PySem.W.Frag) (x:V) (hi:Option Int) (H:Hp) (Q:VK):Prop
 | mk:∀ a xs j,(x=.ref a)->(H a=some (.lst xs))->(bk hi xs.length j)->(∀ p H',Same H H'->H p=none->H' p=some (.lst (xs.drop j).reverse)->Q (.ref p) H')->rBkL_i K x hi H Q
def rBkL (K:PySem.W.Frag):V->Option Int->Hp->VK->Prop:=fun x hi H Q=>rBkL_i K x hi H Q
theorem zix {hi:Option Int} {n j:Nat} (h:bk hi n j):sliceBounds none hi (some (-1)) n=((n:Int) - 1,(j:Int) - 1,-1):=by
 rcases h with ⟨rfl,rfl⟩ | ⟨rfl,rfl,h1⟩
 ·simp [sliceBounds]
 ·simp [sliceBounds]
  trivial
theorem ze7 (its:List Value) {hi:Option Int} {j:Nat} (h:bk hi its.length j):slicePick its.toArray none hi (some (-1))=(its.drop j).reverse.toArray:=by
 have hj:=zqg h
 unfold slicePick
 rw[List.size_toArray,zix h]
 show ((sliceRange ((its.length:Int) - 1) ((j:Int) - 1) (-1)).filterMap (its.toArray[·]?)).toArray=_
 have e:sliceRange ((its.length:Int) - 1) ((j:Int) - 1) (-1)=(List.range (its.length - j)).map fun (k:Nat)=>((its.length:Int) - 1 + (-1) * (k:Int)).toNat:=by
  unfold sliceRange
  have c:(if (-1:Int) > 0 then (if (its.length:Int) - 1 < (j:Int) - 1 then ((j:Int) - 1 - ((its.length:Int) - 1) + (-1) - 1) / (-1) else 0) else (if (its.length:Int) - 1 > (j:Int) - 1 then ((its.length:Int) - 1 - ((j:Int) - 1) - (-1) - 1) / (-(-1)) else 0)).toNat=its.length - j:=by
   rw[if_neg (by trivial)]
   split
   ·rw[show -(-1:Int)=1 by rfl,Int.ediv_one];trivial
   ·trivial
  dsimp only
  rw[c]
 rw[e,List.filterMap_map]
 have:=zdg its j
 rw[← this]
 congr 1
 congr 1
 funext k
 show its.toArray[((its.length:Int) - 1 + (-1) * (k:Int)).toNat]?=_
 rw[Int.mul_comm]
theorem zoh:SlB X (rBkL X.K):=by
 intro pins s σ H x v vl vu vs hi sl Q I rx hs pl pu ps h
 obtain⟨a,xs,j,rfl,hx,hb,q⟩:=h
 cases rx
 obtain⟨its,r,ht,hz⟩:=I.list (SqL.of hx)
 have hlen:its.length=xs.length:=r.length.symm
 refine⟨"list",_,slot_list_getitem.lookup,ht.isList.typeIs,?_⟩
 refine wpAny_getItem_list_slice ht.isList hs pl pu ps (by simp) ?_ (by rw[List.size_toArray] <;> trivial)
 rw[ze7 its (by rw[hlen];exact hb)]
 refine⟨.ref s.heap.objs.size,_,I.laid (t':=s.toks) (o:=.lst (xs.drop j).reverse) (fun b ob q=>Heap.get?_push_of_some _ q) (Nat.le_refl _) ?_,rfl,q _ _ (zam (I.hok.fresh (Nat.le_refl _))) (I.hok.fresh (Nat.le_refl _)) zae⟩
 exact⟨by rw[List.length_reverse,List.length_drop];trivial,_,0,(r.drop j).reverse,Heap.get?_push_size _ rfl⟩
end
end L3
namespace Far
section
variable {B:List Arc} {n s a b:Nat} {ws S:List Nat} {x y:Int} {cs:List (Option (Int × Int))} {as:List (Option Nat)}
def MinW (B:List Arc) (a b:Nat) (ws:List Nat):Prop:=∃ S x y,Rt B a ws S b x y∧∀ L,Walk (arcsC B) a b L->comb (x,y)≤L
end
end Far
namespace L3
open PySem PySem.Spec PyProof.Rows L2
def WayM (H:Hp) (ts:List Tie) (ks:List Nat) (a b:Nat) (v:V):Prop:=(v=.non∧Far.Dst (arcs ts ks) a b none)∨∃ t ws x,v=.ref t∧H t=some (.tup (natV ws))∧ws.length≤24∧Far.MinW (arcsB ts ks) a b ws∧Far.Tr (arcs ts ks) a ws b x∧Far.Dst (arcs ts ks) a b (some x)
inductive op_inL_i (K:PySem.W.Frag) (uu:Nat) (x:V) (y:V) (H:Hp) (Q:VK):Prop
 | mk:∀ (p:Addr) (ds:List PyData) (vs:List V) (dx:PyData),(y=.ref p)->(H p=some (.lst vs))->(IsAll K H ds vs)->(Is K H dx x)->((∀ d ∈ ds,d.canLay0=true))->(dx.canLay0=true)->(uu + 1 + dx.depth < cLine)->(Q (.bl (ds.any fun d=>PyData.eqv d dx)) H)->op_inL_i K uu x y H Q
theorem zp0 {X:Cx}:OpR X (compareOp .In) (op_inL_i X.K X.A.units):=by
 intro pins s σ H x y v u Q I rx ry h
 obtain⟨p,ds,vs,dx,rfl,hp,hA,hx,lay,layx,hu,q⟩:=h
 cases ry
 obtain⟨its,r,pl,hz⟩:=I.list (SqL.of hp)
 obtain⟨xs,rdx⟩:=zcc I dx hx rx
 have room:∀ d:PyData,X.A.in1.units + min d.depth dx.depth < cLine:=fun d=>by
  have:X.A.in1.units=X.A.units + 1:=rfl
  have:=Nat.min_le_right d.depth dx.depth
  trivial
 have rd:∀ {i:Nat} {w:Value},its[i]?=some w->∃ d as,ds[i]?=some d∧Reads s.heap w d as∧d.canLay0=true:=fun {i w} e=>by
  obtain⟨x',hi,rel⟩:=zmm r e
  obtain⟨d,hd,hI⟩:=IsAll.from_ hA hi
  obtain⟨as,ra⟩:=zcc I d hI rel
  exact⟨d,as,hd,ra,lay d (List.mem_of_getElem? hd)⟩
 let e:Value->Bool:=fun w=>@decide (∃ (i:Nat) (d:PyData),its[i]?=some w∧ds[i]?=some d∧PyData.eqv d dx=true) (Classical.propDecidable _)
 refine SeqAt.in_listAt e pl.isList (fun w hw=>?_) ⟨.bl _,H,I,rfl,?_⟩
 ·have hw':w ∈ its:=by simpa using hw
  by_cases c:∃ (i:Nat) (d:PyData),its[i]?=some w∧ds[i]?=some d∧PyData.eqv d dx=true
  ·have ec:e w=true:=@decide_eq_true _ (Classical.propDecidable _) c
   obtain⟨i,d,ei,ed,eq⟩:=c
   obtain⟨d',as,ed',ra,ld⟩:=rd ei
   rw[ed] at ed';cases ed'
   rw[ec,← eq]
   exact SeqAt.eqAt_reads d dx _ s _ _ _ _ ra rdx ld layx (room d)
  ·have ec:e w=false:=@decide_eq_false _ (Classical.propDecidable _) c
   obtain⟨i,ei⟩:=List.getElem?_of_mem hw'
   obtain⟨d,as,ed,ra,ld⟩:=rd ei
   have eq:PyData.eqv d dx=false:=Bool.eq_false_iff.mpr fun z=>c ⟨i,d,ei,ed,z⟩
   rw[ec,← eq]
   exact SeqAt.eqAt_reads d dx _ s _ _ _ _ ra rdx ld layx (room d)
 ·have any:its.toArray.any e=ds.any fun d=>PyData.eqv d dx:=by
   rw[Bool.eq_iff_iff]
   simp only [List.any_toArray]
   rw[List.any_eq_true,List.any_eq_true]
   constructor
   ·rintro ⟨w,hw,ew⟩
    obtain⟨i,d,_,ed,eq⟩:=(@decide_eq_true_iff _ (Classical.propDecidable _)).mp ew
    exact⟨d,List.mem_of_getElem? ed,eq⟩
   ·rintro ⟨d,hd,eq⟩
    obtain⟨i,hi⟩:=List.getElem?_of_mem hd
    obtain⟨v',hv',hI⟩:=IsAll.at_ hA hi
    have hil:i < its.length:=by
     have:=(List.getElem?_eq_some_iff.mp hv').1
     have:=r.length
     trivial
    exact⟨its[i],List.getElem_mem hil,@decide_eq_true _ (Classical.propDecidable _) ⟨i,d,List.getElem?_eq_getElem hil,hi,eq⟩⟩
  rw[any];exact q
end L3
namespace L3
open PySem PySem.Spec PyProof.Rows L2
def WaysL (J:Hp) (ts:List Tie) (ks:List Nat) (ys:List V):Prop:=∀ v ∈ ys,∃ t W a b,v=.ref t∧J t=some (.tup (natV W))∧W.length≤24∧Far.MinW (arcsB ts ks) a b W
end L3
namespace Far
inductive W2 (B:List Arc) (s:Nat):Nat->Int->Int->Prop
 | nil:W2 B s s 0 0
 | snoc {u v:Nat} {x y l:Int} {k:Nat}:W2 B s u x y->(u,v,l,k) ∈ B->W2 B s v (x + l) (y + 2 ^ k)
end Far
namespace L3
open PySem PySem.Spec PyProof.Rows L2
def WKL (K:PySem.W.Frag) (H:Hp) (n:Int) (ts:List Tie) (ks:List Nat) (wv:V) (kp:Addr):Prop:=Is K H (webD n ts) wv∧WebOk n ts∧H kp=some (.lst ((keepI ks).map V.int))∧KeepOk ts.length ks
end L3
namespace Far
def chn (R:Nat->Nat->Prop):List Nat->Prop
 | []=>True
 | [_]=>True
 | a::b::r=>R a b∧chn R (b::r)
section
variable {R:Nat->Nat->Prop}
theorem zcw:∀ {l m:List Nat} {x y:Nat},chn R (l++[x])->R x y->chn R (y::m)->chn R (l++[x]++y::m)
 | [],m,x,y,_,r,h=>⟨r,h⟩
 | [a],m,x,y,h1,r,h=>⟨h1.1,zcw (l:=[]) (x:=x) (y:=y) h1.2 r h⟩
 | a::b::l,m,x,y,h1,r,h=>⟨h1.1,zcw (l:=b::l) (x:=x) (y:=y) h1.2 r h⟩
theorem zcq:∀ {l m:List Nat} {x:Nat},chn R (l++x::m)->chn R (l++[x])∧chn R (x::m)
 | [],m,x,h=>⟨trivial,h⟩
 | [a],m,x,h=>⟨⟨h.1,trivial⟩,h.2⟩
 | a::b::l,m,x,h=>⟨⟨h.1,(zcq (l:=b::l) (x:=x) h.2).1⟩,(zcq (l:=b::l) (x:=x) h.2).2⟩
theorem zgo (sy:∀ u v,R u v->R v u):∀ {l:List Nat},chn R l->chn R l.reverse
 | [],_=>trivial
 | [_],_=>trivial
 | a::b::r,h=>by
  have ih:=zgo sy h.2
  rw[List.reverse_cons] at ih
  rw[List.reverse_cons,List.reverse_cons]
  exact zcw (l:=r.reverse) (m:=[]) ih (sy _ _ h.1) trivial
theorem zjz:∀ {l:List Nat} {i u v:Nat},chn R l->l[i]?=some u->l[i + 1]?=some v->R u v
 | [],i,u,v,_,e,_=>by cases e
 | [a],i,u,v,_,_,e=>by cases e
 | a::b::r,0,u,v,h,e1,e2=>by cases e1;cases e2;exact h.1
 | a::b::r,i + 1,u,v,h,e1,e2=>zjz (l:=b::r) h.2 e1 e2
def RingOf (ws:List Nat) (h:Nat) (tl:List Nat):Prop:=∃ p q,ws=p++h::q∧(tl=q++p∨tl=(q++p).reverse)
end
end Far
namespace L3
open PySem PySem.Spec PyProof.Rows L2
def adjK (ts:List Tie) (ks:List Nat) (u v:Nat):Prop:=∃ k,k ∈ ks∧tbN ts u v=some k
def Turn (h:Nat) (tl:List Nat):Prop:=(∀ x ∈ tl,h≤x)∧∀ u v p q,tl=u::p->tl=q++[v]->u≤v
end L3
namespace L3
open PySem PySem.Spec PyProof.Rows L2
end L3
namespace Stb
open PySem
def Asc (xs:Array Nat):Prop:=∀ i j,i < j->j < xs.size->xs.getD i 0 < xs.getD j 0
theorem zin (xs:Array Nat) (j:Nat) (asc:Asc xs):∀ (fuel lo hi:Nat),lo≤hi->hi≤xs.size->hi - lo≤fuel->(∀ i,i < lo->xs.getD i 0 < j)->(∀ i,hi≤i->i < xs.size->j≤xs.getD i 0) ->
  (∀ i,i < SetTable.below.go xs j fuel lo hi->xs.getD i 0 < j)∧(∀ i,SetTable.below.go xs j fuel lo hi≤i->i < xs.size->j≤xs.getD i 0)∧SetTable.below.go xs j fuel lo hi≤xs.size
 | 0,lo,hi,h1,h2,h3,a,b=>by
  have e:lo=hi:=by trivial
  subst e
  exact⟨a,b,h2⟩
 | fuel + 1,lo,hi,h1,h2,h3,a,b=>by
  unfold SetTable.below.go
  by_cases c:lo < hi
  ·rw[if_pos c]
   have hm:(lo + hi) / 2 < xs.size:=by trivial
   have eg:xs.getD ((lo + hi) / 2) j=xs.getD ((lo + hi) / 2) 0:=by rw[Array.getD_eq_getD_getElem?,Array.getD_eq_getD_getElem?,Array.getElem?_eq_getElem hm];rfl
   by_cases d:xs.getD ((lo + hi) / 2) j < j
   ·simp only [if_pos d]
    refine zin xs j asc fuel _ hi (by trivial) h2 (by trivial) (fun i hi'=>?_) b
    rcases Nat.lt_or_eq_of_le (Nat.le_of_lt_succ hi') with z | z
    ·have:=asc i _ z hm;trivial
    ·rw[z];trivial
   ·simp only [if_neg d]
    refine zin xs j asc fuel lo _ (by trivial) (by trivial) (by trivial) a (fun i hi' hs=>?_)
    rcases Nat.lt_or_eq_of_le hi' with z | z
    ·have:=asc _ i z hs;trivial
    ·rw[← z];trivial
  ·rw[if_neg c]
   have e:lo=hi:=by trivial
   subst e
   exact⟨a,b,h2⟩
theorem zd3 (xs:Array Nat) (j:Nat) (asc:Asc xs):(∀ i,i < SetTable.below xs j->xs.getD i 0 < j)∧(∀ i,SetTable.below xs j≤i->i < xs.size->j≤xs.getD i 0)∧SetTable.below xs j≤xs.size:=by
 unfold SetTable.below
 exact zin xs j asc _ 0 xs.size (Nat.zero_le _) (Nat.le_refl _) (by trivial) (fun i h=>by trivial) (fun i h1 h2=>by trivial)
theorem zkm (xs:Array Nat) (asc:Asc xs) {i p:Nat} (h:xs[i]?=some p):SetTable.below xs (p + 1)=i + 1:=by
 obtain⟨hi,e⟩:=Array.getElem?_eq_some_iff.mp h
 have eg:xs.getD i 0=p:=by rw[Array.getD_eq_getD_getElem?,h];rfl
 obtain⟨h1,h2,h3⟩:=zd3 xs (p + 1) asc
 rcases Nat.lt_trichotomy (SetTable.below xs (p + 1)) (i + 1) with z | z | z
 ·have:=h2 i (by trivial) hi;trivial
 ·exact z
 ·have a:=h1 (i + 1) z
  have b:=asc i (i + 1) (by trivial) (by trivial)
  trivial
theorem zkl (xs:Array Nat) (asc:Asc xs):SetTable.below xs 0=0:=by
 obtain⟨h1,_,_⟩:=zd3 xs 0 asc
 rcases Nat.eq_zero_or_pos (SetTable.below xs 0) with z | z
 ·exact z
 ·have:=h1 0 z;trivial
theorem Asc.list {xs:Array Nat}:Asc xs↔xs.toList.Pairwise (· < ·):=by
 rw[List.pairwise_iff_getElem]
 have g:∀ i (h:i < xs.toList.length),xs.getD i 0=xs.toList[i]:=fun i h=>by
  have h':i < xs.size:=by simpa using h
  rw[Array.getD_eq_getD_getElem?,Array.getElem?_eq_getElem h'];simp
 constructor
 ·intro a i j hi hj ij
  have:=a i j ij (by simpa using hj)
  rw[g i hi,g j hj] at this
  exact this
 ·intro a i j ij hj
  have hj':j < xs.toList.length:=by simpa using hj
  have:=a i j (by trivial) hj' ij
  rw[g i (by trivial),g j hj']
  exact this
theorem zko {xs:Array Nat} {j:Nat} (asc:Asc xs) (new:xs[SetTable.below xs j]?≠some j):Asc (SetTable.insertAt xs (SetTable.below xs j) j):=by
 obtain⟨h1,h2,h3⟩:=zd3 xs j asc
 rw[Asc.list,SetTable.toList_insertAt]
 have al:=Asc.list.mp asc
 have g:∀ i (h:i < xs.size),xs.getD i 0=xs[i]:=fun i h=>by rw[Array.getD_eq_getD_getElem?,Array.getElem?_eq_getElem h];rfl
 have lo:∀ x ∈ xs.toList.take (SetTable.below xs j),x < j:=fun x hx=>by
  obtain⟨i,hi,e⟩:=List.getElem_of_mem hx
  rw[List.length_take] at hi
  have hs:i < xs.size:=by simp at hi;trivial
  have:=h1 i (by trivial)
  rw[g i hs] at this
  rw[List.getElem_take] at e
  have e':xs[i]=x:=by simpa using e
  trivial
 have hi:∀ x ∈ xs.toList.drop (SetTable.below xs j),j < x:=fun x hx=>by
  obtain⟨i,hi,e⟩:=List.getElem_of_mem hx
  rw[List.length_drop] at hi
  have hs:SetTable.below xs j + i < xs.size:=by simp at hi;trivial
  have:=h2 (SetTable.below xs j + i) (by trivial) hs
  rw[g _ hs] at this
  rw[List.getElem_drop] at e
  have e':xs[SetTable.below xs j + i]=x:=by simpa using e
  rcases Nat.lt_or_eq_of_le this with z | z
  ·trivial
  ·exfalso
   rcases Nat.eq_zero_or_pos i with i0 | i0
   ·subst i0
    apply new
    rw[Array.getElem?_eq_getElem (by trivial)]
    simp at z
    rw[← z]
   ·have b0:SetTable.below xs j < xs.size:=by trivial
    have q1:=h2 (SetTable.below xs j) (Nat.le_refl _) b0
    have q2:=asc (SetTable.below xs j) (SetTable.below xs j + i) (by trivial) hs
    rw[g _ hs] at q2
    trivial
 refine List.pairwise_append.mpr ⟨al.sublist (List.take_sublist _ _),List.pairwise_cons.mpr ⟨fun x hx=>hi x hx,al.sublist (List.drop_sublist _ _)⟩,fun a ha b hb=>?_⟩
 rcases List.mem_cons.mp hb with z | z
 ·rw[z];exact lo a ha
 ·have:=lo a ha;have:=hi b z;trivial
theorem zmh (n:Nat):Asc (Array.range n):=by
 rw[Asc.list]
 simpa using List.pairwise_lt_range
def TI (b:Bool) (t:SetTable):Prop:=Asc t.place∧t.led=b
theorem zms (b:Bool):TI b (.fresh 0 0 b):=⟨fun i j _ h=>by simp [SetTable.fresh] at h,rfl⟩
theorem zcs {b:Bool} {t:SetTable} (h:TI b t) (n:Nat):TI b (t.standIn n):=⟨zmh n,h.2⟩
theorem zqk {b:Bool} {t:SetTable} (h:TI b t) (n:Nat):TI b (t.orStandIn n):=by
 unfold SetTable.orStandIn
 split
 ·exact h
 ·exact zcs h n
theorem zmr {b:Bool} {t:SetTable} (h:TI b t):TI b { t with plain:=false }:=h
theorem zjd {t:SetTable} {j:Nat} (h:t.slot j=.empty∨t.slot j=.dummy):t.place[SetTable.below t.place j]?≠some j:=fun e=>by
 unfold SetTable.slot at h
 have c:(t.place[SetTable.below t.place j]? == some j)=true:=by rw[e];simp
 simp only [c,if_true] at h
 rcases h with h | h <;> cases h
theorem zdt (t:SetTable) (hashAt:Nat->Int) (h:Int):∀ (f:Nat) (p:SetTable.Probe),(∀ d,p.dummy=some d->t.slot d=.dummy)->∀ j dm,SetTable.probe.go t hashAt h f p=some (.empty j dm)->t.slot j=.empty∧∀ d,dm=some d->t.slot d=.dummy
 | 0,p,_,j,dm,e=>by cases e
 | f + 1,p,hp,j,dm,e=>by
  have adv:∀ q:SetTable.Probe,(t.advance q).dummy=q.dummy:=fun q=>by
   unfold SetTable.advance
   split <;> rfl
  unfold SetTable.probe.go at e
  split at e
  ·rename_i hs
   injection e with e
   injection e with e1 e2
   subst e1;subst e2
   exact⟨hs,hp⟩
  ·rename_i hs
   refine zdt t hashAt h f _ (fun d hd=>?_) j dm e
   rw[adv] at hd
   have:p.j=d:=by simpa using hd
   rw[← this];exact hs
  ·split at e
   ·cases e
   ·refine zdt t hashAt h f _ (fun d hd=>?_) j dm e
    rw[adv] at hd
    exact hp d hd
theorem znf {t:SetTable} {h:Int} {s:Nat} {w:Bool} (e:t.freeSlot h=some (s,w)):t.place[SetTable.below t.place s]?≠some s:=by
 unfold SetTable.freeSlot at e
 split at e
 ·rename_i j dm hm
  unfold SetTable.probe at hm
  obtain⟨h1,h2⟩:=zdt t _ h _ _ (fun d hd=>by cases hd) j dm hm
  injection e with e
  injection e with e1 _
  cases dm with
  | none=>exact zjd (.inl (by rw[← e1];exact h1))
  | some d=>exact zjd (.inr (by rw[← e1];exact h2 d rfl))
 ·cases e
theorem zkv {b:Bool} {t:SetTable} (h:TI b t) (es:Array (Int × Value)) (k:Int) (x:Value):TI b (layNew t es k x).2.1:=by
 unfold layNew
 split
 ·rename_i s w e
  exact zqk (t:=(t.put s).1) ⟨zko h.1 (znf e),h.2⟩ _
 ·exact zcs h _
theorem zl1 {f:Nat->Option Nat} (hf:∀ j y,f j=some y->y=j):∀ l:List Nat,(l.filterMap f).Sublist l
 | []=>.slnil
 | j::l=>by
  rw[List.filterMap_cons]
  cases e:f j with
  | none=>exact (zl1 hf l).cons j
  | some y=>rw[hf j y e];exact (zl1 hf l).cons₂ j
theorem zmq {b:Bool} {t:SetTable} (h:TI b t) (es:Array (Int × Value)) (wanted:Nat):TI b (relayAll t es wanted).2.1:=by
 unfold relayAll
 split
 ·rename_i t' order e
  dsimp only
  split
  ·unfold SetTable.relaid SetTable.laid at e
   simp only [Option.bind_eq_bind,Option.bind_eq_some_iff] at e
   obtain⟨owner,_,e⟩:=e
   injection e with e
   injection e with e1 _
   rw[← e1]
   refine⟨?_,h.2⟩
   rw[Asc.list]
   simp only [List.map_filterMap]
   refine List.pairwise_lt_range.sublist (zl1 (fun j y hy=>?_) _)
   cases c:owner.getD j none with
   | none=>rw[c] at hy;cases hy
   | some z=>rw[c] at hy;exact (Option.some.inj hy).symm
  ·exact zcs h _
 ·exact zcs h _
end Stb
namespace Stb
open PySem PyProof.Rows
def ledOf (w:World):Bool:=!w.params.followText "set-order"
def TIat (w:World) (h:Heap) (a:Addr):Prop:=∃ o es ep t,h.get? a=some o∧o.data=.set es ep t∧TI (ledOf w) t
abbrev SetT (P:Program) (w:World) (h:Heap) (a:Addr) (S:Int->Bool) (n:Nat):Prop:=h.SetOf (intKind P w) a S n∧TIat w h a
section
variable {prog:Program} {w:World} {A:Around} {E:Value->Shared->Prop} {s:Shared}
theorem SetT.keep {h h':Heap} {a:Addr} {S:Int->Bool} {n:Nat} (x:SetT prog w h a S n) (k:∀ o,h.get? a=some o->h'.get? a=some o):SetT prog w h' a S n:=by
 obtain⟨⟨o,es,ep,t,ho,r⟩,o',es',ep',t',ho',r'⟩:=x
 exact⟨⟨o,es,ep,t,k _ ho,r⟩,o',es',ep',t',k _ ho',r'⟩
theorem zjo {g:Bool->Sem Unit} (gp:∀ (b:Bool) (z:Shared) (U:Unit->Shared->Prop),U () z->wpAny (model prog w) A (g b) U E z) {S':Int->Bool}
  {a:Addr} {o:Obj} {es es1:Array (Int × Value)} {ep:Nat} {t t2:SetTable} (ho:s.heap.get? a=some o) (ox:o.ExactSet) (od:o.data=.set es ep t)
  (el:ElemsOf (intKind prog w) es1.toList) (me:∀ k,S' k=true↔∃ e ∈ es1.toList,(intKind prog w).is k e.2=true) (small:es1.size < scanBound) (fit:t2.fits es1.size=true) (ti:TI (ledOf w) t2) {dum:Bool} {R:Option Bool->Shared->Prop}
  (fin:∀ h',Heap.SameBut a s.heap h'->SetT prog w h' a S' es1.size->R (some true) { s with heap:=h' }) :
  wpAny (model prog w) A (do
      storeSet a es1 t2
      if (!dum && t2.tooFull) = true then do
          g (relayAll t2 es1 (SetTable.grown es1.size)).2.2
          storeSet a (relayAll t2 es1 (SetTable.grown es1.size)).1 (relayAll t2 es1 (SetTable.grown es1.size)).2.1
          pure (some true)
        else pure (some true)) R E s:=by
 refine wpAny_bind (wpAny_storeSet_of ho od ?_ (fits_of_scanBound small))
 obtain⟨g1,s1⟩:=SetOf_store (knd:=intKind prog w) ho ox od el me small fit
 have sb:=Heap.SameBut.update s.heap a (Obj.putSet es1 t2)
 split
 ·have pm:=relayAll_perm t2 es1 (SetTable.grown es1.size)
  have fr:=relayAll_fits t2 es1 (SetTable.grown es1.size)
  have tr:=zmq ti es1 (SetTable.grown es1.size)
  generalize relayAll t2 es1 (SetTable.grown es1.size)=Rl at pm fr tr ⊢
  obtain⟨es2,t3,gv⟩:=Rl
  dsimp only at pm fr tr ⊢
  have sz:es2.size=es1.size:=by rw[← Array.length_toList,pm.length_eq,Array.length_toList]
  have sm2:es2.size < scanBound:=sz ▸ small
  refine wpAny_bind (gp _ _ _ (wpAny_bind (wpAny_storeSet_of g1 rfl ?_ (fits_of_scanBound sm2))))
  obtain⟨g2,s2⟩:=SetOf_store (knd:=intKind prog w) g1 ox rfl (el.perm pm) (fun k=>(me k).trans ⟨fun ⟨e,he,q⟩=>⟨e,pm.mem_iff.mpr he,q⟩,fun ⟨e,he,q⟩=>⟨e,pm.mem_iff.mp he,q⟩⟩) sm2 fr
  rw[sz] at s2
  exact wpAny_pure (fin _ (sb.trans (Heap.SameBut.update _ a _)) ⟨s2,_,_,_,_,g2,rfl,tr⟩)
 ·exact wpAny_pure (fin _ sb ⟨s1,_,_,_,_,g1,rfl,ti⟩)
theorem zqs {a:Addr} {S:Int->Bool} {n:Nat} {k:Int} {x:Value} {Q:Bool->Shared->Prop} (kx:(intKind prog w).is k x=true) (sx:x.scannable=true) (st:SetT prog w s.heap a S n) (room:n + 1 < scanBound)
  (fin:∀ h',Heap.SameBut a s.heap h'->SetT prog w h' a (fun y=>S y || decide (y=k)) (if S k then n else n + 1)->Q (!S k) { s with heap:=h' }) :
  wpAny (model prog w) A (setAddHashed a x ((intKind prog w).hash k)) Q E s:=by
 obtain⟨⟨o,es,ep,t,ho,ox,od,el,me,small,fit,en⟩,o',es',ep',t',ho',od',ti⟩:=st
 rw[ho] at ho';cases ho'
 rw[od] at od';cases od'
 have small1:es.size + 1 < scanBound:=en ▸ room
 unfold setAddHashed setAddHashedIn
 refine wpAny_holding (wpAny_bind (wpAny_setState_of ho od fit ?_))
 dsimp only
 rw[byScan_of sx small el,if_pos rfl]
 unfold setAddByScan
 refine wpAny_bind (wpAny_bind (wpAny_rule (wpAny_bind (wpAny_setScan_of kx ho od fit el ?_))))
 cases fd:List.findIdx? (fun e=>(intKind prog w).is k e.2) es.toList with
 | some j =>
  dsimp only
  obtain⟨jl,jp,_⟩:=List.findIdx?_eq_some_iff_getElem.mp fd
  have sk:S k=true:=(me k).mpr ⟨es.toList[j],List.getElem_mem jl,jp⟩
  refine wpAny_pure (wpAny_pure ?_)
  have es0:s={ s with heap:=s.heap }:=by cases s;rfl
  have q:=fin s.heap (Heap.SameBut.refl a s.heap) ⟨⟨o,es,ep,t,ho,ox,od,el,fun y=>by
   rw[Bool.or_eq_true,decide_eq_true_eq,← me y]
   exact⟨fun z=>z.elim id (fun e=>e ▸ sk),.inl⟩,small,fit,by rw[sk];exact en⟩,o,es,ep,t,ho,od,ti⟩
  rw[sk] at q;rw[es0];exact q
 | none =>
  dsimp only
  have sk:S k=false:=by
   cases c:S k with
   | false=>rfl
   | true=>obtain⟨e,he,hp⟩:=(me k).mp c;have:=List.findIdx?_eq_none_iff.mp fd e he;rw[hp] at this;cases this
  have pm:=layNew_perm t es ((intKind prog w).hash k) x
  have ft:=layNew_fits t es ((intKind prog w).hash k) x
  have tl:=zkv ti es ((intKind prog w).hash k) x
  generalize layNew t es ((intKind prog w).hash k) x=L at pm ft tl ⊢
  obtain⟨es1,t1,dum,gv⟩:=L
  dsimp only at pm ft tl ⊢
  rw[Array.toList_push] at pm
  have el1:ElemsOf (intKind prog w) es1.toList:=(el.push kx sx).perm pm
  have me1:∀ y,(S y || decide (y=k))=true↔∃ e ∈ es1.toList,(intKind prog w).is y e.2=true:=mem_push_iff kx me pm
  have ez:es1.size=es.size + 1:=by rw[← Array.length_toList,pm.length_eq,List.length_append,Array.length_toList];rfl
  have small2:es1.size < scanBound:=ez ▸ small1
  have gw:∀ (b:Bool) (z:Shared) (U:Unit->Shared->Prop),U () z->wpAny (model prog w) A (match b with | true=>rule "set.scan.the-table-gave-way" | false=>pure ()) U E z :=
   fun b z U hq=>by cases b <;> first | exact wpAny_pure hq | exact wpAny_rule hq
  refine wpAny_bind (gw _ _ _ ?_)
  have last:∀ h',Heap.SameBut a s.heap h'->SetT prog w h' a (fun y=>S y || decide (y=k)) es1.size->Q true { s with heap:=h' }:=fun h' sb z=>by
   have q:=fin h' sb;rw[sk] at q;rw[ez,en] at z;exact q z
  split
  ·refine wpAny_bind ?_
   rw[hashByValue_scannable 8 sx]
   refine wpAny_pure (zjo (fun b z U hq=>?_) ho ox od el1 me1 small2 ?_ ?_ fun h' sb z=>?_)
   ·cases b <;> first | exact wpAny_pure hq | exact wpAny_rule hq
   ·split
    ·exact ft
    ·exact SetTable.fits_plain_off ft
   ·split
    ·exact tl
    ·exact zmr tl
   ·dsimp only;exact wpAny_pure (last h' sb z)
  ·refine wpAny_bind (wpAny_pure ?_)
   simp only [↓reduceIte]
   refine zjo (fun b z U hq=>?_) ho ox od el1 me1 small2 ft tl fun h' sb z=>?_
   ·cases b <;> first | exact wpAny_pure hq | exact wpAny_rule hq
   ·dsimp only;exact wpAny_pure (last h' sb z)
theorem zqc {R:Result->Shared->Prop} {I:Addr} {fp wr:List Addr} {G:Array GenState->Array GenState->Prop} {n:Nat} {P:Nat->Value->Prop} {St:Nat->Shared->Prop} (W:WalksS prog w A.in1 I fp wr G n P St) (a:Addr) (af:a ∉ fp)
  (val:Nat->Int) (hv:∀ i v,P i v->∃ t,v=.int (val i) t) (hb:n + 1 < scanBound) :
  ∀ (k i:Nat) (s:Shared),n - i=k->i≤n->St i s->SetT prog w s.heap a (fun y=>(firstMet val i).any (· == y)) (firstMet val i).length ->
   (∀ s',Moved (a::wr) G s s'->SetT prog w s'.heap a (fun y=>(firstMet val n).any (· == y)) (firstMet val n).length->R (.ok (.ret .none)) s') ->
   codeAny (model prog w) A (.builtin "set.update.loop" ⟨[.ref a,.ref I],[]⟩) R s:=by
 have aw:a ∉ wr:=fun h=>af (W.sub _ h)
 have up:∀ b ∈ wr,b ∈ a::wr:=fun b hb=>List.mem_cons_of_mem _ hb
 intro k
 induction k with
 | zero =>
  intro i s hk hi st x fin
  obtain rfl:i=n:=by trivial
  refine codeAny_builtin PyProof.Rows.F.entry_set_update_loop ?_
  rw[Around.under_plainId PyProof.Rows.F.plain_set_update_loop _]
  show wpAny _ A.in1 (pyNext (.ref I) >>= _) _ _ s
  refine wpAny_bind (W.done s _ _ st fun s' hm=>?_)
  show wpAny _ A.in1 (ret Value.none) _ _ s'
  exact wpAny_pure (fin s' (hm.mono up) (x.keep fun o e=>hm.heap a o aw e))
 | succ k ih =>
  intro i s hk hi st x fin
  have lt:i < n:=by trivial
  refine codeAny_builtin PyProof.Rows.F.entry_set_update_loop ?_
  rw[Around.under_plainId PyProof.Rows.F.plain_set_update_loop _]
  show wpAny _ A.in1 (pyNext (.ref I) >>= _) _ _ s
  refine wpAny_bind (W.item i s _ _ lt st fun v s' hP st' hm=>?_)
  obtain⟨t,rfl⟩:=hv i v hP
  have x':=x.keep (prog:=prog) fun o e=>hm.heap a o aw e
  show wpAny _ A.in1 (holding [Value.int (val i) t] (setAdd a (.int (val i) t)) >>= _) _ _ s'
  refine wpAny_bind (wpAny_holding ?_)
  unfold setAdd
  refine wpAny_holding (wpAny_bind ((intKind prog w).pyHash (k:=val i) (intKind_is _ _ _ _) ?_))
  refine zqs (s:={ s' with toks:=s'.toks + 1 }) (intKind_is _ _ _ _) rfl x' (by have:=firstMet_length_le val i;trivial) fun h' sb x2=>?_
  have x3:SetT prog w h' a (fun y=>(firstMet val (i + 1)).any (· == y)) (firstMet val (i + 1)).length :=
   ⟨SetOf_congr x2.1 (fun y=>by rw[firstMet_succ,step_any]) (by rw[firstMet_succ,step_length]),x2.2⟩
  refine wpAny_pure ⟨plainId_quiet PyProof.Rows.F.plain_set_update_loop _,ih (i + 1) _ (by trivial) lt (W.frame _ s' _ _ st' (Nat.le_succ _) fun b hb o e=>?_) x3 fun s'' hm2 x4=>?_⟩
  ·rw[sb.2 b (fun h:b=a=>af (by rw[← h];exact hb))];exact e
  ·refine fin s'' (Moved.trans W.gtrans ((hm.mono up).then_heap (Nat.le_succ _) fun b o hb e=>?_) hm2) x4
   rw[sb.2 b (fun h:b=a=>hb (by rw[h];exact List.mem_cons_self))];exact e
end
end Stb
namespace Stb
open PySem PyProof.Rows
section
variable {prog:Program} {w:World} {A:Around} {E:Value->Shared->Prop} {s:Shared}
abbrev emp (w:World):Obj:={ cls:=.type "set",dict:=none,data:=.set #[] 0 (.fresh 0 0 (ledOf w)) }
theorem zql (x:Value) {U:Value->Shared->Prop} (fin:U (.ref s.heap.objs.size) { s with heap:=s.heap.push (emp w) }) :
  codeAny (model prog w) A (.call (.builtin "set.__new__") ⟨[.type "set",x],[]⟩) (wants U E) s:=by
 refine codeAny_of_tree ?_
 show wpAny _ A.in1 (checkBuiltinCall "set.__new__" ⟨[.type "set",x],[]⟩ >>= fun _=>again (.builtin "set.__new__" ⟨[.type "set",x],[]⟩)) _ _ s
 refine wpAny_bind (wpAny_of_eq (PySem.F.newCall_set_1 x) (wpAny_pure ⟨plainId_quiet PySem.F.plain_set_new _,codeAny_builtin PySem.F.entry_set_new ?_⟩))
 rw[Around.under_plainId PySem.F.plain_set_new _]
 unfold Builtin.«set.__new__» Builtin.Frozenset.newClass
 have sub1:=PySem.sub_set_self
 obtain⟨hp,g,d,tk,os⟩:=s
 dsimp only
 wp_walk
 refine wpAny_askSetting (wpAny_pure ?_)
 simp only [newObj]
 exact wpAny_bind (wpAny_alloc (wpAny_pure (wpAny_pure fin)))
theorem zqp (h:Heap):SetT prog w (h.push (emp w)) h.objs.size (fun y=>(firstMet (fun i=>([]:List Int).getD i 0) 0).any (· == y)) 0 :=
 ⟨SetOf_congr ((setObjOf_fresh (knd:=intKind prog w) (ledOf w)).setOf (Heap.get?_push_size _ rfl) (by unfold scanBound;trivial)) (fun _=>rfl) rfl,_,_,_,_,Heap.get?_push_size _ rfl,rfl,zms _⟩
theorem zp4 {t:Addr} {xs:Array Value} {ns:List Int} {Q:Value->Shared->Prop} (hh:A.handled=none) (ht:s.heap.IsTuple t xs) (hi:IntsAre xs.toList ns) (hb:xs.size + 1 < scanBound)
  (fin:∀ (h':Heap) (tk:Nat),SetT prog w h' s.heap.objs.size (HT.setS ns xs.size) (HT.setN ns xs.size)->(∀ b o,b < s.heap.objs.size->s.heap.get? b=some o->h'.get? b=some o)->Q (.ref s.heap.objs.size) { s with heap:=h',toks:=tk }) :
  wpAny (model prog w) A (call (.type "set") [.ref t]) Q E s:=by
 obtain⟨c,tl,hmro⟩:=PySem.F.called_set.mro
 have hmade:=PySem.F.called_set.made;have hsub:=PySem.F.called_set.sub
 refine wpAny_call (codeAny_of_tree ?_);show wpAny _ _ (callAny (.type "set") _) _ _ _
 refine wpAny_pure ⟨Code.quiet_builtin _ (by decide +kernel),codeAny_builtin PySem.F.entry_type_call ?_⟩
 rw[Around.under_plain (PySem.weight_type_call_type "set" [.ref t] []) rfl]
 have h1:=PySem.F.called_set.notType;have h2:=PySem.F.called_set.canCreate;have hct:=PySem.F.typeCall_set_1 (.ref t)
 repeat (any_goals (first | assumption | wp_step))
 refine codeAny_mono (zql (.ref t) (E:=E) (U:=fun obj s₁=>obj=.ref s.heap.objs.size∧s₁={ s with heap:=s.heap.push (emp w) }) ⟨rfl,rfl⟩) fun r s₁ hr=>?_
 match r,hr with
 | .error e,hr=>exact hr
 | .ok .next,hr=>exact hr.elim
 | .ok .brk,hr=>exact hr.elim
 | .ok .cont,hr=>exact hr.elim
 | .ok (.ret obj),hr =>
  obtain⟨rfl,rfl⟩:=hr
  have gS:(s.heap.push (emp w)).get? s.heap.objs.size=some (emp w):=Heap.get?_push_size _ rfl
  have hT:Shared.TypeIs { s with heap:=s.heap.push (emp w) } (.ref s.heap.objs.size) "set":=⟨_,gS,rfl⟩
  have hli:=PySem.F.called_set.init.lookup;have hbi:=PySem.F.called_set.init.bind (.ref s.heap.objs.size)
  repeat (any_goals (first | assumption | wp_step))
  refine codeAny_mono (codeAny_call_builtin (R:=wants (fun r s₂=>r=.none∧∃ h' tk,s₂={ s with heap:=h',toks:=tk }∧SetT prog w h' s.heap.objs.size (HT.setS ns xs.size) (HT.setN ns xs.size)∧(∀ b o,b < s.heap.objs.size->s.heap.get? b=some o->h'.get? b=some o)) E) PySem.F.called_set.init.plain PySem.F.entry_set_init (PySem.check_set_init_1 hT ?_)) fun r₂ s₂ hr₂=>?_
  ·obtain⟨ot,ho,hc,m,hd⟩:=id ht
   obtain⟨ocls,odict,odata,oslots⟩:=ot
   simp only at hc hd;subst hc hd
   have ho':(s.heap.push (emp w)).get? t=some { cls:=.type "tuple",dict:=odict,data:=.seq xs m,slots:=oslots }:=Heap.get?_push_of_some _ ho
   have f1:=PySem.F.sub_tuple_set;have f2:=PySem.F.sub_tuple_frozenset
   have f3:(Value.type "tuple" == Value.type "dict")=false:=by decide
   have it1:(s.heap.push (emp w)).IsTuple t xs:=⟨_,ho',rfl,m,rfl⟩
   unfold Builtin.«set.__init__» noKeywords Builtin.Frozenset.updateFrom
   generalize hPI:pyIter=PI
   wp_walk;subst hPI
   refine wpAny_pyIter_tuple it1 (wpAny_bind (wpAny_runValue ?_))
   have lt:t < s.heap.objs.size:=Heap.lt_size ho
   have hh3:A.in1.in1.in1.handled=none:=by simp [hh]
   have sz1:(s.heap.push (emp w)).objs.size=s.heap.objs.size + 1:=Heap.size_push ..
   have tI:t≠(s.heap.push (emp w)).objs.size:=by rw[sz1];exact Nat.ne_of_lt (Nat.lt_succ_of_lt lt)
   have Sfp:s.heap.objs.size ∉ [(s.heap.push (emp w)).objs.size,t]:=by
    rw[sz1];simp only [List.mem_cons,List.not_mem_nil,or_false,not_or];exact⟨Nat.ne_of_lt (Nat.lt_succ_self _),(Nat.ne_of_lt lt).symm⟩
   have vals:∀ (i:Nat) (v:Value),xs[i]?=some v->∃ u,v=.int ((fun i=>ns.getD i 0) i) u:=fun i v hv=>IntsAre.int_at hi i v (by rw[Array.getElem?_toList];exact hv)
   refine zqc ((Walks.tuple hh3 _ t tI xs).toS) s.heap.objs.size Sfp (fun i=>ns.getD i 0) vals hb (xs.size - 0) 0 _ (by trivial) (Nat.zero_le _) ?st ?s0 ?fin
   case st=>exact⟨⟨_,Heap.get?_push_size _ rfl,rfl,rfl⟩,HT.zi9 it1 _⟩
   case s0=>exact (zqp s.heap).keep fun o e=>Heap.get?_push_of_some _ e
   case fin =>
    rintro ⟨h',g',d',tk',os'⟩ hm hS'
    obtain rfl:g'=s.gens:=hm.gens
    obtain rfl:d'=s.drawn:=hm.drawn
    obtain rfl:os'=s.os:=hm.os
    refine wpAny_pure (wpAny_pure ⟨rfl,h',tk',rfl,hS',fun b o hlt e=>hm.heap b o ?_ (Heap.get?_push_of_some _ (Heap.get?_push_of_some _ e))⟩)
    rw[sz1];simp only [List.mem_cons,List.not_mem_nil,or_false,not_or]
    exact⟨Nat.ne_of_lt hlt,Nat.ne_of_lt (Nat.lt_succ_of_lt hlt)⟩
  ·match r₂,hr₂ with
   | .error e,hr₂=>exact hr₂
   | .ok .next,hr₂=>exact hr₂.elim
   | .ok .brk,hr₂=>exact hr₂.elim
   | .ok .cont,hr₂=>exact hr₂.elim
   | .ok (.ret v),hr₂ =>
    obtain⟨rfl,h',tk,rfl,hS',hk⟩:=hr₂
    repeat (any_goals (first | assumption | wp_step))
    exact fin h' tk hS' hk
end
end Stb
namespace Stb
open PySem PyProof.Rows
theorem sl_next:Slot "set_iterator" "__next__" "set_iterator.__next__":=.of (owner:="set_iterator") (n:="__next__") (by rw[typeLookup_type,builtinLookup_eq_fast];kernel_rfl) (by decide +kernel) (by decide +kernel) (by decide +kernel) (by first | exact .inl (by decide +kernel) | exact .inr (by decide +kernel)) (by rw[isSubtype_type];kernel_rfl)
theorem zgl:entryFor table "set_iterator.__next__"=some Builtin.«set_iterator.__next__»:=entryFor_of_tree (by kernel_rfl)
theorem zk8:Manifest.owners.lookup (String.ofList ['r','o','t','a','r','e','t','i','_','t','e','s'].reverse)=some Manifest.sig_set_iterator:=by kernel_rfl
theorem zgu (a:Value):argsOk "set_iterator.__next__" ⟨[a],[]⟩:=by
 unfold argsOk;rw[signature?_of (id:="set_iterator.__next__") (n:=['_','_','t','x','e','n','_','_']) (o:=['r','o','t','a','r','e','t','i','_','t','e','s']) (by kernel_rfl) zk8];kernel_rfl
theorem zpc:entryFor table "set.__iter__"=some Builtin.«frozenset.__iter__»:=entryFor_alias (id':="frozenset.__iter__") (by kernel_rfl) rfl (by decide +kernel) (by kernel_rfl)
theorem zn1 {α:Type} {l:List α} {i:Nat} (h:i < l.length):(l[i]::l.eraseIdx i).Perm l:=by
 rw[List.eraseIdx_eq_take_drop_succ]
 refine List.perm_middle.symm.trans ?_
 rw[← List.drop_eq_getElem_cons h,List.take_append_drop]
theorem zk4 {α:Type} (next:Nat->Nat):∀ (f k:Nat) (left:List α) (out:Array α),left.length=f->(pickOrder.go next f k left out).toList.Perm (out.toList++left)
 | 0,k,left,out,h=>by
  have:left=[]:=List.length_eq_zero_iff.mp h
  subst this
  unfold pickOrder.go
  simp
 | f + 1,k,left,out,h=>by
  have lt:next k % left.length < left.length:=Nat.mod_lt _ (by trivial)
  unfold pickOrder.go
  rw[List.getElem?_eq_getElem lt]
  dsimp only
  refine (zk4 next f (k + 1) _ _ (by rw[List.length_eraseIdx_of_lt lt];trivial)).trans ?_
  rw[Array.toList_push,List.append_assoc]
  refine List.Perm.append_left _ ?_
  exact zn1 lt
theorem zk3 {α:Type} (next:Nat->Nat) (xs:Array α):(pickOrder next xs).toList.Perm xs.toList:=by
 unfold pickOrder
 simpa using zk4 next xs.size 0 xs.toList #[] (by simp)
section
variable {prog:Program} {w:World} {A:Around} {E:Value->Shared->Prop} {s:Shared}
theorem zkr {M:Model} {src:Source} {n:Nat} {Q:Nat->Shared->Prop} (hn:n≠0) (h:∀ i,i < n->Q i { s with drawn:=s.drawn.bump src }):wpAny M A (choose src n) Q E s:=fun Γ p hΓ=>by
 unfold choose
 rw[Sem.wp_choose]
 exact⟨hn,by exact h _ (Nat.mod_lt _ (Nat.pos_of_ne_zero hn))⟩
theorem zgv {α:Type} {M:Model} (n:Nat):∀ (xs:List α) (s:Shared) (Q:List α->Shared->Prop),xs.length=n->(∀ ys d',ys.Perm xs->Q ys { s with drawn:=d' })->wpAny M A (drawOrder n xs) Q E s:=by
 induction n with
 | zero =>
  intro xs s Q h hQ
  have:xs=[]:=List.length_eq_zero_iff.mp h
  subst this
  unfold drawOrder
  exact wpAny_pure (hQ [] s.drawn .nil)
 | succ n ih =>
  intro xs s Q h hQ
  cases xs with
  | nil=>cases h
  | cons x xs =>
   unfold drawOrder
   refine wpAny_bind (zkr (by simp) fun i hi=>?_)
   rw[List.getElem?_eq_getElem hi]
   refine wpAny_bind (ih _ _ _ (by rw[List.length_eraseIdx_of_lt hi];simp at h ⊢;trivial) fun ys d' pm=>wpAny_pure (hQ _ d' ?_))
   exact (List.Perm.cons _ pm).trans (zn1 hi)
end
end Stb
namespace Stb
open PySem PyProof.Rows
inductive Knd where
 | text
 | drawn (p:Addr) (pl:List Nat)
 | places
def First (w:World) (a:Addr) (es:Array (Int × Value)) (ep:Nat) (t:SetTable) (ord:List (Int × Value)) (i:Nat) (h:Heap) (first:Value):Knd->Prop
 | .text=>ledOf w=false∧ord=(pickOrder (w.params.setOrder a ep) es).toList∧∃ z:Nat,first=.int z 0
 | .drawn p pl=>first=.ref p∧h.IsTuple p (pl.map fun i=>rawInt (i:Nat)).toArray∧ord.length=pl.length∧∀ j k:Nat,pl[j]?=some k->∃ e,es[k]?=some e∧ord[j]?=some e
 | .places=>ledOf w=true∧(t.plain=true∨es.size≤1)∧ord=es.toList∧∃ z:Nat,first=.int z 0∧SetTable.below t.place z=i
def IsSet (h:Heap) (a:Addr) (es:Array (Int × Value)) (ep:Nat) (t:SetTable):Prop:=∃ o,h.get? a=some o∧o.cls=.type "set"∧o.data=.set es ep t
def IsIt (h:Heap) (I a:Addr) (n ep i:Nat) (first:Value):Prop:=∃ o,h.get? I=some o∧o.cls=.type "set_iterator"∧o.data=.fields #[first,.int i 0,.ref a,.int n 0,.int ep 0]
section
variable {prog:Program} {w:World} {A:Around} {E:Value->Shared->Prop} {s:Shared} {a I:Addr} {es:Array (Int × Value)} {ep:Nat} {t:SetTable}
theorem zg4 {Q:Option (Value × Nat)->Shared->Prop} {z i:Nat} (hs:IsSet s.heap a es ep t) (fit:t.fits es.size=true) (hl:ledOf w=false)
  (h:Q (((pickOrder (w.params.setOrder a ep) es)[i]?).map fun e=>(e.2,z)) s):wpAny (model prog w) A (setNext a z i ep) Q E s:=by
 obtain⟨o,ho,_,od⟩:=hs
 have ft:w.params.followText "set-order"=true:=by simpa [ledOf] using hl
 unfold setNext setsByText
 refine wpAny_bind (wpAny_setState_of ho od fit ?_)
 refine wpAny_bind (wpAny_bind (wpAny_askSetting (wpAny_pure ?_)))
 show wpAny _ _ (if w.params.followText "set-order"=true then _ else _) _ _ _
 rw[if_pos ft]
 dsimp only
 rw[if_neg (by simp)]
 refine wpAny_bind ?_
 unfold setWalk setsByText
 refine wpAny_bind (wpAny_setState_of ho od fit ?_)
 refine wpAny_bind (wpAny_bind (wpAny_askSetting (wpAny_pure ?_)))
 show wpAny _ _ (if w.params.followText "set-order"=true then _ else _) _ _ _
 rw[if_pos ft]
 exact wpAny_bind (wpAny_askSetting (wpAny_pure (wpAny_pure h)))
theorem zev {Q:Option (Value × Nat)->Shared->Prop} {z i:Nat} (hs:IsSet s.heap a es ep t) (fit:t.fits es.size=true) (ti:TI (ledOf w) t) (hl:ledOf w=true) (hp:t.plain=true∨es.size≤1)
  (h:Q (match es[SetTable.below t.place z]?,t.place[SetTable.below t.place z]? with | some (_,x),some j=>some (x,j + 1) | _,_=>none) s):wpAny (model prog w) A (setNext a z i ep) Q E s:=by
 obtain⟨o,ho,_,od⟩:=hs
 have ft:w.params.followText "set-order"=false:=by simpa [ledOf] using hl
 unfold setNext setsByText
 refine wpAny_bind (wpAny_setState_of ho od fit ?_)
 refine wpAny_bind (wpAny_bind (wpAny_askSetting (wpAny_pure ?_)))
 show wpAny _ _ (if w.params.followText "set-order"=true then _ else _) _ _ _
 rw[if_neg (by rw[ft];exact Bool.false_ne_true)]
 dsimp only
 show wpAny _ _ (if (!t.plain && decide (es.size > 1))=true then _ else _) _ _ _
 rw[if_neg (by rcases hp with z | z <;> simp [z])]
 show wpAny _ _ ((if (!t.led && !es.isEmpty)=true then unsupported "set:maker-not-led" else pure ()) >>= _) _ _ _
 rw[if_neg (by rw[ti.2,hl];simp)]
 exact wpAny_bind (wpAny_pure (wpAny_pure h))
theorem IsIt.set0 {h:Heap} {n ep i:Nat} {first:Value} (x:IsIt h I a n ep i first) (v:Value):IsIt (h.update I (Obj.mapFields (·.setIfInBounds 0 v))) I a n ep i v:=by
 obtain⟨o,ho,hc,hd⟩:=x
 exact⟨_,Heap.get?_update_self _ ho (Obj.isFreed_of_fields (Obj.data_mapFields hd _)),(Obj.cls_mapFields ..).trans hc,by rw[Obj.data_mapFields hd];simp⟩
theorem IsIt.set1 {h:Heap} {n ep i:Nat} {first:Value} (x:IsIt h I a n ep i first):IsIt (h.update I (Obj.mapFields (·.setIfInBounds 1 (rawInt ((i:Int) + 1))))) I a n ep (i + 1) first:=by
 obtain⟨o,ho,hc,hd⟩:=x
 exact⟨_,Heap.get?_update_self _ ho (Obj.isFreed_of_fields (Obj.data_mapFields hd _)),(Obj.cls_mapFields ..).trans hc,by rw[Obj.data_mapFields hd];simp [rawInt]⟩
theorem zjc {Q:PySem.Fin->Shared->Prop} (hh:A.handled=none) (hE:∀ (e:Value) (h':Heap),(∀ b o,s.heap.get? b=some o->h'.get? b=some o)->Shared.TypeIs { s with heap:=h' } e "StopIteration"->E e { s with heap:=h' }) :
  wpAny (model prog w) A (newExc (.type "StopIteration") [] >>= fun e=>raiseNew e) Q E s:=by
 refine wpAny_bind ?_
 simp only [newExc,newTuple]
 refine wpAny_bind (wpAny_newObj_type ?_ (by size_fits))
 refine wpAny_bind (m:=firstArgMember _ _) (wpAny_of_eq (a:=Value.none) (by first | rfl | (simp only [firstArgMember];rfl)) (wpAny_newObj_type ?_ (by size_fits)))
 simp only [raiseNew]
 refine wpAny_bind (wpAny_handled ?_)
 rw[hh]
 refine wpAny_bind (wpAny_pure (wpAny_throw ?_))
 refine hE _ _ (fun b o e=>Heap.get?_push_of_some _ (Heap.get?_push_of_some _ e)) ?_
 exact⟨_,Heap.get?_push_size _ rfl,rfl⟩
section
variable {Q:Option Value->Shared->Prop} {i:Nat}
theorem zjs {x:Value} {z nx:Nat} (hs:IsSet s.heap a es ep t) (fit:t.fits es.size=true) (hit:IsIt s.heap I a es.size ep i (.int z 0))
  (hn:∀ (A':Around) (Q':Option (Value × Nat)->Shared->Prop) (E':Value->Shared->Prop),Q' (some (x,nx)) s->wpAny (model prog w) A' (setNext a z i ep) Q' E' s)
  (hQ:∀ h',IsIt h' I a es.size ep (i + 1) (.int nx 0)->Heap.SameBut I s.heap h'->Q (some x) { s with heap:=h' }):wpAny (model prog w) A (pyNext (.ref I)) Q E s:=by
 obtain⟨oi,hi,ci,di⟩:=id hit
 obtain⟨o,ho,_,od⟩:=hs
 unfold pyNext
 refine wpAny_bind (wpAny_attempt (wpAny_callSpecial?_slot (name:=Str.ofString "__next__") ⟨oi,hi,ci⟩ sl_next (wpAny_call_entry sl_next ⟨oi,hi,ci⟩ zgl ?_ (zgu _))))
 show wpAny _ _ (fieldsOf (.ref I) >>= _) _ _ s
 refine wpAny_bind (wpAny_fieldsOf hi di ?_)
 show wpAny _ _ (setEntries a >>= _) _ _ s
 refine wpAny_bind (wpAny_setEntries_of ho od fit ?_)
 dsimp only
 rw[if_neg (by simp)]
 show wpAny _ _ (setNext a z i ep >>= _) _ _ s
 refine wpAny_bind (hn _ _ _ ?_)
 dsimp only
 refine wpAny_bind (wpAny_setField hi di (by simp) ?_)
 obtain⟨o1,hi1,ci1,di1⟩:=id (hit.set0 (rawInt nx))
 refine wpAny_bind (wpAny_setField hi1 di1 (by simp) (wpAny_pure ⟨x,rfl,wpAny_pure (hQ _ ?_ ((Heap.SameBut.update ..).trans (Heap.SameBut.update ..)))⟩))
 exact (hit.set0 (rawInt nx)).set1
theorem zlx {z:Nat} (hh:A.handled=none) (hs:IsSet s.heap a es ep t) (fit:t.fits es.size=true) (hit:IsIt s.heap I a es.size ep i (.int z 0))
  (hn:∀ (A':Around) (Q':Option (Value × Nat)->Shared->Prop) (E':Value->Shared->Prop),Q' none s->wpAny (model prog w) A' (setNext a z i ep) Q' E' s)
  (hQ:∀ h',(∀ b o,b≠I->s.heap.get? b=some o->h'.get? b=some o)->Q none { s with heap:=h' }):wpAny (model prog w) A (pyNext (.ref I)) Q E s:=by
 obtain⟨oi,hi,ci,di⟩:=id hit
 obtain⟨o,ho,_,od⟩:=hs
 unfold pyNext
 refine wpAny_bind (wpAny_attempt (wpAny_callSpecial?_slot (name:=Str.ofString "__next__") ⟨oi,hi,ci⟩ sl_next (wpAny_call_entry sl_next ⟨oi,hi,ci⟩ zgl ?_ (zgu _))))
 show wpAny _ _ (fieldsOf (.ref I) >>= _) _ _ s
 refine wpAny_bind (wpAny_fieldsOf hi di ?_)
 show wpAny _ _ (setEntries a >>= _) _ _ s
 refine wpAny_bind (wpAny_setEntries_of ho od fit ?_)
 dsimp only
 rw[if_neg (by simp)]
 show wpAny _ _ (setNext a z i ep >>= _) _ _ s
 refine wpAny_bind (hn _ _ _ ?_)
 dsimp only
 refine wpAny_bind (wpAny_setField hi di (by simp) (zjc hh fun e h' hk ty=>?_))
 refine wpAny_bind (wpAny_isInstance (T:="StopIteration") (b:=true) ty isSubtype_stop (wpAny_pure (hQ _ fun b o hb e=>hk b o ?_)))
 exact (Heap.get?_update_other _ _ (Ne.symm hb)).trans e
theorem zmx {x:Value} {p:Addr} {pl:List Nat} {k:Nat} {hx:Int} (hs:IsSet s.heap a es ep t) (fit:t.fits es.size=true) (hit:IsIt s.heap I a es.size ep i (.ref p)) (hp:s.heap.IsTuple p (pl.map fun i=>rawInt (i:Nat)).toArray)
  (hk:pl[i]?=some k) (he:es[k]?=some (hx,x)) (hQ:∀ h',IsIt h' I a es.size ep (i + 1) (.ref p)->Heap.SameBut I s.heap h'->Q (some x) { s with heap:=h' }):wpAny (model prog w) A (pyNext (.ref I)) Q E s:=by
 obtain⟨oi,hi,ci,di⟩:=id hit
 obtain⟨o,ho,_,od⟩:=hs
 obtain⟨ol,hol,_,nl,hdl⟩:=hp
 unfold pyNext
 refine wpAny_bind (wpAny_attempt (wpAny_callSpecial?_slot (name:=Str.ofString "__next__") ⟨oi,hi,ci⟩ sl_next (wpAny_call_entry sl_next ⟨oi,hi,ci⟩ zgl ?_ (zgu _))))
 show wpAny _ _ (fieldsOf (.ref I) >>= _) _ _ s
 refine wpAny_bind (wpAny_fieldsOf hi di ?_)
 show wpAny _ _ (setEntries a >>= _) _ _ s
 refine wpAny_bind (wpAny_setEntries_of ho od fit ?_)
 dsimp only
 rw[if_neg (by simp)]
 show wpAny _ _ (seqItems? (.ref p) >>= _) _ _ s
 refine wpAny_bind (wpAny_seqItems hol hdl ?_)
 have ek:(pl.map fun i=>rawInt (i:Nat)).toArray[i]?=some (.int k 0):=by rw[List.getElem?_toArray,List.getElem?_map,hk];rfl
 simp only [Int.toNat_natCast,ek]
 show wpAny _ _ (setNextDrawn a k ep >>= _) _ _ s
 refine wpAny_bind ?_
 unfold setNextDrawn
 refine wpAny_bind (wpAny_setState_of ho od fit ?_)
 dsimp only
 rw[if_neg (by simp),he]
 refine wpAny_pure (wpAny_bind (wpAny_setField hi di (by simp) (wpAny_pure ⟨x,rfl,wpAny_pure (hQ _ hit.set1 (Heap.SameBut.update ..))⟩)))
theorem zok {p:Addr} {pl:List Nat} (hh:A.handled=none) (hs:IsSet s.heap a es ep t) (fit:t.fits es.size=true) (hit:IsIt s.heap I a es.size ep i (.ref p)) (hp:s.heap.IsTuple p (pl.map fun i=>rawInt (i:Nat)).toArray)
  (hk:pl[i]?=none) (hQ:∀ h',(∀ b o,b≠I->s.heap.get? b=some o->h'.get? b=some o)->Q none { s with heap:=h' }):wpAny (model prog w) A (pyNext (.ref I)) Q E s:=by
 obtain⟨oi,hi,ci,di⟩:=id hit
 obtain⟨o,ho,_,od⟩:=hs
 obtain⟨ol,hol,_,nl,hdl⟩:=hp
 unfold pyNext
 refine wpAny_bind (wpAny_attempt (wpAny_callSpecial?_slot (name:=Str.ofString "__next__") ⟨oi,hi,ci⟩ sl_next (wpAny_call_entry sl_next ⟨oi,hi,ci⟩ zgl ?_ (zgu _))))
 show wpAny _ _ (fieldsOf (.ref I) >>= _) _ _ s
 refine wpAny_bind (wpAny_fieldsOf hi di ?_)
 show wpAny _ _ (setEntries a >>= _) _ _ s
 refine wpAny_bind (wpAny_setEntries_of ho od fit ?_)
 dsimp only
 rw[if_neg (by simp)]
 show wpAny _ _ (seqItems? (.ref p) >>= _) _ _ s
 refine wpAny_bind (wpAny_seqItems hol hdl ?_)
 have ek:(pl.map fun i=>rawInt (i:Nat)).toArray[i]?=none:=by rw[List.getElem?_toArray,List.getElem?_map,hk];rfl
 simp only [Int.toNat_natCast,ek]
 refine wpAny_bind (wpAny_setField hi di (by simp) ?_)
 obtain⟨o1,hi1,ci1,di1⟩:=id (hit.set0 (rawInt 0))
 refine wpAny_bind (wpAny_setField hi1 di1 (by simp) (zjc hh fun e h' hk ty=>?_))
 refine wpAny_bind (wpAny_isInstance (T:="StopIteration") (b:=true) ty isSubtype_stop (wpAny_pure (hQ _ fun b o hb e=>hk b o ?_)))
 exact (Heap.get?_update_other _ _ (Ne.symm hb)).trans ((Heap.get?_update_other _ _ (Ne.symm hb)).trans e)
end
end
end Stb
namespace Stb
open PySem PyProof.Rows
theorem zkw:Slot "set_iterator" "__iter__" "set_iterator.__iter__":=.of (owner:="set_iterator") (n:="__iter__") (by rw[typeLookup_type,builtinLookup_eq_fast];kernel_rfl) (by decide +kernel) (by decide +kernel) (by decide +kernel) (by first | exact .inl (by decide +kernel) | exact .inr (by decide +kernel)) (by rw[isSubtype_type];kernel_rfl)
theorem znl:entryFor table "set_iterator.__iter__"=some Builtin.«dict_keyiterator.__iter__»:=entryFor_alias (id':="dict_keyiterator.__iter__") (by kernel_rfl) (by first | rfl | decide +kernel | (unfold String.splitOn;simp +decide [String.splitOnAux])) (by decide +kernel) (by kernel_rfl)
theorem zpj (a:Value):argsOk "set_iterator.__iter__" ⟨[a],[]⟩:=by
 unfold argsOk;rw[signature?_of (id:="set_iterator.__iter__") (n:=['_','_','r','e','t','i','_','_']) (o:=['r','o','t','a','r','e','t','i','_','t','e','s']) (by kernel_rfl) zk8];kernel_rfl
section
variable {prog:Program} {w:World} {A:Around} {E:Value->Shared->Prop} {s:Shared} {a I:Addr} {es:Array (Int × Value)} {ep:Nat} {t:SetTable}
theorem zls {Q:Value->Shared->Prop} {n i:Nat} {f:Value} (hit:IsIt s.heap I a n ep i f) (h:Q (.ref I) s):wpAny (model prog w) A (pyIter (.ref I)) Q E s:=by
 obtain⟨oi,hi,ci,di⟩:=id hit
 refine wpAny_pyIter_slot ⟨oi,hi,ci⟩ zkw (wpAny_call_entry zkw ⟨oi,hi,ci⟩ znl ?_ (zpj _))
 show wpAny _ _ (ret (.ref I)) _ _ s
 exact wpAny_pure ⟨_,rfl,"set_iterator",_,⟨oi,hi,ci⟩,sl_next.lookup,h⟩
def fpK (I a:Addr):Knd->List Addr
 | .drawn p _=>[I,a,p]
 | _=>[I,a]
def StK (w:World) (a I:Addr) (es:Array (Int × Value)) (ep:Nat) (t:SetTable) (ord:List (Int × Value)) (kd:Knd) (i:Nat) (h:Heap):Prop :=
 IsSet h a es ep t∧∃ first,IsIt h I a es.size ep i first∧First w a es ep t ord i h first kd
theorem zqn (I a:Addr):∀ kd,I ∈ fpK I a kd∧a ∈ fpK I a kd
 | .text=>by simp [fpK]
 | .drawn _ _=>by simp [fpK]
 | .places=>by simp [fpK]
theorem zml {ord:List (Int × Value)} {kd:Knd} (hh:A.handled=none) (aI:a≠I) (fit:t.fits es.size=true) (ti:TI (ledOf w) t) (hpI:∀ p pl,kd=.drawn p pl->p≠I) (pm:ord.Perm es.toList) :
  Walks prog w A I (fpK I a kd) [I] ord.length (fun i v=>∃ e,ord[i]?=some e∧v=e.2) (StK w a I es ep t ord kd) where
 sub:=fun b hb=>by simp at hb;rw[hb];exact (zqn I a kd).1
 frame:=fun i h h' st hk=>by
  obtain⟨⟨o,ho,r⟩,f,⟨oi,hi,ri⟩,fk⟩:=st
  refine⟨⟨o,hk a (zqn I a kd).2 o ho,r⟩,f,⟨oi,hk I (zqn I a kd).1 oi hi,ri⟩,?_⟩
  cases kd with
  | text=>exact fk
  | places=>exact fk
  | drawn p pl =>
   obtain⟨e,⟨op,hp,rp⟩,rest⟩:=fk
   exact⟨e,⟨op,hk p (by simp [fpK]) op hp,rp⟩,rest⟩
 self:=fun i s Q E st hQ=>by
  obtain⟨_,f,hit,_⟩:=st
  exact zls hit hQ
 item:=fun i s Q E hi st hQ=>by
  obtain⟨hs,f,hit,fk⟩:=st
  have hsK:∀ h',Heap.SameBut I s.heap h'->IsSet h' a es ep t:=fun h' sb=>by
   obtain⟨o,ho,r⟩:=hs
   exact⟨o,sb.extBut a o aI ho,r⟩
  have kp:∀ h',Heap.SameBut I s.heap h'->∀ b o,b ∉ [I]->s.heap.get? b=some o->h'.get? b=some o:=fun h' sb b o hb e=>sb.extBut b o (fun z=>hb (by simp [z])) e
  have oi:ord[i]?=some ord[i]:=List.getElem?_eq_getElem hi
  cases kd with
  | text =>
   obtain⟨hl,eo,z,rfl⟩:=fk
   have ei:(pickOrder (w.params.setOrder a ep) es)[i]?=some ord[i]:=by rw[← Array.getElem?_toList,← eo];exact oi
   refine zjs (x:=ord[i].2) (nx:=z) hs fit hit (fun A' Q' E' q=>zg4 hs fit hl ?_) fun h' hit' sb=>hQ _ h' s.toks ⟨_,oi,rfl⟩ ⟨hsK h' sb,_,hit',hl,eo,z,rfl⟩ (kp h' sb)
   rw[ei];exact q
  | places =>
   obtain⟨hl,hp,eo,z,rfl,eb⟩:=fk
   have ei:es[i]?=some ord[i]:=by rw[← Array.getElem?_toList,← eo];exact oi
   have szp:t.place.size=es.size:=by
    simp only [SetTable.fits,Bool.and_eq_true,beq_iff_eq] at fit
    exact fit.1
   have il:i < t.place.size:=by rw[szp];exact (Array.getElem?_eq_some_iff.mp ei).1
   have ep':t.place[i]?=some t.place[i]:=Array.getElem?_eq_getElem il
   refine zjs (x:=ord[i].2) (nx:=t.place[i] + 1) hs fit hit (fun A' Q' E' q=>zev hs fit ti hl hp ?_) fun h' hit' sb=>hQ _ h' s.toks ⟨_,oi,rfl⟩ ⟨hsK h' sb,_,hit',hl,hp,eo,_,rfl,zkm _ ti.1 ep'⟩ (kp h' sb)
   rw[eb,ei,ep'];exact q
  | drawn p pl =>
   obtain⟨rfl,hp,el,hj⟩:=fk
   have il:i < pl.length:=el ▸ hi
   obtain⟨e,ek,eo⟩:=hj i _ (List.getElem?_eq_getElem il)
   obtain⟨hx,x⟩:=e
   refine zmx (x:=x) hs fit hit hp (List.getElem?_eq_getElem il) ek fun h' hit' sb=>hQ _ h' s.toks ⟨_,eo,rfl⟩ ⟨hsK h' sb,_,hit',rfl,?_,el,hj⟩ (kp h' sb)
   obtain⟨op,hop,rp⟩:=hp
   exact⟨op,sb.extBut p op (hpI p pl rfl) hop,rp⟩
 done:=fun s Q E st hQ=>by
  obtain⟨hs,f,hit,fk⟩:=st
  have lo:ord.length=es.size:=by rw[pm.length_eq,Array.length_toList]
  have kp:∀ h':Heap,(∀ b o,b≠I->s.heap.get? b=some o->h'.get? b=some o)->∀ b o,b ∉ [I]->s.heap.get? b=some o->h'.get? b=some o:=fun h' k b o hb e=>k b o (fun z=>hb (by simp [z])) e
  cases kd with
  | text =>
   obtain⟨hl,eo,z,rfl⟩:=fk
   refine zlx hh hs fit hit (fun A' Q' E' q=>zg4 hs fit hl ?_) fun h' k=>hQ h' s.toks (kp h' k)
   have:(pickOrder (w.params.setOrder a ep) es)[ord.length]?=none:=by rw[← Array.getElem?_toList,← eo,List.getElem?_eq_none (Nat.le_refl _)]
   rw[this];exact q
  | places =>
   obtain⟨hl,hp,eo,z,rfl,eb⟩:=fk
   refine zlx hh hs fit hit (fun A' Q' E' q=>zev hs fit ti hl hp ?_) fun h' k=>hQ h' s.toks (kp h' k)
   have:es[ord.length]?=none:=by rw[lo];simp
   rw[eb,this];exact q
  | drawn p pl =>
   obtain⟨rfl,hp,el,hj⟩:=fk
   exact zok hh hs fit hit hp (by rw[el,List.getElem?_eq_none (Nat.le_refl _)]) fun h' k=>hQ h' s.toks (kp h' k)
end
end Stb
namespace Stb
open PySem PyProof.Rows
section
variable {prog:Program} {w:World} {A:Around} {E:Value->Shared->Prop} {s:Shared} {a:Addr} {es:Array (Int × Value)} {ep:Nat} {t:SetTable}
theorem zm8 {Q:Bool->Shared->Prop} (hs:IsSet s.heap a es ep t) (fit:t.fits es.size=true) (h:Q (ledOf w && (!t.plain && decide (es.size > 1))) s):wpAny (model prog w) A (setDrawn a) Q E s:=by
 obtain⟨o,ho,_,od⟩:=hs
 unfold setDrawn setsByText
 refine wpAny_bind (wpAny_setState_of ho od fit ?_)
 exact wpAny_bind (wpAny_bind (wpAny_askSetting (wpAny_pure (wpAny_pure h))))
theorem zm7 {Q:Value->Shared->Prop} (hs:IsSet s.heap a es ep t) (fit:t.fits es.size=true) (ti:TI (ledOf w) t) (small:es.size≤4096)
  (h:∀ (I:Addr) (h':Heap) (d':Drawn) (ord:List (Int × Value)) (kd:Knd),(∀ b o,s.heap.get? b=some o->h'.get? b=some o)->s.heap.objs.size≤I->(∀ p pl,kd=.drawn p pl->p≠I∧s.heap.objs.size≤p)->ord.Perm es.toList->StK w a I es ep t ord kd 0 h' ->
   Q (.ref I) { s with heap:=h',drawn:=d' }):wpAny (model prog w) A (pyIter (.ref a)) Q E s:=by
 obtain⟨o,ho,oc,od⟩:=id hs
 refine wpAny_pyIter_slot ⟨o,ho,oc⟩ PySem.F.slot_set_iter (wpAny_call_entry PySem.F.slot_set_iter ⟨o,ho,oc⟩ zpc ?_ (PySem.F.args_set_iter_1 _))
 unfold Builtin.«frozenset.__iter__» Builtin.Frozenset.sizeOf
 show wpAny _ _ ((setEntries a >>= fun x=>pure x.size) >>= _) _ _ s
 refine wpAny_bind (wpAny_bind (wpAny_setEntries_of ho od fit (wpAny_pure (wpAny_bind (zm8 hs fit ?_)))))
 have lastT : ∀ (h1 : Heap) (first : Value) (d' : Drawn) (ord : List (Int × Value)) (kd : Knd), (∀ b o, s.heap.get? b = some o → h1.get? b = some o) → s.heap.objs.size ≤ h1.objs.size → (∀ p pl, kd = .drawn p pl → p < h1.objs.size ∧ s.heap.objs.size ≤ p) → ord.Perm es.toList → (∀ h', (∀ b o, h1.get? b = some o → h'.get? b = some o) → First w a es ep t ord 0 h' first kd) →
     wpAny (model prog w) A.in1 (setEpoch a >>= fun e=>newFields "set_iterator" [first,rawInt 0,.ref a,rawInt es.size,rawInt e] >>= fun v=>ret v) (fun fin s'=>∃ v,fin=.done (.ret v)∧∃ T' r,s'.TypeIs v T'∧typeLookup (.type T') (Str.ofString "__next__")=pure (some r)∧Q v s') E { s with heap:=h1,drawn:=d' }:=fun h1 first d' ord kd hk sz hp pm hf=>by
  refine wpAny_bind (wpAny_setEpoch_of (hk a o ho) od fit (wpAny_bind (wpAny_newObj_type (wpAny_pure ⟨_,rfl,"set_iterator",_,⟨_,Heap.get?_push_size _ rfl,rfl⟩,sl_next.lookup,?_⟩))))
  exact h _ _ d' ord kd (fun b o e=>Heap.get?_push_of_some _ (hk b o e)) sz (fun p pl e=>⟨Nat.ne_of_lt (hp p pl e).1,(hp p pl e).2⟩) pm ⟨⟨o,Heap.get?_push_of_some _ (hk a o ho),oc,od⟩,first,⟨_,Heap.get?_push_size _ rfl,rfl,rfl⟩,hf _ fun b o e=>Heap.get?_push_of_some _ e⟩
 dsimp only
 have es0:s={ s with heap:=s.heap,drawn:=s.drawn }:=by cases s;rfl
 by_cases c:(ledOf w && (!t.plain && decide (es.size > 1)))=true
 ·rw[if_pos c]
  refine wpAny_bind (zgv _ _ _ _ (by simp) fun ys d' pm=>?_)
  have yl:ys.length=es.size:=by rw[pm.length_eq,List.length_range]
  have line:es.size≤sizeLine:=by rw[sizeLine_eq];trivial
  refine wpAny_bind (wpAny_newObj_type ?_ (by show (ys.map fun i=>rawInt (i:Nat)).toArray.size≤sizeLine;simpa [yl] using line))
  have ordE:∀ k ∈ ys,∃ e,es[k]?=some e:=fun k hk=>by
   have:k < es.size:=by simpa using pm.mem_iff.mp hk
   exact⟨_,Array.getElem?_eq_getElem this⟩
  have fm:∀ l:List Nat,(∀ k ∈ l,∃ e,es[k]?=some e)->(l.filterMap (es[·]?)).length=l.length∧∀ j k:Nat,l[j]?=some k->∃ e,es[k]?=some e∧(l.filterMap (es[·]?))[j]?=some e:=fun l=>by
   induction l with
   | nil=>exact fun _=>⟨rfl,fun j k e=>by simp at e⟩
   | cons x l ih =>
    intro hx
    obtain⟨e,he⟩:=hx x (by simp)
    obtain⟨h1,h2⟩:=ih fun k hk=>hx k (List.mem_cons_of_mem _ hk)
    rw[List.filterMap_cons_some (b:=e) he]
    refine⟨by simp [h1],fun j k ej=>?_⟩
    cases j with
    | zero=>simp at ej;subst ej;exact⟨e,he,rfl⟩
    | succ j=>simp only [List.getElem?_cons_succ] at ej ⊢;exact h2 j k ej
  obtain⟨f1,f2⟩:=fm ys ordE
  refine lastT _ (.ref s.heap.objs.size) d' (ys.filterMap (es[·]?)) (.drawn s.heap.objs.size ys) (fun b o e=>Heap.get?_push_of_some _ e) (by rw[Heap.size_push];exact Nat.le_succ _) (fun p pl e=>by cases e;rw[Heap.size_push];exact⟨Nat.lt_succ_self _,Nat.le_refl _⟩) ?_ fun h' k=>⟨rfl,⟨_,k _ _ (Heap.get?_push_size _ rfl),rfl,_,rfl⟩,f1,f2⟩
  exact (pm.filterMap _).trans (by rw[filterMap_getElem?_range])
 ·rw[if_neg c]
  refine wpAny_bind (wpAny_pure ?_)
  cases cl:ledOf w with
  | false =>
   rw[es0]
   exact lastT s.heap (rawInt 0) s.drawn _ .text (fun _ _ e=>e) (Nat.le_refl _) (fun p pl e=>nomatch e) (zk3 _ es) fun h' k=>⟨cl,rfl,0,rfl⟩
  | true =>
   rw[es0]
   refine lastT s.heap (rawInt 0) s.drawn es.toList .places (fun _ _ e=>e) (Nat.le_refl _) (fun p pl e=>nomatch e) (.refl _) fun h' k=>⟨cl,?_,rfl,0,rfl,zkl _ ti.1⟩
   rw[cl] at c
   cases pl:t.plain with
   | true=>exact .inl rfl
   | false=>rw[pl] at c;exact .inr (by simpa using c)
theorem znb {Q:Bool->Shared->Prop} (hT:s.TypeIs (.ref a) "set") (h:Q false s):wpAny (model prog w) A (Builtin.List.listLengthHint (.ref a)) Q E s:=by
 unfold Builtin.List.listLengthHint
 refine wpAny_bind (wpAny_specialOf hT PySem.F.slot_set_len.lookup ?_)
 generalize hid:("set.__len__":String)=id0
 wp_delta
 rw[show splitId id0=some ("set","__len__") from by subst hid;decide +kernel]
 subst hid
 refine wpAny_bind (wpAny_isInstance (T:="set") (b:=true) hT (by rw[isSubtype_type];kernel_rfl) (wpAny_ite_split (fun z=>absurd z (by decide)) fun _=>?_))
 refine wpAny_ite_split (fun _=>wpAny_bind (wpAny_typeOf hT (wpAny_pure h))) (fun z=>absurd (by decide +kernel) z)
theorem zgj:∀ l:List (Int × Value),ElemsOf (intKind prog w) l->∃ ks,IntsAre (l.map (·.2)) ks∧ks.length=l.length∧∀ k,k ∈ ks↔∃ e ∈ l,(intKind prog w).is k e.2=true
 | [],_=>⟨[],.nil,rfl,fun k=>by simp⟩
 | e::l,h=>by
  obtain⟨ks,h1,h2,h3⟩:=zgj l h.tail
  obtain⟨⟨k,hk,_⟩,_⟩:=h.head
  obtain⟨hx,x⟩:=e
  obtain⟨u,rfl⟩:=Value.isInt_shape hk
  refine⟨k::ks,.cons k u h1,by simp [h2],fun y=>?_⟩
  rw[List.mem_cons,h3 y]
  constructor
  ·rintro (rfl | ⟨e,he,q⟩)
   ·exact⟨_,List.mem_cons_self,hk⟩
   ·exact⟨e,List.mem_cons_of_mem _ he,q⟩
  ·rintro ⟨e,he,q⟩
   rcases List.mem_cons.mp he with rfl | he
   ·exact .inl ((intKind prog w).inj _ _ _ q hk)
   ·exact .inr ⟨e,he,q⟩
theorem zo6 {ord:List (Int × Value)} {acc:Array Value} (h:ItemsOf (fun i v=>∃ e,ord[i]?=some e∧v=e.2) acc ord.length):acc.toList=ord.map (·.2):=by
 refine List.ext_getElem (by simp [h.1]) fun i h1 h2=>?_
 have hi:i < acc.size:=by simpa using h1
 obtain⟨e,e1,e2⟩:=h.2 i _ (Array.getElem?_eq_getElem hi)
 have hi2:i < ord.length:=by simpa using h2
 rw[List.getElem?_eq_getElem hi2] at e1
 cases e1
 simpa using e2
theorem ziu {Q:List Value->Shared->Prop} {S:Int->Bool} {n:Nat} (hh:A.handled=none) (st:SetT prog w s.heap a S n)
  (hQ:∀ (h':Heap) (tk:Nat) (d':Drawn) (vs:List Value) (ks:List Int),(∀ b o,s.heap.get? b=some o->h'.get? b=some o)->IntsAre vs ks->ks.length=n->(∀ k,S k=true↔k ∈ ks)->Q vs { s with heap:=h',toks:=tk,drawn:=d' }) :
  wpAny (model prog w) A (collect (.ref a)) Q E s:=by
 obtain⟨⟨o,es,ep,t,ho,ox,od,el,me,small,fit,en⟩,o',es',ep',t',ho',od',ti⟩:=st
 rw[ho] at ho';cases ho'
 rw[od] at od';cases od'
 unfold collect
 refine wpAny_bind (wpAny_runValue (codeAny_builtin PySem.F.entry_proto_collect ?_))
 rw[Around.under_plainId PySem.F.plain_proto_collect _]
 show wpAny _ A.in1 (newList [] >>= fun l=>again (.builtin "list.__iadd__" ⟨[l,.ref a],[]⟩)) _ _ s
 refine wpAny_bind (wpAny_newObj_type ?_)
 refine wpAny_pure ⟨plainId_quiet PySem.F.plain_list_iadd _,codeAny_builtin PySem.F.entry_list_iadd ?_⟩
 rw[Around.under_plainId PySem.F.plain_list_iadd _]
 show wpAny _ A.in1 (Builtin.List.listExtendWith (.ref s.heap.objs.size) (.ref a) (.ref s.heap.objs.size)) _ _ _
 have alt:a < s.heap.objs.size:=Heap.lt_size ho
 have hS:(s.heap.push { cls:=.type "list",data:=.seq ([]:List Value).toArray }).get? s.heap.objs.size=some { cls:=.type "list",data:=.seq #[] }:=Heap.get?_push_size _ rfl
 have szL:(s.heap.push { cls:=.type "list",data:=.seq ([]:List Value).toArray }).objs.size=s.heap.objs.size + 1:=Heap.size_push ..
 unfold Builtin.List.listExtendWith
 have tS:Shared.TypeIs { s with heap:=s.heap.push { cls:=.type "list",data:=.seq ([]:List Value).toArray } } (.ref a) "set":=⟨o,Heap.get?_push_of_some _ ho,ox.1⟩
 refine wpAny_bind (wpAny_typeOf (T:="set") tS ?_)
 have h1:Builtin.List.listSameRef (.ref s.heap.objs.size) (.ref a)=false:=by simp only [Builtin.List.listSameRef,beq_eq_false_iff_ne];exact Nat.ne_of_gt alt
 have h2:(Value.type "set" == Value.type "list")=false:=by decide
 have h3:(Value.type "set" == Value.type "tuple")=false:=by decide
 simp only [h1,h2,h3,Bool.or_false,Bool.false_eq_true,if_false]
 refine wpAny_bind (zm7 (t:=t) ⟨o,Heap.get?_push_of_some _ ho,ox.1,od⟩ fit ti (Nat.le_of_lt small) fun I h1 d1 ord kd hk lI hp pm stk=>?_)
 refine wpAny_bind (wpAny_holding (znb ⟨o,hk a o (Heap.get?_push_of_some _ ho),ox.1⟩ ?_))
 refine wpAny_ite_split (fun _=>?_) (fun z=>absurd (by decide) z)
 refine wpAny_bind (wpAny_rule ?_)
 refine wpAny_bind ?_
 show wpAny _ _ (updateSeq s.heap.objs.size (·.push .none) >>= fun _=>updateSeq s.heap.objs.size (·.pop)) _ _ _
 have g1:=hk _ _ hS
 refine wpAny_bind (wpAny_updateSeq g1 rfl ?_)
 have g2:=Heap.get?_update_self (Obj.mapSeq (·.push Value.none)) g1 rfl
 refine wpAny_updateSeq (hz:=by seq_fits) g2 rfl ?_
 have g3:=Heap.get?_update_self (Obj.mapSeq (·.pop)) g2 rfl
 have neI:s.heap.objs.size≠I:=Nat.ne_of_lt (Nat.lt_of_lt_of_le (by rw[szL];exact Nat.lt_succ_self _) lI)
 have nfp:s.heap.objs.size ∉ fpK I a kd:=by
  cases kd with
  | text=>simp only [fpK,List.mem_cons,List.not_mem_nil,or_false,not_or];exact⟨neI,Nat.ne_of_gt alt⟩
  | places=>simp only [fpK,List.mem_cons,List.not_mem_nil,or_false,not_or];exact⟨neI,Nat.ne_of_gt alt⟩
  | drawn p pl =>
   simp only [fpK,List.mem_cons,List.not_mem_nil,or_false,not_or]
   exact⟨neI,Nat.ne_of_gt alt,Nat.ne_of_lt (Nat.lt_of_lt_of_le (by rw[szL];exact Nat.lt_succ_self _) (hp p pl rfl).2)⟩
 have aI:a≠I:=Nat.ne_of_lt (Nat.lt_of_lt_of_le (by rw[szL];exact Nat.lt_succ_of_lt alt) lI)
 have W:=zml (prog:=prog) (w:=w) (A:=A.in1) (ep:=ep) (ord:=ord) (kd:=kd) hh aI fit ti (fun p pl e=>(hp p pl e).1) pm
 have kU:∀ b o,b≠s.heap.objs.size->h1.get? b=some o->((h1.update s.heap.objs.size (Obj.mapSeq (·.push Value.none))).update s.heap.objs.size (Obj.mapSeq (·.pop))).get? b=some o:=fun b o hb e =>
  (Heap.get?_update_other _ _ (Ne.symm hb)).trans ((Heap.get?_update_other _ _ (Ne.symm hb)).trans e)
 have st1:=W.frame 0 _ _ stk fun b hb o e=>kU b o (fun z=>nfp (z ▸ hb)) e
 have lo:ord.length=n:=by rw[pm.length_eq,Array.length_toList,en]
 refine wpAny_pure ⟨plainId_quiet PySem.F.plain_extend_loop _,codeAny_extend_loopS W.toS (by rw[lo,← en];exact fits_of_scanBound small) s.heap.objs.size nfp _ ord.length 0 _ #[] _ rfl (Nat.zero_le _) st1 g3 (ItemsOf.nil _) fun s' acc' c' hm hS' hacc=>?_⟩
 rw[Moved.eq_with hm]
 refine wpAny_bind (wpAny_load hS' (wpAny_pure ?_))
 obtain⟨ks,i1,i2,i3⟩:=zgj (prog:=prog) (w:=w) ord (el.perm pm)
 rw[zo6 hacc]
 refine hQ _ _ _ _ ks (fun b o e=>hm.heap b o ?_ (kU b o (Nat.ne_of_lt (Heap.lt_size e)) (hk b o (Heap.get?_push_of_some _ e)))) i1 (i2.trans lo) fun k=>(me k).trans ?_
 ·simp only [List.mem_cons,List.not_mem_nil,or_false,not_or]
  have:=Heap.lt_size e
  exact⟨Nat.ne_of_lt this,Nat.ne_of_lt (Nat.lt_of_lt_of_le (by rw[szL];exact Nat.lt_succ_of_lt this) lI)⟩
 ·rw[i3 k]
  exact⟨fun ⟨e,he,q⟩=>⟨e,pm.mem_iff.mpr he,q⟩,fun ⟨e,he,q⟩=>⟨e,pm.mem_iff.mp he,q⟩⟩
end
end Stb
namespace Srt
open PySem PySem.Spec PyProof.Rows PySem.W
section
variable {prog:Program} {w:World} {A:Around} {E:Value->Shared->Prop} {s:Shared}
theorem zh8 {x:Value} {Q:Value->Shared->Prop} {Good:List Value->Shared->Prop}
  (hcol:∀ (A':Around) (E':Value->Shared->Prop) (Q':List Value->Shared->Prop),A'.handled=A.handled->(∀ vs s',Good vs s'->Q' vs s')->wpAny (model prog w) A' (collect x) Q' E' s)
  (hg:∀ vs s1,Good vs s1->∃ (r:Nat->Int) (κ:SortKind),vs.length < 64∧(2≤vs.length->∀ (A':Around) (s':Shared) (Q:SortKind->Shared->Prop),Q κ s'->wpAny (model prog w) A' (keyKind' vs.toArray) Q (fun _ _=>False) s') ∧
   (∀ (A':Around) (s':Shared) (i j:Nat) (C:Bool->Shared->Prop),i < vs.length->j < vs.length->C (decide (r i < r j)) s'->kas_ask prog w A' κ vs i j C s') ∧
   ∀ (p:Array Nat) (h':Heap) (c:Nat),Gd vs.length p->Up r p vs.length->(∀ b o,s1.heap.get? b=some o->h'.get? b=some o)->h'.get? s1.heap.objs.size=some (seqObj "list" (outOf vs p).toArray c)->Q (.ref s1.heap.objs.size) { s1 with heap:=h' }) :
  wpAny (model prog w) A (call (.builtin "sorted") [x]) Q E s:=by
 have line:(64:Nat)≤sizeLine:=by rw[sizeLine_eq];decide
 refine Calls.call_function_entry kind_sorted plain_sorted entry_sorted (args_sorted1 _) ?_
 unfold Builtin.«sorted»
 refine wpAny_bind (m:=checkCount "sorted" 1 1 _) (wpAny_pure (wpAny_bind (hcol _ _ _ rfl fun vs s1 g=>?_)))
 obtain⟨r,κ,h64,hk,hc,h⟩:=hg vs s1 g
 refine wpAny_bind (wpAny_newList ?_ (by trivial))
 have hoL:(s1.heap.push { cls:=.type "list",data:=.seq vs.toArray }).get? s1.heap.objs.size=some (seqObj "list" vs.toArray 0):=Heap.get?_push_size _ rfl
 have ne2:∀ b o,s1.heap.get? b=some o->b≠s1.heap.objs.size:=fun b o q=>Nat.ne_of_lt (Heap.lt_size q)
 show wpAny _ _ _ _ _ { s1 with heap:=s1.heap.push { cls:=.type "list",data:=.seq vs.toArray } }
 refine wpAny_bind (wpAny_holding (wpAny_call_entry slot_list_sort ⟨_,hoL,rfl⟩ entry_list_sort ?_ (args_list_sort _)))
 refine lsort (s:={ s1 with heap:=s1.heap.push { cls:=.type "list",data:=.seq vs.toArray } }) (r:=r) (κ:=κ) hoL h64 (fun h2 s' Q' st q=>hk h2 _ s' Q' q) (fun s' i j C st hi hj q=>hc _ s' i j C hi hj q) fun p h' c g1 u1 st e=>⟨_,rfl,?_⟩
 exact wpAny_pure ⟨_,rfl,h p h' c g1 u1 (fun b o q=>st b o (ne2 b o q) (Heap.get?_push_of_some _ q)) e⟩
end
end Srt
namespace L3
open PySem PySem.Spec PyProof.Rows L2
def SetO (P:Program) (w:World) (a:Addr) (S:Int->Bool) (n:Nat):HO:=.ext fun h=>Stb.SetT P w h a S n
section
variable {X:Cx}
theorem zmb (hh:X.calm=true):CallR X (.type "set") (fun xs H Q=>∃ (p:Addr) (ns:List Int),xs=[.ref p]∧H p=some (.tup (ns.map V.int))∧ns.length≤1000∧∀ q H',Same H H'->H q=none->H' q=some (SetO X.prog X.w q (HT.setS ns ns.length) (HT.setN ns ns.length))->Q (.ref q) H'):=by
 intro pins s σ H xs us Q I r h
 obtain⟨p,ns,rfl,hp,hl,q⟩:=h
 obtain⟨u,rfl,rx⟩:=vals1 r
 cases rx
 obtain⟨its,rv,pt,hz⟩:=I.tuple (SqT.of hp)
 have hlen:=rv.length
 rw[List.length_map] at hlen
 have fr:H s.heap.objs.size=none:=I.hok.fresh (Nat.le_refl _)
 have esz:its.toArray.size=ns.length:=by rw[List.size_toArray,← hlen]
 refine Stb.zp4 (ns:=ns) (I.ok.hd hh) (show s.heap.IsTuple p its.toArray from pt) (by simpa using zbm rv) (by rw[esz];unfold scanBound;trivial) fun h' tk hS hk=>?_
 rw[esz] at hS
 refine⟨.ref s.heap.objs.size,_,I.laid (a:=s.heap.objs.size) (o:=SetO X.prog X.w s.heap.objs.size (HT.setS ns ns.length) (HT.setN ns ns.length)) (t':=tk) (fun b o e=>hk b o (Heap.lt_size e) e) (Nat.le_refl _) ⟨hS,?_,fun h1 h2 x k=>x.keep k⟩,rfl,q _ _ (zam fr) fr zae⟩
 obtain⟨⟨o,_,_,_,ho,_⟩,_⟩:=hS
 exact⟨o,ho⟩
theorem zhi (hh:X.calm=true):CallR X (.builtin "sorted") (fun xs H Q=>∃ (p:Addr) (S:Int->Bool) (n:Nat),xs=[.ref p]∧H p=some (SetO X.prog X.w p S n)∧n < 64∧∀ ms:List Int,ms.length=n->(∀ k,S k=true↔k ∈ ms)->ms.Pairwise (·≤·)->∀ l H',Same H H'->H l=none->H' l=some (.lst (ms.map V.int))->Q (.ref l) H'):=by
 intro pins s σ H xs us Q I r h
 obtain⟨p,S,n,rfl,hp,h64,q⟩:=h
 obtain⟨u,rfl,rx⟩:=vals1 r
 cases rx
 have hS:Stb.SetT X.prog X.w s.heap p S n:=(show ObjOk X.prog X.w H s.heap p (SetO X.prog X.w p S n) from I.hok p _ hp).1
 refine Srt.zh8 (Good:=fun vs s1=>∃ (h1:Heap) (tk:Nat) (d':Drawn) (ns:List Int),s1={ s with heap:=h1,toks:=tk,drawn:=d' }∧(∀ b o,s.heap.get? b=some o->h1.get? b=some o)∧IntsAre vs ns∧ns.length=n∧∀ k,S k=true↔k ∈ ns)
  (fun A' E' Q' eh hQ=>Stb.ziu (eh.trans (I.ok.hd hh)) hS fun h1 tk d' vs ns hk hI hl hm=>hQ vs _ ⟨h1,tk,d',ns,rfl,hk,hI,hl,hm⟩) fun its s1 g=>?_
 obtain⟨gg,tk,d',ns,rfl,kg,hI,hn,hm⟩:=g
 have hl:its.length=ns.length:=by
  clear hn hm
  induction hI with
  | nil=>rfl
  | cons n t _ ih=>simp [ih]
 refine⟨fun i=>ns.getD i 0,oneType',by trivial,fun h2 A' s' Q' q'=>Srt.zjr hI h2 q',fun A' s' i j C hi hj q'=>Srt.zly hI hi hj q',fun pp h' c g u kp e=>?_⟩
 have g':Srt.Gd ns.length pp:=by rw[← hl];exact g
 have u':Srt.Up (fun i=>ns.getD i 0) pp ns.length:=by rw[← hl];exact u
 have pm:(pp.toList.map fun i=>ns.getD i 0).Perm ns:=by
  have:=zio g' fun i=>ns.getD i 0
  rw[zbk] at this
  exact this
 have pw:(pp.toList.map fun i=>ns.getD i 0).Pairwise (·≤·):=by
  rw[List.pairwise_map]
  exact zh6 g' u' fun i j _ _ z=>z
 have I1:Inv X pins σ H { s with heap:=gg,toks:=tk,drawn:=d' }:=by
  have:=I.kept (t':=tk) kg
  exact⟨this.ok,this.os,this.bare,this.base,this.loc,this.cell,this.free,this.freeC,this.pin,this.hok,this.len⟩
 have fr:H gg.objs.size=none:=I1.hok.fresh (Nat.le_refl _)
 have ev:((pp.toList.map fun i=>ns.getD i 0).map V.int)=pp.toList.map fun i=>(ns.map V.int).getD i .non:=by
  rw[List.map_map]
  refine List.map_congr_left fun i hi=>?_
  have:=zfx g' i hi
  simp [List.getD,this]
 have rv:Vals (ns.map V.int) its:=by
  clear hn hm g' u' pm pw ev hl g u e kp
  induction hI with
  | nil=>exact .nil
  | cons n t _ ih=>exact .cons ⟨t,rfl⟩ ih
 refine⟨.ref gg.objs.size,_,I1.laid (a:=gg.objs.size) (o:=.lst ((pp.toList.map fun i=>ns.getD i 0).map V.int)) (t':=tk) kp (Nat.le_refl _) ⟨?_,Srt.outOf its pp,c,?_,e⟩,rfl,q _ (pm.length_eq.trans hn) (fun k=>(hm k).trans pm.mem_iff.symm) pw _ _ (zam fr) fr zae⟩
 ·have:=pm.length_eq
  have line:(64:Nat)≤sizeLine:=by rw[sizeLine_eq];decide
  rw[List.length_map,this];trivial
 ·rw[ev]
  exact zef rv pp.toList fun i hi=>by rw[List.length_map];exact zfx g' i hi
end
end L3
namespace L3
open PySem PySem.Spec PyProof.Rows L2
theorem zbq (val:Nat->Int):∀ i,(firstMet val i).Nodup∧∀ k,k ∈ firstMet val i↔k ∈ (List.range i).map val
 | 0=>⟨by rw[firstMet_zero];exact List.nodup_nil,fun k=>by rw[firstMet_zero];simp⟩
 | i + 1=>by
  obtain⟨h1,h2⟩:=zbq val i
  rw[firstMet_succ,List.range_succ,List.map_append]
  unfold step_dedup
  by_cases c:(firstMet val i).any (fun y=>y == val i)=true
  ·rw[if_pos c]
   obtain⟨y,hy,e⟩:=List.any_eq_true.mp c
   have e':y=val i:=by simpa using e
   refine⟨h1,fun k=>?_⟩
   rw[h2 k,List.mem_append]
   refine⟨.inl,fun z=>z.elim id fun z=>?_⟩
   have:k=val i:=by simpa using z
   rw[this,← e',← h2 y];exact hy
  ·rw[if_neg c]
   refine⟨List.nodup_append.mpr ⟨h1,by simp,fun a ha b hb e=>c (List.any_eq_true.mpr ⟨a,ha,?_⟩)⟩,fun k=>by rw[List.mem_append,List.mem_append,h2 k];simp⟩
   have:b=val i:=by simpa using hb
   simp [e,this]
theorem zc4:∀ {l m:List Int},l.Nodup->(∀ x ∈ l,x ∈ m)->m.length≤l.length->m.Perm l
 | [],m,_,_,h=>by
  have:m=[]:=List.length_eq_zero_iff.mp (by simpa using h)
  rw[this]
 | x::l,m,nd,sub,h=>by
  have hx:=sub x List.mem_cons_self
  obtain⟨nx,nl⟩:=List.nodup_cons.mp nd
  have pe:=List.perm_cons_erase hx
  refine pe.trans (List.Perm.cons x (zc4 nl (fun y hy=>?_) ?_))
  ·exact (List.mem_erase_of_ne fun e=>nx (by rw[← e];exact hy)).mpr (sub y (List.mem_cons_of_mem _ hy))
  ·rw[List.length_erase_of_mem hx];simp at h;trivial
theorem zjg (ns:List Int) (k:Int):HT.setS ns ns.length k=true↔k ∈ ns:=by
 have:=(zbq (fun i=>ns.getD i 0) ns.length).2 k
 rw[zbk] at this
 rw[← this]
 unfold HT.setS
 rw[List.any_eq_true]
 exact⟨fun ⟨y,hy,e⟩=>by rw[← show y=k by simpa using e];exact hy,fun h=>⟨k,h,by simp⟩⟩
theorem zj5 {l m:List Int} (p:l.Perm m) (hl:l.Pairwise (·≤·)) (hm:m.Pairwise (·≤·)):l=m :=
 p.eq_of_pairwise (fun a b _ _ h1 h2=>Int.le_antisymm h1 h2) hl hm
theorem zje {ns ms:List Int} (hl:ms.length=HT.setN ns ns.length) (hm:∀ k,HT.setS ns ns.length k=true↔k ∈ ms):ms.Nodup∧∀ k,k ∈ ms↔k ∈ ns:=by
 obtain⟨n1,n2⟩:=zbq (fun i=>ns.getD i 0) ns.length
 rw[zbk] at n2
 have pm:=zc4 (m:=ms) n1 (fun x hx=>(hm x).mp ((zjg ns x).mpr ((n2 x).mp hx))) (Nat.le_of_eq hl)
 exact⟨pm.nodup_iff.mpr n1,fun k=>(hm k).symm.trans (zjg ns k)⟩
theorem zmu {ns ms os:List Int} (hl:ms.length=HT.setN ns ns.length) (hm:∀ k,HT.setS ns ns.length k=true↔k ∈ ms) (pw:ms.Pairwise (·≤·)) (po:os.Perm ns) (wo:os.Pairwise (·≤·)):ms=os↔ns.Nodup:=by
 obtain⟨h1,h2⟩:=zje hl hm
 constructor
 ·intro e
  exact po.nodup_iff.mp (e ▸ h1)
 ·intro nd
  refine zj5 ?_ pw wo
  refine (zc4 (m:=ms) nd (fun x hx=>(h2 x).mpr hx) ?_).trans po.symm
  rw[hl,(zb8 ns).mpr nd];exact Nat.le_refl _
def alongO (ts:List Tie) (ws:List Nat):List V:=(List.range (ws.length - 1)).map fun i=>oa (tbN ts (ws.getD i 0) (ws.getD (i + 1) 0))
inductive spAlongO_i (K:PySem.W.Frag) (vs:List V) (H:Hp) (Q:VK):Prop
 | mk:∀ (n:Int) (ts:List Tie) (wv:V) (t:Addr) (ws:List Nat),(vs=[wv,.ref t])->(Is K H (webD n ts) wv)->(ts.length≤60)->(H t=some (.tup (natV ws)))->(ws.length≤40)->(∀ l H',Same H H'->H' l=some (.lst (alongO ts ws))->Q (.ref l) H')->spAlongO_i K vs H Q
def spAlongO (K:PySem.W.Frag):Sp:=fun vs H Q _=>spAlongO_i K vs H Q
end L3
namespace L3
open PySem PySem.Spec PyProof.Rows L2
end L3
namespace L3
open PySem PySem.Spec PyProof.Rows L2
theorem zpn {n:Int} {ts:List Tie} (ok:WebOk n ts) {u v j k:Nat} (hj:j < ts.length) (hk:k < ts.length) (h1:isTB ts u v j=true) (h2:isTB ts u v k=true):j=k:=by
 unfold isTB at h1 h2
 obtain⟨a1,b1⟩:=(Bool.and_eq_true _ _).mp h1
 obtain⟨a2,b2⟩:=(Bool.and_eq_true _ _).mp h2
 have ea:(tieAt ts j).1=(tieAt ts k).1:=(of_decide_eq_true a1).trans (of_decide_eq_true a2).symm
 have eb:(tieAt ts j).2.1=(tieAt ts k).2.1:=(of_decide_eq_true b1).trans (of_decide_eq_true b2).symm
 clear a1 a2 b1 b2 h1 h2
 have pw:=List.pairwise_iff_getElem.mp ok.rise
 have g:∀ {i:Nat} (hi:i < ts.length),ts[i]=tieAt ts i:=fun {i} hi=>by
  have:=(za7 hi).1
  rw[List.getElem?_eq_getElem hi] at this
  exact Option.some.inj this
 rcases Nat.lt_trichotomy j k with z | z | z
 ·have q:=pw j k hj hk z
  rw[g hj,g hk] at q
  unfold endLt at q
  trivial
 ·exact z
 ·have q:=pw k j hk hj z
  rw[g hj,g hk] at q
  unfold endLt at q
  trivial
end L3
namespace L3
open PySem PySem.Spec PyProof.Rows L2
section
variable {g:TG} {tt:TT} {te:TE} {own:List Str} {js:List Nat} {σ:L2.St} {H1:Hp} {Q:VK}
end
def RowV (lo hi:Nat) (J:Hp) (v:V):Prop:=∃ (p:Addr) (ns:List Int),v=.ref p∧J p=some (.tup (ns.map V.int))∧lo≤ns.length∧ns.length≤hi
theorem RowV.tk {lo hi:Nat} {J J':Hp} {v:V} (k:TupKeep J J') (h:RowV lo hi J v):RowV lo hi J' v:=let ⟨p,ns,e,e1,r⟩:=h;⟨p,ns,e,k _ _ e1,r⟩
end L3
namespace L3
open PySem PySem.Spec PyProof.Rows L2
end L3
namespace L3
open PySem PySem.Spec PyProof.Rows L2
end L3
namespace Peel
abbrev T2:=Nat × Nat
def hit (gone:List Nat) (p:Nat) (t:T2):Bool:=(t.1 == p && !gone.contains t.2) || (t.2 == p && !gone.contains t.1)
def deg (ts:List T2) (gone:List Nat) (p:Nat):Nat:=ts.countP (hit gone p)
def may (ts:List T2) (d:Int) (gone:List Nat) (p:Nat):Bool:=!gone.contains p && decide ((deg ts gone p:Int)≤d)
def next (n:Nat) (ts:List T2) (d:Int) (gone:List Nat):Option Nat:=(List.range n).find? (may ts d gone)
def run (n:Nat) (ts:List T2) (d:Int):Nat->List Nat->List Nat
 | 0,g=>g
 | f + 1,g=>match next n ts d g with
  | none=>g
  | some p=>run n ts d f (g++[p])
section
variable {n:Nat} {ts:List T2} {d:Int} {g:List Nat} {p:Nat}
def Good (n:Nat) (g:List Nat):Prop:=g.Nodup∧∀ p ∈ g,p < n
theorem zey:∀ (n:Nat) (g:List Nat),g.Nodup->(∀ p ∈ g,p < n)->g.length≤n
 | 0,[],_,_=>Nat.le_refl _
 | 0,p::_,_,h=>absurd (h p List.mem_cons_self) (Nat.not_lt_zero _)
 | n + 1,g,nd,h=>by
  have h1:=zey n (g.filter fun p=>p != n) (nd.filter _) fun p hp=>by
   have:=List.mem_filter.mp hp
   have a:=h p this.1
   have b:p≠n:=by simpa using this.2
   trivial
  have e:g.length=(g.filter fun p=>p != n).length + g.countP (fun p=>p == n):=by
   rw[← List.countP_eq_length_filter]
   have:=List.length_eq_countP_add_countP (fun p=>p == n) (l:=g)
   have e2:g.countP (fun p=>decide ¬(p == n)=true)=g.countP fun p=>p != n:=List.countP_congr fun x _=>by simp
   rw[e2] at this
   trivial
  have c:g.countP (fun p=>p == n)≤1:=by
   have:=List.nodup_iff_count.mp nd n
   exact this
  trivial
def gone (n:Nat) (ts:List T2) (d:Int):List Nat:=run n ts d n []
end
end Peel
namespace L3
open PySem PySem.Spec PyProof.Rows L2
section
variable {g:TG} {tt:TT} {te:TE} {own:List Str} {js:List Nat} {σ:L2.St} {H1:Hp} {Q:VK}
end
end L3
namespace Lr
open Far (chn zcw zcq zgo zjz RingOf)
section
variable {R:Nat->Nat->Prop}
structure Rg (R:Nat->Nat->Prop) (h:Nat) (tl:List Nat):Prop where
 len:2≤tl.length
 nd:(h::tl).Nodup
 ch:chn R (h::tl++[h])
def Cano (h:Nat) (tl:List Nat):Prop:=(∀ v ∈ tl,h < v)∧∃ x m y,tl=x::(m++[y])∧x < y
def stepW (rows:Nat->List Nat) (w:List Nat):List (List Nat):=((rows (w.getLast?.getD 0)).filter fun o=>decide (w.headD 0 < o) && !decide (o ∈ w)).map fun o=>w++[o]
def ways (rows:Nat->List Nat) (n:Nat):Nat->List (List Nat)
 | 0=>(List.range n).map fun v=>[v]
 | s + 1=>(ways rows n s).flatMap (stepW rows)
structure PW (R:Nat->Nat->Prop) (n:Nat) (w:List Nat):Prop where
 ne:w≠[]
 nd:w.Nodup
 ch:chn R w
 lt:∀ v ∈ w,v < n
 up:∀ h t,w=h::t->∀ v ∈ t,h < v
section
variable {rows:Nat->List Nat} {n:Nat}
end
end
end Lr
namespace Lr
open Far (chn zcw zcq zgo zjz RingOf)
def lle:List Nat->List Nat->Prop
 | [],_=>True
 | _::_,[]=>False
 | a::l,b::m=>a < b∨(a=b∧lle l m)
section
variable {R:Nat->Nat->Prop}
structure Sh (R:Nat->Nat->Prop) (z v:Nat) (l:List Nat):Prop where
 ch:chn R (v::l)
 last:(v::l).getLast?=some z
 min:∀ l',chn R (v::l')->(v::l').getLast?=some z->l.length≤l'.length
def Ds (R:Nat->Nat->Prop) (z:Nat) (D:Nat->Option Nat):Prop:=∀ v,(∀ m,D v=some m->∃ l,chn R (v::l)∧(v::l).getLast?=some z∧l.length=m)∧∀ l,chn R (v::l)->(v::l).getLast?=some z->∃ m,D v=some m∧m≤l.length
def Rm (R:Nat->Nat->Prop) (a b u v:Nat):Prop:=R u v∧¬ (u=a∧v=b)∧¬ (u=b∧v=a)
end
end Lr
namespace Lr
open Far (chn zcw zcq zgo zjz RingOf)
structure Ties (R:Nat->Nat->Prop) (ks:List Nat) (ends:Nat->Nat × Nat):Prop where
 sy:∀ u v,R u v->R v u
 of:∀ k ∈ ks,(ends k).1 < (ends k).2∧R (ends k).1 (ends k).2
 to:∀ u v,R u v->u < v->∃ k ∈ ks,ends k=(u,v)
 up:∀ k ∈ ks,∀ j ∈ ks,k≤j->(ends k).1 < (ends j).1∨((ends k).1=(ends j).1∧(ends k).2≤(ends j).2)
section
variable {R:Nat->Nat->Prop} {ks:List Nat} {ends:Nat->Nat × Nat}
end
section
variable {R:Nat->Nat->Prop} {rows:Nat->List Nat} {n:Nat}
end
end Lr
namespace L3
open PySem PySem.Spec PyProof.Rows L2
section
variable {own:List Str} {js:List Nat} {g:TG} {te:TE} {σ:L2.St} {Q:VK} {H1:Hp}
end
structure Bes (H:Hp) (l:Addr) (as:List Addr) (rows:Nat->List V):Prop where
 top:H l=some (.lst (as.map V.ref))
 nd:as.Nodup
 own:l ∉ as
 row:∀ i a,as[i]?=some a->H a=some (.lst (rows i))
def Uniq (ts:List Tie) (ks:List Nat) (j m:Nat):Prop:=∃ cs:List Nat,cs.Nodup∧cs.length=m∧∀ c ∈ cs,∃ k ∈ ks,∃ l,(j,c,l) ∈ arcs2 (tieAt ts k)
section
variable {X:Cx}
end
end L3
namespace L3
open PySem PySem.Spec PyProof.Rows L2
def Adj (ts:List Tie) (ks:List Nat) (u v:Nat):Prop:=∃ k ∈ ks,(u,v,(tieAt ts k).2.2) ∈ arcs2 (tieAt ts k)
def en (ts:List Tie) (k:Nat):Nat × Nat:=((tieAt ts k).1.toNat,(tieAt ts k).2.1.toNat)
section
variable {n:Int} {ts:List Tie} {ks:List Nat} {u v k:Nat}
end
def IsLR (ts:List Tie) (ks:List Nat) (h:Nat) (tl:List Nat):Prop:=Lr.Rg (Adj ts ks) h tl∧Lr.Cano h tl∧(∀ h' tl',Lr.Rg (Adj ts ks) h' tl'->tl.length≤tl'.length)∧∀ h' tl',Lr.Rg (Adj ts ks) h' tl'->Lr.Cano h' tl'->tl'.length=tl.length->Lr.lle (h::tl) (h'::tl')
end L3
namespace L3
open PySem PySem.Spec PyProof.Rows L2
section
variable {J:It} {g:TG} {tt:TT} {te:TE} {own:List Str} {js:List Nat} {σ:L2.St} {H1:Hp} {Q:VK}
end
end L3
namespace Stb
open PySem PyProof.Rows
section
variable {prog:Program} {w:World} {A:Around} {E:Value->Shared->Prop} {s:Shared}
end
end Stb
namespace L3
open PySem PySem.Spec PyProof.Rows L2
section
variable {X:Cx}
end
end L3
namespace Far
variable {A:List (Nat × Nat × Int)} {s:Nat}
def Unit1 (A:List (Nat × Nat × Int)):Prop:=∀ u v l,(u,v,l) ∈ A->l=1
def AtK (A:List (Nat × Nat × Int)) (s k v:Nat):Prop:=Walk A s v (k:Int)∧∀ x,Walk A s v x->(k:Int)≤x
structure Bfs (A:List (Nat × Nat × Int)) (s i:Nat) (D:Nat->Option Nat) (ring:List Nat):Prop where
 found:∀ v d,D v=some d↔AtK A s d v∧d < i
 ring:∀ v,v ∈ ring↔AtK A s i v
end Far
namespace L3
open PySem PySem.Spec PyProof.Rows L2
theorem zmv {ns:List Int} {m:Nat} (h:∀ x ∈ ns,0≤x∧x < m):HT.setN ns ns.length≤m:=by
 obtain⟨h1,h2⟩:=zbq (fun i=>ns.getD i 0) ns.length
 rw[L3.zbk ns 0] at h2
 have e:(firstMet (fun i=>ns.getD i 0) ns.length).length=((firstMet (fun i=>ns.getD i 0) ns.length).map Int.toNat).length:=(List.length_map _).symm
 show (firstMet (fun i=>ns.getD i 0) ns.length).length≤m
 rw[e]
 refine Peel.zey m _ ?_ fun p hp=>?_
 ·rw[List.Nodup,List.pairwise_map]
  refine List.Pairwise.imp_of_mem ?_ h1
  intro a b ha hb ne z
  have:=h a ((h2 a).mp ha)
  have:=h b ((h2 b).mp hb)
  exact ne (by trivial)
 ·obtain⟨x,hx,rfl⟩:=List.mem_map.mp hp
  have:=h x ((h2 x).mp hx)
  trivial
theorem zng {K:PySem.W.Frag} {t1 t2:Bool} {l1 l2:Addr} {xs zs:List V} {g:TG} {tb:TS} {D:Ends} {σ:L2.St} {H:Hp} (Pv:Nat->L2.St->Hp->Prop) (h0:Pv 0 σ H) (hl:∀ i σ H,Pv i σ H->SqX t1 K H l1 xs∧SqX t2 K H l2 zs)
  (hs:∀ i x z T σ H,xs[i]?=some x->zs[i]?=some z->H T=none->Pv i σ H->g (.ref T) σ (upd H T (.tup [x,z])) fun σ2 H2=>tb { D with nx:=Pv (i + 1),ct:=Pv (i + 1),bk:=D.nx } σ2 H2) (hd:∀ σ H,Pv (min xs.length zs.length) σ H->D.nx σ H) :
  ∃ W:Nat->Nat->L2.St->Hp->Prop,(∃ m,W 0 m σ H)∧∀ i m σ H,W i m σ H ->
   ((Itz t1 t2 K l1 l2).stop i H∧D.nx σ H)∨((Itz t1 t2 K l1 l2).go i H∧∃ N:L2.St->Hp->Prop,(∀ σ' H',N σ' H'->∃ m',m' < m∧W (i + 1) m' σ' H')∧∀ x H',(Itz t1 t2 K l1 l2).yld i H x H'->g x σ H' fun σ2 H2=>tb { D with nx:=N,ct:=N,bk:=D.nx } σ2 H2):=by
 refine⟨fun i m σ H=>m=xs.length - i∧i≤min xs.length zs.length∧Pv i σ H,⟨xs.length,by simp,Nat.zero_le _,h0⟩,?_⟩
 rintro i m σ H ⟨rfl,hi,p⟩
 obtain⟨q1,q2⟩:=hl i σ H p
 by_cases hlt:i < xs.length∧i < zs.length
 ·have e1:xs[i]?=some xs[i]:=List.getElem?_eq_getElem hlt.1
  have e2:zs[i]?=some zs[i]:=List.getElem?_eq_getElem hlt.2
  refine .inr ⟨⟨xs,zs,_,_,q1,q2,e1,e2⟩,Pv (i + 1),fun σ' H' p'=>⟨xs.length - (i + 1),by trivial,rfl,by trivial,p'⟩,fun x H' y=>?_⟩
  obtain⟨T,x',y',hT,rfl,rfl,a1,a2⟩:=y
  have b1:=a1 _ q1
  have b2:=a2 _ q2
  exact hs i x' y' T σ H b1 b2 hT p
 ·have e:i=min xs.length zs.length:=by trivial
  exact .inl ⟨⟨xs,zs,q1,q2,by trivial⟩,hd σ H (e ▸ p)⟩
section
variable {n g:Int} {ts:List Tie} {ks:List Nat} {k:Nat}
end
def tupH (hs:List Int):PyData:=.tuple (hs.map .int)
def papD (pp:List (List Int)):PyData:=.tuple (pp.map tupH)
theorem zn0 {K:PySem.W.Frag} {H:Hp} {pp:List (List Int)} {ws:List V} (h:IsAll K H (pp.map tupH) ws):ws.length=pp.length∧∀ (i:Nat) (hs:List Int) (v:V),pp[i]?=some hs->ws[i]?=some v->∃ p,v=.ref p∧H p=some (.tup (hs.map V.int)):=by
 refine⟨by rw[h.length,List.length_map],fun i hs v e1 e2=>?_⟩
 obtain⟨v',e3,x⟩:=h.at_ (i:=i) (d:=tupH hs) (by rw[List.getElem?_map,e1];rfl)
 rw[e2] at e3
 cases e3
 obtain⟨p,us,rfl,e,q⟩:=x
 exact⟨p,rfl,by rw[e,q.of_ints]⟩
end L3
namespace L3
open PySem PySem.Spec PyProof.Rows L2
section
variable {P:Program} {w:World} {K:PySem.W.Frag} {mg:Str->Option Value} {base:Heap}
end
end L3
namespace L3
open PySem PySem.Spec PyProof.Rows L2
section
variable {X:Cx} {pins:List (Addr × Obj)} {σ:L2.St} {A:Around} {E:Value->Shared->Prop}
def KeyV (H:Hp) (v:V) (k:List Int):Prop:=∃ t,v=.ref t∧H t=some (.tup (k.map V.int))
abbrev still (a:Addr) (e1:Nat):HO:=.ext fun h=>h.get? a=some (seqObj "list" #[] e1)
end
end L3
namespace L3
open PySem PySem.Spec PyProof.Rows L2
section
variable {X:Cx} {pins:List (Addr × Obj)} {σ:L2.St} {H:Hp} {s:Shared}
def Tb (Pt:Addr) (lpos:Pos) (qual:Str) (H:Hp):Prop:=∃ ps,H Pt=some (.tbl ps)∧(ps=#[]∨∃ c',ps=#[rawInt lpos.line,rawInt lpos.col,.ref c']∧H c'=some (.ext fun h=>h.CodeRec (.ref c') qual))
def Tf (Pt:Addr) (lpos:Pos) (qual:Str) (H:Hp):Prop:=∃ c',H Pt=some (.tbl #[rawInt lpos.line,rawInt lpos.col,.ref c'])∧H c'=some (.ext fun h=>h.CodeRec (.ref c') qual)
end
end L3
namespace L3
open PySem PySem.Spec PyProof.Rows L2
section
variable {P:Program} {w:World} {K:PySem.W.Frag} {mg:Str->Option Value} {base:Heap} {x:Str} {ps N:List Str} {sp:Sp} {k:Nat} {st:Stmt} {c:Addr}
end
def okey (ts:List Tie) (k:Nat):List Int:=[(tieAt ts k).2.2,(k:Int)]
def OrdOk (ts:List Tie) (os:List Nat):Prop:=os.Perm (List.range ts.length)∧os.Pairwise fun a b=>Srt.lexI (okey ts b) (okey ts a)=false
end L3
namespace L3
open PySem PySem.Spec PyProof.Rows L2
section
variable {K:PySem.W.Frag} {h:Heap} {mg:Str->Option Value} {x:Str} {st:Stmt} {ps:List Str} {f c Pt:Addr} {od an odc:Option Addr} {sl slc:Array (Option Value)} {oc occ kV dc pm cd ct:Value} {us:Array Value} {fd:FuncData}
end
end L3
namespace Frs
abbrev T2:=Nat × Nat
inductive Cn (E:List T2) (u:Nat):Nat->Prop
 | nil:Cn E u u
 | snoc {v w:Nat}:Cn E u v->((v,w) ∈ E∨(w,v) ∈ E)->Cn E u w
section
variable {E F:List T2} {u v w a b:Nat}
theorem Cn.app (h:Cn E u v) (k:Cn E v w):Cn E u w:=by
 induction k with
 | nil=>exact h
 | snoc _ m ih=>exact .snoc ih m
theorem Cn.back (h:Cn E u v):Cn E v u:=by
 induction h with
 | nil=>exact .nil
 | snoc _ m ih=>exact (Cn.snoc .nil m.symm).app ih
theorem Cn.more (h:Cn E u v) (k:∀ t ∈ E,t ∈ F):Cn F u v:=by
 induction h with
 | nil=>exact .nil
 | snoc _ m ih=>exact .snoc ih (m.imp (k _) (k _))
theorem Cn.one (m:(a,b) ∈ E):Cn E a b:=.snoc .nil (.inl m)
theorem zl8:Cn (E++[(a,b)]) u v↔Cn E u v∨(Cn E u a∧Cn E b v)∨(Cn E u b∧Cn E a v):=by
 have up:∀ {x y},Cn E x y->Cn (E++[(a,b)]) x y:=fun h=>h.more fun t m=>List.mem_append_left _ m
 have ab:Cn (E++[(a,b)]) a b:=.one (List.mem_append_right _ List.mem_cons_self)
 constructor
 ·intro h
  induction h with
  | nil=>exact .inl .nil
  | @snoc v w _ m ih =>
   have split:((v,w) ∈ E∨(w,v) ∈ E)∨(v=a∧w=b)∨(v=b∧w=a):=by
    rcases m with m | m
    ·rcases List.mem_append.mp m with m | m
     ·exact .inl (.inl m)
     ·have:=List.mem_singleton.mp m;cases this;exact .inr (.inl ⟨rfl,rfl⟩)
    ·rcases List.mem_append.mp m with m | m
     ·exact .inl (.inr m)
     ·have:=List.mem_singleton.mp m;cases this;exact .inr (.inr ⟨rfl,rfl⟩)
   rcases split with m | ⟨rfl,rfl⟩ | ⟨rfl,rfl⟩
   ·rcases ih with h | ⟨h1,h2⟩ | ⟨h1,h2⟩
    ·exact .inl (.snoc h m)
    ·exact .inr (.inl ⟨h1,.snoc h2 m⟩)
    ·exact .inr (.inr ⟨h1,.snoc h2 m⟩)
   ·rcases ih with h | ⟨h1,h2⟩ | ⟨h1,h2⟩
    ·exact .inr (.inl ⟨h,.nil⟩)
    ·exact .inr (.inl ⟨h1,.nil⟩)
    ·exact .inl h1
   ·rcases ih with h | ⟨h1,h2⟩ | ⟨h1,h2⟩
    ·exact .inr (.inr ⟨h,.nil⟩)
    ·exact .inl h1
    ·exact .inr (.inr ⟨h1,.nil⟩)
 ·rintro (h | ⟨h1,h2⟩ | ⟨h1,h2⟩)
  ·exact up h
  ·exact (up h1).app (ab.app (up h2))
  ·exact (up h1).app (ab.back.app (up h2))
end
def Mk (n:Nat) (E:List T2) (M:List Nat):Prop:=M.length=n∧∀ u v,u < n->v < n->(M.getD u 0=M.getD v 0↔Cn E u v)
def join (M:List Nat) (p q:Nat):List Nat:=M.map fun m=>if m=q then p else m
theorem join_at {M:List Nat} {p q u:Nat} (h:u < M.length):(join M p q).getD u 0=if M.getD u 0=q then p else M.getD u 0:=by
 unfold join
 rw[List.getD_eq_getElem?_getD,List.getElem?_map,List.getD_eq_getElem?_getD,List.getElem?_eq_getElem h];rfl
section
variable {n:Nat} {E:List T2} {M:List Nat} {a b:Nat}
theorem Mk.first:Mk n [] (List.range n):=by
 refine⟨List.length_range,fun u v hu hv=>?_⟩
 have e:∀ {x},x < n->(List.range n).getD x 0=x:=fun h=>by rw[List.getD_eq_getElem?_getD,List.getElem?_range h];rfl
 rw[e hu,e hv]
 constructor
 ·rintro rfl;exact .nil
 ·intro h
  cases h with
  | nil=>rfl
  | snoc _ m=>rcases m with m | m <;> cases m
theorem Mk.same (h:Mk n E M) (ha:a < n) (hb:b < n) (e:M.getD a 0=M.getD b 0):Mk n (E++[(a,b)]) M:=by
 refine⟨h.1,fun u v hu hv=>(h.2 u v hu hv).trans ?_⟩
 rw[zl8]
 have ab:=(h.2 a b ha hb).mp e
 exact⟨.inl,fun z=>z.elim id fun z=>z.elim (fun z=>z.1.app (ab.app z.2)) fun z=>z.1.app (ab.back.app z.2)⟩
theorem Mk.join (h:Mk n E M) (ha:a < n) (hb:b < n) (ne:M.getD a 0≠M.getD b 0):Mk n (E++[(a,b)]) (join M (M.getD a 0) (M.getD b 0)):=by
 refine⟨by unfold Frs.join;rw[List.length_map];exact h.1,fun u v hu hv=>?_⟩
 rw[join_at (by rw[h.1];exact hu),join_at (by rw[h.1];exact hv),zl8,← h.2 u v hu hv,← h.2 u a hu ha,← h.2 b v hb hv,← h.2 u b hu hb,← h.2 a v ha hv]
 by_cases c1:M.getD u 0=M.getD b 0 <;> by_cases c2:M.getD v 0=M.getD b 0
 ·rw[if_pos c1,if_pos c2]
  exact⟨fun _=>.inl (c1.trans c2.symm),fun _=>rfl⟩
 ·rw[if_pos c1,if_neg c2]
  constructor
  ·intro z;exact .inr (.inr ⟨c1,z⟩)
  ·rintro (z | ⟨_,z⟩ | ⟨_,z⟩)
   ·exact absurd (z.symm.trans c1) c2
   ·exact absurd z.symm c2
   ·exact z
 ·rw[if_neg c1,if_pos c2]
  constructor
  ·intro z;exact .inr (.inl ⟨z,c2.symm⟩)
  ·rintro (z | ⟨z,_⟩ | ⟨z,_⟩)
   ·exact absurd (z.trans c2) c1
   ·exact z
   ·exact absurd z c1
 ·rw[if_neg c1,if_neg c2]
  constructor
  ·exact .inl
  ·rintro (z | ⟨_,z⟩ | ⟨z,_⟩)
   ·exact z
   ·exact absurd z.symm c2
   ·exact absurd z c1
end
end Frs
namespace L3
open PySem PySem.Spec PyProof.Rows L2
theorem zqu {n:Int} {t:Tie} (tk:0≤t.1∧t.1 < t.2.1∧t.2.1 < n∧1≤t.2.2∧t.2.2≤10 ^ 18):t.1.toNat < n.toNat:=by trivial
theorem zqt {n:Int} {t:Tie} (tk:0≤t.1∧t.1 < t.2.1∧t.2.1 < n∧1≤t.2.2∧t.2.2≤10 ^ 18):t.2.1.toNat < n.toNat:=by trivial
theorem zqv {n:Int} {t:Tie} (tk:0≤t.1∧t.1 < t.2.1∧t.2.1 < n∧1≤t.2.2∧t.2.2≤10 ^ 18):0≤t.2.1:=Int.le_of_lt (Int.lt_of_le_of_lt tk.1 tk.2.1)
def t2 (ts:List Tie) (k:Nat):Frs.T2:=((tieAt ts k).1.toNat,(tieAt ts k).2.1.toNat)
noncomputable def cnB (ts:List Tie) (ks:List Nat) (k:Nat):Bool:=@decide (Frs.Cn (ks.map (t2 ts)) (t2 ts k).1 (t2 ts k).2) (Classical.propDecidable _)
theorem cnB_iff {ts:List Tie} {ks:List Nat} {k:Nat}:cnB ts ks k=true↔Frs.Cn (ks.map (t2 ts)) (t2 ts k).1 (t2 ts k).2:=by unfold cnB;exact @decide_eq_true_iff _ (Classical.propDecidable _)
noncomputable def rgN (ts:List Tie) (done:List Nat):List Nat->List Nat
 | []=>[]
 | k::r=>if cnB ts done k=true then rgN ts (done++[k]) r else k::rgN ts (done++[k]) r
inductive spRingless_i (K:PySem.W.Frag) (vs:List V) (H:Hp) (Q:VK):Prop
 | mk:∀ n ts os wv (o:Addr),(vs=[wv,.ref o])->(Is K H (webD n ts) wv)->(WebOk n ts)->((∀ k ∈ os,k < ts.length))->(os.length≤60)->(H o=some (.tup (natV os)))->(∀ l H',Same H H'->H l=none->H' l=some (.lst (natV (rgN ts [] os)))->Q (.ref l) H')->spRingless_i K vs H Q
def spRingless (K:PySem.W.Frag):Sp:=fun vs H Q _=>spRingless_i K vs H Q
end L3
namespace L3
open PySem PySem.Spec PyProof.Rows L2
def ahd (ts:List Tie) (j k:Nat):Prop:=Srt.lexI (okey ts j) (okey ts k)=true
end L3
namespace HT
open PySem PyProof.Rows
def lexGe:List Int->List Int->Bool
 | _,[]=>true
 | [],_::_=>false
 | x::xs,y::ys=>if x=y then lexGe xs ys else decide (y≤x)
theorem zkf (x y:Int) (xs ys:List Int):lexGe (x::xs) (y::ys)=if x=y then lexGe xs ys else decide (y≤x):=rfl
theorem zgh:lexGe [] []=true:=rfl
theorem zfh (y:Int) (ys:List Int):lexGe [] (y::ys)=false:=rfl
theorem zfi (x:Int) (xs:List Int):lexGe (x::xs) []=true:=rfl
theorem zmz (A:Around) (s:Shared) (a:Int) (t:Tok) (c:Int) (u:Tok) (prog:Program) (w:World) (E:Value->Shared->Prop) (Q:Value->Shared->Prop) (h:Q (.bool (decide (c≤a))) s) :
  wpAny (model prog w) A (richCompare .GtE (.int a t) (.int c u)) Q E s :=
 (PyProof.Rows.ge_int h:wpAny (model prog w) A (compareOp .GtE (.int a t) (.int c u)) Q E s)
section
open PySem.SeqAt
open PySem.AutoSeq1 (wpAny_loadPart')
open PySem.MeetsSeq PySem.MeetsSeq2 PySem.MeetsSeq3
theorem zf3 (l b:Addr) (its jts:Array Value) (n n2:Nat) (dd dd2:Option Addr) (sl sl2:Array (Option Value)) (ns ms:List Int) (hi:IntsAre its.toList ns) (hj:IntsAre jts.toList ms) :
  Meets (Builtin.«tuple.__ge__» ⟨[.ref l,.ref b],[]⟩)
   (fun _ R s=>s.heap.get? l=some { cls:=.type "tuple",dict:=dd,data:=.seq its n,slots:=sl }∧s.heap.get? b=some { cls:=.type "tuple",dict:=dd2,data:=.seq jts n2,slots:=sl2 } ∧
    R (.ok (.ret (.bool (lexGe ns ms)))) s) :=
 .of_wp fun prog w A R s h=>by
  obtain⟨p0,g,d,tk,os⟩:=s;obtain⟨hl,hb,h⟩:=h
  have f2:=AutoSeq1.sub_tuple_tuple
  have z1:its.size=ns.length:=by rw[← hi.length];simp
  have z2:jts.size=ms.length:=by rw[← hj.length];simp
  wp_walk using wpAny_loadPart' hl,wpAny_loadPart' hb,wpAny_forIn_list _ (fun rest b s'=>b.1=none∧s'=⟨p0,g,d,tk,os⟩∧∃ (vs ws:List Value) (ns1 ms1:List Int),rest=vs.zip ws ∧
   IntsAre vs ns1∧IntsAre ws ms1∧ns1.length + jts.size=ms1.length + its.size∧R (.ok (.ret (.bool (lexGe ns1 ms1)))) ⟨p0,g,d,tk,os⟩) _
  case turn =>
   rintro ⟨y,x⟩ rest b s' ⟨hb',rfl,vs,ws,ns1,ms1,hq,hva,hwa,hn,hr⟩
   cases hva with
   | nil=>rw[List.zip_nil_left] at hq;cases hq
   | cons a t hv2 =>
    cases hwa with
    | nil=>rw[List.zip_nil_right] at hq;cases hq
    | cons c u hw2 =>
     rw[List.zip_cons_cons] at hq
     injection hq with hab hre
     injection hab with hy hx
     subst hy hx
     rw[zkf] at hr
     simp only [List.length_cons] at hn
     obtain⟨e,he,hie⟩:=zjt A.in1 ⟨p0,g,d,tk,os⟩ a t c u
     refine wpAny_bind (he prog w _ _ ?_)
     cases e with
     | true =>
      rw[if_pos (hie.mp rfl)] at hr
      wp_walk
      exact⟨rfl,rfl,_,_,_,_,hre,hv2,hw2,by trivial,hr⟩
     | false =>
      rw[if_neg (fun q=>absurd (hie.mpr q) Bool.false_ne_true)] at hr
      have hrc:=zmz A.in1 ⟨p0,g,d,tk,os⟩ a t c u prog w
      wp_walk using hrc
      exact⟨_,rfl,by simpa using hr⟩
  case fin =>
   rintro ⟨b1,b2⟩ s' ⟨hb',rfl,vs,ws,ns1,ms1,hq,hva,hwa,hn,hr⟩
   simp only at hb'
   subst hb'
   have hv:lexGe ns1 ms1=decide (its.size ≥ jts.size):=by
    cases hva with
    | nil =>
     cases hwa with
     | nil =>
      simp only [List.length_nil] at hn
      rw[zgh]
      exact (decide_eq_true (by trivial)).symm
     | cons c u hw =>
      simp only [List.length_nil,List.length_cons] at hn
      rw[zfh]
      exact (decide_eq_false (by trivial)).symm
    | cons a t hv =>
     cases hwa with
     | nil =>
      simp only [List.length_nil,List.length_cons] at hn
      rw[zfi]
      exact (decide_eq_true (by trivial)).symm
     | cons c u hw =>
      rw[List.zip_cons_cons] at hq
      cases hq
   rw[hv] at hr
   wp_walk
   exact⟨_,rfl,by simpa [Builtin.Tuple.tupleCompareSizes] using hr⟩
  case h =>
   exact⟨rfl,rfl,its.toList,jts.toList,ns,ms,rfl,hi,hj,by trivial,h⟩
end
section
variable {prog:Program} {w:World} {A:Around} {E:Value->Shared->Prop} {s:Shared}
theorem zkg {l b:Addr} {its jts:Array Value} {ns ms:List Int} {Q:Value->Shared->Prop} (hl:IsTup s.heap l its) (hb:IsTup s.heap b jts) (hi:IntsAre its.toList ns) (hj:IntsAre jts.toList ms)
  (hu:A.units < cLine) (h:Q (.bool (lexGe ns ms)) s):wpAny (model prog w) A (compareOp .GtE (.ref l) (.ref b)) Q E s:=by
 obtain⟨⟨c1,d1,t1,s1⟩,g1,h1,n1,e1⟩:=id hl
 obtain⟨⟨c2,d2,t2,s2⟩,g2,h2,n2,e2⟩:=id hb
 simp only at h1 e1 h2 e2
 subst h1 e1 h2 e2
 exact richCompare_meets_room (op:=.GtE) ⟨_,g1,rfl⟩ ⟨_,g2,rfl⟩ PySem.F.slot_tuple_ge PySem.F.entry_tuple_ge (PySem.F.args_tuple_ge_2 _ _) (zf3 l b its jts n1 n2 d1 d2 s1 s2 ns ms hi hj)
  ⟨g1,g2,show Value.bool (lexGe ns ms)≠Value.notImplemented∧Q (.bool (lexGe ns ms)) s from ⟨(fun x=>nomatch x),h⟩⟩ hu
end
end HT
namespace L3
open PySem PySem.Spec PyProof.Rows L2
section
variable {X:Cx}
inductive rGeT_i (K:PySem.W.Frag) (x:V) (y:V) (H:Hp) (Q:VK):Prop
 | mk:∀ a b ns ms,(x=.ref a)->(y=.ref b)->(SqT K H a (ns.map V.int))->(SqT K H b (ms.map V.int))->(Q (.bl (HT.lexGe ns ms)) H)->rGeT_i K x y H Q
def rGeT (K:PySem.W.Frag):R2:=fun x y H Q=>rGeT_i K x y H Q
theorem zp1 (hu:X.A.units < cLine):OpR X (compareOp .GtE) (rGeT X.K):=by
 intro pins s σ H x y v u Q I rx ry h
 obtain⟨a,b,ns,ms,rfl,rfl,ha,hb,q⟩:=h
 cases rx
 cases ry
 obtain⟨its,r1,p1,_⟩:=I.tuple ha
 obtain⟨jts,r2,p2,_⟩:=I.tuple hb
 exact HT.zkg p1 p2 (zbm r1) (zbm r2) hu ⟨.bl _,H,I,rfl,q⟩
end
theorem zot (a b c d:Int):HT.lexLt [a,b] [c,d]=Srt.lexI [a,b] [c,d]:=by
 unfold Srt.lexI HT.lexLt
 unfold Srt.lexI HT.lexLt
 unfold Srt.lexI HT.lexLt
 rfl
theorem zou (a b c d:Int):HT.lexGe [a,b] [c,d]=!Srt.lexI [a,b] [c,d]:=by
 unfold Srt.lexI HT.lexGe
 unfold Srt.lexI HT.lexGe
 unfold Srt.lexI HT.lexGe
 by_cases h:a=c
 ·rw[if_pos h,if_pos h]
  by_cases h2:b=d
  ·rw[if_pos h2,if_pos h2];rfl
  ·rw[if_neg h2,if_neg h2]
   by_cases h3:b < d
   ·rw[decide_eq_true h3,decide_eq_false (by trivial)];rfl
   ·rw[decide_eq_false h3,decide_eq_true (by trivial)];rfl
 ·rw[if_neg h,if_neg h]
  by_cases h3:a < c
  ·rw[decide_eq_true h3,decide_eq_false (by trivial)];rfl
  ·rw[decide_eq_false h3,decide_eq_true (by trivial)];rfl
end L3
namespace L3
open PySem PySem.Spec PyProof.Rows L2
theorem zpb {n:Int} {ts:List Tie} (ok:WebOk n ts) {k:Nat} (hk:k < ts.length):(t2 ts k).1 < n.toNat∧(t2 ts k).2 < n.toNat∧(t2 ts k).1≠(t2 ts k).2∧((t2 ts k).1:Int)=(tieAt ts k).1∧((t2 ts k).2:Int)=(tieAt ts k).2.1:=by
 have tk:=ok.tie _ (za7 hk).2
 unfold t2
 refine⟨by show (tieAt ts k).1.toNat < n.toNat;trivial,by show (tieAt ts k).2.1.toNat < n.toNat;trivial,by show (tieAt ts k).1.toNat≠(tieAt ts k).2.1.toNat;trivial,?_,?_⟩
 ·show (((tieAt ts k).1.toNat:Nat):Int)=_;trivial
 ·show (((tieAt ts k).2.1.toNat:Nat):Int)=_;trivial
inductive spIsAhd_i (K:PySem.W.Frag) (vs:List V) (H:Hp) (Q:VK):Prop
 | mk:∀ (n:Int) (ts:List Tie) (wv:V) (j k:Nat),(vs=[wv,.int (j:Int),.int (k:Int)])->(Is K H (webD n ts) wv)->(j < ts.length)->(k < ts.length)->(∀ H',Same H H'->Q (.bl (Srt.lexI (okey ts j) (okey ts k))) H')->spIsAhd_i K vs H Q
def spIsAhd (K:PySem.W.Frag):Sp:=fun vs H Q _=>spIsAhd_i K vs H Q
inductive spJoinedT_i (K:PySem.W.Frag) (vs:List V) (H:Hp) (Q:VK):Prop
 | mk:∀ (n:Int) (ts:List Tie) (ks:List Nat) (wv:V) (u v:Int) (l:Addr),(vs=[wv,.ref l,.int u,.int v])->(Is K H (webD n ts) wv)->(WebOk n ts)->((∀ k ∈ ks,k < ts.length))->(ks.length≤60)->(H l=some (.tup (natV ks)))->(0≤u)->(u < n)->(0≤v)->(v < n)->(∀ b H',(b=true↔Frs.Cn (ks.map (t2 ts)) u.toNat v.toNat)->Same H H'->Q (.bl b) H')->spJoinedT_i K vs H Q
def spJoinedT (K:PySem.W.Frag):Sp:=fun vs H Q _=>spJoinedT_i K vs H Q
inductive spMost3_i  (vs:List V) (H:Hp) (Q:VK):Prop
 | mk:∀ (p:Addr) (k most:Int),(vs=[.ref p,.int k,.int most])->(Pot H p)->(1≤most)->(most≤24)->(∀ m H',But p H H'->Pot H' p->1≤m->m≤24->Q (.int m) H')->spMost3_i vs H Q
def spMost3 :Sp:=fun vs H Q _=>spMost3_i vs H Q
end L3
namespace HT
open PySem PyProof.Rows
open Sem (wp)
section
variable {prog:Program} {w:World} {A:Around} {E:Value->Shared->Prop} {s:Shared}
end
end HT
namespace L3
open PySem PySem.Spec PyProof.Rows L2
end L3
namespace L3
open PySem PySem.Spec PyProof.Rows L2
def PapV (H:Hp) (lo hi m:Nat) (v:V):Prop:=∃ p xs,v=.ref p∧H p=some (.tup xs)∧xs.length≤m∧∀ u ∈ xs,RowV lo hi H u
theorem PapV.tk {H H':Hp} {lo hi m:Nat} {v:V} (k:TupKeep H H') (h:PapV H lo hi m v):PapV H' lo hi m v:=let ⟨p,xs,e,e1,l,r⟩:=h;⟨p,xs,e,k _ _ e1,l,fun u hu=>(r u hu).tk k⟩
theorem Same.tk {H H':Hp} (s:Same H H'):TupKeep H H':=fun a xs e=>s _ _ e
theorem zji {K:PySem.W.Frag} {H:Hp} {lo hi:Nat}:∀ {xs:List V},(∀ u ∈ xs,RowV lo hi H u)->∃ pp:List (List Int),IsAll K H (pp.map tupH) xs∧pp.length=xs.length∧∀ hs ∈ pp,lo≤hs.length∧hs.length≤hi
 | [],_=>⟨[],rfl,rfl,fun hs h=>by cases h⟩
 | u::xs,h=>by
  obtain⟨pp,h1,h2,h3⟩:=zji (K:=K) (xs:=xs) fun v hv=>h v (List.mem_cons_of_mem _ hv)
  obtain⟨p,hs,rfl,e,l1,l2⟩:=h u List.mem_cons_self
  refine⟨hs::pp,⟨.ref p,xs,rfl,⟨p,_,rfl,e,IsAll.ints _⟩,h1⟩,by simp [h2],fun hs' hh=>?_⟩
  rcases List.mem_cons.mp hh with rfl | hh
  ·exact⟨l1,l2⟩
  ·exact h3 hs' hh
theorem PapV.pap {K:PySem.W.Frag} {H:Hp} {lo hi m:Nat} {v:V} (h:PapV H lo hi m v):∃ p pp,v=.ref p∧Is K H (papD pp) (.ref p)∧pp.length≤m∧∀ hs ∈ pp,lo≤hs.length∧hs.length≤hi:=by
 obtain⟨p,xs,rfl,e,l,r⟩:=h
 obtain⟨pp,h1,h2,h3⟩:=zji (K:=K) r
 exact⟨p,pp,rfl,⟨p,xs,rfl,e,h1⟩,by trivial,h3⟩
end L3
namespace Far
end Far
namespace L3
open PySem PySem.Spec PyProof.Rows L2
section
variable {n:Int} {ts:List Tie}
theorem zjm:∀ {a b:List Nat},a.Nodup->(∀ x ∈ a,x ∈ b)->a.length≤b.length
 | [],_,_,_=>Nat.zero_le _
 | x::a,b,nd,h=>by
  obtain⟨n1,n2⟩:=List.nodup_cons.mp nd
  have hx:=h x List.mem_cons_self
  have ih:=zjm (a:=a) (b:=b.erase x) n2 fun y hy=>(List.mem_erase_of_ne (fun e=>n1 (by rw[← e];exact hy))).mpr (h y (List.mem_cons_of_mem _ hy))
  have le:=List.length_erase_of_mem hx
  have pos:=List.length_pos_of_mem hx
  rw[List.length_cons]
  trivial
end
theorem znh {K:PySem.W.Frag} {t:Bool} {l:Addr} {xs:List V} {g:TG} {tb:TS} {D:Ends} {σ:L2.St} {H:Hp} (Pv:Nat->L2.St->Hp->Prop) (h0:Pv 0 σ H) (hl:∀ i σ H,Pv i σ H->SqX t K H l xs)
  (hs:∀ i x T σ H,xs[i]?=some x->H T=none->Pv i σ H->g (.ref T) σ (upd H T (.tup [.int (i:Nat),x])) fun σ2 H2=>tb { D with nx:=Pv (i + 1),ct:=Pv (i + 1),bk:=D.nx } σ2 H2) (hd:∀ σ H,Pv xs.length σ H->D.nx σ H) :
  ∃ W:Nat->Nat->L2.St->Hp->Prop,(∃ m,W 0 m σ H)∧∀ i m σ H,W i m σ H ->
   ((Itn t K l).stop i H∧D.nx σ H)∨((Itn t K l).go i H∧∃ N:L2.St->Hp->Prop,(∀ σ' H',N σ' H'->∃ m',m' < m∧W (i + 1) m' σ' H')∧∀ x H',(Itn t K l).yld i H x H'->g x σ H' fun σ2 H2=>tb { D with nx:=N,ct:=N,bk:=D.nx } σ2 H2):=by
 refine⟨fun i m σ H=>m=xs.length - i∧i≤xs.length∧Pv i σ H,⟨xs.length,by simp,Nat.zero_le _,h0⟩,?_⟩
 rintro i m σ H ⟨rfl,hi,p⟩
 have q1:=hl i σ H p
 by_cases hlt:i < xs.length
 ·have e1:xs[i]?=some xs[i]:=List.getElem?_eq_getElem hlt
  refine .inr ⟨⟨xs,_,q1,e1⟩,Pv (i + 1),fun σ' H' p'=>⟨xs.length - (i + 1),by trivial,rfl,hlt,p'⟩,fun x H' y=>?_⟩
  obtain⟨T,y',hT,rfl,rfl,a1⟩:=y
  exact hs i y' T σ H (a1 _ q1) hT p
 ·have e:i=xs.length:=by trivial
  subst e
  exact .inl ⟨⟨xs,q1,Nat.le_refl _⟩,hd σ H p⟩
end L3
namespace L3
open PySem PySem.Spec PyProof.Rows L2
section
variable {near kept:Nat->Nat->Option Int} {u v:Nat} {r:List (Nat × Nat)} {m:Int × Int × Int} {x y:Int}
end
def WKE (K:PySem.W.Frag) (H:Hp) (n:Int) (ts:List Tie) (ks:List Nat) (wv:V) (kp:Addr) (tp:Bool):Prop:=Is K H (webD n ts) wv∧WebOk n ts∧H kp=some (if tp=true then .tup (natV ks) else .lst (natV ks))∧KeepOk ts.length ks
section
variable {g:TG} {tt:TT} {te:TE} {own:List Str} {js:List Nat} {σ:L2.St} {H1:Hp} {Q:VK}
end
theorem zda (xs:List V) (k:Nat):cutV xs none (some (k:Int))=xs.take k:=by
 unfold cutV
 rw[HT.zjh,HT.zky,List.drop_zero,Nat.sub_zero]
 by_cases z:k≤xs.length
 ·rw[Nat.min_eq_left z]
 ·rw[Nat.min_eq_right (by trivial),List.take_of_length_le (Nat.le_refl _),List.take_of_length_le (by trivial)]
theorem zb0 (xs:List V) (k:Nat):cutV xs (some (k:Int)) none=xs.drop k:=by
 unfold cutV
 rw[HT.zjh,HT.zky]
 by_cases z:k≤xs.length
 ·rw[Nat.min_eq_left z,List.take_of_length_le (by rw[List.length_drop];exact Nat.le_refl _)]
 ·rw[Nat.min_eq_right (by trivial),List.drop_eq_nil_of_le (Nat.le_refl _),List.drop_eq_nil_of_le (show xs.length≤k by trivial),List.take_nil]
end L3
namespace L3
open PySem PySem.Spec PyProof.Rows L2
section
variable {n:Int} {ts:List Tie} {ks:List Nat}
end
section
variable {own:List Str} {js:List Nat} {g:TG} {te:TE} {σ:L2.St} {Q:VK} {H1:Hp}
end
end L3
namespace Far
section
variable {A B:List (Nat × Nat × Int)} {s u v:Nat} {x y:Int}
end
end Far
namespace Far
section
variable {G:Nat->Option Int} {len:Nat->Int}
end
end Far
namespace Far
section
variable {A:List (Nat × Nat × Int)} {s:Nat}
end
end Far
namespace L2
open PySem PySem.Spec PyProof.Rows
section
variable {X:Cx} {k v:Expr} {pos:Pos} {tk tv:TE}
def tDisp1 (tk tv:TE):TE:=fun σ H Q=>∀ p,H p=none->tk σ (upd H p (.dK [])) fun y H1=>tv σ H1 fun x H2=>∃ kk,y=kV kk∧H2 p=some (.dK [])∧Q (.ref p) (upd H2 p (.dK [(kk,x)]))
theorem zk6 (hk:PE X k tk) (hv:PE X v tv):PE X (.Dict [some k] [v] pos) (tDisp1 tk tv):=by
 intro pins s σ H Q I h
 have fr:H s.heap.objs.size=none:=I.hok.fresh (Nat.le_refl _)
 have I1:Inv X pins σ (upd H s.heap.objs.size (.dK [])) { s with heap:=s.heap.push { cls:=.type "dict",data:=.dict #[] } }:=I.laid (a:=s.heap.objs.size) (o:=.dK []) (t':=s.toks) (fun _ _ q=>Heap.get?_push_of_some _ q) (Nat.le_refl _) (znp s.heap I.big)
 refine wpAny_Dict_pairs (knd:=mixKind X.prog X.w) (pairs:=[(eval k X.env,do let x ← eval v X.env;standAt pos;pure x)]) rfl (by simp) (by simp) ?_
 refine evalPairs_cons (thn (hk pins _ σ _ _ I1 (h _ fr)) fun u s1 ⟨y,H1,I2,ry,q1⟩=>?_)
 refine wpAny_bind (thn (hv pins s1 σ H1 _ I2 q1) fun r s2 ⟨x,H2,I3,rx,kk,ey,e2,q2⟩=>?_)
 refine wpAny_bind (wpAny_standAt (wpAny_pure ?_))
 rw[evalPairs]
 refine wpAny_pure ?_
 subst ey
 obtain⟨z,hd,vs,rel,dd⟩:=zqe I3.hok e2
 have ev:vs=[]:=by
  have:=rel.length
  exact List.eq_nil_of_length_eq_zero this.symm
 subst ev
 refine⟨[(kk,r)],⟨zlq ry,rfl,True.intro⟩,dd,fun h' dd' hs=>⟨.ref s.heap.objs.size,_,?_,rfl,q2⟩⟩
 have he:∃ q,h'.get? s.heap.objs.size=some q:=let ⟨q,_,_,hq,_⟩:=dd';⟨q,hq⟩
 exact zis I3 (by rw[e2];exact True.intro) hs he (zn4 (by show 1≤sizeLine;decide) hd (rel.put kk rx) dd')
end
end L2
namespace L3
open PySem PySem.Spec PyProof.Rows L2
section
variable {n:Int} {ts:List Tie}
def hN (hs:List Int) (v:Nat):Int:=hs.getD v 0
end
end L3
namespace Srt
open PySem PyProof.Rows
section
variable {prog:Program} {w:World} {A:Around} {E:Value->Shared->Prop} {s:Shared} {a:Addr}
end
end Srt
namespace L3
open PySem PySem.Spec PyProof.Rows L2
section
variable {X:Cx}
end
end L3
namespace L3
open PySem PySem.Spec PyProof.Rows L2
section
variable {n:Int} {ts:List Tie}
def WyV (H:Hp) (ts:List Tie) (o:Option (List Nat)) (v:V):Prop:=(o=none∧v=.non)∨∃ t ws,o=some ws∧v=.ref t∧H t=some (.tup (natV ws))∧ws.length≤24∧linked ts ws
def wyD:Option (List Nat)->PyData
 | none=>.none
 | some ws=>tupH (keepI ws)
end
end L3
namespace L3
open PySem PySem.Spec PyProof.Rows L2
theorem zg9 {n:Int} {ts:List Tie} (ok:WebOk n ts) {k:Nat} (hk:k < ts.length):isTB ts (tieAt ts k).1.toNat (tieAt ts k).2.1.toNat k=true:=by
 have tk:=ok.tie _ (za7 hk).2
 unfold isTB
 rw[decide_eq_true (show (tieAt ts k).1=min (((tieAt ts k).1.toNat:Nat):Int) ((tieAt ts k).2.1.toNat:Nat) by trivial),decide_eq_true (show (tieAt ts k).2.1=max (((tieAt ts k).1.toNat:Nat):Int) ((tieAt ts k).2.1.toNat:Nat) by trivial)]
 rfl
theorem znk {n:Int} {ts:List Tie} (ok:WebOk n ts) {j k:Nat} (hj:j < ts.length) (hk:k < ts.length) (h1:(tieAt ts j).1=(tieAt ts k).1) (h2:(tieAt ts j).2.1=(tieAt ts k).2.1):j=k:=by
 refine zpn ok hj hk (zg9 ok hj) ?_
 have:=zg9 ok hk
 rw[h1,h2];exact this
end L3
namespace L3
open PySem PySem.Spec PyProof.Rows L2
end L3
namespace L3
open PySem PySem.Spec PyProof.Rows L2
def allIn (ts:List Tie) (ks:List Nat) (t:Int):Prop:=∀ k,k ∈ outs ts.length ks->withinB t (tieAt ts k).2.2 (gO ts ks k)=true
section
variable {n:Int} {ts:List Tie} {ks:List Nat} {prs:List (Option Int × Int)}
end
end L3
namespace Z3
open PySem
section
variable {prog:Program} {w:World} {A:Around} {E:Value->Shared->Prop} {s:Shared}
end
end Z3
namespace L3
open PySem PySem.Spec PyProof.Rows L2
end L3
namespace L3
open PySem PySem.Spec PyProof.Rows L2
abbrev key2 (a b:Int):List Key:=[.inl a,.inl b]
theorem zeh {a b c d:Int}:key2 a b=key2 c d↔a=c∧b=d:=by
 constructor
 ·intro e
  unfold key2 at e
  simp at e
  exact e
 ·rintro ⟨rfl,rfl⟩;rfl
def isE (ts:List Tie) (u v:Int) (k:Nat):Bool:=decide ((tieAt ts k).1=min u v) && decide ((tieAt ts k).2.1=max u v)
def lenI (ts:List Tie) (ks:List Nat) (u v:Int):Option Int:=(ks.find? (isE ts u v)).map fun k=>(tieAt ts k).2.2
section
variable {n:Int} {ts:List Tie} {ks:List Nat}
theorem isE_iff {u v:Int} {k:Nat}:isE ts u v k=true↔(tieAt ts k).1=min u v∧(tieAt ts k).2.1=max u v:=by
 unfold isE
 rw[Bool.and_eq_true,decide_eq_true_iff,decide_eq_true_iff]
theorem zlv (ok:WebOk n ts) {u v:Int} {j k:Nat} (hj:j < ts.length) (hk:k < ts.length) (h1:isE ts u v j=true) (h2:isE ts u v k=true):j=k:=by
 obtain⟨a1,a2⟩:=isE_iff.mp h1
 obtain⟨b1,b2⟩:=isE_iff.mp h2
 exact znk ok hj hk (a1.trans b1.symm) (a2.trans b2.symm)
theorem zo0 (ok:WebOk n ts) {u v:Int} {k:Nat} (hk:k < ts.length):isE ts u v k=true↔key2 u v=key2 (tieAt ts k).1 (tieAt ts k).2.1∨key2 u v=key2 (tieAt ts k).2.1 (tieAt ts k).1:=by
 have tk:=ok.tie _ (za7 hk).2
 rw[isE_iff,zeh,zeh]
 trivial
theorem zov (ok:WebOk n ts) (ko:KeepOk ts.length ks) {u v:Nat} {l:Int} (h:lenI ts ks (u:Int) (v:Int)=some l):(u,v,l) ∈ arcs ts ks:=by
 unfold lenI at h
 obtain⟨k,e,rfl⟩:=Option.map_eq_some_iff.mp h
 have hk:=List.mem_of_find?_eq_some e
 have c:=isE_iff.mp (List.find?_some e)
 have tk:=ok.tie _ (za7 (ko.2 k hk)).2
 refine arcs_mem.mpr ⟨k,hk,arcs2_mem.mpr ?_⟩
 rcases Nat.lt_or_ge u v with z | z
 ·exact .inl (by rw[show u=(tieAt ts k).1.toNat by trivial,show v=(tieAt ts k).2.1.toNat by trivial])
 ·exact .inr (by rw[show u=(tieAt ts k).2.1.toNat by trivial,show v=(tieAt ts k).1.toNat by trivial])
def stepY (ts:List Tie) (ks:List Nat) (ws:List Int) (j:Nat):Option Int:=lenI ts ks (ws.getD j 0) (ws.getD (j + 1) 0)
def sumY (ts:List Tie) (ks:List Nat) (ws:List Int):Nat->Option Int
 | 0=>some 0
 | j + 1=>(sumY ts ks ws j).bind fun x=>(stepY ts ks ws j).map fun l=>x + l
def rightI (n:Int) (ts:List Tie) (ks:List Nat) (ws:List Int):Option Int:=if (ws≠[]∧ws.Nodup)∧ws.all (fun i=>decide (0≤i) && decide (i < n))=true then sumY ts ks ws (ws.length - 1) else none
noncomputable def wyK (ts:List Tie) (ks:List Nat) (a b:Nat):Option (List Nat):=@dite _ (∃ ws,Far.MinW (arcsB ts ks) a b ws) (Classical.propDecidable _) (fun h=>some (Classical.choose h)) (fun _=>none)
noncomputable def dK (ts:List Tie) (ks:List Nat) (u v:Nat):Option Int:=Classical.epsilon fun o=>Far.Dst (arcs ts ks) u v o
noncomputable def dKL (n:Int) (ts:List Tie) (ks:List Nat) (u:Nat):List (Option Int):=(List.range n.toNat).map fun v=>dK ts ks u v
noncomputable def htK (n:Int) (ts:List Tie) (ks:List Nat) (t:Int) (k:Nat):List Int:=(dKL n ts ks (tieAt ts k).1.toNat).map (capO (t * (tieAt ts k).2.2 + 1))
end
def winK (ts:List Tie) (ks:List Nat) (t:Int) (k:Nat):Prop:=withinB t (tieAt ts k).2.2 (gO ts ks k)=true
noncomputable def wyT (ts:List Tie) (ks:List Nat) (k:Nat):Option (List Nat):=wyK ts ks (tieAt ts k).1.toNat (tieAt ts k).2.1.toNat
def FirstOut (ts:List Tie) (ks:List Nat) (t:Int) (i k:Nat):Prop:=(outs ts.length ks)[i]?=some k∧¬ winK ts ks t k∧∀ j k',j < i->(outs ts.length ks)[j]?=some k'->winK ts ks t k'
inductive TdD (n:Int) (ts:List Tie) (ks:List Nat) (t:Int):PyData->Prop
 | keeps:allIn ts ks t->TdD n ts ks t (.tuple [.str "keeps",.tuple ((outs ts.length ks).map fun k=>wyD (wyT ts ks k))])
 | far {i k:Nat}:FirstOut ts ks t i k->TdD n ts ks t (.tuple [.str "far",.int (k:Int),tupH (htK n ts ks t k)])
end L3
namespace L3
open PySem PySem.Spec PyProof.Rows L2
def PairsL (H:Hp) (xs ys zs:List V) (m:Nat):Prop:=zs.length=m∧∀ (j:Nat) (z:V),zs[j]?=some z->∃ (T:Addr) (x y:V),z=V.ref T∧xs[j]?=some x∧ys[j]?=some y∧H T=some (.tup [x,y])
section
variable {X:Cx} {pins:List (Addr × Obj)} {σ:L2.St}
end
end L3
namespace L3
open PySem PySem.Spec PyProof.Rows L2
end L3
namespace L3
open PySem PySem.Spec PyProof.Rows L2
section
variable {n:Int} {ts:List Tie} {ks:List Nat}
theorem zlz (ks:List Nat):inV .non (natV ks)=false:=by
 unfold inV natV
 induction ks with
 | nil=>rfl
 | cons k ks ih=>rw[List.map_cons,List.any_cons,ih];rfl
theorem zp5 (ok:WebOk n ts) (ko:KeepOk ts.length ks) (u v:Nat):inV (oa (tbN ts u v)) (natV ks)=(lenI ts ks (u:Int) (v:Int)).isSome:=by
 unfold lenI
 rw[Option.isSome_map]
 cases e:tbN ts u v with
 | none =>
  show inV .non (natV ks)=_
  rw[zlz]
  cases f:ks.find? (isE ts (u:Int) (v:Int)) with
  | none=>rfl
  | some k =>
   have h1:=List.find?_some f
   have h2:=ko.2 k (List.mem_of_find?_eq_some f)
   unfold tbN at e
   exact absurd h1 (List.find?_eq_none.mp e k (List.mem_range.mpr h2))
 | some k =>
  have hk:=List.mem_range.mp (List.mem_of_find?_eq_some e)
  have h1:=List.find?_some e
  show inV (.int (k:Int)) (natV ks)=_
  rw[ze2 (Int.natCast_nonneg _),Int.toNat_natCast]
  cases f:ks.find? (isE ts (u:Int) (v:Int)) with
  | none=>exact decide_eq_false fun hk'=>List.find?_eq_none.mp f k hk' h1
  | some j =>
   have:=zlv ok (ko.2 j (List.mem_of_find?_eq_some f)) hk (List.find?_some f) h1
   exact decide_eq_true (this ▸ List.mem_of_find?_eq_some f)
theorem zdd {ws:List Int}:∀ m,(sumY ts ks ws m).isSome=(List.range m).all fun j=>(stepY ts ks ws j).isSome
 | 0=>rfl
 | m + 1=>by
  rw[List.range_succ,List.all_append,← zdd m,sumY]
  cases e:sumY ts ks ws m with
  | none=>rfl
  | some x=>cases e2:stepY ts ks ws m <;> simp [e2]
theorem znv (ok:WebOk n ts) (ko:KeepOk ts.length ks) {us:List Nat} {a:Nat} (h0:us[0]?=some a):∀ (j:Nat) (b:Nat) (x:Int),us[j]?=some b->sumY ts ks (keepI us) j=some x->Far.Tr (arcs ts ks) a (us.take (j + 1)) b x
 | 0,b,x,hb,hx=>by
  rw[h0] at hb
  cases hb
  cases hx
  have:us.take 1=[a]:=by
   cases us with
   | nil=>cases h0
   | cons y r=>cases h0;rfl
  rw[this]
  exact .one
 | j + 1,b,x,hb,hx=>by
  have hj:=(List.getElem?_eq_some_iff.mp hb).1
  have hc:us[j]?=some us[j]:=List.getElem?_eq_getElem (by trivial)
  rw[sumY] at hx
  obtain⟨y,hy,h⟩:=Option.bind_eq_some_iff.mp hx
  obtain⟨l,hl,rfl⟩:=Option.map_eq_some_iff.mp h
  have t:=znv ok ko h0 j _ y hc hy
  rw[show us.take (j + 1 + 1)=us.take (j + 1)++[b] by rw[List.take_add_one,hb];rfl]
  refine .snoc t (zov ok ko ?_)
  rw[← hl]
  unfold stepY keepI
  rw[List.getD_eq_getElem?_getD,List.getElem?_map,hc,List.getD_eq_getElem?_getD,List.getElem?_map,hb];rfl
theorem zkz (ok:WebOk n ts) (ko:KeepOk ts.length ks) {ws:List Int} {x:Int} (h:rightI n ts ks ws=some x):∃ us:List Nat,ws=keepI us∧us.length≤24∧linked ts us∧wl ts us=x:=by
 unfold rightI at h
 split at h
 ·rename_i c
  obtain⟨⟨ne,nd⟩,al⟩:=c
  have n24:=ok.n24
  have pl:∀ i ∈ ws,0≤i∧i < n:=fun i hi=>by
   have:=List.all_eq_true.mp al i hi
   rw[Bool.and_eq_true,decide_eq_true_iff,decide_eq_true_iff] at this
   exact this
  have ew:ws=keepI (ws.map Int.toNat):=by
   unfold keepI
   rw[List.map_map]
   conv=>lhs;rw[← List.map_id ws]
   refine List.map_congr_left fun i hi=>?_
   show i=((i.toNat:Nat):Int)
   have:=pl i hi;trivial
  have lw:(ws.map Int.toNat).length=ws.length:=List.length_map _
  have pos:0 < ws.length:=List.length_pos_iff.mpr ne
  have h0:(ws.map Int.toNat)[0]?=some (ws.map Int.toNat)[0]:=List.getElem?_eq_getElem (by trivial)
  have hl:(ws.map Int.toNat)[ws.length - 1]?=some (ws.map Int.toNat)[ws.length - 1]:=List.getElem?_eq_getElem (by trivial)
  rw[ew] at h
  have lk:(keepI (ws.map Int.toNat)).length=ws.length:=by rw[← ew]
  rw[lk] at h
  have t:=znv ok ko h0 _ _ _ hl h
  rw[List.take_of_length_le (by trivial)] at t
  obtain⟨e1,e2⟩:=zqj ok ko t
  refine⟨ws.map Int.toNat,ew,?_,e2,e1⟩
  have nd2:(ws.map Int.toNat).Nodup:=by
   rw[List.Nodup,List.pairwise_map]
   refine List.Pairwise.imp_of_mem ?_ nd
   intro a b ha hb ne z
   have:=pl a ha
   have:=pl b hb
   trivial
  have:=zjm (b:=List.range n.toNat) nd2 fun u hu=>by
   obtain⟨i,hi,rfl⟩:=List.mem_map.mp hu
   have:=pl i hi
   exact List.mem_range.mpr (by trivial)
  rw[List.length_range] at this
  trivial
 ·cases h
end
theorem zni (ds:List PyData):PyData.eqv (.list ds) (.list [])=decide (ds=[]):=by
 cases ds with
 | nil=>rfl
 | cons d ds=>rfl
theorem zha (f:Int->Bool):∀ ws:List Int,(ws.filterMap fun j=>if f j=true then none else some (V.int j))=(ws.filter fun i=>!f i).map V.int
 | []=>rfl
 | y::r=>by
  rw[List.filterMap_cons,List.filter_cons,zha f r]
  cases f y <;> rfl
end L3
namespace L3
open PySem PySem.Spec PyProof.Rows L2
section
variable {X:Cx}
end
end L3
namespace L3
open PySem PySem.Spec PyProof.Rows L2
def leadsI (n:Int) (ts:List Tie) (ks:List Nat) (a b:Int) (ws:List Int):Bool:=(rightI n ts ks ws).isSome && (decide (ws.getD 0 0=a) && decide (ws.getD (ws.length - 1) 0=b))
def goodW (n:Int) (ts:List Tie) (ks:List Nat) (t:Int) (k:Nat) (ws:List Int):Bool:=leadsI n ts ks (tieAt ts k).1 (tieAt ts k).2.1 ws && decide ((rightI n ts ks ws).getD 0≤t * (tieAt ts k).2.2)
def beyondI (n:Int) (ts:List Tie) (ks:List Nat) (t:Int) (k:Nat) (hs:List Int):Bool:=holdB n ts ks hs && decide (acrossI ts hs k > t * (tieAt ts k).2.2)
def waysB (n:Int) (ts:List Tie) (ks:List Nat) (t:Int) (W:List (List Int)):Bool:=decide (W.length=(outs ts.length ks).length) && (List.range (outs ts.length ks).length).all fun i=>goodW n ts ks t ((outs ts.length ks).getD i 0) (W.getD i [])
def farB (n:Int) (ts:List Tie) (ks:List Nat) (t:Int) (k:Int) (hs:List Int):Bool:=(decide (0≤k) && decide (k < (ts.length:Int))) && (!decide (k.toNat ∈ ks) && beyondI n ts ks t k.toNat hs)
inductive Ppr where
 | keeps (W:List (List Int)):Ppr
 | far (k:Int) (hs:List Int):Ppr
def Ppr.d:Ppr->PyData
 | .keeps W=>.tuple [.str "keeps",.tuple (W.map tupH)]
 | .far k hs=>.tuple [.str "far",.int k,tupH hs]
def Ppr.ok:Ppr->Prop
 | .keeps W=>W.length≤1000∧∀ ws ∈ W,ws.length≤40
 | .far _ hs=>hs.length≤1000
def Ppr.right (n:Int) (ts:List Tie) (ks:List Nat) (t:Int):Ppr->Bool
 | .keeps W=>waysB n ts ks t W
 | .far k hs=>farB n ts ks t k hs
end L3
namespace Hx
open PySem PySem.W
structure Ch where
 i:Nat
 a:Nat
 t:Nat
 j:Nat
 u:Nat
 b:Nat:=0
def stt (p:Program) (i:Nat):Stmt:=p.main.body.getD i (.Pass ⟨0,0,0,0⟩)
def fileS:Str:=Str.ofString "/claim/cut.py"
def mdV (p:Program) (c:Ch):Value:=match stt p c.j with
 | .Assign _ (.Constant (.str x) _ _) _=>.str x c.u
 | _=>.str (Str.ofString "__main__") c.u
def sT (xs:List Value):Obj:=⟨.type "tuple",none,.seq xs.toArray 0,#[]⟩
def fE (xs:List Value):Obj:=⟨.none,none,.fields xs.toArray,#[]⟩
def tks:List Str->Nat->List Value
 | [],_=>[]
 | v::r,t=>.str v t::tks r (t + 1)
def z:Value:=.int 0 0
def cdO (nm q:Str) (t:Nat) (l:Int) (na fl:Int) (k:Value) (fn:Bool) (tb vs cs tp:Value) (u:Nat):Obj :=
 ⟨.type "code",none,.fields #[.str nm t,.str q (t + 1),.str fileS (t + 2),.int l 0,.int na 0,z,z,.int fl 0,k,.bool fn,.int 181 0,tb,.none,vs,cs,tp,.int u 0,.int l 0,.str fileS (u + 1)],#[]⟩
def ent (P:Params) (s:Str) (t:Nat) (v:Value):DictEntry:=⟨PyData.keyHash P s,.str s t,v⟩
def dO (es:List DictEntry) (n:Nat):Obj:=⟨.type "dict",none,.dict es.toArray n,#[]⟩
structure Got where
 os:List Obj
 en:List DictEntry
 tb:List Value
def fO (P:Params) (md:Value) (a t:Nat) (name:Str) (args:Arguments) (body:List Stmt) (scope:Scope) (bind:Str) (pos:Pos):Got :=
 let fd:FuncData:=⟨name,bind,args,.stmts body,scope,0,[],.none,.none,.none,.none,none,.none,.none,0⟩
 let k (vs cs:Value) (b u:Nat) (h:List Obj):Got :=
  ⟨h++[⟨.none,none,.func fd,#[]⟩,cdO name bind t pos.line args.args.length 3 (.ref a) true (.ref (a + 1)) vs cs (.ref b) u,
   ⟨.type "function",none,.func ⟨name,bind,args,.stmts body,scope,3,[],.none,.none,.none,md,none,.ref (b + 1),.none,0⟩,#[]⟩],
   [ent P name (u + 2) (.ref (b + 2))],[.int pos.line 0,.int pos.col 0,.ref (b + 1)]⟩
 match localNames args scope (.stmts body) with
 | none=>k .none .none (a + 2) (t + 3) [sT [],fE []]
 | some (vs,cs)=>k (.ref (a + 2)) (.ref (a + 3)) (a + 4) (t + 3 + vs.length + cs.length) [sT [],fE [],sT (tks vs (t + 3)),sT (tks cs (t + 3 + vs.length))]
def mro0:List Value:=[.type "ValueError",.type "Exception",.type "BaseException",.type "object"]
def clO (P:Params) (md:Value) (a t:Nat) (base:Option Nat) (sub:List Value) (name bind:Str) (pos:Pos):Got :=
 let l:Int:=pos.line
 let w:=base.isNone
 let C:=a + 9 - (if w then 0 else 0)
 let bs:Value:=match base with | none=>.type "ValueError" | some b=>.ref b
 let e1:=ent P (Str.ofString "__module__") (t + 7) md
 let e2:=ent P (Str.ofString "__firstlineno__") (t + 11) (.int l (t + 10))
 let e3:=ent P (Str.ofString "__static_attributes__") (t + 12) (.ref (a + 7))
 ⟨[sT [bs],⟨.type "builtin_function_or_method",none,.fields #[.builtin "type.__prepare__",.type "type"],#[]⟩,
  dO [e1,ent P (Str.ofString "__qualname__") (t + 9) (.str bind (t + 8)),e2,e3] 4,sT [],fE [],
  cdO name bind (t + 2) l 0 0 (.ref (a + 3)) false (.ref (a + 4)) .none .none .none (t + 5),
  ⟨.type "frame",none,.plain,#[some (.ref (a + 5)),some (.ref 3),some (.ref (a + 2)),none,some md,none,some (.ref 0)]⟩,sT [],
  dO (e1::e2::e3::(if w then [ent P (Str.ofString "__weakref__") (t + 14) (.ref (a + 10)),ent P (Str.ofString "__doc__") (t + 15) .none] else [ent P (Str.ofString "__doc__") (t + 13) .none])) (if w then 3 else 2),
  ⟨.type "type",none,.cls ⟨name,[bs],.ref C::(match base with | none=>mro0 | some b=>.ref b::mro0),a + 8,bind,true,[],sub,false,none,false⟩,
   #[some (.ref a),none,some (.str name t),some (.str bind (t + 8)),some (.builtin "ValueError.__new__"),some (.bool true)]⟩] ++
  (if w then [⟨.type "getset_descriptor",none,.fields #[.str (Str.ofString "__weakref__") (t + 13),.ref C,.builtin "ExceptionGroup.__weakref__",.none],#[]⟩] else []) ++
  [⟨.type "super",none,.fields #[.ref C,.ref C,.ref C],#[]⟩,⟨.type "builtin_function_or_method",none,.fields #[.builtin "object.__init_subclass__",.ref C],#[]⟩],
  [ent P name (t + (if w then 17 else 15)) (.ref C)],[.int l 0,.int pos.col 0,.ref (a + 5)]⟩
def got (p:Program) (P:Params) (cs:List Ch) (c:Ch):Got:=match stt p c.i with
 | .FunctionDef name args body _ _ _ scope _ bind pos=>fO P (mdV p c) c.a c.t name args body scope bind pos
 | .ClassDef name _ _ _ _ _ _ _ bind _ pos=>clO P (mdV p c) c.a c.t (if c.b == 0 then none else some c.b) (cs.filterMap fun d=>if d.b == c.a + 9 then some (.ref (d.a + 9)) else none) name bind pos
 | _=>⟨[],[],[]⟩
def nameNow (p:Program) (cs:List Ch):Option Value:=match cs.getLast? with
 | some c=>some (mdV p { c with j:=c.j,u:=c.u })
 | none=>none
def setName (P:Params) (v:Option Value):List DictEntry->List DictEntry
 | e::r=>(match v with | some v=>{ e with val:=v } | none=>e)::r
 | []=>[]
def globO (p:Program) (P:Params) (cs:List Ch) (en:List DictEntry):Obj->Obj
 | ⟨c,d,.dict es n,s⟩=>⟨c,d,.dict (setName P (nameNow p cs) es.toList++en).toArray (n + en.length),s⟩
 | o=>o
def objs (p:Program) (P:Params) (B:List Obj) (cs:List Ch):List Obj :=
 let gs:=cs.map (got p P cs)
 match B with
 | b0::b1::b2::b3::r=>b0::b1::b2::globO p P cs (gs.flatMap (·.en)) b3::(r++(sT []::fE (gs.flatMap (·.tb)) ::
  cdO (Str.ofString "<module>") (Str.ofString "<module>") 182 1 0 0 (.ref 11) false (.ref 12) .none .none .none 185 ::
  ⟨.type "frame",none,.plain,#[some (.ref 13),some (.ref 3),some (.ref 3),none,some (.str (Str.ofString "__main__") 164),none,some (.ref 0)]⟩::gs.flatMap (·.os)))
 | _=>[]
def spl:List Obj->List Obj × List Obj
 | []=>([],[])
 | x::r=>(x::(spl r).2,(spl r).1)
def braun:Nat->List Obj->BT
 | 0,_=>.nil
 | _ + 1,[]=>.nil
 | f + 1,o::r=>.node o (braun f (spl r).1) (braun f (spl r).2)
structure Cut where
 k:Nat
 n:Nat
 t:Nat
def hpT (p:Program) (B:Params->List Obj) (cs:List Ch) (c:Cut) (P:Params):Heap:=absHeap (braun 12 (objs p P (B P) (cs.take c.k))) c.n {}
def stT (p:Program) (B:Params->List Obj) (D:Drawn) (cs:List Ch) (c:Cut) (w:World) (os:OsState):SharedT :=
 ⟨braun 12 (objs p w.params (B w.params) (cs.take c.k)),c.n,{},Array.mk [],D,c.t,os⟩
def env (p:Program):Env:={ scope:=p.main.scope,locals:=mainNs,globals:=mainNs,cells:=[],code:=.ref 13,frame:=some 14 }
def cE (p:Program):Code:=.body p.main.body (env p)
def pos0:Pos:=⟨0,0,0,0⟩
def posOf (p:Program):Nat->Pos
 | 0=>pos0
 | k + 1=>match stt p k with
  | .Assign [.Name _ q] _ _=>q
  | .FunctionDef _ _ _ _ _ _ _ _ _ q=>q
  | .ClassDef _ _ _ _ _ _ _ _ _ _ q=>q
  | _=>pos0
def ann0:Option Value:=some (.ref 6)
def PieceT (p:Program) (B:Params->List Obj) (D:Drawn) (cs:List Ch) (a b:Cut) (N:Nat):Prop:=∀ w:World,
 (fun os=>segRunT treeTable p w 11 ann0 1 N (stT p B D cs a w os) (piecesOf ((p.main.body.drop a.k).take (b.k - a.k)) (env p) (cE p) (posOf p a.k) [topFrame pos0]))=fun os=>some (Flow.next,stT p B D cs b w os,cE p,posOf p b.k)
def PreT (p:Program) (B:Params->List Obj) (D:Drawn) (h:Params->Heap) (t:Nat) (cs:List Ch) (a:Cut):Prop:=∀ w:World,
 (fun os=>topGo treeTable p w 11 ann0 12 ⟨h w.params,Array.mk [],D,t,os⟩ (topStub p))=fun os=>some ((stT p B D cs a w os).abs,⟨denote treeTable (cE p),cE p,pos0,[topFrame pos0]⟩)
def BlockT (p:Program):Prop:=∀ (w:World) (s:Shared),segRun treeTable p w 11 ann0 1 1 s (blockOf p.main.body (env p) (cE p) pos0 [topFrame pos0])=some (.next,s,cE p,pos0)
noncomputable def boots (P:Params):List Obj:=[boot_o_0 P,boot_o_1 P,boot_o_2 P,boot_o_3 P,boot_o_4 P,boot_o_5 P,boot_o_6 P,boot_o_7 P,boot_o_8 P,boot_o_9 P,boot_o_10 P]
def qv (p:Program) (is:List Nat):Program:={ p with main:={ p.main with body:=is.map (stt p) } }
def nmO:Stmt->Option Str
 | .FunctionDef n ..=>some n
 | .ClassDef n ..=>some n
 | _=>none
def lz (p:Program) (is:List Nat) (n:Nat):List Str:=(List.range n).filterMap fun i=>if is.contains i then none else nmO (stt p i)
def kk (a:Nat) (g:Got):List (Nat × Obj):=match g.os with
 | [_,_,_,c,f]=>[(a + 3,c),(a + 4,f)]
 | [_,_,_,_,_,c,f]=>[(a + 5,c),(a + 6,f)]
 | _::_::_::_::_::_::_::_::d::C::_=>[(a + 8,d),(a + 9,C)]
 | _=>[]
def Kf (p:Program) (B:Params->List Obj) (cs:List Ch) (P:Params):Frag :=
 let gs:=cs.map (got p P cs)
 (3,globO p P cs (gs.flatMap (·.en)) ((B P).getD 3 (sT [])))::(cs.zip gs).flatMap fun c=>kk c.1.a c.2
def LookA (p:Program) (B:Params->List Obj) (D:Drawn) (h:Params->Heap) (cs:List Ch) (c:Cut):Prop:=∀ w:World,(fun os =>
  (staticsOk (importedModules p.main.body) (h w.params) (hpT p B cs c w.params) && namesBound p (hpT p B cs c w.params) && gensDone ⟨hpT p B cs c w.params,Array.mk [],D,c.t,os⟩ && laidKept (h w.params) (hpT p B cs c w.params)))=fun _:OsState=>true
def LookB (p:Program) (B:Params->List Obj) (D:Drawn) (cs:List Ch) (c:Cut) (is:List Nat) (rc:WRecords):Prop:=∀ w:World,(fun os =>
  openSeen (qv p is) (lz p is c.k) (importedModules p.main.body) (fun s=>xlAt (qv p is) [] s && recOk rc s) true ⟨hpT p B cs c w.params,Array.mk [],D,c.t,os⟩)=fun _:OsState=>openGood (qv p is) (lz p is c.k)
def LookC (p:Program) (B:Params->List Obj) (cs:List Ch) (c:Cut) (as:List Nat):Prop:=∀ w:World,as.map (hpT p B cs c w.params).get?=(Kf p B cs w.params).map fun p=>some p.2
section
variable {p:Program} {D:Drawn} {cs:List Ch}
theorem zpa {w:World} {s:Shared} {c:Code} {q:Pos}:topRun treeTable p w 11 ann0 2 s ⟨doneF .next,c,q,[topFrame pos0]⟩=some s:=rfl
theorem zma {w:World} {os:OsState} {c:Cut} (h:p.main.body.drop c.k=[]) :
  topRun treeTable p w 11 ann0 2 (stT p boots boot_drawn cs c w os).abs (restOf (p.main.body.drop c.k) (env p) (cE p) (posOf p c.k) [topFrame pos0])=some (stT p boots boot_drawn cs c w os).abs:=by
 rw[h];exact piece_nil zpa
theorem chain {w:World} {os:OsState} {a b:Cut} {N M:Nat} {r:Shared} (h:PieceT p boots boot_drawn cs a b N) (le:a.k≤b.k)
  (k:topRun treeTable p w 11 ann0 M (stT p boots boot_drawn cs b w os).abs (restOf (p.main.body.drop b.k) (env p) (cE p) (posOf p b.k) [topFrame pos0])=some r) :
  topRun treeTable p w 11 ann0 (N + M) (stT p boots boot_drawn cs a w os).abs (restOf (p.main.body.drop a.k) (env p) (cE p) (posOf p a.k) [topFrame pos0])=some r:=by
 have e:p.main.body.drop a.k=(p.main.body.drop a.k).take (b.k - a.k)++p.main.body.drop b.k:=by
  have x:=(List.take_append_drop (b.k - a.k) (p.main.body.drop a.k)).symm
  rw[List.drop_drop,Nat.add_sub_cancel' le] at x;exact x
 rw[e];exact piece_app (segRun_of (congrFun (h w) os)) k
theorem zoi {w:World} {os:OsState} {M:Nat} {r:Shared} (pre:PreT p boots boot_drawn boot_heap boot_toks cs ⟨0,15,187⟩) (bl:BlockT p)
  (k:topRun treeTable p w 11 ann0 M (stT p boots boot_drawn cs ⟨0,15,187⟩ w os).abs (restOf (p.main.body.drop 0) (env p) (cE p) (posOf p 0) [topFrame pos0])=some r) :
  topRun treeTable p w 11 ann0 (12 + (1 + M)) ⟨boot_heap w.params,Array.mk [],boot_drawn,boot_toks,os⟩ (topStub p)=some r :=
 go_top (congrFun (pre w) os) (piece_block (bl w _) k)
theorem zow {is as:List Nat} {rc:WRecords} {c:Cut} {M N:Nat} {e:∀ P,as=(Kf p boots cs P).map (·.1)}
  (op:opening p=plainProg p.main.scope.names) (hN:Nat.ble 600 N=true) (fe:∀ s,fenceModules? p s=some s)
  (size:∀ w:World,((boot_heap w.params).isNs mainGlobals && (Array.mk []:Array GenState).size == 0,(boot_heap w.params).objs.size,(boot_heap w.params).nsMap mainGlobals "__annotations__")=(true,11,ann0))
  (run:∀ (w:World) (os:OsState),topRun treeTable p w 11 ann0 M ⟨boot_heap w.params,Array.mk [],boot_drawn,boot_toks,os⟩ (topStub p)=some (stT p boots boot_drawn cs c w os).abs) (le:Nat.ble M N=true)
  (hA:LookA p boots boot_drawn boot_heap cs c) (hB:LookB p boots boot_drawn cs c is rc) (hC:LookC p boots cs c as) :
  LeftO p (qv p is) (lz p is c.k) (fun s=>xlAt (qv p is) [] s && recOk rc s) (Hook.obs (kHook (Kf p boots cs) as e)) (Hook.val (kHook (Kf p boots cs) as e)) N :=
 LeftO.of_pieces (H₀:=boot_heap) (H₁:=hpT p boots cs c) (boot_open op hN fe) size run le fun w=>funext fun os=>by
  have a:=congrFun (hA w) os
  have b:=congrFun (hB w) os
  have c:=hC w
  exact looks_pair a (looks_pair b c)
end
end Hx
namespace Me
open PySem PySem.Spec PyProof.Rows L2 L3
def top (i:Nat):Stmt:=PySem.Challenge.pw_thinways_k38_forests_judged.main.body.getD i (.Pass ⟨0,0,0,0⟩)
abbrev s_is_whole:Stmt:=top 1
theorem sc_is_whole:FnScope ["thing"] ["thing"] (defScope s_is_whole):=⟨rfl,rfl,rfl,by decide +kernel,rfl,by decide +kernel,by decide +kernel⟩
abbrev s_is_rising:Stmt:=top 2
theorem sc_is_rising:FnScope ["parts"] ["parts"] (defScope s_is_rising):=⟨rfl,rfl,rfl,by decide +kernel,rfl,by decide +kernel,by decide +kernel⟩
abbrev s_is_tuple_of:Stmt:=top 3
theorem sc_is_tuple_of:FnScope ["thing","many"] ["thing","many"] (defScope s_is_tuple_of):=⟨rfl,rfl,rfl,by decide +kernel,rfl,by decide +kernel,by decide +kernel⟩
abbrev s_is_place:Stmt:=top 5
theorem sc_is_place:FnScope ["web","thing"] ["web","thing"] (defScope s_is_place):=⟨rfl,rfl,rfl,by decide +kernel,rfl,by decide +kernel,by decide +kernel⟩
abbrev s_is_tie_number:Stmt:=top 6
theorem sc_is_tie_number:FnScope ["web","thing"] ["web","thing"] (defScope s_is_tie_number):=⟨rfl,rfl,rfl,by decide +kernel,rfl,by decide +kernel,by decide +kernel⟩
abbrev s_is_keep:Stmt:=top 7
theorem sc_is_keep:FnScope ["web","thing"] ["web","thing"] (defScope s_is_keep):=⟨rfl,rfl,rfl,by decide +kernel,rfl,by decide +kernel,by decide +kernel⟩
abbrev s_whole:Stmt:=top 8
theorem sc_whole:FnScope ["web"] ["web"] (defScope s_whole):=⟨rfl,rfl,rfl,by decide +kernel,rfl,by decide +kernel,by decide +kernel⟩
abbrev s_tie_between:Stmt:=top 9
theorem sc_tie_between:FnScope ["web","a","b","ends","number","tie"] ["web","a","b"] (defScope s_tie_between):=⟨rfl,rfl,rfl,by decide +kernel,rfl,by decide +kernel,by decide +kernel⟩
abbrev s_are_unlike_places:Stmt:=top 11
theorem sc_are_unlike_places:FnScope ["web","thing"] ["web","thing"] (defScope s_are_unlike_places):=⟨rfl,rfl,rfl,by decide +kernel,rfl,by decide +kernel,by decide +kernel⟩
abbrev s_ties_along:Stmt:=top 12
theorem sc_ties_along:FnScope ["web","places"] ["web","places"] (defScope s_ties_along):=⟨rfl,rfl,rfl,by decide +kernel,rfl,by decide +kernel,by decide +kernel⟩
abbrev s_way_right:Stmt:=top 13
theorem sc_way_right:FnScope ["web","keep","way"] ["web","keep","way"] (defScope s_way_right):=⟨rfl,rfl,rfl,by decide +kernel,rfl,by decide +kernel,by decide +kernel⟩
abbrev s_leads_between:Stmt:=top 14
theorem sc_leads_between:FnScope ["web","keep","a","b","way"] ["web","keep","a","b","way"] (defScope s_leads_between):=⟨rfl,rfl,rfl,by decide +kernel,rfl,by decide +kernel,by decide +kernel⟩
abbrev s_not_kept:Stmt:=top 16
theorem sc_not_kept:FnScope ["web","keep"] ["web","keep"] (defScope s_not_kept):=⟨rfl,rfl,rfl,by decide +kernel,rfl,by decide +kernel,by decide +kernel⟩
abbrev s_ringless:Stmt:=top 18
theorem sc_ringless:FnScope ["web","ties","marks","told","tie","a","b","length","one","other"] ["web","ties"] (defScope s_ringless):=⟨rfl,rfl,rfl,by decide +kernel,rfl,by decide +kernel,by decide +kernel⟩
abbrev s_is_ahead:Stmt:=top 19
theorem sc_is_ahead:FnScope ["web","one","other"] ["web","one","other"] (defScope s_is_ahead):=⟨rfl,rfl,rfl,by decide +kernel,rfl,by decide +kernel,by decide +kernel⟩
abbrev s_way_ahead:Stmt:=top 20
theorem sc_way_ahead:FnScope ["web","keep","tie","way","a","b","length"] ["web","keep","tie","way"] (defScope s_way_ahead):=⟨rfl,rfl,rfl,by decide +kernel,rfl,by decide +kernel,by decide +kernel⟩
abbrev s_forest_right:Stmt:=top 21
theorem sc_forest_right:FnScope ["web","told","keep","ways","ties"] ["web","told"] (defScope s_forest_right):=⟨rfl,rfl,rfl,by decide +kernel,rfl,by decide +kernel,by decide +kernel⟩
abbrev s__law_pot:Stmt:=top 23
theorem sc__law_pot:FnScope ["script","k","cell","prime"] ["script","k"] (defScope s__law_pot):=⟨rfl,rfl,rfl,by decide +kernel,rfl,by decide +kernel,by decide +kernel⟩
abbrev s__law_take:Stmt:=top 24
theorem sc__law_take:FnScope ["pot","many","found"] ["pot","many"] (defScope s__law_take):=⟨rfl,rfl,rfl,by decide +kernel,rfl,by decide +kernel,by decide +kernel⟩
abbrev s__law_length:Stmt:=top 25
theorem sc__law_length:FnScope ["pot","way"] ["pot","way"] (defScope s__law_length):=⟨rfl,rfl,rfl,by decide +kernel,rfl,by decide +kernel,by decide +kernel⟩
abbrev s__law_tied:Stmt:=top 26
theorem sc__law_tied:FnScope ["pot","n","style","a","b","beside"] ["pot","n","style","a","b"] (defScope s__law_tied):=⟨rfl,rfl,rfl,by decide +kernel,rfl,by decide +kernel,by decide +kernel⟩
abbrev s__law_order:Stmt:=top 27
theorem sc__law_order:FnScope ["pot","many","left","found","turn"] ["pot","many"] (defScope s__law_order):=⟨rfl,rfl,rfl,by decide +kernel,rfl,by decide +kernel,by decide +kernel⟩
abbrev s__law_web:Stmt:=top 28
theorem sc__law_web:FnScope ["pot","most","n","style","way","names","ties","b","a","one","other"] ["pot","most"] (defScope s__law_web):=⟨rfl,rfl,rfl,by decide +kernel,rfl,by decide +kernel,by decide +kernel⟩
abbrev s__law_joined:Stmt:=top 29
theorem sc__law_joined:FnScope ["web","numbers","a","b","marks","number","one","other"] ["web","numbers","a","b"] (defScope s__law_joined):=⟨rfl,rfl,rfl,by decide +kernel,rfl,by decide +kernel,by decide +kernel⟩
abbrev s__law_path:Stmt:=top 30
theorem sc__law_path:FnScope ["web","keep","a","b","behind","row","here","number","one","other","way","turn"] ["web","keep","a","b"] (defScope s__law_path):=⟨rfl,rfl,rfl,by decide +kernel,rfl,by decide +kernel,by decide +kernel⟩
abbrev s__law_grown:Stmt:=top 31
theorem sc__law_grown:FnScope ["web","order","found","number"] ["web","order"] (defScope s__law_grown):=⟨rfl,rfl,rfl,by decide +kernel,rfl,by decide +kernel,by decide +kernel⟩
abbrev s__law_numbered:Stmt:=top 32
theorem sc__law_numbered:FnScope ["web","here","there","number","a","b","length"] ["web","here","there"] (defScope s__law_numbered):=⟨rfl,rfl,rfl,by decide +kernel,rfl,by decide +kernel,by decide +kernel⟩
abbrev s__law_way_shown:Stmt:=top 33
theorem sc__law_way_shown:FnScope ["web","keep","number","way","here","there","tie"] ["web","keep","number","way"] (defScope s__law_way_shown):=⟨rfl,rfl,rfl,by decide +kernel,rfl,by decide +kernel,by decide +kernel⟩
abbrev s__law_forest_shown:Stmt:=top 34
theorem sc__law_forest_shown:FnScope ["web","keep","ways","k","a","b","length","others"] ["web","keep","ways"] (defScope s__law_forest_shown):=⟨rfl,rfl,rfl,by decide +kernel,rfl,by decide +kernel,by decide +kernel⟩
abbrev s__law_spoilt:Stmt:=top 35
theorem sc__law_spoilt:FnScope ["pot","row","top","way","at","some"] ["pot","row","top"] (defScope s__law_spoilt):=⟨rfl,rfl,rfl,by decide +kernel,rfl,by decide +kernel,by decide +kernel⟩
abbrev s__law_start:Stmt:=top 36
theorem sc__law_start:FnScope ["pot","web","way","drawn","places","order","keep","others"] ["pot","web"] (defScope s__law_start):=⟨rfl,rfl,rfl,by decide +kernel,rfl,by decide +kernel,by decide +kernel⟩
abbrev s__law_step:Stmt:=top 37
theorem sc__law_step:FnScope ["pot","web","told","keep","ways","kind","at","drawn","a","b","length"] ["pot","web","told"] (defScope s__law_step):=⟨rfl,rfl,rfl,by decide +kernel,rfl,by decide +kernel,by decide +kernel⟩
abbrev s__law_most:Stmt:=top 38
theorem sc__law_most:FnScope ["pot","k","most"] ["pot","k","most"] (defScope s__law_most):=⟨rfl,rfl,rfl,by decide +kernel,rfl,by decide +kernel,by decide +kernel⟩
abbrev s_law:Stmt:=top 39
theorem sc_law:FnScope ["script","k","pot","many","web","told","turn","due","found"] ["script"] (defScope s_law):=⟨rfl,rfl,rfl,by decide +kernel,rfl,by decide +kernel,by decide +kernel⟩
section
variable {P:Program} {w:World} {K:PySem.W.Frag} {mg:Str->Option Value} {base:Heap}
theorem zg3 (T:Bi mg) (D:DefOk K mg "_law_take" s__law_take ["pot","many"]):Ok P w K mg base 1 "_law_take" ["pot","many"] spTake:=by
 refine zbi (k:=0) D sc__law_take (fun vs H Q E h=>?_) (fun f cdv A outer s H vs Q E hr h=>?_)
 ·obtain⟨p,m,rfl,_⟩:=h
  rfl
 obtain⟨p,m,rfl,⟨a,b,hp,ha,hb,hb2⟩,hm,hm2,q⟩:=h
 have nd:=sc__law_take.nd
 refine⟨_,(zai (zb2 (zap zlf (zao za2 (pv 0) zab (fun _ _=>rfl)) zab (nomark _)) (zai (za9 (i:=2) nd rfl (Or.inl rfl) (zay zcp (zao za2 (pv 0) zab (fun _ _=>rfl)) (pv 1))) (zai (zdf (zay zlg (zao za2 (pv 0) zab (fun _ _=>rfl)) (pv 1)) (zny (pv 0) zab zjf)) (zak (zav (pv 2))))) za5) (zai (zdf (zay zcp (zay zbw (zay zld (zao za2 (pv 0) zab (fun _ _=>rfl)) zab) zab) zab) (zny (pv 0) zab zjf)) (zak (zav (zay zcp (zay zlg (zay zcp (zay zco (zao za2 (pv 0) zab (fun _ _=>rfl)) zab) zab) zab) (pv 1)))))),?_⟩
 refine⟨_,rfl,p,_,_,_,rfl,rfl,SqL.of hp,rfl,_,_,rfl,rfl,_,rfl,?_⟩
 refine ite2 (fun c=>?_) (fun c=>?_)
 ·refine⟨_,rfl,p,_,_,_,rfl,rfl,SqL.of hp,rfl,_,rfl,_,_,rfl,rfl,hm,?_⟩
  refine⟨_,rfl,p,_,_,_,rfl,rfl,SqL.of hp,rfl,_,rfl,_,_,rfl,rfl,⟨hm,hm2⟩,?_⟩
  refine⟨_,rfl,p,_,0,0,rfl,rfl,hp,rfl,_,rfl,?_⟩
  refine q _ _ (Int.emod_nonneg _ (by trivial)) (Int.emod_lt_of_pos _ hm) But.upd ⟨a / m,b,zae,Int.ediv_nonneg ha (by trivial),hb,hb2⟩
 ·refine⟨_,rfl,p,_,_,_,rfl,rfl,SqL.of hp,rfl,_,_,rfl,rfl,.inr ⟨by decide,by decide⟩,_,_,rfl,rfl,_,_,rfl,rfl,(by show (0:Int) < 2147483647;decide),?_⟩
  refine⟨_,rfl,p,_,1,1,rfl,rfl,hp,rfl,?_⟩
  have n1:0≤(b * 48271 + 12820163) % 2147483647:=Int.emod_nonneg _ (by decide)
  have n2:(b * 48271 + 12820163) % 2147483647 < 2147483647:=Int.emod_lt_of_pos _ (by decide)
  refine⟨_,rfl,p,_,_,_,rfl,rfl,SqL.of zae,rfl,_,_,rfl,rfl,⟨by decide,by decide,by trivial⟩,_,_,rfl,rfl,(by show (0:Int) < 2147483629;decide),_,_,rfl,rfl,⟨by decide,by decide⟩,_,rfl,_,_,rfl,rfl,hm,?_⟩
  exact q _ _ (Int.emod_nonneg _ (by trivial)) (Int.emod_lt_of_pos _ hm) But.upd ⟨a,_,zae,ha,n1,n2⟩
theorem zii (T:Bi mg) (D:DefOk K mg "_law_pot" s__law_pot ["script","k"]):Ok P w K mg base 1 "_law_pot" ["script","k"] (spPot K):=by
 refine zbi (k:=0) D sc__law_pot (fun vs H Q E h=>?_) (fun f cdv A outer s H vs Q E hr h=>?_)
 ·obtain⟨a,k,ns,rfl,_⟩:=h
  rfl
 obtain⟨a,k,ns,rfl,hS,hk0,hk1,q⟩:=h
 have nd:=sc__law_pot.nd
 have hl:(ns.map V.int).length=ns.length:=List.length_map _
 refine⟨_,(zai (za9 (i:=2) nd rfl (Or.inl rfl) zab) (zai (zb2 (zap zcy (pv 1) (zaf zag rfl T.z_len (by decide +kernel) (zaa (pv 0) zac)) (nomark _)) (zak (za9 (i:=2) nd rfl (Or.inl rfl) (zay zcp (zao za2 (pv 0) (pv 1) (fun _ _=>rfl)) (zay zlc (zay zlc (zay zco zab zab) (zay zco zab zab)) (zay zco zab zab))))) za5) (zai (za9 (i:=3) nd rfl (Or.inl rfl) (zao za2 (zep (zaa zab (zaa zab (zaa zab (zaa zab (zaa zab zac)))))) (zay zcp (pv 1) zab) (fun _ _=>rfl))) (zak (zav (zep (zaa (zaf (zcr rfl) rfl T.z_max (by decide +kernel) (zaa zab (zaa (zay zck (pv 2) (zay zco zab zab)) zac))) (zaa (zay zcp (zay zco (zay zbw (zay zbw (zay zcp (pv 2) (pv 3)) (zay zld zab (pv 1))) zab) zab) zab) zac)))))))),?_⟩
  -- behind the test: cell is some number that is not below nought
 have rest : ∀ (cell : Int), 0 ≤ cell → ∀ (σ : L2.St), σ = [some (.ref a), some (.int k), some (.int cell), none] →
     (tSeq (tAsg (tOp (rIxL K) (tLst (tCons (tC (.int 2147483629)) (tCons (tC (.int 2147483587)) (tCons (tC (.int 2147483579)) (tCons (tC (.int 2147483563)) (tCons (tC (.int 2147483549)) tNil)))))) (tOp (rI (fun _ j=>0 < j) fun i j=>.int (i % j)) (tVar 1) (tC (.int 5)))) (gName 3))
       (tRet (tLst (tCons (tCB (fun xs H Q=>∃ i j,xs=[.int i,.int j]∧Q (.int (if j > i then j else i)) H) (tCons (tC (.int 0)) (tCons (tOp (rI0 fun i j=>.int (i - j)) (tVar 2) (tOp (rI CPow fun i j=>.int (i ^ j.toNat)) (tC (.int 10)) (tC (.int 18)))) tNil)))
         (tCons (tOp (rI (fun _ j=>0 < j) fun i j=>.int (i % j)) (tOp (rI CPow fun i j=>.int (i ^ j.toNat)) (tOp (rI0 fun i j=>.int (i + j)) (tOp (rI0 fun i j=>.int (i + j)) (tOp (rI (fun _ j=>0 < j) fun i j=>.int (i % j)) (tVar 2) (tVar 3)) (tOp (rI CMul fun i j=>.int (i * j)) (tC (.int 7919)) (tVar 1))) (tC (.int 11))) (tC (.int 3))) (tC (.int 2147483647))) tNil)))))
       { nx:=fun _ H'=>Q .non H',rt:=Q } σ H:=by
  intro cell hc σ hσ
  subst hσ
  refine⟨(by show 5≤sizeLine;decide),fun l hl=>?_⟩
  refine⟨_,rfl,_,_,rfl,rfl,(by show (0:Int) < 5;decide),?_⟩
  have m0:0≤k % 5:=Int.emod_nonneg _ (by decide)
  have m1:k % 5 < 5:=Int.emod_lt_of_pos _ (by decide)
  have pr:∃ v:Int,atI [V.int 2147483629,V.int 2147483587,V.int 2147483579,V.int 2147483563,V.int 2147483549] (k % 5)=some (.int v)∧2147483549≤v∧v≤2147483629:=by
   have:k % 5=0∨k % 5=1∨k % 5=2∨k % 5=3∨k % 5=4:=by trivial
   rcases this with e | e | e | e | e <;> rw[e] <;> exact⟨_,rfl,by decide,by decide⟩
  obtain⟨v,hv,v1,v2⟩:=pr
  refine⟨l,_,_,_,rfl,rfl,SqL.of zae,hv,?_⟩
  have S1:Same H (upd H l (.lst [V.int 2147483629,V.int 2147483587,V.int 2147483579,V.int 2147483563,V.int 2147483549])):=zam hl
  refine⟨_,rfl,_,_,rfl,rfl,⟨by decide,by decide,by decide⟩,_,_,rfl,rfl,_,_,rfl,?_⟩
  refine⟨_,rfl,_,rfl,_,_,rfl,rfl,(by show (0:Int) < v;trivial),_,rfl,_,_,rfl,rfl,.inl ⟨by decide,by decide⟩,_,_,rfl,rfl,_,_,rfl,rfl,_,_,rfl,rfl,⟨by decide,by decide,?_⟩,_,_,rfl,rfl,(by show (0:Int) < 2147483647;decide),?_⟩
  ·have c0:0≤cell % v:=Int.emod_nonneg _ (by trivial)
   have c1:cell % v < v:=Int.emod_lt_of_pos _ (by trivial)
   trivial
  refine⟨(by show 2≤sizeLine;decide),fun l2 hl2=>?_⟩
  refine q l2 _ (S1.trans (zam hl2)) (S1.free hl2) ⟨_,_,zae,?_,Int.emod_nonneg _ (by decide),Int.emod_lt_of_pos _ (by decide)⟩
  split <;> trivial
 refine⟨_,rfl,_,rfl,a,_,rfl,.inl hS,_,_,rfl,rfl,_,rfl,?_⟩
 refine ite2 (fun c=>?_) (fun c=>?_)
 ·have c':k < (((ns.map V.int).length:Nat):Int):=of_decide_eq_true c
  rw[hl] at c'
  obtain⟨v,hv⟩:∃ v:Int,atI (ns.map V.int) k=some (.int v):=by
   have hk:k.toNat < ns.length:=by trivial
   have ek:k=((k.toNat:Nat):Int):=by trivial
   have z:atI (ns.map V.int) ((k.toNat:Nat):Int)=some (.int ns[k.toNat]):=zme (by rw[List.getElem?_map,List.getElem?_eq_getElem hk] <;> rfl)
   rw[← ek] at z
   exact⟨_,z⟩
  refine⟨_,rfl,_,rfl,a,_,_,_,rfl,rfl,hS,hv,?_⟩
  refine⟨_,_,rfl,rfl,⟨by decide,by decide,by decide⟩,_,_,rfl,rfl,⟨by decide,by decide,by decide⟩,_,_,rfl,rfl,mulB,_,_,rfl,rfl,⟨by decide,by decide,by decide⟩,_,_,rfl,rfl,mulB2,_,_,rfl,rfl,posB,?_⟩
  exact rest _ (Int.emod_nonneg _ (by have:=posB;trivial)) _ rfl
 ·exact rest 5 (by decide) _ rfl
theorem zfd (T:Bi mg) (D:DefOk K mg "_law_length" s__law_length ["pot","way"]) (O__law_take:Ok P w K mg base 1 "_law_take" ["pot","many"] spTake):Ok P w K mg base 2 "_law_length" ["pot","way"] spLength:=by
 refine zbi (k:=1) D sc__law_length (fun vs H Q E h=>?_) (fun f cdv A outer s H vs Q E hr h=>?_)
 ·obtain⟨p,y,rfl,_⟩:=h
  rfl
 obtain⟨p,y,rfl,hp,hy0,hy5,q⟩:=h
 have nd:=sc__law_length.nd
 refine⟨_,(zai (zb2 (zap zcy (pv 1) zab (nomark _)) (zak (zav (zao za2 (zep (zaa zab (zaa (zay zbw zab (zad O__law_take hr rfl (zaa (pv 0) (zaa zab zac)))) zac))) (pv 1) (fun _ _=>rfl)))) za5) (zai (zb2 (zap zbe (pv 1) zab (nomark _)) (zak (zav (zay zbw zab (zad O__law_take hr rfl (zaa (pv 0) (zaa zab zac)))))) za5) (zai (zb2 (zap zbe (pv 1) zab (nomark _)) (zak (zav (zao za2 (zep (zaa zab (zaa zab (zaa zab (zaa (zay zco zab zab) (zaa (zay zck (zay zco zab zab) zab) (zaa (zay zco zab zab) zac))))))) (zad O__law_take hr rfl (zaa (pv 0) (zaa zab zac))) (fun _ _=>rfl)))) za5) (zak (zav (zay zbw zab (zay zld (zad O__law_take hr rfl (zaa (pv 0) (zaa (zay zco zab zab) zac))) (zad O__law_take hr rfl (zaa (pv 0) (zaa (zay zbw (zay zco zab zab) zab) zac)))))))))),?_⟩
 refine⟨_,rfl,_,_,rfl,rfl,_,rfl,?_⟩
 refine ite2 (fun c=>?_) (fun c=>?_)
 ·have c':y < 2:=of_decide_eq_true c
  refine⟨_,rfl,p,3,rfl,hp,by decide,by decide,fun r H1 r0 r1 b1 p1=>?_⟩
  refine⟨_,_,rfl,rfl,(by show 2≤sizeLine;decide),fun l hl=>?_⟩
  have at_:∃ v:Int,atI [V.int 1,V.int (1 + r)] y=some (.int v)∧1≤v∧v≤10 ^ 18:=by
   have:y=0∨y=1:=by trivial
   rcases this with e | e <;> rw[e]
   ·exact⟨1,rfl,by decide +kernel,by decide +kernel⟩
   ·exact⟨1 + r,rfl,by trivial,by trivial⟩
  obtain⟨v,hv,v0,v1⟩:=at_
  refine⟨_,rfl,l,_,_,_,rfl,rfl,SqL.of zae,hv,?_⟩
  obtain⟨a',b',e',z⟩:=p1
  exact q v _ v0 v1 (b1.trans (But.new hl)) ⟨a',b',(zam hl) _ _ e',z⟩
 refine⟨_,rfl,rfl,_,rfl,?_⟩
 refine ite2 (fun c2=>?_) (fun c2=>?_)
 ·refine⟨_,rfl,p,50,rfl,hp,by decide,by decide,fun r H1 r0 r1 b1 p1=>?_⟩
  exact⟨_,_,rfl,rfl,q _ _ (by trivial) (by trivial) b1 p1⟩
 refine⟨_,rfl,rfl,_,rfl,?_⟩
 refine ite2 (fun c3=>?_) (fun c3=>?_)
 ·refine⟨_,_,rfl,rfl,⟨by decide,by decide,by decide⟩,_,_,rfl,rfl,⟨by decide,by decide,by decide⟩,_,_,rfl,rfl,_,_,rfl,rfl,⟨by decide,by decide,by decide⟩,(by show 6≤sizeLine;decide),fun l hl=>?_⟩
  have hp':Pot (upd H l (.lst [V.int 1,V.int 2,V.int 3,V.int ((10:Int) ^ (18:Int).toNat),V.int ((10:Int) ^ (18:Int).toNat - 1),V.int ((10:Int) ^ (17:Int).toNat)])) p:=by
   obtain⟨a',b',e',z⟩:=hp
   exact⟨a',b',(zam hl) _ _ e',z⟩
  have lp:l≠p:=by
   obtain⟨a',b',e',z⟩:=hp
   exact fun e=>by rw[e,e'] at hl;cases hl
  refine⟨_,rfl,p,6,rfl,hp',by decide,by decide,fun r H1 r0 r1 b1 p1=>?_⟩
  have at_:∃ v:Int,atI [V.int 1,V.int 2,V.int 3,V.int ((10:Int) ^ (18:Int).toNat),V.int ((10:Int) ^ (18:Int).toNat - 1),V.int ((10:Int) ^ (17:Int).toNat)] r=some (.int v)∧1≤v∧v≤10 ^ 18:=by
   have:r=0∨r=1∨r=2∨r=3∨r=4∨r=5:=by trivial
   rcases this with e | e | e | e | e | e <;> rw[e] <;> exact⟨_,rfl,by decide +kernel,by decide +kernel⟩
  obtain⟨v,hv,v0,v1⟩:=at_
  refine⟨l,_,_,_,rfl,rfl,SqL.of (b1 _ _ lp zae),hv,?_⟩
  exact q v _ v0 v1 ((But.new hl).trans b1) p1
 ·refine⟨_,rfl,_,_,rfl,rfl,⟨by decide,by decide,by decide⟩,p,_,rfl,hp,by decide,by decide,fun r H1 r0 r1 b1 p1=>?_⟩
  refine⟨_,rfl,_,_,rfl,rfl,⟨by decide,by decide,by decide⟩,_,_,rfl,rfl,p,_,rfl,p1,by decide,by decide,fun r2 H2 r20 r21 b2 p2=>?_⟩
  have e9:((10:Int) ^ (9:Int).toNat)=1000000000:=by decide
  rw[e9] at r1 r21
  refine⟨_,_,rfl,rfl,.inl ⟨by trivial,by trivial⟩,_,_,rfl,rfl,?_⟩
  have m0:0≤r * r2:=Int.mul_nonneg r0 r20
  have m1:r * r2≤999999999 * 1000000000:=Int.mul_le_mul (by trivial) (by trivial) r20 (by decide)
  exact q _ _ (by trivial) (by trivial) (b1.trans b2) p2
theorem zg2 (T:Bi mg) (D:DefOk K mg "_law_tied" s__law_tied ["pot","n","style","a","b"]) (O__law_take:Ok P w K mg base 1 "_law_take" ["pot","many"] spTake):Ok P w K mg base 2 "_law_tied" ["pot","n","style","a","b"] spTied:=by
 refine zbi (k:=1) D sc__law_tied (fun vs H Q E h=>?_) (fun f cdv A outer s H vs Q E hr h=>?_)
 ·obtain⟨p,n,y,a,b,rfl,_⟩:=h
  rfl
 obtain⟨p,n,y,a,b,rfl,hp,q⟩:=h
 have nd:=sc__law_tied.nd
 have q0:∀ k,Q (.bl k) H:=fun k=>q k H But.refl hp
 refine⟨_,(zai (za9 (i:=5) nd rfl (Or.inl rfl) (zom (za3 zbe (zay zck (pv 4) (pv 3)) zab (nomark _)) (zb9 (za3 zbe (zay zck (pv 4) (pv 3)) (zay zck (pv 1) zab) (nomark _))))) (zai (zb2 (zap zcy (pv 2) zab (nomark _)) (zak (zav (zom (pv 5) (zb9 (zcj (za3 zbe (pv 2) zab (nomark _)) (zb9 (za3 zbe (zad O__law_take hr rfl (zaa (pv 0) (zaa zab zac))) zab (nomark _)))))))) za5) (zai (zb2 (zap zcy (pv 2) zab (nomark _)) (zak (zav (za3 zbe (za3 zlf (zad O__law_take hr rfl (zaa (pv 0) (zaa zab zac))) zab (nomark _)) (za3 zbe (pv 2) zab (nomark _)) (nomark _)))) za5) (zai (zb2 (zap zbe (pv 2) zab (nomark _)) (zak (zav (zom (za3 zbe (zay zck (pv 4) (pv 3)) zab (nomark _)) (zb9 (zcj (za3 zbe (zay zck (pv 4) (pv 3)) zab (nomark _)) (zb9 (za3 zlf (zay zcp (pv 4) zab) zab (nomark _)))))))) za5) (zai (zb2 (zap zcy (pv 2) zab (nomark _)) (zak (zav (zcj (za3 zbe (za3 zbe (zay zcp (pv 3) zab) (zay zcp (pv 4) zab) (nomark _)) (za3 zbe (pv 2) zab (nomark _)) (nomark _)) (zb9 (za3 zlf (zad O__law_take hr rfl (zaa (pv 0) (zaa zab zac))) zab (nomark _)))))) za5) (zak (zav zc6))))))),?_⟩
 refine⟨_,rfl,_,rfl,_,_,rfl,rfl,rfl,_,rfl,?_⟩
 refine ite2 (fun c=>?_) (fun c=>?_)
 all_goals (try refine⟨_,rfl,_,rfl,_,_,rfl,rfl,_,rfl,_,_,rfl,rfl,rfl,?_⟩)
 all_goals
  refine⟨_,rfl,_,_,rfl,rfl,_,rfl,?_⟩
  refine ite2 (fun c1=>?_) (fun c1=>?_)
  ·refine⟨_,rfl,_,rfl,?_⟩
   refine ite2 (fun d=>?_) (fun d=>?_)
   ·exact q0 _
   ·refine⟨_,rfl,rfl,_,rfl,?_⟩
    refine ite2 (fun d=>?_) (fun d=>?_)
    ·exact⟨_,rfl,p,_,rfl,hp,by decide,by decide,fun r H' _ _ b1 p1=>⟨rfl,q _ _ b1 p1⟩⟩
    ·exact q0 _
  refine⟨_,rfl,_,_,rfl,rfl,_,rfl,?_⟩
  refine ite2 (fun c2=>?_) (fun c2=>?_)
  ·exact⟨_,rfl,p,_,rfl,hp,by decide,by decide,fun r H' _ _ b1 p1=>⟨_,_,rfl,rfl,_,rfl,rfl,rfl,q _ _ b1 p1⟩⟩
  refine⟨_,rfl,rfl,_,rfl,?_⟩
  refine ite2 (fun c3=>?_) (fun c3=>?_)
  ·refine⟨_,rfl,_,rfl,_,_,rfl,rfl,rfl,_,rfl,?_⟩
   refine ite2 (fun d=>?_) (fun d=>?_)
   ·exact q0 _
   ·refine⟨_,rfl,_,rfl,_,_,rfl,rfl,rfl,_,rfl,?_⟩
    refine ite2 (fun d=>?_) (fun d=>?_)
    ·exact⟨_,rfl,_,_,rfl,rfl,(by show (0:Int) < 3;decide),_,_,rfl,rfl,q0 _⟩
    ·exact q0 _
  refine⟨_,rfl,_,_,rfl,rfl,_,rfl,?_⟩
  refine ite2 (fun c4=>?_) (fun c4=>?_)
  ·refine⟨_,rfl,_,_,rfl,rfl,(by show (0:Int) < 2;decide),_,rfl,_,_,rfl,rfl,(by show (0:Int) < 2;decide),rfl,_,rfl,rfl,rfl,_,rfl,?_⟩
   refine ite2 (fun d=>?_) (fun d=>?_)
   ·exact⟨_,rfl,p,_,rfl,hp,by decide,by decide,fun r H' _ _ b1 p1=>⟨_,_,rfl,rfl,q _ _ b1 p1⟩⟩
   ·exact q0 _
  ·exact q0 _
theorem zgd (T:Bi mg) (D:DefOk K mg "_law_order" s__law_order ["pot","many"]) (O__law_take:Ok P w K mg base 1 "_law_take" ["pot","many"] spTake):Ok P w K mg base 2 "_law_order" ["pot","many"] spOrder:=by
 refine zbi (k:=1) D sc__law_order (fun vs H Q E h=>?_) (fun f cdv A outer s H vs Q E hr h=>?_)
 ·obtain⟨p,m,rfl,_⟩:=h
  rfl
 obtain⟨p,m,rfl,hp,hm0,hm1,q⟩:=h
 have nd:=sc__law_order.nd
 refine⟨_,(zai (za9 (i:=2) nd rfl (Or.inl rfl) (zax (zby rfl) rfl T.z_list (by decide +kernel) (zaa (zax zcb rfl T.z_range (by decide +kernel) (zaa (pv 1) zac)) zac))) (zai (za9 (i:=3) nd rfl (Or.inl rfl) (zep zac)) (zai (zde PassesOwn.never rfl (zbh rfl T.z_range (zaa (pv 1) zac)) (zah (i:=4) nd rfl (Or.inl rfl)) (zak (zds (zib PySem.F.plainAttrs_list PySem.F.slot_list_append PySem.F.type_list_append zdi (pv 3) (zaa (zib PySem.F.plainAttrs_list PySem.F.slot_list_pop PySem.F.type_list_pop zm5 (pv 2) (zaa (zad O__law_take hr rfl (zaa (pv 0) (zaa (zaf zag rfl T.z_len (by decide +kernel) (zaa (pv 2) zac)) zac))) zac)) zac))))) (zak (zav (pv 3)))))),?_⟩
 refine⟨_,rfl,m,rfl,fun g hg=>?_⟩
 refine⟨g,m,rfl,zae,hm0,hm1,fun l hl=>?_⟩
 refine⟨(by show 0≤sizeLine;decide),fun l2 hl2=>?_⟩
 obtain⟨H0,eH0⟩:∃ H0,H0=upd (upd (upd H g (.rng 0 m)) l (.lst ((List.range m.toNat).map fun i:Nat=>V.int (i:Int)))) l2 (.lst []):=⟨_,rfl⟩
 rw[← eH0]
 have S1:Same H (upd H g (.rng 0 m)):=zam hg
 have S2:=S1.trans (zam (o:=.lst ((List.range m.toNat).map fun i:Nat=>V.int (i:Int))) hl)
 have S3:Same H H0:=by rw[eH0];exact S2.trans (zam hl2)
 have fl:H l=none:=S1.free hl
 have fl2:H l2=none:=S2.free hl2
 have ll2:l≠l2:=fun e=>by rw[← e,zae] at hl2;cases hl2
 have el:H0 l=some (.lst ((List.range m.toNat).map fun i:Nat=>V.int (i:Int))):=by rw[eH0,zas ll2,zae]
 have el2:H0 l2=some (.lst []):=by rw[eH0,zae]
 have hp0:Pot H0 p:=by
  obtain⟨a,b,e,z⟩:=hp
  exact⟨a,b,S3 _ _ e,z⟩
 have nlp:l≠p:=by
  obtain⟨a,b,e,z⟩:=hp
  exact fun x=>by rw[x,e] at fl;cases fl
 have nl2p:l2≠p:=by
  obtain⟨a,b,e,z⟩:=hp
  exact fun x=>by rw[x,e] at fl2;cases fl2
 refine⟨_,rfl,m,rfl,by trivial,by trivial,?_⟩
 refine zbs (n:=m.toNat) (fun i σ H'=>∃ (t:Option V) (ls ms:List Int),σ=[some (.ref p),some (.int m),some (.ref l),some (.ref l2),t]∧H' l=some (.lst (ls.map V.int))∧H' l2=some (.lst (ms.map V.int))∧Pot H' p ∧
  (∀ b o,b≠p->H b=some o->H' b=some o)∧(ms++ls).Perm ((List.range m.toNat).map fun i:Nat=>(i:Int))∧ms.length=i) ?start ?turn ?fin
 case start=>exact⟨none,(List.range m.toNat).map fun i:Nat=>(i:Int),[],rfl,by rw[el,List.map_map];rfl,el2,hp0,fun b o _ e=>S3 b o e,List.Perm.refl _,rfl⟩
 case turn =>
  rintro i σ H' hi ⟨t,ls,ms,rfl,e1,e2,hp',kp,pm,hl'⟩
  have hlen:ls.length=m.toNat - i:=by
   have:=pm.length_eq
   rw[List.length_append,List.length_map,List.length_range] at this
   trivial
  refine⟨_,rfl,.inl ⟨rfl,_,SqL.of e2⟩,_,rfl,.inl ⟨rfl,_,SqL.of e1⟩,_,rfl,_,rfl,l,_,rfl,.inl (SqL.of e1),?_⟩
  refine⟨p,_,rfl,hp',(by rw[List.length_map];trivial),(by rw[List.length_map];trivial),fun r H1 r0 r1 b1 p1=>?_⟩
  rw[List.length_map] at r1
  have hr1:r.toNat < ls.length:=by trivial
  have er:r=((r.toNat:Nat):Int):=by trivial
  have six:seqIndex? r (ls.map V.int).length=some r.toNat:=(zim (by unfold ixN;rw[if_pos r0,if_pos (by rw[List.length_map];trivial)])).1
  refine⟨l,_,r,r.toNat,.int ls[r.toNat],rfl,rfl,b1 _ _ nlp e1,by trivial,by trivial,six,by rw[List.getElem?_map,List.getElem?_eq_getElem hr1];rfl,?_⟩
  refine⟨l2,_,_,rfl,rfl,by rw[zas ll2.symm];exact b1 _ _ nl2p e2,?_,?_⟩
  ·rw[List.length_map]
   exact Nat.lt_of_le_of_lt (by trivial:ms.length≤1000) (by decide)
  ·refine⟨_,ls.eraseIdx r.toNat,ms++[ls[r.toNat]],rfl,?_,?_,?_,?_,?_,by rw[List.length_append,List.length_singleton];trivial⟩
   ·rw[zas ll2,zae,zg5]
   ·rw[zae,List.map_append];rfl
   ·obtain⟨a,b,e,z⟩:=p1
    exact⟨a,b,by rw[zas nl2p.symm,zas nlp.symm];exact e,z⟩
   ·intro b o hb e
    have n1:b≠l:=fun x=>by rw[x,fl] at e;cases e
    have n2:b≠l2:=fun x=>by rw[x,fl2] at e;cases e
    rw[zas n2,zas n1]
    exact b1 _ _ hb (kp _ _ hb e)
   ·refine List.Perm.trans ?_ pm
    rw[List.append_assoc]
    refine List.Perm.append_left _ ?_
    show (ls[r.toNat]::ls.eraseIdx r.toNat).Perm ls
    exact zfy ls r.toNat hr1
 case fin =>
  rintro σ H' ⟨t,ls,ms,rfl,e1,e2,hp',kp,pm,hl'⟩
  have hlen:ls=[]:=by
   have:=pm.length_eq
   rw[List.length_append,List.length_map,List.length_range] at this
   exact List.eq_nil_of_length_eq_zero (by trivial)
  subst hlen
  rw[List.append_nil] at pm
  exact⟨_,rfl,q l2 H' ms kp hp' fl2 nl2p e2 pm⟩
def WInv (H:Hp) (p ln lt:Addr) (m n st wy:Int) (ms:List Int) (b a:Nat) (σ:L2.St) (H':Hp):Prop :=
 ∃ (t7 t8 t9 t10:Option V) (ys:List V) (ties:List Tie),σ=[some (.ref p),some (.int m),some (.int n),some (.int st),some (.int wy),some (.ref ln),some (.ref lt),t7,t8,t9,t10] ∧
  H' ln=some (.lst (ms.map V.int))∧H' lt=some (.lst ys)∧TieL H' ys ties∧Pot H' p∧(∀ b o,b≠p->H b=some o->H' b=some o)∧Grown n.toNat ms b a ties
theorem zih (T:Bi mg) (D:DefOk K mg "_law_web" s__law_web ["pot","most"]) (O__law_take:Ok P w K mg base 2 "_law_take" ["pot","many"] spTake) (O__law_order:Ok P w K mg base 2 "_law_order" ["pot","many"] spOrder)
  (O__law_tied:Ok P w K mg base 2 "_law_tied" ["pot","n","style","a","b"] spTied) (O__law_length:Ok P w K mg base 2 "_law_length" ["pot","way"] spLength):Ok P w K mg base 3 "_law_web" ["pot","most"] (spWeb K):=by
 refine zbi (k:=2) D sc__law_web (fun vs H Q E h=>?_) (fun f cdv A outer s H vs Q E hr h=>?_)
 ·obtain⟨p,m,rfl,_⟩:=h
  rfl
 obtain⟨p,m,rfl,hp,hm0,hm1,q⟩:=h
 have nd:=sc__law_web.nd
 refine⟨_,(zai (za9 (i:=2) nd rfl (Or.inl rfl) (zay zbw zab (zad O__law_take hr rfl (zaa (pv 0) (zaa (pv 1) zac))))) (zai (za9 (i:=3) nd rfl (Or.inl rfl) (zad O__law_take hr rfl (zaa (pv 0) (zaa zab zac)))) (zai (za9 (i:=4) nd rfl (Or.inl rfl) (zad O__law_take hr rfl (zaa (pv 0) (zaa zab zac)))) (zai (za9 (i:=5) nd rfl (Or.inl rfl) (zad O__law_order hr rfl (zaa (pv 0) (zaa (pv 2) zac)))) (zai (za9 (i:=6) nd rfl (Or.inl rfl) (zep zac)) (zai (zde PassesOwn.never rfl (zbh rfl T.z_range (zaa (pv 2) zac)) (zah (i:=7) nd rfl (Or.inl rfl)) (zak (zde PassesOwn.never rfl (zbh rfl T.z_range (zaa (pv 7) zac)) (zah (i:=8) nd rfl (Or.inl rfl)) (zak (zb2 (PW.pt (zjk (zcm (zad O__law_tied hr rfl (zaa (pv 0) (zaa (pv 2) (zaa (pv 3) (zaa (pv 8) (zaa (pv 7) zac))))))) (zf6 (zap zcy (zaf zag rfl T.z_len (by decide +kernel) (zaa (pv 6) zac)) zab (nomark _))))) (zai (zdf (zaf zd7 rfl T.z_sorted (by decide +kernel) (zaa (zep (zaa (zao za2 (pv 5) (pv 8) (fun _ _=>rfl)) (zaa (zao za2 (pv 5) (pv 7) (fun _ _=>rfl)) zac))) zac)) (zpv (n:=2) rfl (zan (zah (i:=9) nd rfl (Or.inl rfl)) (zan (zah (i:=10) nd rfl (Or.inl rfl)) zba)))) (zak (zds (zib PySem.F.plainAttrs_list PySem.F.slot_list_append PySem.F.type_list_append zdi (pv 6) (zaa (znz (zaa (pv 9) (zaa (pv 10) (zaa (zad O__law_length hr rfl (zaa (pv 0) (zaa (pv 4) zac))) zac)))) zac))))) za5))))) (zak (zav (znz (zaa (pv 2) (zaa (zax zdp rfl T.z_tuple (by decide +kernel) (zaa (zaf zd6 rfl T.z_sorted (by decide +kernel) (zaa (pv 6) zac)) zac)) zac))))))))))),?_⟩
 refine⟨_,rfl,_,rfl,p,m,rfl,hp,by trivial,by trivial,fun r1 H1 r10 r11 b1 p1=>?_⟩
 refine⟨_,_,rfl,rfl,?_⟩
 refine⟨_,rfl,p,8,rfl,p1,by decide,by decide,fun st H2 _ _ b2 p2=>?_⟩
 refine⟨_,rfl,p,5,rfl,p2,by decide,by decide,fun wy H3 wy0 wy1 b3 p3=>?_⟩
 refine⟨_,rfl,_,rfl,p,_,rfl,p3,by trivial,by trivial,fun ln H4 ms b4 p4 f4 n4 e4 pm=>?_⟩
 obtain⟨n,en⟩:∃ n:Int,n=1 + r1:=⟨_,rfl⟩
 rw[← en] at pm
 have bt4:But p H H4:=b1.trans (b2.trans (b3.trans b4))
 have fln:H ln=none:=by
  cases e:H ln with
  | none=>rfl
  | some u=>rw[(b1.trans (b2.trans b3)) _ _ n4 e] at f4;cases f4
 refine⟨(by show 0≤sizeLine;decide),fun lt hlt=>?_⟩
 have flt:H lt=none:=by
  by_cases z:lt=p
  ·obtain⟨a',b',e',_⟩:=p4;rw[z,e'] at hlt;cases hlt
  ·cases e:H lt with
   | none=>rfl
   | some u=>rw[bt4 _ _ z e] at hlt;cases hlt
 have nlt:lt≠p:=by
  obtain⟨a',b',e',_⟩:=p4
  exact fun x=>by rw[x,e'] at hlt;cases hlt
 have nln:ln≠lt:=fun x=>by rw[← x,e4] at hlt;cases hlt
 have pm0:Perm0 n.toNat ms:=Perm0.of pm
 refine⟨_,rfl,n,by rw[en],by trivial,by trivial,?_⟩
 refine zbs (n:=n.toNat) (fun i σ H'=>WInv H p ln lt m n st wy ms i 0 σ H') ?start ?turn ?fin
 case start =>
  refine⟨none,none,none,none,[],[],by rw[en];rfl,by rw[zas nln];exact e4,zae,.nil,?_,fun b o hb e=>?_,Grown.start⟩
  ·obtain⟨a',b',e',z⟩:=p4
   exact⟨a',b',by rw[zas nlt.symm];exact e',z⟩
  ·rw[zas (fun x=>by rw[x,flt] at e;cases e)]
   exact bt4 _ _ hb e
 case turn =>
  rintro i σ H' hi ⟨t7,t8,t9,t10,ys,ties,rfl,g1,g2,g3,g4,g5,g6⟩
  refine⟨_,rfl,_,rfl,by trivial,by trivial,?_⟩
  have ei:((0 + (i:Int)):Int).toNat=i:=by trivial
  rw[ei]
  refine zbs (n:=i) (fun k σ H''=>(∃ t7,σ[7]?=some (some (.int (0 + (i:Int))))∧t7=())∧WInv H p ln lt m n st wy ms i k σ H'') ?start2 ?turn2 ?fin2
  case start2=>exact⟨⟨(),rfl,rfl⟩,some (.int (0 + (i:Int))),t8,t9,t10,ys,ties,rfl,g1,g2,g3,g4,g5,g6⟩
  case fin2 =>
   rintro σ H'' ⟨_,t7,t8,t9,t10,ys,ties,rfl,g1,g2,g3,g4,g5,g6⟩
   exact⟨t7,t8,t9,t10,ys,ties,rfl,g1,g2,g3,g4,g5,g6.down⟩
  case turn2 =>
   rintro k σ K1 hk ⟨⟨_,h7,_⟩,t7,t8,t9,t10,ys,ties,rfl,g1,g2,g3,g4,g5,g6⟩
   have e7:t7=some (.int (0 + (i:Int))):=by simpa using h7
   subst e7
   have again : ∀ {u8 u9 u10 : Option V} {ys' : List V} {ts : List Tie} {J : Hp}, J ln = some (.lst (ms.map V.int)) → J lt = some (.lst ys') → TieL J ys' ts → Pot J p → (∀ b o, b ≠ p → H b = some o → J b = some o) → Grown n.toNat ms i (k + 1) ts →
       (∃ t7,([some (.ref p),some (.int m),some (.int n),some (.int st),some (.int wy),some (.ref ln),some (.ref lt),some (.int (0 + (i:Int))),u8,u9,u10]:L2.St)[7]?=some (some (.int (0 + (i:Int))))∧t7=())∧WInv H p ln lt m n st wy ms i (k + 1) [some (.ref p),some (.int m),some (.int n),some (.int st),some (.int wy),some (.ref ln),some (.ref lt),some (.int (0 + (i:Int))),u8,u9,u10] J :=
    fun a1 a2 a3 a4 a5 a6=>⟨⟨(),rfl,rfl⟩,_,_,_,_,_,_,rfl,a1,a2,a3,a4,a5,a6⟩
   refine⟨_,rfl,_,rfl,_,rfl,_,rfl,_,rfl,p,_,_,_,_,rfl,g4,fun kk K2 c2 d2=>⟨kk,rfl,?_⟩⟩
   have nlnp:ln≠p:=n4
   have l1:K2 ln=some (.lst (ms.map V.int)):=c2 _ _ nlnp g1
   have l2:K2 lt=some (.lst ys):=c2 _ _ nlt g2
   have tup2:∀ a xs,K1 a=some (.tup xs)->K2 a=some (.tup xs):=fun a xs e=>c2 _ _ (fun x=>by
    obtain⟨a',b',e',_⟩:=g4
    rw[x,e'] at e;cases e) e
   have l3:TieL K2 ys ties:=g3.keep tup2
   have l5:∀ b o,b≠p->H b=some o->K2 b=some o:=fun b o hb e=>c2 _ _ hb (g5 _ _ hb e)
   have ylen:ys.length=ties.length:=Paired.length g3
   cases kk with
   | false =>
    refine iteF (iteF ?_)
    exact again l1 l2 l3 d2 l5 g6.skip
   | true =>
    refine iteT ?_
    refine⟨_,rfl,lt,_,rfl,.inl (SqL.of l2),_,_,rfl,rfl,_,rfl,?_⟩
    refine ite2 (fun c=>?_) (fun c=>?_)
    case refine_2=>exact again l1 l2 l3 d2 l5 g6.skip
    have c':((ys.length:Nat):Int) < 60:=of_decide_eq_true c
    have hkn:k < n.toNat:=by trivial
    have at_:∀ j:Nat,j < n.toNat->atI (ms.map V.int) (j:Int)=some (.int (ms.getD j 0)):=fun j hj=>by
     have hj':j < ms.length:=by rw[pm0.len];exact hj
     refine zme ?_
     rw[List.getElem?_map,List.getElem?_eq_getElem hj']
     simp [List.getD,hj']
    have ak:atI (ms.map V.int) (0 + (k:Int))=some (.int (ms.getD k 0)):=by rw[Int.zero_add];exact at_ k hkn
    have ai:atI (ms.map V.int) (0 + (i:Int))=some (.int (ms.getD i 0)):=by rw[Int.zero_add];exact at_ i hi
    refine⟨_,rfl,_,rfl,ln,_,_,_,rfl,rfl,SqL.of l1,ak,_,rfl,_,rfl,ln,_,_,_,rfl,rfl,SqL.of l1,ai,(by show 2≤sizeLine;decide),fun s1 hs1=>?_⟩
    refine⟨s1,[ms.getD k 0,ms.getD i 0],rfl,SqL.of zae,(by show 2 < 64;decide),fun zs pz wz s2 hs2=>?_⟩
    obtain⟨x,y,rfl,hxy,hor⟩:=zj2 pz wz
    refine⟨s2,_,rfl,SqL.of zae,rfl,?_⟩
    refine⟨_,_,rfl,_,_,rfl,rfl,?_⟩
    have n1:∀ b o,K2 b=some o->b≠s1:=fun b o e=>zat e hs1
    have n2:∀ b o,K2 b=some o->b≠s2:=fun b o e=>zat (zam hs1 b o e) hs2
    have up:∀ b o,K2 b=some o->upd (upd K2 s1 (.lst [.int (ms.getD k 0),.int (ms.getD i 0)])) s2 (.lst [.int x,.int y]) b=some o:=fun b o e=>by rw[zas (n2 b o e),zas (n1 b o e)];exact e
    refine⟨_,rfl,.inl ⟨rfl,_,SqL.of (up _ _ l2)⟩,_,rfl,_,rfl,_,rfl,_,rfl,?_⟩
    refine⟨p,wy,rfl,?_,wy0,wy1,fun len K5 ln0 ln1 c5 d5=>?_⟩
    ·obtain⟨a',b',e',z⟩:=d2
     exact⟨a',b',up _ _ e',z⟩
    refine⟨(by show 3≤sizeLine;decide),fun tp htp=>?_⟩
    have pl:∃ xs,K2 p=some (.lst xs):=d2.lst
    have up5:∀ b o,b≠p->K2 b=some o->upd K5 tp (.tup [.int x,.int y,.int len]) b=some o:=fun b o hb e=>by
     have e5:=c5 b o hb (up b o e)
     rw[zas (zat e5 htp)];exact e5
    refine⟨lt,_,_,rfl,rfl,up5 _ _ nlt l2,?_,?_⟩
    ·exact Nat.lt_of_le_of_lt (by trivial:ys.length≤1000) (by decide)
    have k5:∀ b o,b≠p->b≠lt->K2 b=some o->upd (upd K5 tp (.tup [.int x,.int y,.int len])) lt (.lst (ys++[.ref tp])) b=some o:=fun b o hb hb2 e=>by rw[zas hb2];exact up5 b o hb e
    have ntp:tp≠lt:=fun z=>by
     have:=c5 _ _ nlt (up _ _ l2)
     rw[← z,htp] at this;cases this
    refine again (k5 _ _ nlnp nln l1) zae (TieL.snoc (TieL.keep l3 fun a xs e=>k5 _ _ ?_ ?_ e) ?_) ?_ (fun b o hb e=>k5 _ _ hb (fun z=>by rw[z,flt] at e;cases e) (l5 _ _ hb e))
     (g6.add (x:=x) (y:=y) (l:=len) pm0 hk hi (by trivial) ln0 ln1 hor hxy)
    ·intro z
     obtain⟨xs',e'⟩:=pl
     rw[z,e'] at e;cases e
    ·intro z
     rw[z,l2] at e;cases e
    ·rw[zas ntp,zae];rfl
    ·obtain⟨a',b',e',z⟩:=d5
     exact⟨a',b',by rw[zas nlt.symm,zas (zat e' htp)];exact e',z⟩
 case fin =>
  rintro σ H' ⟨t7,t8,t9,t10,ys,ties,rfl,g1,g2,g3,g4,g5,g6⟩
  have ylen:ys.length=ties.length:=Paired.length g3
  have few:=g6.few
  refine⟨_,rfl,_,rfl,lt,ys,ties.map tieI,rfl,SqL.of g2,by trivial,zeq (fun y t ⟨a,e1,e2⟩=>⟨a,e1,SqT.of e2⟩) g3,fun k hk=>?_,fun qs pq wq l hl=>?_⟩
  ·obtain⟨t,_,rfl⟩:=List.mem_map.mp hk
   exact fun z=>by cases z
  obtain⟨ts,pt,tl,wt⟩:=zod g3 pq wq
  refine⟨l,_,rfl,.inl ⟨SqL.of zae,fun l' hl'=>?_⟩⟩
  refine⟨(by show 2≤sizeLine;decide),fun v hv=>?_⟩
  have S1:Same H' (upd H' l (.lst (qs.map (·.1)))):=zam hl
  have S2:=S1.trans (zam (o:=.tup (qs.map (·.1))) hl')
  have S3:=S2.trans (zam (o:=.tup [.int n,.ref l']) hv)
  refine q (.ref v) _ n ts (fun b o hb e=>S3 _ _ (g5 _ _ hb e)) ?_ ⟨by trivial,by trivial,zoj wt ((pt.pairwise_iff (fun {a b} h z=>h ⟨z.1.symm,z.2.symm⟩)).mpr g6.nd),by have:=pt.length_eq;trivial,fun t ht=>?_⟩ (by trivial) ?_
  ·obtain⟨a',b',e',z⟩:=g4
   exact⟨a',b',S3 _ _ e',z⟩
  ·have:=g6.ok t (pt.mem_iff.mp ht)
   have e:((n.toNat:Nat):Int)=n:=by trivial
   rw[e] at this
   exact this
  ·refine⟨v,_,rfl,zae,_,_,rfl,rfl,_,_,rfl,⟨l',qs.map (·.1),rfl,?_,?_⟩,rfl⟩
   ·exact (zam hv) _ _ zae
   ·exact TieL.is (tl.keep fun a xs e=>S3 _ _ e)
theorem zie (T:Bi mg) (D:DefOk K mg "is_whole" s_is_whole ["thing"]):Ok P w K mg base 1 "is_whole" ["thing"] (spD1 K (fun _=>True) wholeB):=by
 refine zbi (k:=0) D sc_is_whole (fun vs H Q E h=>?_) (fun f cdv A outer s H vs Q E hr h=>?_)
 ·obtain⟨d,v,rfl,_⟩:=h
  rfl
 obtain⟨d,v,rfl,hd,_,q⟩:=h
 have nd:=sc_is_whole.nd
 have q0:=q H (Same.refl H)
 have ty:=zpl hd
 refine⟨_,(zak (zav (zcj (zaf (zcx (n:="int")) rfl T.z_isinstance (by decide +kernel) (zaa (pv 0) (zaa (zdu (v:=.ty "int") rfl T.z_int (by decide +kernel) rfl) zac))) (zb9 (zpx (zaf (zcx (n:="bool")) rfl T.z_isinstance (by decide +kernel) (zaa (pv 0) (zaa (zdu (v:=.ty "bool") rfl T.z_bool (by decide +kernel) rfl) zac)))))))),?_⟩
 cases d with
 | int i=>exact⟨_,rfl,_,_,_,rfl,ty,rfl,_,rfl,iteT ⟨_,rfl,_,_,_,rfl,ty,rfl,_,rfl,q0⟩⟩
 | bool b=>exact⟨_,rfl,_,_,_,rfl,ty,rfl,_,rfl,iteT ⟨_,rfl,_,_,_,rfl,ty,rfl,_,rfl,q0⟩⟩
 | none=>exact⟨_,rfl,_,_,_,rfl,ty,rfl,_,rfl,iteF q0⟩
 | str x=>exact⟨_,rfl,_,_,_,rfl,ty,rfl,_,rfl,iteF q0⟩
 | tuple ds=>exact⟨_,rfl,_,_,_,rfl,ty,rfl,_,rfl,iteF q0⟩
 | list ds=>exact⟨_,rfl,_,_,_,rfl,ty,rfl,_,rfl,iteF q0⟩
 | dict ds=>exact⟨_,rfl,_,_,_,rfl,ty,rfl,_,rfl,iteF q0⟩
theorem ze9 (T:Bi mg) (D:DefOk K mg "tie_between" s_tie_between ["web","a","b"]):Ok P w K mg base 1 "tie_between" ["web","a","b"] (spTB K):=by
 refine zbi (k:=0) D sc_tie_between (fun vs H Q E h=>?_) (fun f cdv A outer s H vs Q E hr h=>?_)
 ·obtain⟨n,ts,wv,u,v,rfl,_⟩:=h
  rfl
 obtain⟨n,ts,wv,u,v,rfl,isw,few60,q⟩:=h
 have nd:=sc_tie_between.nd
 have units:∀ {x:Nat},x≤3->(A.deeper (envOfC "tie_between" (defScope s_tie_between) s.heap.objs.size f cdv)).units + x < cLine:=fun {x} hu=>by have:=hr.units;trivial
 obtain⟨g0,g,ws,rfl,hg0,hg,hall,hlw⟩:=za1 isw
 refine⟨_,(zai (za9 (i:=3) nd rfl (Or.inl rfl) (zbo (zaa (zaf (zhl rfl) rfl T.z_min (by decide +kernel) (zaa (pv 1) (zaa (pv 2) zac))) (zaa (zaf (zcr rfl) rfl T.z_max (by decide +kernel) (zaa (pv 1) (zaa (pv 2) zac))) zac)))) (zai (zde PassesOwn.never rfl (zk5 true rfl T.z_enumerate (zaa (zao zal (pv 0) zab (fun _ _=>rfl)) zac)) (zci (n:=2) rfl (zan (zah (i:=4) nd rfl (Or.inl rfl)) (zan (zah (i:=5) nd rfl (Or.inl rfl)) zba))) (zak (zb2 (zap zp2 (zau zaz (pv 5) zaw (za0 zab)) (pv 3) (nomark _)) (zak (zav (pv 4))) za5))) (zak (zav zpy)))),?_⟩
 refine⟨_,rfl,_,rfl,_,_,rfl,_,rfl,_,rfl,_,_,rfl,(by show 2≤1000;decide),fun te J1 S1 f1 e1=>?_⟩
 have eMin:(if (v:Int) < (u:Int) then (v:Int) else u)=min (u:Int) v:=by split <;> trivial
 have eMax:(if (v:Int) > (u:Int) then (v:Int) else u)=max (u:Int) v:=by split <;> trivial
 rw[eMin,eMax] at e1
 refine⟨_,rfl,g0,_,_,_,rfl,rfl,SqT.of (S1 _ _ hg0),rfl,g,rfl,⟨ws,SqX.of (S1 _ _ hg)⟩,?_⟩
 refine⟨fun i m σ J=>m=ts.length - i∧i≤ts.length∧(∃ y4 y5:Option V,σ=[some (.ref g0),some (.int (u:Int)),some (.int (v:Int)),some (.ref te),y4,y5])∧Same J1 J∧∀ k,k < i->isTB ts u v k=false,⟨_,rfl,Nat.zero_le _,⟨none,none,rfl⟩,Same.refl _,fun k hk=>(by trivial)⟩,?_⟩
 rintro i m σ J ⟨rfl,hi,⟨y4,y5,rfl⟩,sm,pre⟩
 have sH:=S1.trans sm
 have sq:SqX true K J g ws:=SqX.of (sH _ _ hg)
 by_cases hlt:i < ts.length
 ·refine .inr ⟨⟨ws,ws[i]'(by trivial),sq,by simp [show i < ws.length by trivial]⟩,fun σ' J'=>∃ m',m' < ts.length - i∧(m'=ts.length - (i + 1)∧i + 1≤ts.length∧(∃ y4 y5:Option V,σ'=[some (.ref g0),some (.int (u:Int)),some (.int (v:Int)),some (.ref te),y4,y5])∧Same J1 J'∧∀ k,k < i + 1->isTB ts u v k=false),fun _ _ h=>h,fun x J' hy=>?_⟩
  obtain⟨T',y,hT,rfl,rfl,ey⟩:=hy
  have hyi:=ey ws sq
  obtain⟨ta,hta,htie⟩:=zbf hall hlt
  rw[hta] at hyi
  cases hyi
  have S2:=zam (o:=.tup [.int (i:Nat),.ref ta]) hT
  have htie':=S2 _ _ (sH _ _ htie)
  refine⟨T',_,rfl,SqT.of zae,rfl,_,_,rfl,_,_,rfl,rfl,?_⟩
  refine⟨_,rfl,_,rfl,ta,_,rfl,htie',fun tc J3 S3 e3=>?_⟩
  have e3':J3 tc=some (.tup (([(tieAt ts i).1,(tieAt ts i).2.1]:List Int).map V.int)):=e3
  have e1':J3 te=some (.tup (([min (u:Int) v,max (u:Int) v]:List Int).map V.int)):=S3 _ _ (S2 _ _ (sm _ _ e1))
  refine⟨_,rfl,.tuple (([(tieAt ts i).1,(tieAt ts i).2.1]:List Int).map .int),.tuple (([min (u:Int) v,max (u:Int) v]:List Int).map .int),⟨tc,_,rfl,e3',IsAll.ints _⟩,⟨te,_,rfl,e1',IsAll.ints _⟩,zgi _,zgi _,?_,_,rfl,?_⟩
  ·have d1:=zhc [(tieAt ts i).1,(tieAt ts i).2.1]
   have d2:PyData.depth (.tuple (([(tieAt ts i).1,(tieAt ts i).2.1]:List Int).map .int))=PyData.depthAll (([(tieAt ts i).1,(tieAt ts i).2.1]:List Int).map .int) + 1:=rfl
   exact units (Nat.le_trans (Nat.min_le_left _ _) (by rw[d2];trivial))
  have eq:PyData.eqv (.tuple (([(tieAt ts i).1,(tieAt ts i).2.1]:List Int).map .int)) (.tuple (([min (u:Int) v,max (u:Int) v]:List Int).map .int))=isTB ts u v i:=zm3 _ _ _ _
  rw[eq]
  have SS:=S2.trans S3
  refine ite2 (fun c=>?_) (fun c=>?_)
  ·have et:tbN ts u v=some i:=by
    unfold tbN
    refine List.find?_range_eq_some.mpr ⟨c,List.mem_range.mpr hlt,fun j hj=>?_⟩
    rw[pre j hj];rfl
   have q1:=q J3 (sH.trans SS)
   rw[et] at q1
   exact⟨_,rfl,q1⟩
  ·refine⟨ts.length - (i + 1),by trivial,rfl,hlt,⟨_,_,rfl⟩,sm.trans SS,fun k hk=>?_⟩
   by_cases z:k=i
   ·rw[z];exact Bool.eq_false_iff.mpr c
   ·exact pre k (by trivial)
 ·have e:i=ts.length:=by trivial
  subst e
  refine .inl ⟨⟨ws,sq,by trivial⟩,?_⟩
  have et:tbN ts u v=none:=by
   unfold tbN
   refine List.find?_eq_none.mpr fun k hk=>?_
   rw[pre k (List.mem_range.mp hk)];exact Bool.false_ne_true
  have q1:=q J sH
  rw[et] at q1
  exact q1
theorem zgc (T:Bi mg) (D:DefOk K mg "ties_along" s_ties_along ["web","places"]) (O_tie_between:Ok P w K mg base 1 "tie_between" ["web","a","b"] (spTB K)):Ok P w K mg base 2 "ties_along" ["web","places"] (spAlong K):=by
 refine zbi (k:=1) D sc_ties_along (fun vs H Q E h=>?_) (fun f cdv A outer s H vs Q E hr h=>?_)
 ·obtain⟨n,ts,wv,t,ws,rfl,_⟩:=h
  rfl
 obtain⟨n,ts,wv,t,ws,rfl,isw,few60,ht,l24,lk,q⟩:=h
 have nd:=sc_ties_along.nd
 have lenW:(natV ws).length=ws.length:=by unfold natV;rw[List.length_map]
 have ecut:cutV (natV ws) (some 1) none=natV (ws.drop 1):=by
  unfold cutV
  have h1:HT.sIx (natV ws).length (natV ws).length none=(natV ws).length:=rfl
  rw[h1]
  by_cases z:ws=[]
  ·subst z;rfl
  ·have pos:=List.length_pos_iff.mpr z
   have h0:HT.sIx (natV ws).length 0 (some 1)=1:=by
    unfold HT.sIx
    simp
    trivial
   rw[h0,List.take_of_length_le (by rw[List.length_drop];exact Nat.le_refl _)]
   unfold natV
   rw[List.map_drop]
 refine⟨_,(zak (zav (zbp (N:=["web","places"]) (sc0:=defScope s_ties_along) (own:=["one","other"]) (fr:=["web"]) (js:=[0]) rfl (zfs true true rfl T.z_zip (zaa (pv 1) (zaa (zau zaz (pv 1) (za0 zab) zaw) zac))) (fun _ _ _ _=>(zcn (n:=2) rfl (zan (zah (i:=0) (by show List.Nodup [("one":Str),("other":Str),("web":Str)];decide +kernel) rfl (Or.inl rfl)) (zan (zah (i:=1) (by show List.Nodup [("one":Str),("other":Str),("web":Str)];decide +kernel) rfl (Or.inl rfl)) zba)))) (fun _ _ _ _=>zbg) (fun _ _ _ _=>(zad O_tie_between hr rfl (zaa (pv 2) (zaa (pv 0) (zaa (pv 1) zac)))))))),?_⟩
 refine⟨_,rfl,_,rfl,_,rfl,t,_,rfl,ht,fun t2 J1 S1 e1=>?_⟩
 rw[ecut] at e1
 refine⟨t,t2,rfl,⟨_,SqX.of (t:=true) (S1 _ _ ht)⟩,⟨_,SqX.of (t:=true) e1⟩,?_⟩
 have lenD:(natV (ws.drop 1)).length=ws.length - 1:=by unfold natV;rw[List.length_map,List.length_drop]
 refine zdo (t1:=true) (t2:=true) (xs:=natV ws) (zs:=natV (ws.drop 1)) (S1 _ _ ht) e1 (fun σ'=>∃ o1 o2,σ'=[o1,o2,some wv]) (fun i x _=>x=V.int (((tbN ts (ws.getD i 0) (ws.getD (i + 1) 0)).getD 0:Nat):Int)) (by trivial) (by exact⟨none,none,rfl⟩) (fun _ _ _ _ _ h=>h) (fun i x z U σ' H' hxi hzi s2 hU sg C hC=>?_) (fun L ys H2 hL s2 hH hly hys=>?_)
 ·obtain⟨o1,o2,rfl⟩:=sg
  obtain⟨u,hu,rfl⟩:=zbr hxi
  obtain⟨v,hv,rfl⟩:=zbr hzi
  rw[List.getElem?_drop,Nat.add_comm] at hv
  obtain⟨k,ek,hk⟩:=zdk lk hu hv
  have eu:ws.getD i 0=u:=by rw[List.getD_eq_getElem?_getD,hu];rfl
  have ev:ws.getD (i + 1) 0=v:=by rw[List.getD_eq_getElem?_getD,hv];rfl
  refine⟨U,_,rfl,SqT.of zae,rfl,_,_,rfl,_,_,rfl,rfl,?_⟩
  have SU:=zam (o:=.tup [V.int (u:Int),.int (v:Int)]) hU
  refine⟨_,rfl,_,rfl,_,rfl,n,ts,wv,u,v,rfl,Is.same (S1.trans (s2.trans SU)) _ isw,few60,fun H5 s5=>hC _ _ _ ⟨_,_,rfl⟩ (SU.trans s5) ?_⟩
  rw[eu,ev,ek];rfl
 ·refine q L H2 (S1.trans s2) ?_
  rw[hH]
  refine congrArg (fun z=>some (HO.lst z)) (List.ext_getElem? fun i=>?_)
  have hl2:ys.length=ws.length - 1:=by rw[hly,lenW,lenD];trivial
  unfold alongN natV
  rw[List.map_map,List.getElem?_map]
  by_cases hi:i < ws.length - 1
  ·have e:ys[i]?=some ys[i]:=List.getElem?_eq_getElem (by trivial)
   rw[e,hys i _ e,List.getElem?_range hi];rfl
  ·rw[List.getElem?_eq_none (by trivial),List.getElem?_eq_none (by rw[List.length_range];trivial)];rfl
theorem ze8 (T:Bi mg) (D:DefOk K mg "ties_along" s_ties_along ["web","places"]) (O_tie_between:Ok P w K mg base 1 "tie_between" ["web","a","b"] (spTB K)):Ok P w K mg base 2 "ties_along" ["web","places"] (spAlongO K):=by
 refine zbi (k:=1) D sc_ties_along (fun vs H Q E h=>?_) (fun f cdv A outer s H vs Q E hr h=>?_)
 ·obtain⟨n,ts,wv,t,ws,rfl,_⟩:=h
  rfl
 obtain⟨n,ts,wv,t,ws,rfl,isw,few60,ht,l24,q⟩:=h
 have nd:=sc_ties_along.nd
 have lenW:(natV ws).length=ws.length:=by unfold natV;rw[List.length_map]
 have ecut:cutV (natV ws) (some 1) none=natV (ws.drop 1):=by
  unfold cutV
  have h1:HT.sIx (natV ws).length (natV ws).length none=(natV ws).length:=rfl
  rw[h1]
  by_cases z:ws=[]
  ·subst z;rfl
  ·have pos:=List.length_pos_iff.mpr z
   have h0:HT.sIx (natV ws).length 0 (some 1)=1:=by
    unfold HT.sIx
    simp
    trivial
   rw[h0,List.take_of_length_le (by rw[List.length_drop];exact Nat.le_refl _)]
   unfold natV
   rw[List.map_drop]
 refine⟨_,(zak (zav (zbp (N:=["web","places"]) (sc0:=defScope s_ties_along) (own:=["one","other"]) (fr:=["web"]) (js:=[0]) rfl (zfs true true rfl T.z_zip (zaa (pv 1) (zaa (zau zaz (pv 1) (za0 zab) zaw) zac))) (fun _ _ _ _=>(zcn (n:=2) rfl (zan (zah (i:=0) (by show List.Nodup [("one":Str),("other":Str),("web":Str)];decide +kernel) rfl (Or.inl rfl)) (zan (zah (i:=1) (by show List.Nodup [("one":Str),("other":Str),("web":Str)];decide +kernel) rfl (Or.inl rfl)) zba)))) (fun _ _ _ _=>zbg) (fun _ _ _ _=>(zad O_tie_between hr rfl (zaa (pv 2) (zaa (pv 0) (zaa (pv 1) zac)))))))),?_⟩
 refine⟨_,rfl,_,rfl,_,rfl,t,_,rfl,ht,fun t2 J1 S1 e1=>?_⟩
 rw[ecut] at e1
 refine⟨t,t2,rfl,⟨_,SqX.of (t:=true) (S1 _ _ ht)⟩,⟨_,SqX.of (t:=true) e1⟩,?_⟩
 have lenD:(natV (ws.drop 1)).length=ws.length - 1:=by unfold natV;rw[List.length_map,List.length_drop]
 refine zdo (t1:=true) (t2:=true) (xs:=natV ws) (zs:=natV (ws.drop 1)) (S1 _ _ ht) e1 (fun σ'=>∃ o1 o2,σ'=[o1,o2,some wv]) (fun i x _=>x=oa (tbN ts (ws.getD i 0) (ws.getD (i + 1) 0))) (by trivial) (by exact⟨none,none,rfl⟩) (fun _ _ _ _ _ h=>h) (fun i x z U σ' H' hxi hzi s2 hU sg C hC=>?_) (fun L ys H2 hL s2 hH hly hys=>?_)
 ·obtain⟨o1,o2,rfl⟩:=sg
  obtain⟨u,hu,rfl⟩:=zbr hxi
  obtain⟨v,hv,rfl⟩:=zbr hzi
  rw[List.getElem?_drop,Nat.add_comm] at hv
  have eu:ws.getD i 0=u:=by rw[List.getD_eq_getElem?_getD,hu];rfl
  have ev:ws.getD (i + 1) 0=v:=by rw[List.getD_eq_getElem?_getD,hv];rfl
  refine⟨U,_,rfl,SqT.of zae,rfl,_,_,rfl,_,_,rfl,rfl,?_⟩
  have SU:=zam (o:=.tup [V.int (u:Int),.int (v:Int)]) hU
  refine⟨_,rfl,_,rfl,_,rfl,n,ts,wv,u,v,rfl,Is.same (S1.trans (s2.trans SU)) _ isw,few60,fun H5 s5=>hC _ _ _ ⟨_,_,rfl⟩ (SU.trans s5) ?_⟩
  rw[eu,ev]
 ·refine q L H2 (S1.trans s2) ?_
  rw[hH]
  refine congrArg (fun z=>some (HO.lst z)) (List.ext_getElem? fun i=>?_)
  have hl2:ys.length=ws.length - 1:=by rw[hly,lenW,lenD];trivial
  unfold alongO
  rw[List.getElem?_map]
  by_cases hi:i < ws.length - 1
  ·have e:ys[i]?=some ys[i]:=List.getElem?_eq_getElem (by trivial)
   rw[e,hys i _ e,List.getElem?_range hi];rfl
  ·rw[List.getElem?_eq_none (by trivial),List.getElem?_eq_none (by rw[List.length_range];trivial)];rfl
inductive spPlace_i (K:PySem.W.Frag) (vs:List V) (H:Hp) (Q:VK):Prop
 | mk:∀ (n:Int) (ts:List Tie) (wv:V) (i:Int),(vs=[wv,.int i])->(Is K H (webD n ts) wv)->(∀ H',Same H H'->Q (.bl (decide (0≤i) && decide (i < n))) H')->spPlace_i K vs H Q
def spPlace (K:PySem.W.Frag):Sp:=fun vs H Q _=>spPlace_i K vs H Q
def placesB (n:Int) (ns:List Int):Bool:=ns.all fun i=>decide (0≤i) && decide (i < n)
inductive spUnlike_i (K:PySem.W.Frag) (vs:List V) (H:Hp) (Q:VK):Prop
 | mk:∀ (n:Int) (ts:List Tie) (wv:V) (p:Addr) (ns:List Int),(vs=[wv,.ref p])->(Is K H (webD n ts) wv)->(IntT H p ns)->(∀ H',Same H H'->Q (.bl (placesB n ns && decide ns.Nodup)) H')->spUnlike_i K vs H Q
def spUnlike (K:PySem.W.Frag):Sp:=fun vs H Q _=>spUnlike_i K vs H Q
theorem zif (T:Bi mg) (D:DefOk K mg "is_place" s_is_place ["web","thing"]) (O_is_whole:Ok P w K mg base 1 "is_whole" ["thing"] (spD1 K (fun _=>True) wholeB)):Ok P w K mg base 2 "is_place" ["web","thing"] (spPlace K):=by
 refine zbi (k:=1) D sc_is_place (fun vs H Q E h=>?_) (fun f cdv A outer s H vs Q E hr h=>?_)
 ·obtain⟨n,ts,wv,i,rfl,_⟩:=h
  rfl
 obtain⟨n,ts,wv,i,rfl,isw,q⟩:=h
 have nd:=sc_is_place.nd
 obtain⟨g0,g,ws,rfl,hg0,_⟩:=za1 isw
 refine⟨_,(zak (zav (zcj (zad O_is_whole hr rfl (zaa (pv 1) zac)) (zb9 (zjl zop zcy zab (pv 1) (zao zal (pv 0) zab (fun _ _=>rfl))))))),?_⟩
 refine⟨_,rfl,.int i,.int i,rfl,rfl,trivial,fun H1 s1=>⟨_,rfl,iteT ?_⟩⟩
 have q0:=q H1 s1
 refine⟨_,rfl,_,_,rfl,rfl,_,rfl,ite2 (fun c=>?_) (fun c=>?_)⟩
 ·rw[show decide (0≤i)=true from c,Bool.true_and] at q0
  exact⟨_,rfl,g0,_,_,_,rfl,rfl,SqT.of (s1 _ _ hg0),rfl,_,_,rfl,rfl,q0⟩
 ·rw[show decide (0≤i)=false from Bool.eq_false_iff.mpr c,Bool.false_and] at q0
  exact q0
theorem zcz (T:Bi mg) (D:DefOk K mg "are_unlike_places" s_are_unlike_places ["web","thing"]) (O_is_place:Ok P w K mg base 2 "is_place" ["web","thing"] (spPlace K)):Ok P w K mg base 3 "are_unlike_places" ["web","thing"] (spUnlike K):=by
 refine zbi (k:=2) D sc_are_unlike_places (fun vs H Q E h=>?_) (fun f cdv A outer s H vs Q E hr h=>?_)
 ·obtain⟨n,ts,wv,p,ns,rfl,_⟩:=h
  rfl
 obtain⟨n,ts,wv,p,ns,rfl,isw,it,q⟩:=h
 have nd:=sc_are_unlike_places.nd
 have lm:(ns.map V.int).length=ns.length:=List.length_map _
 have l1000:=it.2
 refine⟨_,(zai (zb2 (PW.pt (zgz (zc2 (zcm (zaf (zcx (n:="tuple")) rfl T.z_isinstance (by decide +kernel) (zaa (pv 1) (zaa (zdu (v:=.ty "tuple") rfl T.z_tuple (by decide +kernel) rfl) zac))))) (zen (zc2 (zcm (zaf (zce rfl) rfl T.z_all (by decide +kernel) (zaa (zbp (N:=["web","thing"]) (sc0:=defScope s_are_unlike_places) (own:=["part"]) (fr:=["web"]) (js:=[0]) rfl (zeo (pv 1)) (fun _ _ _ _=>(zah (i:=0) (by show List.Nodup [("part":Str),("web":Str)];decide +kernel) rfl (Or.inl rfl))) (fun _ _ _ _=>zbg) (fun _ _ _ _=>(zad O_is_place hr rfl (zaa (pv 1) (zaa (pv 0) zac))))) zac))))))) (zak (zav zc6)) za5) (zak (zav (za3 zbe (zaf zhn rfl T.z_len (by decide +kernel) (zaa (zax (zhk rfl) rfl T.z_set (by decide +kernel) (zaa (pv 1) zac)) zac)) (zaf zag rfl T.z_len (by decide +kernel) (zaa (pv 1) zac)) (nomark _))))),?_⟩
 refine⟨_,rfl,_,_,_,rfl,TyOf.tup it.1,rfl,_,rfl,iteF ?_⟩
 refine⟨_,rfl,p,rfl,⟨_,SqT.of it.1⟩,?_⟩
 refine zjv it.1 (fun σ'=>∃ o,σ'=[o,some wv]) (fun i v _=>v=.bl ((fun i=>decide (0≤ns.getD i 0) && decide (ns.getD i 0 < n)) i)) (by trivial) (by exact⟨none,rfl⟩) (fun _ _ _ _ _ h=>h) (fun i x σ' H' hx s2 sg C hC=>?_) (fun L ys H2 hL s2 hH hly hys=>?_)
 ·obtain⟨o,rfl⟩:=sg
  rw[List.getElem?_map] at hx
  obtain⟨j,hj,rfl⟩:=Option.map_eq_some_iff.mp hx
  have ej:ns.getD i 0=j:=by rw[List.getD_eq_getElem?_getD,hj];rfl
  refine⟨_,rfl,_,rfl,n,ts,wv,j,rfl,Is.same s2 _ isw,fun H5 s5=>hC _ _ _ ⟨_,rfl⟩ s5 ?_⟩
  show V.bl (decide (0≤j) && decide (j < n))=V.bl (decide (0≤ns.getD i 0) && decide (ns.getD i 0 < n))
  rw[ej]
 ·refine⟨L,_,rfl,SqL.of (by rw[hH,zcg (hly.trans lm) hys]),_,rfl,?_⟩
  have eall:((List.range ns.length).map fun i=>decide (0≤ns.getD i 0) && decide (ns.getD i 0 < n)).all id=placesB n ns:=by
   have z:=congrArg (List.map fun j:Int=>decide (0≤j) && decide (j < n)) (L3.zbk ns 0)
   rw[List.map_map] at z
   have z':((List.range ns.length).map fun i=>decide (0≤ns.getD i 0) && decide (ns.getD i 0 < n))=ns.map fun j=>decide (0≤j) && decide (j < n):=z
   rw[z',List.all_map];rfl
  have q1:∀ {J:Hp},Same H2 J->Q (.bl (placesB n ns && decide ns.Nodup)) J:=fun S=>q _ (s2.trans S)
  refine iteB2 (fun c=>?_) (fun c=>?_)
  ·rw[eall] at c
   refine⟨_,rfl,p,ns,rfl,s2 _ _ it.1,l1000,fun u J S f e=>?_⟩
   refine⟨u,_,_,rfl,e,_,rfl,p,_,rfl,.inr (SqT.of (S _ _ (s2 _ _ it.1))),rfl,?_⟩
   have q2:=q1 S
   rw[c,Bool.true_and] at q2
   have ed:decide (V.int ((HT.setN ns ns.length:Nat):Int)=V.int (((ns.map V.int).length:Nat):Int))=decide ns.Nodup:=by
    rw[lm]
    by_cases z:ns.Nodup
    ·rw[decide_eq_true z,(zb8 ns).mpr z,decide_eq_true rfl]
    ·rw[decide_eq_false z]
     exact decide_eq_false fun y=>z ((zb8 ns).mp (by injection y with y;trivial))
   rw[ed];exact q2
  ·rw[eall] at c
   have q2:=q1 (Same.refl _)
   rw[c,Bool.false_and] at q2
   exact q2
theorem zd8 (T:Bi mg) (D:DefOk K mg "is_tie_number" s_is_tie_number ["web","thing"]) (O_is_whole:Ok P w K mg base 1 "is_whole" ["thing"] (spD1 K (fun _=>True) wholeB)):Ok P w K mg base 2 "is_tie_number" ["web","thing"] (spNum K):=by
 refine zbi (k:=1) D sc_is_tie_number (fun vs H Q E h=>?_) (fun f cdv A outer s H vs Q E hr h=>?_)
 ·obtain⟨n,ts,d,v,u,rfl,_⟩:=h
  rfl
 obtain⟨n,ts,d,v,u,rfl,hw,hd,q⟩:=h
 have nd:=sc_is_tie_number.nd
 refine⟨_,(zak (zav (zcj (zad O_is_whole hr rfl (zaa (pv 1) zac)) (zb9 (zjl zop zcy zab (pv 1) (zaf zag rfl T.z_len (by decide +kernel) (zaa (zao zal (pv 0) zab (fun _ _=>rfl)) zac))))))),?_⟩
 refine⟨_,rfl,d,u,rfl,hd,trivial,fun H1 s1=>⟨_,rfl,?_⟩⟩
 have q0:=q H1 s1
 cases d with
 | int i =>
  have e:u=.int i:=hd
  subst e
  obtain⟨p,g,ws,rfl,hp,hg,hall,hl⟩:=za1 (Is.same s1 _ hw)
  refine iteT ⟨_,rfl,_,_,rfl,rfl,_,rfl,ite2 (fun c=>⟨_,rfl,p,_,_,_,rfl,rfl,SqT.of hp,rfl,g,_,rfl,.inr (SqT.of hg),_,_,rfl,rfl,?_⟩) (fun c=>?_)⟩
  ·have e:numB ts.length (.int i)=decide (i < (ws.length:Int)):=by show (decide (0≤i) && decide (i < (ts.length:Int)))=_;rw[show decide (0≤i)=true from c,hl];rfl
   rw[e] at q0;exact q0
  ·have e:numB ts.length (.int i)=false:=by show (decide (0≤i) && decide (i < (ts.length:Int)))=_;rw[show decide (0≤i)=false from Bool.eq_false_iff.mpr c];rfl
   rw[e] at q0;exact q0
 | bool b=>exact iteF q0
 | none=>exact iteF q0
 | str x=>exact iteF q0
 | tuple ds=>exact iteF q0
 | list ds=>exact iteF q0
 | dict ds=>exact iteF q0
theorem zdw (T:Bi mg) (D:DefOk K mg "is_rising" s_is_rising ["parts"]):Ok P w K mg base 1 "is_rising" ["parts"] spRisI:=by
 refine zbi (k:=0) D sc_is_rising (fun vs H Q E h=>?_) (fun f cdv A outer s H vs Q E hr h=>?_)
 ·obtain⟨p,ns,rfl,_⟩:=h
  rfl
 obtain⟨p,ns,rfl,hp,hn,q⟩:=h
 have nd:=sc_is_rising.nd
 refine⟨_,(zak (zav (zaf (zce rfl) rfl T.z_all (by decide +kernel) (zaa (zbp (N:=["parts"]) (sc0:=defScope s_is_rising) (own:=["low","high"]) (fr:=[]) (js:=[]) rfl (zfs true true rfl T.z_zip (zaa (pv 0) (zaa (zau zaz (pv 0) (za0 zab) zaw) zac))) (fun _ _ _ _=>(zcn (n:=2) rfl (zan (zah (i:=0) (by show List.Nodup [("low":Str),("high":Str)];decide +kernel) rfl (Or.inl rfl)) (zan (zah (i:=1) (by show List.Nodup [("low":Str),("high":Str)];decide +kernel) rfl (Or.inl rfl)) zba)))) (fun _ _ _ _=>zbg) (fun _ _ _ _=>(za3 zcy (pv 0) (pv 1) (nomark _)))) zac)))),?_⟩
 refine⟨_,rfl,_,rfl,_,rfl,p,_,rfl,hp,fun p2 H1 S1 hp2=>?_⟩
 refine⟨p,p2,rfl,⟨_,SqT.of (S1 _ _ hp)⟩,⟨_,SqT.of hp2⟩,?_⟩
 have e2':H1 p2=some (.tup ((ns.drop 1).map V.int)):=by rw[hp2,cut1,List.map_drop]
 refine zdo (t1:=true) (t2:=true) (xs:=ns.map V.int) (zs:=(ns.drop 1).map V.int) (S1 _ _ hp) e2' (fun σ'=>σ'.length=2) (fun i v _=>v=.bl (decide (ns.getD i 0 < (ns.drop 1).getD i 0))) (by rw[List.length_map];trivial) (by rfl) (fun _ _ _ _ _ h=>h) (fun i x z U σ' H' hx hz s hU sg C hC=>?_) (fun L zs H' hL s hH hly hys=>?_)
 ·match σ',sg with
  | [o1,o2],_ =>
   rw[List.getElem?_map] at hx hz
   obtain⟨a,ha,rfl⟩:=Option.map_eq_some_iff.mp hx
   obtain⟨b,hb,rfl⟩:=Option.map_eq_some_iff.mp hz
   refine⟨U,_,rfl,SqT.of zae,rfl,_,_,rfl,_,_,rfl,rfl,?_⟩
   refine⟨_,rfl,_,rfl,a,b,rfl,rfl,?_⟩
   refine hC _ _ _ rfl (zam hU) ?_
   have e1:ns.getD i 0=a:=by simp [List.getD,ha]
   have e3:(ns.drop 1).getD i 0=b:=by simp only [List.getD,hb];rfl
   rw[e1,e3]
 ·refine⟨L,_,rfl,SqL.of (by rw[hH,zcg hly hys]),?_⟩
  have q':=q H' (S1.trans s)
  unfold risI at q'
  rw[List.length_map,List.length_map]
  exact q'
theorem zkb (T:Bi mg) (D:DefOk K mg "is_keep" s_is_keep ["web","thing"]) (O_is_tie_number:Ok P w K mg base 2 "is_tie_number" ["web","thing"] (spNum K)) (O_is_rising:Ok P w K mg base 2 "is_rising" ["parts"] spRisI):Ok P w K mg base 3 "is_keep" ["web","thing"] (spIsKeep K):=by
 refine zbi (k:=2) D sc_is_keep (fun vs H Q E h=>?_) (fun f cdv A outer s H vs Q E hr h=>?_)
 ·obtain⟨n,ts,d,v,u,rfl,_⟩:=h
  rfl
 obtain⟨n,ts,d,v,u,rfl,hw,hd,hfew,q⟩:=h
 have nd:=sc_is_keep.nd
 have q0:=q H (Same.refl H)
 have ty:=zpl hd
 refine⟨_,(zak (zav (zcj (zaf (zcx (n:="tuple")) rfl T.z_isinstance (by decide +kernel) (zaa (pv 1) (zaa (zdu (v:=.ty "tuple") rfl T.z_tuple (by decide +kernel) rfl) zac))) (zcj (zaf (zce rfl) rfl T.z_all (by decide +kernel) (zaa (zbp (N:=["web","thing"]) (sc0:=defScope s_is_keep) (own:=["part"]) (fr:=["web"]) (js:=[0]) rfl (zeo (pv 1)) (fun _ _ _ _=>(zah (i:=0) (by show List.Nodup [("part":Str),("web":Str)];decide +kernel) rfl (Or.inl rfl))) (fun _ _ _ _=>zbg) (fun _ _ _ _=>(zad O_is_tie_number hr rfl (zaa (pv 1) (zaa (pv 0) zac))))) zac)) (zb9 (zad O_is_rising hr rfl (zaa (pv 1) zac))))))),?_⟩
 cases d with
 | int i=>exact⟨_,rfl,_,_,_,rfl,ty,rfl,_,rfl,iteF q0⟩
 | bool b=>exact⟨_,rfl,_,_,_,rfl,ty,rfl,_,rfl,iteF q0⟩
 | none=>exact⟨_,rfl,_,_,_,rfl,ty,rfl,_,rfl,iteF q0⟩
 | str x=>exact⟨_,rfl,_,_,_,rfl,ty,rfl,_,rfl,iteF q0⟩
 | list ds=>exact⟨_,rfl,_,_,_,rfl,ty,rfl,_,rfl,iteF q0⟩
 | dict ds=>exact⟨_,rfl,_,_,_,rfl,ty,rfl,_,rfl,iteF q0⟩
 | tuple ds =>
  refine⟨_,rfl,_,_,_,rfl,ty,rfl,_,rfl,iteT ?_⟩
  obtain⟨p,vs,rfl,hp,hall⟩:=hd
  have hl:=hall.length
  have hf:ds.length≤1000:=hfew
  refine⟨_,rfl,p,rfl,⟨_,SqT.of hp⟩,?_⟩
  refine zjv hp (fun σ'=>∃ o,σ'=[o,some v]) (fun i v _=>v=.bl (numB ts.length (ds.getD i .none))) (by trivial) (by exact⟨none,rfl⟩) (fun _ _ _ _ _ h=>h) (fun i x σ' H' hx s sg C hC=>?_) (fun L ys H' hL s hH hly hys=>?_)
  ·obtain⟨d,hdi,hdx⟩:=hall.get' hx
   obtain⟨o,rfl⟩:=sg
   refine⟨_,rfl,_,rfl,n,ts,d,v,x,rfl,Is.same s _ hw,Is.same s d hdx,fun H5 s5=>hC _ _ _ ⟨_,rfl⟩ s5 ?_⟩
   simp [List.getD,hdi]
  ·have e:((List.range ds.length).map fun i=>numB ts.length (ds.getD i .none)).all id=ds.all (numB ts.length):=by
    have z:=congrArg (List.map (numB ts.length)) (L3.zbk ds .none)
    rw[List.map_map] at z
    have z':((List.range ds.length).map fun i=>numB ts.length (ds.getD i .none))=ds.map (numB ts.length):=z
    rw[z',List.all_map]
    rfl
   refine⟨L,_,rfl,SqL.of (by rw[hH,zcg (hly.trans hl) hys]),_,rfl,?_⟩
   rw[e]
   have q1:=q H' s
   cases c:ds.all (numB ts.length) with
   | false =>
    refine iteF ?_
    have e1:keepB ts.length (.tuple ds)=false:=by show (ds.all (numB ts.length) && _)=false;rw[c];rfl
    rw[e1] at q1;exact q1
   | true =>
    refine iteT ?_
    have ei:ds=(ds.map intOf).map .int:=zgj fun d hd=>by
     obtain⟨i,e,_⟩:=zos (List.all_eq_true.mp c d hd)
     exact⟨i,e⟩
    have ev:vs=(ds.map intOf).map V.int:=by
     rw[ei] at hall
     exact IsAll.of_ints hall
    refine⟨_,rfl,p,ds.map intOf,rfl,by rw[← ev];exact s _ _ hp,by rw[List.length_map];exact hf,fun H2 s2=>?_⟩
    have q2:=q H2 (s.trans s2)
    have e1:keepB ts.length (.tuple ds)=risI (ds.map intOf):=by show (ds.all (numB ts.length) && _)=_;rw[c];rfl
    rw[e1] at q2;exact q2
theorem zm4 (T:Bi mg) (D:DefOk K mg "whole" s_whole ["web"]):Ok P w K mg base 1 "whole" ["web"] (spWhole K):=by
 refine zbi (k:=0) D sc_whole (fun vs H Q E h=>?_) (fun f cdv A outer s H vs Q E hr h=>?_)
 ·obtain⟨n,ts,v,rfl,_⟩:=h
  rfl
 obtain⟨n,ts,v,rfl,hw,few60,q⟩:=h
 have nd:=sc_whole.nd
 obtain⟨g0,g,ws,rfl,hg0,hg,hall,hlw⟩:=za1 hw
 refine⟨_,(zak (zav (zax (zfl rfl) rfl T.z_tuple (by decide +kernel) (zaa (zax zcb rfl T.z_range (by decide +kernel) (zaa (zaf zag rfl T.z_len (by decide +kernel) (zaa (zao zal (pv 0) zab (fun _ _=>rfl)) zac)) zac)) zac)))),?_⟩
 refine⟨_,rfl,g0,_,_,_,rfl,rfl,SqT.of hg0,rfl,g,_,rfl,.inr (SqT.of hg),_,rfl,fun r hr'=>?_⟩
 refine⟨r,_,rfl,zae,by trivial,by trivial,fun l H' S f e=>q l H' ((zam hr').trans S) ((zam (o:=.rng 0 _) hr').free f) ?_⟩
 rw[e,show ((ws.length:Nat):Int).toNat=ts.length by trivial]
theorem zid (T:Bi mg) (D:DefOk K mg "not_kept" s_not_kept ["web","keep"]) (O_whole:Ok P w K mg base 1 "whole" ["web"] (spWhole K)):Ok P w K mg base 2 "not_kept" ["web","keep"] (spOuts K):=by
 refine zbi (k:=1) D sc_not_kept (fun vs H Q E h=>?_) (fun f cdv A outer s H vs Q E hr h=>?_)
 ·obtain⟨n,ts,ks,wv,kv,rfl,_⟩:=h
  rfl
 obtain⟨n,ts,ks,wv,kv,rfl,wk,q⟩:=h
 have nd:=sc_not_kept.nd
 have few60:=wk.2.1.few
 obtain⟨kp,rfl,hkp⟩:=zdz wk.2.2.1
 rw[← za8] at hkp
 refine⟨_,(zak (zav (zbp (N:=["web","keep"]) (sc0:=defScope s_not_kept) (own:=["tie"]) (fr:=["keep"]) (js:=[1]) rfl (zeo (zad O_whole hr rfl (zaa (pv 0) zac))) (fun _ _ _ _=>(zah (i:=0) (by show List.Nodup [("tie":Str),("keep":Str)];decide +kernel) rfl (Or.inl rfl))) (fun _ _ _ _=>(zf7 (zap zcd (pv 0) (pv 1) (by with_unfolding_all rfl)))) (fun _ _ _ _=>(pv 0))))),?_⟩
 refine⟨_,rfl,n,ts,wv,rfl,wk.1,few60,fun l H1 s1 f1 e1=>?_⟩
 refine⟨l,rfl,⟨_,SqT.of e1⟩,?_⟩
 have len:(natV (List.range ts.length)).length=ts.length:=by unfold natV;rw[List.length_map,List.length_range]
 refine zhe e1 (fun σ'=>∃ o,σ'=[o,some (.ref kp)]) (fun i=>if decide (i ∉ ks)=true then some (V.int (i:Int)) else none) (by trivial) (by exact⟨none,rfl⟩) (fun i x σ' H' hx s2 sg C L hC hL=>?_) (fun L H2 hL s2 hH=>?_)
 ·obtain⟨o,rfl⟩:=sg
  obtain⟨k,hk,rfl⟩:=zbr hx
  have ek:k=i:=by
   have hi:=(List.getElem?_eq_some_iff.mp hk).1
   rw[List.length_range] at hi
   rw[List.getElem?_range hi] at hk
   cases hk;rfl
  subst ek
  refine⟨_,rfl,_,rfl,kp,_,rfl,.inr (SqT.of ((s1.trans s2) _ _ hkp)),rfl,zdl ks,_,rfl,?_⟩
  show if (!inV (V.int (k:Int)) (natV ks))=true then _ else _
  rw[ze2 (Int.natCast_nonneg _),Int.toNat_natCast]
  refine iteB2 (fun c=>?_) (fun c=>?_)
  ·refine hL _ _ ⟨_,rfl⟩ (Same.refl _) ?_
   rw[if_neg]
   exact fun z=>of_decide_eq_true z (of_decide_eq_true c)
  ·refine⟨_,rfl,hC _ _ _ ⟨_,rfl⟩ (Same.refl _) ?_⟩
   rw[if_pos (decide_eq_true (of_decide_eq_false c))]
 ·refine q L H2 (s1.trans s2) (s1.free hL) ?_
  rw[hH,len,zf5];rfl
inductive spWayI_i (K:PySem.W.Frag) (vs:List V) (H:Hp) (Q:VK):Prop
 | mk:∀ (n:Int) (ts:List Tie) (ks:List Nat) (wv kv:V) (p:Addr) (ws:List Int),(vs=[wv,kv,.ref p])->(WK K H n ts ks wv kv)->(IntT H p ws)->(ws.length≤40)->(∀ H',Same H H'->Q (.bl (rightI n ts ks ws).isSome) H')->spWayI_i K vs H Q
def spWayI (K:PySem.W.Frag):Sp:=fun vs H Q _=>spWayI_i K vs H Q
theorem zga (T:Bi mg) (D:DefOk K mg "way_right" s_way_right ["web","keep","way"]) (O_are_unlike_places:Ok P w K mg base 3 "are_unlike_places" ["web","thing"] (spUnlike K)) (O_ties_along:Ok P w K mg base 3 "ties_along" ["web","places"] (spAlongO K)):Ok P w K mg base 4 "way_right" ["web","keep","way"] (spWayI K):=by
 refine zbi (k:=3) D sc_way_right (fun vs H Q E h=>?_) (fun f cdv A outer s H vs Q E hr h=>?_)
 ·obtain⟨n,ts,ks,wv,kv,p,ws,rfl,_⟩:=h
  rfl
 obtain⟨n,ts,ks,wv,kv,p,ws,rfl,⟨isw,ok,isk,ko⟩,hp,l40,q⟩:=h
 have nd:=sc_way_right.nd
 obtain⟨kp,rfl,hkp⟩:=zdz isk
 rw[← za8] at hkp
 have lm:(ws.map V.int).length=ws.length:=List.length_map _
 refine⟨_,(zai (zb2 (PW.pt (zgz (zc2 (zcm (zad O_are_unlike_places hr rfl (zaa (pv 0) (zaa (pv 2) zac))))) (zen (zap zbe (zaf zag rfl T.z_len (by decide +kernel) (zaa (pv 2) zac)) zab (nomark _))))) (zak (zav zc6)) za5) (zak (zav (zaf (zce rfl) rfl T.z_all (by decide +kernel) (zaa (zbp (N:=["web","keep","way"]) (sc0:=defScope s_way_right) (own:=["tie"]) (fr:=["keep"]) (js:=[1]) rfl (zbu (zad O_ties_along hr rfl (zaa (pv 0) (zaa (pv 2) zac)))) (fun _ _ _ _=>(zah (i:=0) (by show List.Nodup [("tie":Str),("keep":Str)];decide +kernel) rfl (Or.inl rfl))) (fun _ _ _ _=>zbg) (fun _ _ _ _=>(za3 zka (pv 0) (pv 1) (by with_unfolding_all rfl)))) zac))))),?_⟩
 refine⟨_,rfl,_,rfl,n,ts,wv,p,ws,rfl,isw,hp,fun H1 s1=>⟨_,rfl,?_⟩⟩
 have no:∀ {J:Hp},Same H J->¬ ((ws≠[]∧ws.Nodup)∧ws.all (fun i=>decide (0≤i) && decide (i < n))=true)->Q (.bl false) J:=fun S c=>by
  have:=q _ S
  unfold rightI at this
  rw[if_neg c] at this
  exact this
 cases epl:placesB n ws with
 | false=>exact iteT (iteT (no s1 fun z=>by rw[show ws.all (fun i=>decide (0≤i) && decide (i < n))=false from epl] at z;cases z.2))
 | true =>
 by_cases nod:ws.Nodup
 case neg =>
  rw[decide_eq_false nod]
  exact iteT (iteT (no s1 fun z=>nod z.1.2))
 rw[decide_eq_true nod]
 refine iteF ⟨_,rfl,p,_,rfl,.inr (SqT.of (s1 _ _ hp.1)),rfl,_,rfl,?_⟩
 by_cases ne:ws=[]
 ·subst ne
  exact iteT (no s1 fun z=>z.1.1 rfl)
 rw[decide_eq_false (p:=V.int (((ws.map V.int).length:Nat):Int)=V.int 0) (fun z=>by injection z with z;have:=List.length_pos_iff.mpr ne;trivial)]
 refine iteF ?_
 have al:ws.all (fun i=>decide (0≤i) && decide (i < n))=true:=epl
 have pl:∀ i ∈ ws,0≤i∧i < n:=fun i hi=>by
  have:=List.all_eq_true.mp al i hi
  rw[Bool.and_eq_true,decide_eq_true_iff,decide_eq_true_iff] at this
  exact this
 obtain⟨us,eus⟩:∃ us:List Nat,ws=keepI us:=⟨ws.map Int.toNat,by
  unfold keepI
  rw[List.map_map]
  conv=>lhs;rw[← List.map_id ws]
  refine List.map_congr_left fun i hi=>?_
  show i=((i.toNat:Nat):Int)
  have:=pl i hi;trivial⟩
 have lus:us.length=ws.length:=by rw[eus];unfold keepI;rw[List.length_map]
 have hpn:H p=some (.tup (natV us)):=by rw[za8,← eus];exact hp.1
 refine⟨_,rfl,_,rfl,n,ts,_,p,us,rfl,Is.same s1 _ isw,ok.few,s1 _ _ hpn,by trivial,fun l J1 S1 e1=>?_⟩
 have s11:=s1.trans S1
 refine⟨l,rfl,⟨_,SqL.of e1⟩,?_⟩
 have lenA:(alongO ts us).length=us.length - 1:=by unfold alongO;rw[List.length_map,List.length_range]
 refine zbx e1 (fun σ'=>∃ o,σ'=[o,some (.ref kp)]) (fun i v _=>v=.bl ((fun i=>(stepY ts ks ws i).isSome) i)) (by trivial) (by exact⟨none,rfl⟩) (fun _ _ _ _ _ h=>h) (fun i x σ' H' hx s2 sg C hC=>?_) (fun L ys H2 hL s2 hH hly hys=>?_)
 ·obtain⟨o,rfl⟩:=sg
  have hi:=(List.getElem?_eq_some_iff.mp hx).1
  unfold alongO at hx
  rw[List.getElem?_map,List.getElem?_range (by trivial)] at hx
  have ex:x=oa (tbN ts (us.getD i 0) (us.getD (i + 1) 0)):=(Option.some.inj hx).symm
  have est:(stepY ts ks ws i).isSome=inV (oa (tbN ts (us.getD i 0) (us.getD (i + 1) 0))) (natV ks):=by
   rw[zp5 ok ko]
   unfold stepY
   rw[eus]
   unfold keepI
   have g:∀ j,(us.map fun k:Nat=>(k:Int)).getD j 0=((us.getD j 0:Nat):Int):=fun j=>by
    rw[List.getD_eq_getElem?_getD,List.getD_eq_getElem?_getD,List.getElem?_map]
    cases us[j]? <;> rfl
   rw[g,g]
  subst ex
  refine⟨_,rfl,_,rfl,kp,_,rfl,.inr (SqT.of (s2 _ _ (s11 _ _ hkp))),?_,zdl ks,hC _ _ _ ⟨_,rfl⟩ (Same.refl _) ?_⟩
  ·cases tbN ts (us.getD i 0) (us.getD (i + 1) 0) <;> rfl
  ·show V.bl (inV _ (natV ks))=V.bl (stepY ts ks ws i).isSome
   rw[est]
 ·refine⟨L,_,rfl,SqL.of (by rw[hH,zcg (hly.trans lenA) hys]),?_⟩
  have ea:((List.range (us.length - 1)).map fun i=>(stepY ts ks ws i).isSome).all id=(rightI n ts ks ws).isSome:=by
   unfold rightI
   rw[if_pos ⟨⟨ne,nod⟩,al⟩,zdd,lus,List.all_map];rfl
  rw[ea]
  exact q H2 (s11.trans s2)
theorem zqh {ws:List Int} (h:1≤ws.length):atI (ws.map V.int) 0=some (.int (ws.getD 0 0)):=zaq (Int.le_refl 0) (by
 rw[show (0:Int).toNat=0 from rfl,List.getElem?_map,List.getD_eq_getElem?_getD,List.getElem?_eq_getElem (show 0 < ws.length by trivial)];rfl)
theorem zpi {ws:List Int} (h:1≤ws.length):atI (ws.map V.int) (-1)=some (.int (ws.getD (ws.length - 1) 0)):=by
 unfold atI ixN
 rw[if_neg (by decide),if_pos (by rw[List.length_map];trivial)]
 show (ws.map V.int)[(-1 + ((ws.map V.int).length:Int)).toNat]?=_
 rw[List.length_map,show (-1 + (ws.length:Int)).toNat=ws.length - 1 by trivial,List.getElem?_map,List.getD_eq_getElem?_getD,List.getElem?_eq_getElem (show ws.length - 1 < ws.length by trivial)];rfl
theorem zei (x y:Int):decide (V.int x=V.int y)=decide (x=y):=by
 by_cases z:x=y
 ·rw[decide_eq_true z,decide_eq_true (by rw[z])]
 ·rw[decide_eq_false z,decide_eq_false fun h=>z (by injection h)]
theorem zk0 {n:Int} {ts:List Tie} {ks:List Nat} {ws:List Int} {x:Int} (h:rightI n ts ks ws=some x):1≤ws.length:=by
 unfold rightI at h
 split at h
 ·rename_i c
  exact List.length_pos_iff.mpr c.1.1
 ·cases h
inductive spLeadsI_i (K:PySem.W.Frag) (vs:List V) (H:Hp) (Q:VK):Prop
 | mk:∀ (n:Int) (ts:List Tie) (ks:List Nat) (wv kv:V) (p:Addr) (ws:List Int) (a b:Int),(vs=[wv,kv,.int a,.int b,.ref p])->(WK K H n ts ks wv kv)->(IntT H p ws)->(ws.length≤40)->(∀ H',Same H H'->Q (.bl (leadsI n ts ks a b ws)) H')->spLeadsI_i K vs H Q
def spLeadsI (K:PySem.W.Frag):Sp:=fun vs H Q _=>spLeadsI_i K vs H Q
theorem zdv (T:Bi mg) (D:DefOk K mg "leads_between" s_leads_between ["web","keep","a","b","way"]) (O_way_right:Ok P w K mg base 4 "way_right" ["web","keep","way"] (spWayI K)):Ok P w K mg base 5 "leads_between" ["web","keep","a","b","way"] (spLeadsI K):=by
 refine zbi (k:=4) D sc_leads_between (fun vs H Q E h=>?_) (fun f cdv A outer s H vs Q E hr h=>?_)
 ·obtain⟨n,ts,ks,wv,kv,p,ws,a,b,rfl,_⟩:=h
  rfl
 obtain⟨n,ts,ks,wv,kv,p,ws,a,b,rfl,wk,iT,l40,q⟩:=h
 have nd:=sc_leads_between.nd
 refine⟨_,(zak (zav (zcj (zad O_way_right hr rfl (zaa (pv 0) (zaa (pv 1) (zaa (pv 4) zac)))) (zcj (za3 zbe (zao zal (pv 4) zab (fun _ _=>rfl)) (pv 2) (nomark _)) (zb9 (za3 zbe (zao zal (pv 4) (zia zek zab) (fun _ _=>rfl)) (pv 3) (nomark _))))))),?_⟩
 refine⟨_,rfl,_,rfl,_,rfl,n,ts,ks,wv,kv,p,ws,rfl,wk,iT,l40,fun H1 s1=>?_⟩
 have q1:=q H1 s1
 unfold leadsI at q1
 cases er:rightI n ts ks ws with
 | none =>
  rw[er] at q1
  exact⟨_,rfl,iteF q1⟩
 | some x =>
  rw[er] at q1
  have lp:=zk0 er
  refine⟨_,rfl,iteT ?_⟩
  refine⟨_,rfl,p,_,_,_,rfl,rfl,SqT.of (iT.same s1).1,zqh lp,_,rfl,rfl,_,rfl,?_⟩
  rw[zei]
  cases e1:decide (ws.getD 0 0=a) with
  | false =>
   rw[e1] at q1
   exact iteF q1
  | true =>
   rw[e1] at q1
   refine iteT ⟨_,rfl,_,rfl,p,_,_,_,rfl,rfl,SqT.of (iT.same s1).1,zpi lp,_,rfl,rfl,?_⟩
   rw[zei]
   exact q1
theorem zbv {M:List Nat} {i:Int} (h0:0≤i) (h:i.toNat < M.length):atI (natV M) i=some (.int ((M.getD i.toNat 0:Nat):Int)):=by
 refine zaq h0 ?_
 unfold natV
 rw[List.getElem?_map,List.getElem?_eq_getElem h,List.getD_eq_getElem?_getD,List.getElem?_eq_getElem h];rfl
theorem zbz (x y:Nat):decide (V.int (x:Int)=V.int (y:Int))=decide (x=y):=by
 by_cases e:x=y
 ·rw[decide_eq_true e,decide_eq_true (by rw[e])]
 ·rw[decide_eq_false e,decide_eq_false fun h=>e (by injection h with h;exact_mod_cast h)]
theorem zic (T:Bi mg) (D:DefOk K mg "ringless" s_ringless ["web","ties"]):Ok P w K mg base 1 "ringless" ["web","ties"] (spRingless K):=by
 refine zbi (k:=0) D sc_ringless (fun vs H Q E h=>?_) (fun f cdv A outer s H vs Q E hr h=>?_)
 ·obtain⟨n,ts,os,wv,o,rfl,_⟩:=h
  rfl
 obtain⟨n,ts,os,wv,o,rfl,hw,ok,hos,l60,ho,q⟩:=h
 have nd:=sc_ringless.nd
 have n1:=ok.n1
 have n24:=ok.n24
 obtain⟨g0,g,ws,rfl,hg0,hg,hall,hlw⟩:=za1 hw
 refine⟨_,(zai (za9 (i:=2) nd rfl (Or.inl rfl) (zax (zby rfl) rfl T.z_list (by decide +kernel) (zaa (zax zcb rfl T.z_range (by decide +kernel) (zaa (zao zal (pv 0) zab (fun _ _=>rfl)) zac)) zac))) (zai (za9 (i:=3) nd rfl (Or.inl rfl) (zc5 zac)) (zai (zde PassesOwn.never rfl (zeo (pv 1)) (zah (i:=4) nd rfl (Or.inl rfl)) (zai (zdf (zao zal (zao zal (pv 0) zab (fun _ _=>rfl)) (pv 4) (fun _ _=>rfl)) (zci (n:=3) rfl (zan (zah (i:=5) nd rfl (Or.inl rfl)) (zan (zah (i:=6) nd rfl (Or.inl rfl)) (zan (zah (i:=7) nd rfl (Or.inl rfl)) zba))))) (zai (za9 (i:=8) nd rfl (Or.inr rfl) (zao za2 (pv 2) (pv 5) (fun _ _=>rfl))) (zai (za9 (i:=9) nd rfl (Or.inr rfl) (zao za2 (pv 2) (pv 6) (fun _ _=>rfl))) (zak (zb2 (zap zj9 (pv 8) (pv 9) (nomark _)) (zai (zbl (i:=2) (N:=["web","ties","marks","told","tie","a","b","length","one","other"]) (sc0:=defScope s_ringless) (own:=["mark"]) (fr:=["other","one"]) (js:=[9,8]) rfl (zbu (pv 2)) (fun _ _ _ _=>(zah (i:=0) (by show List.Nodup [("mark":Str),("other":Str),("one":Str)];decide +kernel) rfl (Or.inl rfl))) (fun _ _ _ _=>zbg) (fun _ _ _ _=>(zf9 (zap zbe (pv 0) (pv 1) (nomark _)) (pv 2) (pv 0))) nd rfl (Or.inl rfl)) (zak (zds (zib PySem.F.plainAttrs_list PySem.F.slot_list_append PySem.F.type_list_append zct (pv 3) (zaa (pv 4) zac))))) za5)))))) (zak (zav (pv 3)))))),?_⟩
 refine⟨_,rfl,g0,_,_,_,rfl,rfl,SqT.of hg0,rfl,_,rfl,fun r hr'=>⟨r,n,rfl,zae,by trivial,by trivial,fun lm hlm=>?_⟩⟩
 have S1:Same H (upd H r (.rng 0 n)):=zam hr'
 have S2:Same (upd H r (.rng 0 n)) (upd (upd H r (.rng 0 n)) lm (.lst ((List.range n.toNat).map fun i:Nat=>V.int (i:Int)))):=zam hlm
 have e2:upd (upd H r (.rng 0 n)) lm (.lst ((List.range n.toNat).map fun i:Nat=>V.int (i:Int))) lm=some (.lst (natV (List.range n.toNat))):=zae
 generalize upd (upd H r (.rng 0 n)) lm (.lst ((List.range n.toNat).map fun i:Nat=>V.int (i:Int)))=J2 at S2 e2
 refine⟨(by show 0≤1000;decide),fun lt J3 S3 f3 e3=>?_⟩
 have S03:=S1.trans (S2.trans S3)
 have fl:H lt=none:=(S1.trans S2).free f3
 have nlm:lm≠lt:=fun z=>by rw[← z,e2] at f3;cases f3
 refine⟨_,rfl,o,rfl,⟨_,SqT.of (S03 _ _ ho)⟩,?_⟩
 have len:(natV os).length=os.length:=by unfold natV;rw[List.length_map]
 refine ziq (xs:=natV os) (fun i σ J=>∃ (lm:Addr) (M tl:List Nat) (y4 y5 y6 y7 y8 y9:Option V),σ=[some (.ref g0),some (.ref o),some (.ref lm),some (.ref lt),y4,y5,y6,y7,y8,y9]∧Same H J∧lm≠lt∧J lm=some (.lst (natV M))∧J lt=some (.lst (natV tl))∧tl.length≤i∧Frs.Mk n.toNat ((os.take i).map (t2 ts)) M∧tl++rgN ts (os.take i) (os.drop i)=rgN ts [] os) ⟨lm,_,[],none,none,none,none,none,none,rfl,S03,nlm,S3 _ _ e2,e3,Nat.zero_le _,Frs.Mk.first,rfl⟩ (fun i σ J _ h=>?_) (fun i x σ J hx h=>?_) (fun σ J h=>?_)
 ·obtain⟨lm,M,tl,y4,y5,y6,y7,y8,y9,rfl,sm,_⟩:=h
  exact SqT.of (sm _ _ ho)
 ·obtain⟨lm,M,tl,y4,y5,y6,y7,y8,y9,rfl,sm,nlm,hM,hT,ltl,mk,er⟩:=h
  obtain⟨k,hk,rfl⟩:=zbr hx
  have hi:=List.getElem?_eq_some_iff.mp hk
  have hkl:k < ts.length:=hos k (List.mem_of_getElem? hk)
  obtain⟨ta,hta,htie⟩:=zbf hall hkl
  have tk:=ok.tie _ (za7 hkl).2
  obtain⟨t,et⟩:∃ t,t=tieAt ts k:=⟨_,rfl⟩
  rw[← et] at htie tk
  have lM:=mk.1
  have il:i < os.length:=hi.1
  have ha:t.1.toNat < n.toNat:=zqu tk
  have hb:t.2.1.toNat < n.toNat:=zqt tk
  have ed:os.drop i=k::os.drop (i + 1):=by rw[List.drop_eq_getElem_cons hi.1,hi.2]
  have et2:t2 ts k=(t.1.toNat,t.2.1.toNat):=by unfold t2;rw[← et]
  have tn:os.take (i + 1)=os.take i++[k]:=zem hk
  have mE:(os.take (i + 1)).map (t2 ts)=(os.take i).map (t2 ts)++[(t.1.toNat,t.2.1.toNat)]:=by rw[tn,List.map_append,List.map_singleton,et2]
  refine⟨_,rfl,g0,_,_,_,rfl,rfl,SqT.of (sm _ _ hg0),rfl,_,rfl,g,_,_,_,rfl,rfl,SqT.of (sm _ _ hg),zaq (Int.natCast_nonneg _) hta,ta,_,rfl,SqT.of (sm _ _ htie),rfl,_,_,rfl,_,_,rfl,_,_,rfl,rfl,?_⟩
  refine⟨_,rfl,_,rfl,lm,_,_,_,rfl,rfl,SqL.of hM,zbv tk.1 (by rw[lM];exact ha),?_⟩
  refine⟨_,rfl,_,rfl,lm,_,_,_,rfl,rfl,SqL.of hM,zbv (zqv tk) (by rw[lM];exact hb),?_⟩
  refine⟨_,rfl,_,rfl,rfl,_,rfl,?_⟩
  rw[zbz]
  by_cases c:M.getD t.1.toNat 0=M.getD t.2.1.toNat 0
  ·refine iteNS c ⟨lm,M,tl,_,_,_,_,_,_,rfl,sm,nlm,hM,hT,by trivial,by rw[mE];exact mk.same ha hb c,?_⟩
   rw[← er,ed,tn]
   have cB:cnB ts (os.take i) k=true:=cnB_iff.mpr (by rw[et2];exact (mk.2 _ _ ha hb).mp c)
   show _=tl++(if cnB ts (os.take i) k=true then _ else _)
   rw[if_pos cB]
  ·rw[decide_eq_false c]
   refine iteT ?_
   refine⟨_,rfl,lm,rfl,⟨_,SqL.of hM⟩,?_⟩
   have lnM:(natV M).length=n.toNat:=by unfold natV;rw[List.length_map];exact lM
   refine zbx hM (fun σ'=>∃ o,σ'=[o,some (.int ((M.getD t.2.1.toNat 0:Nat):Int)),some (.int ((M.getD t.1.toNat 0:Nat):Int))]) (fun i v _=>v=.int (((if M.getD i 0=M.getD t.2.1.toNat 0 then M.getD t.1.toNat 0 else M.getD i 0:Nat)):Int)) (by trivial) (by exact⟨none,rfl⟩) (fun _ _ _ _ _ h=>h) (fun i2 x2 σ' H' hx2 s4 sg C hC=>?_) (fun L zs J4 hL S4 hH hly hys=>?_)
   ·obtain⟨o2,rfl⟩:=sg
    obtain⟨m,hm,rfl⟩:=zbr hx2
    have em:M.getD i2 0=m:=by rw[List.getD_eq_getElem?_getD,hm];rfl
    rw[em] at hC
    refine⟨_,rfl,_,rfl,rfl,_,rfl,?_⟩
    rw[zbz]
    refine ite2 (fun c2=>⟨_,rfl,hC _ _ _ ⟨_,rfl⟩ (Same.refl _) ?_⟩) (fun c2=>⟨_,rfl,hC _ _ _ ⟨_,rfl⟩ (Same.refl _) ?_⟩)
    ·rw[if_pos (of_decide_eq_true c2)]
    ·rw[if_neg (of_decide_eq_false (Bool.eq_false_iff.mpr c2))]
   have ez:zs=natV (Frs.join M (M.getD t.1.toNat 0) (M.getD t.2.1.toNat 0)):=by
    have lj:(natV (Frs.join M (M.getD t.1.toNat 0) (M.getD t.2.1.toNat 0))).length=n.toNat:=by unfold natV Frs.join;rw[List.length_map,List.length_map];exact lM
    refine List.ext_getElem (by trivial) fun j h1 h2=>?_
    have:=hys j _ (List.getElem?_eq_getElem h1)
    rw[this]
    have hj:j < M.length:=by trivial
    have e:=zbv (M:=Frs.join M (M.getD t.1.toNat 0) (M.getD t.2.1.toNat 0)) (i:=(j:Int)) (Int.natCast_nonneg _) (by unfold Frs.join;rw[List.length_map];simpa using hj)
    rw[Int.toNat_natCast,Frs.join_at hj] at e
    have e2:(natV (Frs.join M (M.getD t.1.toNat 0) (M.getD t.2.1.toNat 0)))[j]?=some (natV (Frs.join M (M.getD t.1.toNat 0) (M.getD t.2.1.toNat 0)))[j]:=List.getElem?_eq_getElem h2
    have e3:=zaq (i:=(j:Int)) (Int.natCast_nonneg _) (by rw[Int.toNat_natCast];exact e2)
    rw[e] at e3
    exact (Option.some.inj e3)
   rw[ez] at hH
   have hT4:=S4 _ _ hT
   have nL:L≠lt:=fun z=>by rw[z,hT] at hL;cases hL
   have ltv:(natV tl).length=tl.length:=by unfold natV;rw[List.length_map]
   refine⟨_,rfl,.inl ⟨rfl,_,SqL.of hT4⟩,_,rfl,lt,_,_,rfl,rfl,hT4,by trivial,fun J5 b5 e5=>?_⟩
   refine⟨L,_,tl++[k],_,_,_,_,_,_,rfl,fun b o' e=>b5 _ _ (zat e fl) ((sm.trans S4) _ _ e),nL,b5 _ _ nL hH,by rw[e5];unfold natV;rw[List.map_append];rfl,by rw[List.length_append,List.length_singleton];trivial,by rw[mE];exact mk.join ha hb c,?_⟩
   rw[← er,ed,tn]
   have cB:¬ cnB ts (os.take i) k=true:=fun z=>c ((mk.2 _ _ ha hb).mpr (by have:=cnB_iff.mp z;rw[et2] at this;exact this))
   show _=tl++(if cnB ts (os.take i) k=true then _ else _)
   rw[if_neg cB,List.append_assoc];rfl
 ·obtain⟨lm,M,tl,y4,y5,y6,y7,y8,y9,rfl,sm,nlm,hM,hT,ltl,mk,er⟩:=h
  refine⟨_,rfl,q lt J sm fl ?_⟩
  rw[len,List.drop_length,List.take_length] at er
  rw[hT,← er]
  show some (HO.lst (natV tl))=some (HO.lst (natV (tl++[])))
  rw[List.append_nil]
theorem zig (T:Bi mg) (D:DefOk K mg "is_ahead" s_is_ahead ["web","one","other"]):Ok P w K mg base 1 "is_ahead" ["web","one","other"] (spIsAhd K):=by
 refine zbi (k:=0) D sc_is_ahead (fun vs H Q E h=>?_) (fun f cdv A outer s H vs Q E hr h=>?_)
 ·obtain⟨n,ts,wv,j,k,rfl,_⟩:=h
  rfl
 obtain⟨n,ts,wv,j,k,rfl,isw,hj,hk,q⟩:=h
 have nd:=sc_is_ahead.nd
 obtain⟨g0,g,ws,rfl,hg0,hg,hall,hlw⟩:=za1 isw
 obtain⟨ta,hta,htie⟩:=zbf hall hj
 obtain⟨tb,htb,htib⟩:=zbf hall hk
 refine⟨_,(zak (zav (za3 (zpz hr.units0) (zbo (zaa (zao zal (zao zal (zao zal (pv 0) zab (fun _ _=>rfl)) (pv 1) (fun _ _=>rfl)) zab (fun _ _=>rfl)) (zaa (pv 1) zac))) (zbo (zaa (zao zal (zao zal (zao zal (pv 0) zab (fun _ _=>rfl)) (pv 2) (fun _ _=>rfl)) zab (fun _ _=>rfl)) (zaa (pv 2) zac))) (nomark _)))),?_⟩
 refine⟨_,rfl,g0,_,_,_,rfl,rfl,SqT.of hg0,rfl,_,rfl,g,_,_,_,rfl,rfl,SqT.of hg,zaq (Int.natCast_nonneg _) hta,ta,_,_,_,rfl,rfl,SqT.of htie,rfl,_,rfl,(by show 2≤1000;decide),fun t1 J1 S1 f1 e1=>?_⟩
 refine⟨_,rfl,g0,_,_,_,rfl,rfl,SqT.of (S1 _ _ hg0),rfl,_,rfl,g,_,_,_,rfl,rfl,SqT.of (S1 _ _ hg),zaq (Int.natCast_nonneg _) htb,tb,_,_,_,rfl,rfl,SqT.of (S1 _ _ htib),rfl,_,rfl,(by show 2≤1000;decide),fun t2' J2 S2 f2 e2=>?_⟩
 refine⟨t1,t2',okey ts j,okey ts k,rfl,rfl,SqT.of (S2 _ _ e1),SqT.of e2,?_⟩
 have e:HT.lexLt (okey ts j) (okey ts k)=Srt.lexI (okey ts j) (okey ts k):=zot _ _ _ _
 rw[e]
 exact q J2 (S1.trans S2)
inductive spTupN_i  (vs:List V) (H:Hp) (Q:VK):Prop
 | mk:∀ (t:Addr) (xs:List V) (m:Nat),(vs=[.ref t,.int (m:Int)])->(H t=some (.tup xs))->(Q (.bl (decide (xs.length=m))) H)->spTupN_i vs H Q
def spTupN :Sp:=fun vs H Q _=>spTupN_i vs H Q
theorem zer (T:Bi mg) (D:DefOk K mg "is_tuple_of" s_is_tuple_of ["thing","many"]):Ok P w K mg base 1 "is_tuple_of" ["thing","many"] spTupN:=by
 refine zbi (k:=0) D sc_is_tuple_of (fun vs H Q E h=>?_) (fun f cdv A outer s H vs Q E hr h=>?_)
 ·obtain⟨t,xs,m,rfl,_⟩:=h
  rfl
 obtain⟨t,xs,m,rfl,ht,q⟩:=h
 have nd:=sc_is_tuple_of.nd
 refine⟨_,(zak (zav (zcj (zaf (zcx (n:="tuple")) rfl T.z_isinstance (by decide +kernel) (zaa (pv 0) (zaa (zdu (v:=.ty "tuple") rfl T.z_tuple (by decide +kernel) rfl) zac))) (zb9 (za3 zbe (zaf zag rfl T.z_len (by decide +kernel) (zaa (pv 0) zac)) (pv 1) (nomark _)))))),?_⟩
 refine⟨_,rfl,_,_,_,rfl,TyOf.tup ht,rfl,_,rfl,iteT ?_⟩
 refine⟨_,rfl,t,_,rfl,.inr (SqT.of ht),_,rfl,rfl,?_⟩
 have e:decide (V.int ((xs.length:Nat):Int)=V.int (m:Int))=decide (xs.length=m):=by
  by_cases z:xs.length=m
  ·rw[decide_eq_true z,decide_eq_true (by rw[z])]
  ·rw[decide_eq_false z,decide_eq_false fun y=>z (by injection y with y;trivial)]
 rw[e]
 exact q
theorem zg7 {M:List Nat} {p q m:Nat} {zs:List V} (lM:M.length=m) (lnM:(natV M).length=m) (hly:zs.length=(natV M).length) (hys:∀ (i:Nat) (v:V),zs[i]?=some v->v=V.int (((if M.getD i 0=q then p else M.getD i 0:Nat)):Int)):zs=natV (Frs.join M p q):=by
 have lj:(natV (Frs.join M p q)).length=m:=by unfold natV Frs.join;rw[List.length_map,List.length_map];exact lM
 refine List.ext_getElem (by trivial) fun j h1 h2=>?_
 rw[hys j _ (List.getElem?_eq_getElem h1)]
 have hj:j < M.length:=by trivial
 have e:=zbv (M:=Frs.join M p q) (i:=(j:Int)) (Int.natCast_nonneg _) (by unfold Frs.join;rw[List.length_map];simpa using hj)
 rw[Int.toNat_natCast,Frs.join_at hj] at e
 have e3:=zaq (i:=(j:Int)) (Int.natCast_nonneg _) (by rw[Int.toNat_natCast];exact List.getElem?_eq_getElem h2)
 rw[e] at e3
 exact (Option.some.inj e3)
theorem zet (T:Bi mg) (D:DefOk K mg "_law_joined" s__law_joined ["web","numbers","a","b"]):Ok P w K mg base 1 "_law_joined" ["web","numbers","a","b"] (spJoinedT K):=by
 refine zbi (k:=0) D sc__law_joined (fun vs H Q E h=>?_) (fun f cdv A outer s H vs Q E hr h=>?_)
 ·obtain⟨n,ts,os,wv,u,v,o,rfl,_⟩:=h
  rfl
 obtain⟨n,ts,os,wv,u,v,o,rfl,hw,ok,hos,l60,ho,u0,u1,v0,v1,q⟩:=h
 have nd:=sc__law_joined.nd
 have n1:=ok.n1
 have n24:=ok.n24
 obtain⟨g0,g,ws,rfl,hg0,hg,hall,hlw⟩:=za1 hw
 refine⟨_,(zai (za9 (i:=4) nd rfl (Or.inl rfl) (zax (zby rfl) rfl T.z_list (by decide +kernel) (zaa (zax zcb rfl T.z_range (by decide +kernel) (zaa (zao zal (pv 0) zab (fun _ _=>rfl)) zac)) zac))) (zai (zde PassesOwn.never rfl (zeo (pv 1)) (zah (i:=5) nd rfl (Or.inl rfl)) (zai (za9 (i:=6) nd rfl (Or.inr rfl) (zao za2 (pv 4) (zao zal (zao zal (zao zal (pv 0) zab (fun _ _=>rfl)) (pv 5) (fun _ _=>rfl)) zab (fun _ _=>rfl)) (fun _ _=>rfl))) (zai (za9 (i:=7) nd rfl (Or.inr rfl) (zao za2 (pv 4) (zao zal (zao zal (zao zal (pv 0) zab (fun _ _=>rfl)) (pv 5) (fun _ _=>rfl)) zab (fun _ _=>rfl)) (fun _ _=>rfl))) (zak (zb2 (zap zj9 (pv 6) (pv 7) (nomark _)) (zak (zbl (i:=4) (N:=["web","numbers","a","b","marks","number","one","other"]) (sc0:=defScope s__law_joined) (own:=["mark"]) (fr:=["other","one"]) (js:=[7,6]) rfl (zbu (pv 4)) (fun _ _ _ _=>(zah (i:=0) (by show List.Nodup [("mark":Str),("other":Str),("one":Str)];decide +kernel) rfl (Or.inl rfl))) (fun _ _ _ _=>zbg) (fun _ _ _ _=>(zf9 (zap zbe (pv 0) (pv 1) (nomark _)) (pv 2) (pv 0))) nd rfl (Or.inl rfl))) za5))))) (zak (zav (za3 zbe (zao za2 (pv 4) (pv 2) (fun _ _=>rfl)) (zao za2 (pv 4) (pv 3) (fun _ _=>rfl)) (nomark _)))))),?_⟩
 refine⟨_,rfl,g0,_,_,_,rfl,rfl,SqT.of hg0,rfl,_,rfl,fun r hr'=>⟨r,n,rfl,zae,by trivial,by trivial,fun lm hlm=>?_⟩⟩
 have S1:Same H (upd H r (.rng 0 n)):=zam hr'
 have S2:Same (upd H r (.rng 0 n)) (upd (upd H r (.rng 0 n)) lm (.lst ((List.range n.toNat).map fun i:Nat=>V.int (i:Int)))):=zam hlm
 have e2:upd (upd H r (.rng 0 n)) lm (.lst ((List.range n.toNat).map fun i:Nat=>V.int (i:Int))) lm=some (.lst (natV (List.range n.toNat))):=zae
 generalize upd (upd H r (.rng 0 n)) lm (.lst ((List.range n.toNat).map fun i:Nat=>V.int (i:Int)))=J2 at S2 e2
 have S03:=S1.trans S2
 refine⟨_,rfl,o,rfl,⟨_,SqT.of (S03 _ _ ho)⟩,?_⟩
 have len:(natV os).length=os.length:=by unfold natV;rw[List.length_map]
 refine ziq (xs:=natV os) (fun i σ J=>∃ (lm:Addr) (M:List Nat) (y4 y5 y6:Option V),σ=[some (.ref g0),some (.ref o),some (.int u),some (.int v),some (.ref lm),y4,y5,y6]∧Same H J∧J lm=some (.lst (natV M))∧Frs.Mk n.toNat ((os.take i).map (t2 ts)) M) ⟨lm,_,none,none,none,rfl,S03,e2,Frs.Mk.first⟩ (fun i σ J _ h=>?_) (fun i x σ J hx h=>?_) (fun σ J h=>?_)
 ·obtain⟨lm,M,y4,y5,y6,rfl,sm,_⟩:=h
  exact SqT.of (sm _ _ ho)
 ·obtain⟨lm,M,y4,y5,y6,rfl,sm,hM,mk⟩:=h
  obtain⟨k,hk,rfl⟩:=zbr hx
  have hi:=List.getElem?_eq_some_iff.mp hk
  have hkl:k < ts.length:=hos k (List.mem_of_getElem? hk)
  obtain⟨ta,hta,htie⟩:=zbf hall hkl
  have tk:=ok.tie _ (za7 hkl).2
  obtain⟨t,et⟩:∃ t,t=tieAt ts k:=⟨_,rfl⟩
  rw[← et] at htie tk
  have lM:=mk.1
  have ha:t.1.toNat < n.toNat:=by trivial
  have hb:t.2.1.toNat < n.toNat:=by trivial
  have et2:t2 ts k=(t.1.toNat,t.2.1.toNat):=by unfold t2;rw[← et]
  have mE:(os.take (i + 1)).map (t2 ts)=(os.take i).map (t2 ts)++[(t.1.toNat,t.2.1.toNat)]:=by rw[zem hk,List.map_append,List.map_singleton,et2]
  refine⟨_,rfl,_,rfl,g0,_,_,_,rfl,rfl,SqT.of (sm _ _ hg0),rfl,_,rfl,g,_,_,_,rfl,rfl,SqT.of (sm _ _ hg),zaq (Int.natCast_nonneg _) hta,ta,_,_,_,rfl,rfl,SqT.of (sm _ _ htie),rfl,lm,_,_,_,rfl,rfl,SqL.of hM,zbv (by trivial) (by trivial),?_⟩
  refine⟨_,rfl,_,rfl,g0,_,_,_,rfl,rfl,SqT.of (sm _ _ hg0),rfl,_,rfl,g,_,_,_,rfl,rfl,SqT.of (sm _ _ hg),zaq (Int.natCast_nonneg _) hta,ta,_,_,_,rfl,rfl,SqT.of (sm _ _ htie),rfl,lm,_,_,_,rfl,rfl,SqL.of hM,zbv (by trivial) (by trivial),?_⟩
  refine⟨_,rfl,_,rfl,rfl,_,rfl,?_⟩
  rw[zbz]
  by_cases c:M.getD t.1.toNat 0=M.getD t.2.1.toNat 0
  ·exact iteNS c ⟨lm,M,_,_,_,rfl,sm,hM,by rw[mE];exact mk.same ha hb c⟩
  ·rw[decide_eq_false c]
   refine iteT ?_
   refine⟨_,rfl,lm,rfl,⟨_,SqL.of hM⟩,?_⟩
   have lnM:(natV M).length=n.toNat:=by unfold natV;rw[List.length_map];exact lM
   refine zbx hM (fun σ'=>∃ o,σ'=[o,some (.int ((M.getD t.2.1.toNat 0:Nat):Int)),some (.int ((M.getD t.1.toNat 0:Nat):Int))]) (fun i v _=>v=.int (((if M.getD i 0=M.getD t.2.1.toNat 0 then M.getD t.1.toNat 0 else M.getD i 0:Nat)):Int)) (by trivial) (by exact⟨none,rfl⟩) (fun _ _ _ _ _ h=>h) (fun i2 x2 σ' H' hx2 s4 sg C hC=>?_) (fun L zs J4 hL S4 hH hly hys=>?_)
   ·obtain⟨o2,rfl⟩:=sg
    obtain⟨m,hm,rfl⟩:=zbr hx2
    have em:M.getD i2 0=m:=by rw[List.getD_eq_getElem?_getD,hm];rfl
    rw[em] at hC
    refine⟨_,rfl,_,rfl,rfl,_,rfl,?_⟩
    rw[zbz]
    refine ite2 (fun c2=>⟨_,rfl,hC _ _ _ ⟨_,rfl⟩ (Same.refl _) ?_⟩) (fun c2=>⟨_,rfl,hC _ _ _ ⟨_,rfl⟩ (Same.refl _) ?_⟩)
    ·rw[if_pos (of_decide_eq_true c2)]
    ·rw[if_neg (of_decide_eq_false (Bool.eq_false_iff.mpr c2))]
   rw[zg7 lM lnM hly hys] at hH
   exact⟨L,_,_,_,_,rfl,sm.trans S4,hH,by rw[mE];exact mk.join ha hb c⟩
 ·obtain⟨lm,M,y4,y5,y6,rfl,sm,hM,mk⟩:=h
  rw[len,List.take_length] at mk
  have lM:=mk.1
  refine⟨_,rfl,_,rfl,lm,_,_,_,rfl,rfl,SqL.of hM,zbv u0 (by trivial),_,rfl,_,rfl,lm,_,_,_,rfl,rfl,SqL.of hM,zbv v0 (by trivial),rfl,?_⟩
  rw[zbz]
  exact q _ J (decide_eq_true_iff.trans (mk.2 _ _ (by trivial) (by trivial))) sm
inductive spJoined_i (K:PySem.W.Frag) (vs:List V) (H:Hp) (Q:VK):Prop
 | mk:∀ n ts ks wv u v (l:Addr),(vs=[wv,.ref l,.int u,.int v])->(Is K H (webD n ts) wv)->(WebOk n ts)->((∀ k ∈ ks,k < ts.length))->(ks.length≤60)->(H l=some (.lst (natV ks)))->(0≤u)->(u < n)->(0≤v)->(v < n)->(∀ b H',(b=true↔Frs.Cn (ks.map (t2 ts)) u.toNat v.toNat)->Same H H'->Q (.bl b) H')->spJoined_i K vs H Q
def spJoined (K:PySem.W.Frag):Sp:=fun vs H Q _=>spJoined_i K vs H Q
theorem zfe (T:Bi mg) (D:DefOk K mg "_law_joined" s__law_joined ["web","numbers","a","b"]):Ok P w K mg base 1 "_law_joined" ["web","numbers","a","b"] (spJoined K):=by
 refine zbi (k:=0) D sc__law_joined (fun vs H Q E h=>?_) (fun f cdv A outer s H vs Q E hr h=>?_)
 ·obtain⟨n,ts,os,wv,u,v,o,rfl,_⟩:=h
  rfl
 obtain⟨n,ts,os,wv,u,v,o,rfl,hw,ok,hos,l60,ho,u0,u1,v0,v1,q⟩:=h
 have nd:=sc__law_joined.nd
 have n1:=ok.n1
 have n24:=ok.n24
 obtain⟨g0,g,ws,rfl,hg0,hg,hall,hlw⟩:=za1 hw
 refine⟨_,(zai (za9 (i:=4) nd rfl (Or.inl rfl) (zax (zby rfl) rfl T.z_list (by decide +kernel) (zaa (zax zcb rfl T.z_range (by decide +kernel) (zaa (zao zal (pv 0) zab (fun _ _=>rfl)) zac)) zac))) (zai (zde PassesOwn.never rfl (zbu (pv 1)) (zah (i:=5) nd rfl (Or.inl rfl)) (zai (za9 (i:=6) nd rfl (Or.inr rfl) (zao za2 (pv 4) (zao zal (zao zal (zao zal (pv 0) zab (fun _ _=>rfl)) (pv 5) (fun _ _=>rfl)) zab (fun _ _=>rfl)) (fun _ _=>rfl))) (zai (za9 (i:=7) nd rfl (Or.inr rfl) (zao za2 (pv 4) (zao zal (zao zal (zao zal (pv 0) zab (fun _ _=>rfl)) (pv 5) (fun _ _=>rfl)) zab (fun _ _=>rfl)) (fun _ _=>rfl))) (zak (zb2 (zap zj9 (pv 6) (pv 7) (nomark _)) (zak (zbl (i:=4) (N:=["web","numbers","a","b","marks","number","one","other"]) (sc0:=defScope s__law_joined) (own:=["mark"]) (fr:=["other","one"]) (js:=[7,6]) rfl (zbu (pv 4)) (fun _ _ _ _=>(zah (i:=0) (by show List.Nodup [("mark":Str),("other":Str),("one":Str)];decide +kernel) rfl (Or.inl rfl))) (fun _ _ _ _=>zbg) (fun _ _ _ _=>(zf9 (zap zbe (pv 0) (pv 1) (nomark _)) (pv 2) (pv 0))) nd rfl (Or.inl rfl))) za5))))) (zak (zav (za3 zbe (zao za2 (pv 4) (pv 2) (fun _ _=>rfl)) (zao za2 (pv 4) (pv 3) (fun _ _=>rfl)) (nomark _)))))),?_⟩
 refine⟨_,rfl,g0,_,_,_,rfl,rfl,SqT.of hg0,rfl,_,rfl,fun r hr'=>⟨r,n,rfl,zae,by trivial,by trivial,fun lm hlm=>?_⟩⟩
 have S1:Same H (upd H r (.rng 0 n)):=zam hr'
 have S2:Same (upd H r (.rng 0 n)) (upd (upd H r (.rng 0 n)) lm (.lst ((List.range n.toNat).map fun i:Nat=>V.int (i:Int)))):=zam hlm
 have e2:upd (upd H r (.rng 0 n)) lm (.lst ((List.range n.toNat).map fun i:Nat=>V.int (i:Int))) lm=some (.lst (natV (List.range n.toNat))):=zae
 generalize upd (upd H r (.rng 0 n)) lm (.lst ((List.range n.toNat).map fun i:Nat=>V.int (i:Int)))=J2 at S2 e2
 have S03:=S1.trans S2
 refine⟨_,rfl,o,rfl,⟨_,SqL.of (S03 _ _ ho)⟩,?_⟩
 have len:(natV os).length=os.length:=by unfold natV;rw[List.length_map]
 refine zgk (xs:=natV os) (fun i σ J=>∃ (lm:Addr) (M:List Nat) (y4 y5 y6:Option V),σ=[some (.ref g0),some (.ref o),some (.int u),some (.int v),some (.ref lm),y4,y5,y6]∧Same H J∧J lm=some (.lst (natV M))∧Frs.Mk n.toNat ((os.take i).map (t2 ts)) M) ⟨lm,_,none,none,none,rfl,S03,e2,Frs.Mk.first⟩ (fun i σ J _ h=>?_) (fun i x σ J hx h=>?_) (fun σ J h=>?_)
 ·obtain⟨lm,M,y4,y5,y6,rfl,sm,_⟩:=h
  exact SqL.of (sm _ _ ho)
 ·obtain⟨lm,M,y4,y5,y6,rfl,sm,hM,mk⟩:=h
  obtain⟨k,hk,rfl⟩:=zbr hx
  have hi:=List.getElem?_eq_some_iff.mp hk
  have hkl:k < ts.length:=hos k (List.mem_of_getElem? hk)
  obtain⟨ta,hta,htie⟩:=zbf hall hkl
  have tk:=ok.tie _ (za7 hkl).2
  obtain⟨t,et⟩:∃ t,t=tieAt ts k:=⟨_,rfl⟩
  rw[← et] at htie tk
  have lM:=mk.1
  have ha:t.1.toNat < n.toNat:=zqu tk
  have hb:t.2.1.toNat < n.toNat:=zqt tk
  have et2:t2 ts k=(t.1.toNat,t.2.1.toNat):=by unfold t2;rw[← et]
  have mE:(os.take (i + 1)).map (t2 ts)=(os.take i).map (t2 ts)++[(t.1.toNat,t.2.1.toNat)]:=by rw[zem hk,List.map_append,List.map_singleton,et2]
  refine⟨_,rfl,_,rfl,g0,_,_,_,rfl,rfl,SqT.of (sm _ _ hg0),rfl,_,rfl,g,_,_,_,rfl,rfl,SqT.of (sm _ _ hg),zaq (Int.natCast_nonneg _) hta,ta,_,_,_,rfl,rfl,SqT.of (sm _ _ htie),rfl,lm,_,_,_,rfl,rfl,SqL.of hM,zbv tk.1 (by rw[lM];exact ha),?_⟩
  refine⟨_,rfl,_,rfl,g0,_,_,_,rfl,rfl,SqT.of (sm _ _ hg0),rfl,_,rfl,g,_,_,_,rfl,rfl,SqT.of (sm _ _ hg),zaq (Int.natCast_nonneg _) hta,ta,_,_,_,rfl,rfl,SqT.of (sm _ _ htie),rfl,lm,_,_,_,rfl,rfl,SqL.of hM,zbv (zqv tk) (by rw[lM];exact hb),?_⟩
  refine⟨_,rfl,_,rfl,rfl,_,rfl,?_⟩
  rw[zbz]
  by_cases c:M.getD t.1.toNat 0=M.getD t.2.1.toNat 0
  ·exact iteNS c ⟨lm,M,_,_,_,rfl,sm,hM,by rw[mE];exact mk.same ha hb c⟩
  ·rw[decide_eq_false c]
   refine iteT ?_
   refine⟨_,rfl,lm,rfl,⟨_,SqL.of hM⟩,?_⟩
   have lnM:(natV M).length=n.toNat:=by unfold natV;rw[List.length_map];exact lM
   refine zbx hM (fun σ'=>∃ o,σ'=[o,some (.int ((M.getD t.2.1.toNat 0:Nat):Int)),some (.int ((M.getD t.1.toNat 0:Nat):Int))]) (fun i v _=>v=.int (((if M.getD i 0=M.getD t.2.1.toNat 0 then M.getD t.1.toNat 0 else M.getD i 0:Nat)):Int)) (by trivial) (by exact⟨none,rfl⟩) (fun _ _ _ _ _ h=>h) (fun i2 x2 σ' H' hx2 s4 sg C hC=>?_) (fun L zs J4 hL S4 hH hly hys=>?_)
   ·obtain⟨o2,rfl⟩:=sg
    obtain⟨m,hm,rfl⟩:=zbr hx2
    have em:M.getD i2 0=m:=by rw[List.getD_eq_getElem?_getD,hm];rfl
    rw[em] at hC
    refine⟨_,rfl,_,rfl,rfl,_,rfl,?_⟩
    rw[zbz]
    refine ite2 (fun c2=>⟨_,rfl,hC _ _ _ ⟨_,rfl⟩ (Same.refl _) ?_⟩) (fun c2=>⟨_,rfl,hC _ _ _ ⟨_,rfl⟩ (Same.refl _) ?_⟩)
    ·rw[if_pos (of_decide_eq_true c2)]
    ·rw[if_neg (of_decide_eq_false (Bool.eq_false_iff.mpr c2))]
   rw[zg7 lM lnM hly hys] at hH
   exact⟨L,_,_,_,_,rfl,sm.trans S4,hH,by rw[mE];exact mk.join ha hb c⟩
 ·obtain⟨lm,M,y4,y5,y6,rfl,sm,hM,mk⟩:=h
  rw[len,List.take_length] at mk
  have lM:=mk.1
  refine⟨_,rfl,_,rfl,lm,_,_,_,rfl,rfl,SqL.of hM,zbv u0 (by trivial),_,rfl,_,rfl,lm,_,_,_,rfl,rfl,SqL.of hM,zbv v0 (by trivial),rfl,?_⟩
  rw[zbz]
  exact q _ J (decide_eq_true_iff.trans (mk.2 _ _ (by trivial) (by trivial))) sm
theorem iteTq {b:Bool} {A B:Prop} (e:b=true) (h:A):if b=true then A else B:=by rw[if_pos e];exact h
theorem iteFq {b:Bool} {A B:Prop} (e:b=false) (h:B):if b=true then A else B:=by rw[e];exact h
def tbI (ts:List Tie) (u v:Int):Option Nat:=(List.range ts.length).find? (isE ts u v)
def stB (ts:List Tie) (k:Nat) (ws:List Int) (j:Nat):Bool:=match tbI ts (ws.getD j 0) (ws.getD (j + 1) 0) with
 | some x=>Srt.lexI (okey ts x) (okey ts k)
 | none=>false
def waB (n:Int) (ts:List Tie) (ks:List Nat) (k:Nat) (ws:List Int):Bool:=leadsI n ts ks (tieAt ts k).1 (tieAt ts k).2.1 ws && (List.range (ws.length - 1)).all (stB ts k ws)
noncomputable def forB (n:Int) (ts:List Tie) (ns:List Int) (ww:List (List Int)):Bool :=
 keepB ts.length (.tuple (ns.map .int)) && decide (ns.length≤(rgN ts [] (ns.map Int.toNat)).length) && decide (ww.length=(outs ts.length (ns.map Int.toNat)).length) && (List.range ww.length).all fun i=>waB n ts (ns.map Int.toNat) ((outs ts.length (ns.map Int.toNat)).getD i 0) (ww.getD i [])
theorem zjq {m:Nat} {ns:List Int} (h:keepB m (.tuple (ns.map .int))=true):KeepOk m (ns.map Int.toNat)∧keepI (ns.map Int.toNat)=ns:=by
 have h':((ns.map PyData.int).all (numB m) && risI ((ns.map PyData.int).map intOf))=true:=h
 rw[Bool.and_eq_true,List.map_map,show (intOf ∘ PyData.int)=id from rfl,List.map_id,List.all_map,List.all_eq_true,zjj] at h'
 obtain⟨h1,h2⟩:=h'
 have h3:∀ x ∈ ns,0≤x∧x < (m:Int):=fun x hx=>by
  have:=h1 x hx
  have e:(decide (0≤x) && decide (x < (m:Int)))=true:=this
  rw[Bool.and_eq_true,decide_eq_true_eq,decide_eq_true_eq] at e
  exact e
 refine⟨⟨?_,fun k hk=>?_⟩,?_⟩
 ·rw[List.pairwise_map]
  exact h2.imp_of_mem fun {a b} ha hb h=>by have:=h3 a ha;have:=h3 b hb;trivial
 ·obtain⟨x,hx,rfl⟩:=List.mem_map.mp hk
  have:=h3 x hx;trivial
 ·unfold keepI
  rw[List.map_map]
  conv=>rhs;rw[← List.map_id ns]
  exact List.map_congr_left fun x hx=>by have:=h3 x hx;show ((x.toNat:Nat):Int)=x;trivial
inductive spWayAI_i (K:PySem.W.Frag) (vs:List V) (H:Hp) (Q:VK):Prop
 | mk:∀ (n:Int) (ts:List Tie) (ks:List Nat) (wv kv:V) (k:Nat) (t:Addr) (ws:List Int),(vs=[wv,kv,.int (k:Int),.ref t])->(WK K H n ts ks wv kv)->(k < ts.length)->(IntT H t ws)->(ws.length≤40)->(∀ H',Same H H'->Q (.bl (waB n ts ks k ws)) H')->spWayAI_i K vs H Q
def spWayAI (K:PySem.W.Frag):Sp:=fun vs H Q _=>spWayAI_i K vs H Q
theorem zgb (T:Bi mg) (D:DefOk K mg "way_ahead" s_way_ahead ["web","keep","tie","way"]) (O_leads_between:Ok P w K mg base 5 "leads_between" ["web","keep","a","b","way"] (spLeadsI K)) (O_ties_along:Ok P w K mg base 5 "ties_along" ["web","places"] (spAlong K)) (O_is_ahead:Ok P w K mg base 5 "is_ahead" ["web","one","other"] (spIsAhd K)):Ok P w K mg base 6 "way_ahead" ["web","keep","tie","way"] (spWayAI K):=by
 refine zbi (k:=5) D sc_way_ahead (fun vs H Q E h=>?_) (fun f cdv A outer s H vs Q E hr h=>?_)
 ·obtain⟨n,ts,ks,wv,kv,k,t,ws,rfl,_⟩:=h
  rfl
 obtain⟨n,ts,ks,wv,kv,k,t,rw_,rfl,wk,hk,iT,l40,q⟩:=h
 have nd:=sc_way_ahead.nd
 have ok:=wk.2.1
 have ko:=wk.2.2.2
 obtain⟨g0,g,ws,rfl,hg0,hg,hall,hlw⟩:=za1 wk.1
 obtain⟨ta,hta,htie⟩:=zbf hall hk
 refine⟨_,(zai (zdf (zao zal (zao zal (pv 0) zab (fun _ _=>rfl)) (pv 2) (fun _ _=>rfl)) (zci (n:=3) rfl (zan (zah (i:=4) nd rfl (Or.inl rfl)) (zan (zah (i:=5) nd rfl (Or.inl rfl)) (zan (zah (i:=6) nd rfl (Or.inl rfl)) zba))))) (zai (zb2 (zc2 (zcm (zad O_leads_between hr rfl (zaa (pv 0) (zaa (pv 1) (zaa (pv 4) (zaa (pv 5) (zaa (pv 3) zac)))))))) (zak (zav zc6)) za5) (zak (zav (zaf (zce rfl) rfl T.z_all (by decide +kernel) (zaa (zbp (N:=["web","keep","tie","way","a","b","length"]) (sc0:=defScope s_way_ahead) (own:=["other"]) (fr:=["web","tie"]) (js:=[0,2]) rfl (zbu (zad O_ties_along hr rfl (zaa (pv 0) (zaa (pv 3) zac)))) (fun _ _ _ _=>(zah (i:=0) (by show List.Nodup [("other":Str),("web":Str),("tie":Str)];decide +kernel) rfl (Or.inl rfl))) (fun _ _ _ _=>zbg) (fun _ _ _ _=>(zad O_is_ahead hr rfl (zaa (pv 1) (zaa (pv 0) (zaa (pv 2) zac)))))) zac)))))),?_⟩
 refine⟨_,rfl,g0,_,_,_,rfl,rfl,SqT.of hg0,rfl,_,rfl,g,_,_,_,rfl,rfl,SqT.of hg,zaq (Int.natCast_nonneg _) hta,ta,_,rfl,SqT.of htie,rfl,_,_,rfl,_,_,rfl,_,_,rfl,rfl,?_⟩
 refine⟨_,rfl,_,rfl,_,rfl,_,rfl,_,rfl,n,ts,ks,_,kv,t,rw_,(tieAt ts k).1,(tieAt ts k).2.1,rfl,wk,iT,l40,fun H1 s1=>⟨_,rfl,?_⟩⟩
 cases eL:leadsI n ts ks (tieAt ts k).1 (tieAt ts k).2.1 rw_ with
 | false =>
  refine iteT ?_
  have:=q H1 s1
  unfold waB at this
  rw[eL] at this
  exact this
 | true =>
 refine iteF ?_
 obtain⟨x,er⟩:∃ x,rightI n ts ks rw_=some x:=by
  unfold leadsI at eL
  rw[Bool.and_eq_true,Option.isSome_iff_exists] at eL
  exact eL.1
 obtain⟨us,rfl,l24,lk,_⟩:=zkz ok ko er
 have ht':H1 t=some (.tup (natV us)):=by rw[za8];exact s1 _ _ iT.1
 refine⟨_,rfl,_,rfl,n,ts,_,t,us,rfl,Is.same s1 _ wk.1,ok.few,ht',l24,lk,fun l J1 S1 e1=>?_⟩
 refine⟨l,rfl,⟨_,SqL.of e1⟩,?_⟩
 have lenS:(natV (alongN ts us)).length=us.length - 1:=by unfold natV alongN;rw[List.length_map,List.length_map,List.length_range]
 have s11:=s1.trans S1
 refine zbx e1 (fun σ'=>∃ o,σ'=[o,some (.ref g0),some (.int (k:Int))]) (fun i v _=>v=.bl ((fun i=>Srt.lexI (okey ts ((alongN ts us).getD i 0)) (okey ts k)) i)) (by trivial) (by exact⟨none,rfl⟩) (fun _ _ _ _ _ h=>h) (fun i x σ' H' hx s2 sg C hC=>?_) (fun L ys H2 hL s2 hH hly hys=>?_)
 ·obtain⟨o,rfl⟩:=sg
  obtain⟨j,hj,rfl⟩:=zbr hx
  have hjl:=znu lk j (List.mem_of_getElem? hj)
  refine⟨_,rfl,_,rfl,_,rfl,n,ts,_,j,k,rfl,Is.same (s11.trans s2) _ wk.1,hjl,hk,fun H5 s5=>hC _ _ _ ⟨_,rfl⟩ s5 ?_⟩
  show _=V.bl (Srt.lexI (okey ts ((alongN ts us).getD i 0)) (okey ts k))
  rw[List.getD_eq_getElem?_getD,hj];rfl
 refine⟨L,_,rfl,SqL.of (by rw[hH,zcg hly hys]),?_⟩
 have e:(((List.range (natV (alongN ts us)).length).map fun i=>Srt.lexI (okey ts ((alongN ts us).getD i 0)) (okey ts k)).all id)=waB n ts ks k (keepI us):=by
  unfold waB
  rw[eL,Bool.true_and,List.all_map,lenS,show (keepI us).length=us.length by unfold keepI;rw[List.length_map]]
  have key:∀ i,i < us.length - 1->Srt.lexI (okey ts ((alongN ts us).getD i 0)) (okey ts k)=stB ts k (keepI us) i:=fun i hi=>by
   have e1:us[i]?=some (us.getD i 0):=by rw[List.getD_eq_getElem?_getD,List.getElem?_eq_getElem (by trivial)];rfl
   have e2:us[i + 1]?=some (us.getD (i + 1) 0):=by rw[List.getD_eq_getElem?_getD,List.getElem?_eq_getElem (by trivial)];rfl
   obtain⟨j,ej,_⟩:=zdk lk e1 e2
   have ea:(alongN ts us).getD i 0=j:=by
    unfold alongN
    rw[List.getD_eq_getElem?_getD,List.getElem?_map,List.getElem?_eq_getElem (by rw[List.length_range];exact hi),List.getElem_range]
    show (tbN ts (us.getD i 0) (us.getD (i + 1) 0)).getD 0=j
    rw[ej];rfl
   have g:∀ m,m < us.length->(keepI us).getD m 0=((us.getD m 0:Nat):Int):=fun m hm=>by
    unfold keepI
    rw[List.getD_eq_getElem?_getD,List.getElem?_map,List.getD_eq_getElem?_getD,List.getElem?_eq_getElem hm];rfl
   unfold stB tbI
   rw[g i (by trivial),g (i + 1) (by trivial),show (List.range ts.length).find? (isE ts ((us.getD i 0:Nat):Int) ((us.getD (i + 1) 0:Nat):Int))=some j from ej,ea]
  rw[Bool.eq_iff_iff,List.all_eq_true,List.all_eq_true]
  exact⟨fun z i hi=>by rw[← key i (List.mem_range.mp hi)];exact z i hi,fun z i hi=>by show Srt.lexI _ _=true;rw[key i (List.mem_range.mp hi)];exact z i hi⟩
 rw[e]
 exact q H2 (s11.trans s2)
inductive spForI_i (K:PySem.W.Frag) (vs:List V) (H:Hp) (Q:VK):Prop
 | mk:∀ (n:Int) (ts:List Tie) (wv:V) (t kp wp:Addr) (ns:List Int) (ww:List (List Int)),(vs=[wv,.ref t])->(Is K H (webD n ts) wv)->(WebOk n ts)->(H t=some (.tup [.ref kp,.ref wp]))->(IntT H kp ns)->(Is K H (papD ww) (.ref wp))->(ww.length≤100)->((∀ r ∈ ww,r.length≤40))->(∀ H',Same H H'->Q (.bl (forB n ts ns ww)) H')->spForI_i K vs H Q
def spForI (K:PySem.W.Frag):Sp:=fun vs H Q _=>spForI_i K vs H Q
theorem zd9 (T:Bi mg) (D:DefOk K mg "forest_right" s_forest_right ["web","told"]) (O_is_tuple_of:Ok P w K mg base 6 "is_tuple_of" ["thing","many"] spTupN) (O_is_keep:Ok P w K mg base 6 "is_keep" ["web","thing"] (spIsKeep K)) (O_ringless:Ok P w K mg base 6 "ringless" ["web","ties"] (spRingless K)) (O_not_kept:Ok P w K mg base 6 "not_kept" ["web","keep"] (spOuts K)) (O_way_ahead:Ok P w K mg base 6 "way_ahead" ["web","keep","tie","way"] (spWayAI K)):Ok P w K mg base 7 "forest_right" ["web","told"] (spForI K):=by
 refine zbi (k:=6) D sc_forest_right (fun vs H Q E h=>?_) (fun f cdv A outer s H vs Q E hr h=>?_)
 ·obtain⟨n,ts,wv,t,kp,wp,ns,ww,rfl,_⟩:=h
  rfl
 obtain⟨n,ts,wv,t,kp,p,ns,ww,rfl,isw,ok,ht,iK,ipw,wl,wr,q⟩:=h
 have nd:=sc_forest_right.nd
 have few60:=ok.few
 obtain⟨p',ys,ep,hp,ia⟩:=ipw
 injection ep with ep
 subst ep
 obtain⟨ly,pa⟩:=zn0 ia
 refine⟨_,(zai (zb2 (zc2 (zcm (zad O_is_tuple_of hr rfl (zaa (pv 1) (zaa zab zac))))) (zak (zav zc6)) za5) (zai (zdf (pv 1) (zci (n:=2) rfl (zan (zah (i:=2) nd rfl (Or.inr rfl)) (zan (zah (i:=3) nd rfl (Or.inl rfl)) zba)))) (zai (zb2 (PW.pt (zgz (zc2 (zcm (zad O_is_keep hr rfl (zaa (pv 0) (zaa (pv 2) zac))))) (zen (zap zcy (zaf zag rfl T.z_len (by decide +kernel) (zaa (zad O_ringless hr rfl (zaa (pv 0) (zaa (pv 2) zac))) zac)) (zaf zag rfl T.z_len (by decide +kernel) (zaa (pv 2) zac)) (nomark _))))) (zak (zav zc6)) za5) (zai (za9 (i:=4) nd rfl (Or.inl rfl) (zad O_not_kept hr rfl (zaa (pv 0) (zaa (pv 2) zac)))) (zai (zb2 (zc2 (zcm (zad O_is_tuple_of hr rfl (zaa (pv 3) (zaa (zaf zag rfl T.z_len (by decide +kernel) (zaa (pv 4) zac)) zac))))) (zak (zav zc6)) za5) (zak (zav (zaf (zce rfl) rfl T.z_all (by decide +kernel) (zaa (zbp (N:=["web","told","keep","ways","ties"]) (sc0:=defScope s_forest_right) (own:=["tie","way"]) (fr:=["web","keep"]) (js:=[0,2]) rfl (zfs false true rfl T.z_zip (zaa (pv 4) (zaa (pv 3) zac))) (fun _ _ _ _=>(zcn (n:=2) rfl (zan (zah (i:=0) (by show List.Nodup [("tie":Str),("way":Str),("web":Str),("keep":Str)];decide +kernel) rfl (Or.inl rfl)) (zan (zah (i:=1) (by show List.Nodup [("tie":Str),("way":Str),("web":Str),("keep":Str)];decide +kernel) rfl (Or.inl rfl)) zba)))) (fun _ _ _ _=>zbg) (fun _ _ _ _=>(zad O_way_ahead hr rfl (zaa (pv 2) (zaa (pv 3) (zaa (pv 0) (zaa (pv 1) zac))))))) zac))))))))),?_⟩
 refine⟨_,rfl,t,_,2,rfl,ht,_,rfl,iteF ?_⟩
 refine⟨_,rfl,t,_,rfl,SqT.of ht,rfl,_,_,rfl,_,_,rfl,rfl,?_⟩
 have isk:Is K H (.tuple (ns.map .int)) (.ref kp):=⟨kp,_,rfl,iK.1,IsAll.ints _⟩
 have lns:((ns.map V.int)).length=ns.length:=List.length_map _
 refine⟨_,rfl,_,rfl,n,ts,.tuple (ns.map .int),_,_,rfl,isw,isk,(by show (ns.map PyData.int).length≤1000;rw[List.length_map];exact iK.2),fun H2 s2=>⟨_,rfl,?_⟩⟩
 cases eK:keepB ts.length (.tuple (ns.map .int)) with
 | false =>
  refine iteT (iteT ?_)
  have:=q H2 s2
  unfold forB at this
  rw[eK] at this
  exact this
 | true =>
 refine iteF ?_
 obtain⟨ko,ek⟩:=zjq eK
 have nl:ns.length=(ns.map Int.toNat).length:=(List.length_map _).symm
 generalize eks:ns.map Int.toNat=ks at *
 have kl:ks.length≤60:=Nat.le_trans ko.len few60
 have hkn:H kp=some (.tup (natV ks)):=by rw[za8,ek];exact iK.1
 refine⟨_,rfl,_,rfl,n,ts,ks,_,kp,rfl,Is.same s2 _ isw,ok,ko.2,kl,s2 _ _ hkn,fun lr H3 s3 f3 e3=>?_⟩
 have s23:=s2.trans s3
 have lr':(natV (rgN ts [] ks)).length=(rgN ts [] ks).length:=by unfold natV;rw[List.length_map]
 refine⟨lr,_,rfl,.inl (SqL.of e3),_,rfl,kp,_,rfl,.inr (SqT.of (s23 _ _ iK.1)),_,_,rfl,rfl,_,rfl,?_⟩
 rw[lns,lr']
 by_cases cR:ns.length≤(rgN ts [] ks).length
 case neg =>
  refine iteTq (decide_eq_true (by trivial)) ?_
  have:=q H3 s23
  unfold forB at this
  rw[eks,eK,decide_eq_false cR] at this
  exact this
 refine iteFq (decide_eq_false (by trivial)) ?_
 have wk:WK K H n ts ks wv (.ref kp):=⟨isw,ok,⟨kp,_,rfl,by rw[← za8];exact hkn,IsAll.ints _⟩,ko⟩
 refine⟨_,rfl,_,rfl,n,ts,ks,_,_,rfl,wk.same s23,fun lo' H4 s4 f4 e4=>?_⟩
 have s24:=s23.trans s4
 have lenO:(natV (outs ts.length ks)).length=(outs ts.length ks).length:=by unfold natV;rw[List.length_map]
 refine⟨_,rfl,_,rfl,lo',_,rfl,.inl (SqL.of e4),p,ys,_,rfl,s24 _ _ hp,_,rfl,?_⟩
 rw[lenO,ly]
 by_cases cW:ww.length=(outs ts.length ks).length
 case neg =>
  refine iteTq (by rw[decide_eq_false cW];rfl) ?_
  have:=q H4 s24
  unfold forB at this
  rw[eks,eK,decide_eq_true cR,decide_eq_false cW] at this
  exact this
 refine iteFq (by rw[decide_eq_true cW];rfl) ?_
 refine⟨_,rfl,_,rfl,lo',p,rfl,⟨_,SqX.of (t:=false) e4⟩,⟨_,SqX.of (t:=true) (s24 _ _ hp)⟩,?_⟩
 refine zdo (t1:=false) (t2:=true) (xs:=natV (outs ts.length ks)) (zs:=ys) e4 (s24 _ _ hp) (fun σ'=>∃ o1 o2,σ'=[o1,o2,some wv,some (.ref kp)]) (fun i v _=>v=.bl ((fun i=>waB n ts ks ((outs ts.length ks).getD i 0) (ww.getD i [])) i)) (by trivial) (by exact⟨none,none,rfl⟩) (fun _ _ _ _ _ h=>h) (fun i x z U σ' H' hx hz s6 hU sg C hC=>?_) (fun L bs H6 hL s6 hH hly hys=>?_)
 ·obtain⟨o1,o2,rfl⟩:=sg
  obtain⟨k,hk,rfl⟩:=zbr hx
  have hkl:k < ts.length:=List.mem_range.mp (List.mem_filter.mp (List.mem_of_getElem? hk)).1
  have hi:i < ww.length:=by have:=(List.getElem?_eq_some_iff.mp hz).1;trivial
  have ew:ww[i]?=some ww[i]:=List.getElem?_eq_getElem hi
  obtain⟨tw,rfl,htw⟩:=pa i ww[i] z ew hz
  have sN:=zam (o:=.tup [.int (k:Int),.ref tw]) hU
  have s7:=s24.trans (s6.trans sN)
  have rl:=wr ww[i] (List.getElem_mem hi)
  refine⟨U,_,rfl,SqT.of zae,rfl,_,_,rfl,_,_,rfl,rfl,?_⟩
  refine⟨_,rfl,_,rfl,_,rfl,_,rfl,n,ts,ks,_,_,k,tw,ww[i],rfl,wk.same s7,hkl,⟨s7 _ _ htw,by trivial⟩,rl,fun H7 s8=>hC _ _ _ ⟨_,_,rfl⟩ (sN.trans s8) ?_⟩
  show _=V.bl (waB n ts ks ((outs ts.length ks).getD i 0) (ww.getD i []))
  rw[List.getD_eq_getElem?_getD,hk,List.getD_eq_getElem?_getD,ew];rfl
 refine⟨L,_,rfl,SqL.of (by rw[hH,zcg hly hys]),?_⟩
 have:=q H6 (s24.trans s6)
 unfold forB at this
 rw[eks,eK,decide_eq_true cR,decide_eq_true cW,Bool.true_and,Bool.true_and,Bool.true_and] at this
 rw[List.all_map,lenO,ly,← cW,Nat.min_self]
 exact this
def numI (ts:List Tie) (u v:Int):Int:=match tbI ts u v with
 | some k=>(k:Int)
 | none=>-1
inductive spNumb_i (K:PySem.W.Frag) (vs:List V) (H:Hp) (Q:VK):Prop
 | mk:∀ (n:Int) (ts:List Tie) (wv:V) (u v:Int),(vs=[wv,.int u,.int v])->(Is K H (webD n ts) wv)->(WebOk n ts)->(∀ H',Same H H'->Q (.int (numI ts u v)) H')->spNumb_i K vs H Q
def spNumb (K:PySem.W.Frag):Sp:=fun vs H Q _=>spNumb_i K vs H Q
theorem zk7 (a b c d:Int):PyData.eqv (.tuple [.int a,.int b]) (.tuple [.int c,.int d])=(decide (a=c) && decide (b=d)):=by
 show (PyData.eqv (.int a) (.int c) && (PyData.eqv (.int b) (.int d) && true))=_
 have e:∀ x y:Int,PyData.eqv (.int x) (.int y)=decide (x=y):=fun x y=>by
  show (x == y)=decide (x=y)
  by_cases z:x=y
  ·rw[decide_eq_true z,z];simp
  ·rw[decide_eq_false z];simpa using z
 rw[e,e,Bool.and_true]
theorem zo9 {p:Nat->Bool} {m i:Nat} (hi:i < m) (hp:p i=true) (hb:∀ j,j < i->p j=false):(List.range m).find? p=some i:=by
 rw[List.find?_range_eq_some]
 exact⟨hp,List.mem_range.mpr hi,fun j hj=>by rw[hb j hj];rfl⟩
theorem zdh (T:Bi mg) (D:DefOk K mg "_law_numbered" s__law_numbered ["web","here","there"]):Ok P w K mg base 1 "_law_numbered" ["web","here","there"] (spNumb K):=by
 refine zbi (k:=0) D sc__law_numbered (fun vs H Q E h=>?_) (fun f cdv A outer s H vs Q E hr h=>?_)
 ·obtain⟨n,ts,wv,u,v,rfl,_⟩:=h
  rfl
 obtain⟨n,ts,wv,u,v,rfl,isw,ok,q⟩:=h
 have nd:=sc__law_numbered.nd
 have units:∀ {u:Nat},u≤4->(A.deeper (envOfC "_law_numbered" (defScope s__law_numbered) s.heap.objs.size f cdv)).units + 1 + u < cLine:=fun {u} hu=>by have:=hr.units;trivial
 obtain⟨g0,g,ws,rfl,hg0,hg,hall,hlw⟩:=za1 isw
 refine⟨_,(BSs.h (zaj (zcf PassesOwn.never rfl (zk5 true rfl T.z_enumerate (zaa (zao zal (pv 0) zab (fun _ _=>rfl)) zac)) (zci (n:=2) rfl (zan (zah (i:=3) nd rfl (Or.inl rfl)) (zan (zci (n:=3) rfl (zan (zah (i:=4) nd rfl (Or.inl rfl)) (zan (zah (i:=5) nd rfl (Or.inl rfl)) (zan (zah (i:=6) nd rfl (Or.inl rfl)) zba)))) zba))) (zar (zb3 (zap zp0 (zbo (zaa (pv 4) (zaa (pv 5) zac))) (zc5 (zaa (zbo (zaa (pv 1) (zaa (pv 2) zac))) (zaa (zbo (zaa (pv 2) (zaa (pv 1) zac))) zac))) (by with_unfolding_all rfl)) (zar (zbd (BE.mk (pv 3)))) za6))) (zar (zbd (BE.mk (zia zek zab)))))),?_⟩
 refine⟨_,rfl,g0,_,_,_,rfl,rfl,SqT.of hg0,rfl,g,rfl,⟨_,SqX.of (t:=true) hg⟩,?_⟩
 refine znh (t:=true) (xs:=ws) (fun i σ J=>∃ y3 y4 y5 y6:Option V,σ=[some (.ref g0),some (.int u),some (.int v),y3,y4,y5,y6]∧Same H J∧∀ j,j < i->isE ts u v j=false) ⟨none,none,none,none,rfl,Same.refl H,fun j hj=>absurd hj (Nat.not_lt_zero j)⟩ (fun i σ J h=>?_) (fun i x U σ J hx hU h=>?_) (fun σ J h=>?_)
 ·obtain⟨_,_,_,_,rfl,S,_⟩:=h
  exact SqX.of (t:=true) (S _ _ hg)
 ·obtain⟨y3,y4,y5,y6,rfl,S,no⟩:=h
  have hi:i < ts.length:=by have:=(List.getElem?_eq_some_iff.mp hx).1;trivial
  obtain⟨ta,hta,htie⟩:=zbf hall hi
  rw[hx] at hta
  cases hta
  have sN:=zam (o:=.tup [.int (i:Nat),.ref ta]) hU
  refine⟨U,_,rfl,SqT.of zae,rfl,_,_,rfl,_,_,rfl,ta,_,rfl,SqT.of (sN _ _ (S _ _ htie)),rfl,_,_,rfl,_,_,rfl,_,_,rfl,rfl,rfl,?_⟩
  refine⟨_,rfl,_,rfl,(by show 2≤1000;decide),fun p1 J1 S1 f1 h1=>?_⟩
  refine⟨_,rfl,_,rfl,(by show 2≤1000;decide),fun p2 J2 S2 f2 h2=>?_⟩
  refine⟨_,rfl,_,rfl,(by show 2≤1000;decide),fun p3 J3 S3 f3 h3=>?_⟩
  refine⟨(by show 2≤1000;decide),fun p4 J4 S4 f4 h4=>?_⟩
  have S34:=S3.trans S4
  have S24:=S2.trans S34
  refine⟨p4,[.tuple [.int u,.int v],.tuple [.int v,.int u]],_,.tuple [.int (tieAt ts i).1,.int (tieAt ts i).2.1],rfl,h4,⟨_,_,rfl,⟨p2,_,rfl,S34 _ _ h2,IsAll.ints [u,v]⟩,_,_,rfl,⟨p3,_,rfl,S4 _ _ h3,IsAll.ints [v,u]⟩,rfl⟩,⟨p1,_,rfl,S24 _ _ h1,IsAll.ints [_,_]⟩,fun d hd=>?_,rfl,units (u:=1) (by decide),_,rfl,?_⟩
  ·simp only [List.mem_cons,List.not_mem_nil,or_false] at hd
   rcases hd with rfl | rfl <;> rfl
  have SS:=S.trans (sN.trans (S1.trans S24))
  have e:([PyData.tuple [.int u,.int v],.tuple [.int v,.int u]].any fun d=>PyData.eqv d (.tuple [.int (tieAt ts i).1,.int (tieAt ts i).2.1]))=isE ts u v i:=by
   rw[Bool.eq_iff_iff,zo0 ok hi,zeh,zeh]
   simp only [List.any_cons,List.any_nil,Bool.or_false,zk7,Bool.or_eq_true,Bool.and_eq_true,decide_eq_true_eq]
   trivial
  rw[e]
  cases c:isE ts u v i with
  | true =>
   refine iteT ⟨_,rfl,?_⟩
   have:=q J4 SS
   unfold numI tbI at this
   rw[zo9 hi c no] at this
   exact this
  | false =>
   refine iteF ⟨_,_,_,_,rfl,SS,fun j hj=>?_⟩
   by_cases z:j=i
   ·rw[z];exact c
   ·exact no j (by trivial)
 ·obtain⟨y3,y4,y5,y6,rfl,S,no⟩:=h
  have:=q J S
  unfold numI tbI at this
  rw[List.find?_eq_none.mpr fun j hj=>by rw[no j (by have:=List.mem_range.mp hj;trivial)];simp] at this
  exact⟨_,rfl,this⟩
theorem zeg {ts:List Tie} {u v:Int} {x:Nat} (h:tbI ts u v=some x):x < ts.length∧isE ts u v x=true:=⟨List.mem_range.mp (List.mem_of_find?_eq_some h),List.find?_some h⟩
theorem zpp {n:Int} {ts:List Tie} (ok:WebOk n ts) {u v:Int} {x:Nat} (hx:x < ts.length) (h:isE ts u v x=true):tbI ts u v=some x:=by
 cases e:tbI ts u v with
 | none=>exact absurd h (List.find?_eq_none.mp e x (List.mem_range.mpr hx))
 | some y=>obtain⟨h1,h2⟩:=zeg e;rw[zlv ok h1 hx h2 h]
def StP (ts:List Tie) (ks:List Nat) (k:Nat) (ws:List Int) (j:Nat):Prop:=∃ x ∈ ks,tbI ts (ws.getD j 0) (ws.getD (j + 1) 0)=some x∧Srt.lexI (okey ts x) (okey ts k)=true
theorem zpk {n:Int} {ts:List Tie} {ks:List Nat} (ok:WebOk n ts) (ko:KeepOk ts.length ks) {k:Nat} (hk:k < ts.length) (ws:List Int) :
  waB n ts ks k ws=true↔2≤ws.length∧ws.Nodup∧(ws.getD 0 0=(tieAt ts k).1∧ws.getD (ws.length - 1) 0=(tieAt ts k).2.1)∧∀ j,j < ws.length - 1->StP ts ks k ws j:=by
 have tk:=ok.tie _ (za7 hk).2
 have stp:∀ j,(stepY ts ks ws j).isSome=true↔∃ x ∈ ks,tbI ts (ws.getD j 0) (ws.getD (j + 1) 0)=some x:=fun j=>by
  unfold stepY lenI
  rw[Option.isSome_map,Option.isSome_iff_exists]
  constructor
  ·rintro ⟨x,e⟩
   have hx:=List.mem_of_find?_eq_some e
   exact⟨x,hx,zpp ok (ko.2 x hx) (List.find?_some e)⟩
  ·rintro ⟨x,hx,e⟩
   cases c:ks.find? (isE ts (ws.getD j 0) (ws.getD (j + 1) 0)) with
   | none=>exact absurd (zeg e).2 (List.find?_eq_none.mp c x hx)
   | some y=>exact⟨y,rfl⟩
 unfold waB leadsI
 rw[Bool.and_eq_true,Bool.and_eq_true,Bool.and_eq_true,decide_eq_true_eq,decide_eq_true_eq,List.all_eq_true]
 constructor
 ·rintro ⟨⟨h1,h2,h3⟩,h4⟩
  unfold rightI at h1
  split at h1
  case isFalse=>cases h1
  rename_i c
  obtain⟨⟨c1,c2⟩,c3⟩:=c
  have l1:=List.length_pos_iff.mpr c1
  have l2:2≤ws.length:=by
   rcases Nat.lt_or_ge ws.length 2 with z | z
   ·have e:ws.length - 1=0:=by trivial
    rw[e,h2] at h3;trivial
   ·exact z
  refine⟨l2,c2,⟨h2,h3⟩,fun j hj=>?_⟩
  rw[zdd,List.all_eq_true] at h1
  obtain⟨x,hx,e⟩:=(stp j).mp (h1 j (List.mem_range.mpr hj))
  have:=h4 j (List.mem_range.mpr hj)
  unfold stB at this
  rw[e] at this
  exact⟨x,hx,e,this⟩
 ·rintro ⟨l2,nd,⟨h2,h3⟩,st⟩
  refine⟨⟨?_,h2,h3⟩,fun j hj=>?_⟩
  ·unfold rightI
   have inn:∀ j,j < ws.length - 1->(0≤ws.getD j 0∧ws.getD j 0 < n)∧(0≤ws.getD (j + 1) 0∧ws.getD (j + 1) 0 < n):=fun j hj=>by
    obtain⟨x,hx,e,_⟩:=st j hj
    obtain⟨b1,b2⟩:=isE_iff.mp (zeg e).2
    have:=ok.tie _ (za7 (ko.2 x hx)).2
    trivial
   have al:ws.all (fun i=>decide (0≤i) && decide (i < n))=true:=List.all_eq_true.mpr fun i hi=>by
    obtain⟨m,hm,rfl⟩:=List.mem_iff_getElem.mp hi
    have eg:ws.getD m 0=ws[m]:=by rw[List.getD_eq_getElem?_getD,List.getElem?_eq_getElem hm];rfl
    have:0≤ws[m]∧ws[m] < n:=by
     by_cases z:m < ws.length - 1
     ·rw[← eg];exact (inn m z).1
     ·have:=(inn (m - 1) (by trivial)).2
      rw[show m - 1 + 1=m by trivial,eg] at this
      exact this
    rw[decide_eq_true this.1,decide_eq_true this.2];rfl
   have ne:ws≠[]:=fun z=>by rw[z] at l2;simp at l2
   rw[if_pos ⟨⟨ne,nd⟩,al⟩,zdd,List.all_eq_true]
   exact fun j hj=>(stp j).mpr (let ⟨x,hx,e,_⟩:=st j (List.mem_range.mp hj);⟨x,hx,e⟩)
  ·obtain⟨x,_,e,h⟩:=st j (List.mem_range.mp hj)
   unfold stB
   rw[e];exact h
theorem zcv:∀ l:List Int,PyData.canLayAll0 (l.map PyData.int)=true
 | []=>rfl
 | x::r=>by
  show (true && PyData.canLayAll0 (r.map PyData.int))=true
  rw[zcv r];rfl
theorem setN_lt {ns:List Int}:HT.setN ns ns.length < ns.length↔¬ ns.Nodup:=by
 have h1:HT.setN ns ns.length≤ns.length:=firstMet_length_le (fun i=>ns.getD i 0) ns.length
 have h2:=zb8 ns
 constructor
 ·intro h z;have:=h2.mpr z;trivial
 ·intro h
  have:HT.setN ns ns.length≠ns.length:=fun z=>h (h2.mp z)
  trivial
theorem zna (ks:List Nat):inV (.int (-1)) (natV ks)=false:=by
 refine Bool.eq_false_iff.mpr fun z=>?_
 unfold inV natV at z
 rw[List.any_map,List.any_eq_true] at z
 obtain⟨k,_,e⟩:=z
 have:eqV (.int (k:Int)) (.int (-1))=true:=e
 simp [eqV] at this
inductive spShown_i (K:PySem.W.Frag) (vs:List V) (H:Hp) (Q:VK):Prop
 | mk:∀ (n:Int) (ts:List Tie) (ks:List Nat) (wv kv:V) (k:Nat) (t:Addr) (ws:List Int),(vs=[wv,kv,.int (k:Int),.ref t])->(WK K H n ts ks wv kv)->(k < ts.length)->(IntT H t ws)->(ws.length≤40)->(∀ H',Same H H'->Q (.bl (waB n ts ks k ws)) H')->spShown_i K vs H Q
def spShown (K:PySem.W.Frag):Sp:=fun vs H Q _=>spShown_i K vs H Q
theorem zc7 (T:Bi mg) (D:DefOk K mg "_law_way_shown" s__law_way_shown ["web","keep","number","way"]) (O__law_numbered:Ok P w K mg base 1 "_law_numbered" ["web","here","there"] (spNumb K)):Ok P w K mg base 2 "_law_way_shown" ["web","keep","number","way"] (spShown K):=by
 refine zbi (k:=1) D sc__law_way_shown (fun vs H Q E h=>?_) (fun f cdv A outer s H vs Q E hr h=>?_)
 ·obtain⟨n,ts,ks,wv,kv,k,t,ws,rfl,_⟩:=h
  rfl
 obtain⟨n,ts,ks,wv,kv,k,t,wr,rfl,wk,hk,iT,l40,q⟩:=h
 have nd:=sc__law_way_shown.nd
 have units:∀ {u:Nat},u≤4->(A.deeper (envOfC "_law_way_shown" (defScope s__law_way_shown) s.heap.objs.size f cdv)).units + u < cLine:=fun {u} hu=>by have:=hr.units;trivial
 have ok:=wk.2.1
 have ko:=wk.2.2.2
 have iff:=zpk ok ko hk wr
 have no:¬ (2≤wr.length∧wr.Nodup∧(wr.getD 0 0=(tieAt ts k).1∧wr.getD (wr.length - 1) 0=(tieAt ts k).2.1)∧∀ j,j < wr.length - 1->StP ts ks k wr j)->∀ J,Same H J->Q (.bl false) J:=fun z J S=>by
  have:=q J S
  rw[Bool.eq_false_iff.mpr fun y=>z (iff.mp y)] at this
  exact this
 obtain⟨g0,g,ws,rfl,hg0,hg,hall,hlw⟩:=za1 wk.1
 obtain⟨kp,rfl,hkp⟩:=zdz wk.2.2.1
 obtain⟨ta,hta,htie⟩:=zbf hall hk
 have ln:(wr.map V.int).length=wr.length:=List.length_map _
 refine⟨_,(BSs.h (zaj (zb3 (PW.pt (zgz (zap zcy (zaf zag rfl T.z_len (by decide +kernel) (zaa (pv 3) zac)) zab (nomark _)) (zgz (zap zcy (zaf zhn rfl T.z_len (by decide +kernel) (zaa (zax (zhk rfl) rfl T.z_set (by decide +kernel) (zaa (pv 3) zac)) zac)) (zaf zag rfl T.z_len (by decide +kernel) (zaa (pv 3) zac)) (nomark _)) (zen (zap zlb (zbo (zaa (zao zal (pv 3) zab (fun _ _=>rfl)) (zaa (zao zal (pv 3) (zia zek zab) (fun _ _=>rfl)) zac))) (zau zaz (zao zal (zao zal (pv 0) zab (fun _ _=>rfl)) (pv 2) (fun _ _=>rfl)) zaw (za0 zab)) (nomark _)))))) (zar (zbd (BE.mk zc6))) za6) (zaj (zcf PassesOwn.never rfl (zfs true true rfl T.z_zip (zaa (pv 3) (zaa (zau zaz (pv 3) (za0 zab) zaw) zac))) (zci (n:=2) rfl (zan (zah (i:=4) nd rfl (Or.inl rfl)) (zan (zah (i:=5) nd rfl (Or.inl rfl)) zba))) (zaj (zbn (i:=6) nd rfl (Or.inl rfl) (BE.mk (zad O__law_numbered hr rfl (zaa (pv 0) (zaa (pv 4) (zaa (pv 5) zac)))))) (zar (zb3 (PW.pt (zgz (zap zd5 (pv 6) (pv 1) (by with_unfolding_all rfl)) (zen (zap (zp1 hr.units0) (zbo (zaa (zao zal (zao zal (zao zal (pv 0) zab (fun _ _=>rfl)) (pv 6) (fun _ _=>rfl)) zab (fun _ _=>rfl)) (zaa (pv 6) zac))) (zbo (zaa (zao zal (zao zal (zao zal (pv 0) zab (fun _ _=>rfl)) (pv 2) (fun _ _=>rfl)) zab (fun _ _=>rfl)) (zaa (pv 2) zac))) (nomark _))))) (zar (zbd (BE.mk zc6))) za6)))) (zar (zbd (BE.mk zc6)))))),?_⟩
 refine⟨_,rfl,t,_,rfl,.inr (SqT.of iT.1),_,_,rfl,rfl,_,rfl,?_⟩
 rw[ln]
 by_cases c1:2≤wr.length
 case neg=>exact iteTq (decide_eq_true (by trivial)) (iteT (no (fun z=>c1 z.1) H (Same.refl H)))
 refine iteFq (decide_eq_false (by trivial)) ?_
 refine⟨_,rfl,t,wr,rfl,iT.1,iT.2,fun sq H2 s2 f2 e2=>?_⟩
 refine⟨sq,_,_,rfl,e2,_,rfl,t,_,rfl,.inr (SqT.of (s2 _ _ iT.1)),_,_,rfl,rfl,_,rfl,?_⟩
 rw[ln]
 by_cases c2:wr.Nodup
 case neg=>exact iteTq (decide_eq_true (by have:=setN_lt.mpr c2;trivial)) (iteT (no (fun z=>c2 z.2.1) H2 s2))
 refine iteFq (decide_eq_false (by have:=(zb8 wr).mpr c2;trivial)) ?_
 refine⟨_,rfl,t,_,_,_,rfl,rfl,SqT.of (s2 _ _ iT.1),zqh (by trivial),_,rfl,_,rfl,t,_,_,_,rfl,rfl,SqT.of (s2 _ _ iT.1),zpi (by trivial),(by show 2≤1000;decide),fun p1 J3 S3 f3 e3=>?_⟩
 have s23:=s2.trans S3
 refine⟨_,rfl,g0,_,_,_,rfl,rfl,SqT.of (s23 _ _ hg0),rfl,_,rfl,g,_,_,_,rfl,rfl,SqT.of (s23 _ _ hg),zaq (Int.natCast_nonneg _) hta,_,rfl,ta,_,rfl,s23 _ _ htie,fun p2 J4 S4 e4=>?_⟩
 have e4':J4 p2=some (.tup (([(tieAt ts k).1,(tieAt ts k).2.1]:List Int).map V.int)):=e4
 refine⟨.tuple [.int (wr.getD 0 0),.int (wr.getD (wr.length - 1) 0)],.tuple [.int (tieAt ts k).1,.int (tieAt ts k).2.1],⟨p1,_,rfl,S4 _ _ e3,IsAll.ints [_,_]⟩,⟨p2,_,rfl,e4',IsAll.ints [_,_]⟩,rfl,rfl,units (u:=1) (by decide),_,rfl,?_⟩
 rw[zk7]
 have s24:=s23.trans S4
 by_cases c3:wr.getD 0 0=(tieAt ts k).1∧wr.getD (wr.length - 1) 0=(tieAt ts k).2.1
 case neg =>
  refine iteTq ?_ (no (fun z=>c3 z.2.2.1) J4 s24)
  rw[Bool.not_eq_true',Bool.and_eq_false_iff,decide_eq_false_iff_not,decide_eq_false_iff_not]
  exact Classical.not_and_iff_not_or_not.mp c3
 refine iteFq (by rw[decide_eq_true c3.1,decide_eq_true c3.2];rfl) ?_
 refine⟨_,rfl,_,rfl,_,rfl,t,_,rfl,s24 _ _ iT.1,fun pc J5 S5 e5=>?_⟩
 rw[cut1,← List.map_drop] at e5
 have s25:=s24.trans S5
 refine⟨t,pc,rfl,⟨_,SqX.of (t:=true) (s25 _ _ iT.1)⟩,⟨_,SqX.of (t:=true) e5⟩,?_⟩
 refine zng (t1:=true) (t2:=true) (xs:=wr.map V.int) (zs:=(wr.drop 1).map V.int) (fun i σ J=>∃ y4 y5 y6:Option V,σ=[some (.ref g0),some (.ref kp),some (.int (k:Int)),some (.ref t),y4,y5,y6]∧Same J5 J∧∀ j,j < i->StP ts ks k wr j) ⟨_,_,_,rfl,Same.refl _,fun j hj=>absurd hj (Nat.not_lt_zero j)⟩ (fun i σ J h=>?_) (fun i a c U σ J ha hc hU h=>?_) (fun σ J h=>?_)
 ·obtain⟨y4,y5,y6,rfl,sm,_⟩:=h
  exact⟨SqX.of (t:=true) (sm _ _ (s25 _ _ iT.1)),SqX.of (t:=true) (sm _ _ e5)⟩
 ·obtain⟨y4,y5,y6,rfl,sm,dn⟩:=h
  rw[List.getElem?_map] at ha hc
  obtain⟨u,hu,rfl⟩:=Option.map_eq_some_iff.mp ha
  obtain⟨v,hv,rfl⟩:=Option.map_eq_some_iff.mp hc
  rw[List.getElem?_drop,Nat.add_comm] at hv
  have hi:i < wr.length - 1:=by have:=(List.getElem?_eq_some_iff.mp hv).1;trivial
  have gu:wr.getD i 0=u:=by rw[List.getD_eq_getElem?_getD,hu];rfl
  have gv:wr.getD (i + 1) 0=v:=by rw[List.getD_eq_getElem?_getD,hv];rfl
  have sN:=zam (o:=.tup [.int u,.int v]) hU
  have s5N:=(s25.trans sm).trans sN
  refine⟨U,_,rfl,SqT.of zae,rfl,_,_,rfl,_,_,rfl,rfl,?_⟩
  refine⟨_,rfl,_,rfl,_,rfl,n,ts,_,u,v,rfl,Is.same s5N _ wk.1,ok,fun J6 S6=>?_⟩
  have s56:=s5N.trans S6
  refine⟨_,rfl,_,rfl,kp,_,rfl,.inr (SqT.of (s56 _ _ hkp)),rfl,(by rw[← za8];exact zdl ks),?_⟩
  have nokx:¬ StP ts ks k wr i->∀ J',Same J6 J'->Q (.bl false) J':=fun z J' S'=>no (fun y=>z (y.2.2.2 i hi)) J' (s56.trans S')
  rw[← za8]
  cases et:tbI ts u v with
  | none =>
   have e:numI ts u v=-1:=by unfold numI;rw[et]
   rw[e,zna ks]
   exact⟨_,rfl,iteT (iteT (nokx (fun ⟨x,_,e',_⟩=>by rw[gu,gv,et] at e';cases e') J6 (Same.refl _)))⟩
  | some x =>
   have e:numI ts u v=(x:Int):=by unfold numI;rw[et]
   obtain⟨xl,xe⟩:=zeg et
   rw[e,ze2 (Int.natCast_nonneg x)]
   by_cases xk:x ∈ ks
   case neg =>
    refine⟨_,rfl,iteTq (by rw[Int.toNat_natCast,decide_eq_false xk];rfl) (iteT (nokx (fun ⟨y,hy,e',_⟩=>by rw[gu,gv,et] at e';cases e';exact xk hy) J6 (Same.refl _)))⟩
   refine⟨_,rfl,iteFq (by rw[Int.toNat_natCast,decide_eq_true xk];rfl) ?_⟩
   obtain⟨tj,htj,htij⟩:=zbf hall xl
   refine⟨_,rfl,g0,_,_,_,rfl,rfl,SqT.of (s56 _ _ hg0),rfl,_,rfl,g,_,_,_,rfl,rfl,SqT.of (s56 _ _ hg),zaq (Int.natCast_nonneg _) htj,tj,_,_,_,rfl,rfl,SqT.of (s56 _ _ htij),rfl,_,rfl,(by show 2≤1000;decide),fun p5 J7 S7 f7 e7=>?_⟩
   have s57:=s56.trans S7
   refine⟨_,rfl,g0,_,_,_,rfl,rfl,SqT.of (s57 _ _ hg0),rfl,_,rfl,g,_,_,_,rfl,rfl,SqT.of (s57 _ _ hg),zaq (Int.natCast_nonneg _) hta,ta,_,_,_,rfl,rfl,SqT.of (s57 _ _ htie),rfl,_,rfl,(by show 2≤1000;decide),fun p6 J8 S8 f8 e8=>?_⟩
   refine⟨p5,p6,okey ts x,okey ts k,rfl,rfl,SqT.of (S8 _ _ e7),SqT.of e8,_,rfl,?_⟩
   have eg:HT.lexGe (okey ts x) (okey ts k)=!Srt.lexI (okey ts x) (okey ts k):=zou (tieAt ts x).2.2 (x:Int) (tieAt ts k).2.2 (k:Int)
   rw[eg]
   cases el:Srt.lexI (okey ts x) (okey ts k) with
   | false=>exact iteT (nokx (fun ⟨y,hy,e',h'⟩=>by rw[gu,gv,et] at e';cases e';rw[el] at h';cases h') J8 (S7.trans S8))
   | true =>
    refine iteF ⟨_,_,_,rfl,sm.trans (sN.trans (S6.trans (S7.trans S8))),fun j hj=>?_⟩
    by_cases z:j=i
    ·rw[z];exact⟨x,xk,by rw[gu,gv];exact et,el⟩
    ·exact dn j (by trivial)
 ·obtain⟨y4,y5,y6,rfl,sm,dn⟩:=h
  have:=q J (s25.trans sm)
  rw[iff.mpr ⟨c1,c2,c3,fun j hj=>dn j (by rw[List.length_map,List.length_map,List.length_drop];trivial)⟩] at this
  exact this
theorem zj8 {α β:Type} (l:List α) (f:α->Option β):(List.range l.length).filterMap (fun i=>(l[i]?).bind f)=l.filterMap f:=by
 have e:(List.range l.length).map (fun i=>l[i]?)=l.map some:=List.ext_getElem (by simp) fun i h1 h2=>by simp at h1 ⊢
 have h:=congrArg (List.filterMap fun o:Option α=>o.bind f) e
 rw[List.filterMap_map,List.filterMap_map] at h
 exact h
theorem zfz:∀ (a b:List Int),PyData.eqvAll (a.map PyData.int) (b.map PyData.int)=decide (a=b)
 | [],[]=>rfl
 | [],_::_=>rfl
 | _::_,[]=>rfl
 | x::a,y::b=>by
  show (PyData.eqv (.int x) (.int y) && PyData.eqvAll (a.map .int) (b.map .int))=_
  rw[zfz a b]
  have:PyData.eqv (.int x) (.int y)=decide (x=y):=by
   show (x == y)=decide (x=y)
   by_cases z:x=y
   ·rw[decide_eq_true z,z];simp
   ·rw[decide_eq_false z];simpa using z
  rw[this,← Bool.decide_and]
  exact decide_eq_decide.mpr ⟨fun z=>by rw[z.1,z.2],fun z=>by injection z with z1 z2;exact⟨z1,z2⟩⟩
theorem zhb:∀ l:List Int,PyData.depth (.tuple (l.map PyData.int))≤2:=fun l=>by
 have:∀ l:List Int,PyData.depthAll (l.map PyData.int)≤1:=fun l=>by
  induction l with
  | nil=>exact Nat.zero_le _
  | cons x r ih=>show max (PyData.depth (.int x)) (PyData.depthAll (r.map .int))≤1;exact Nat.max_le.mpr ⟨Nat.zero_le _,ih⟩
 show PyData.depthAll (l.map PyData.int) + 1≤2
 have:=this l
 trivial
theorem znw {ts:List Tie}:∀ (rest done:List Nat),(rgN ts done rest).length≤rest.length∧(rest.length≤(rgN ts done rest).length↔∀ j,j < rest.length->cnB ts (done++rest.take j) (rest.getD j 0)=false)
 | [],done=>⟨Nat.le_refl _,fun _ j hj=>absurd hj (Nat.not_lt_zero j),fun _=>Nat.le_refl _⟩
 | k::r,done=>by
  obtain⟨ih1,ih2⟩:=znw (ts:=ts) r (done++[k])
  cases c:cnB ts done k with
  | true =>
   have e:rgN ts done (k::r)=rgN ts (done++[k]) r:=by show (if cnB ts done k=true then _ else _)=_;rw[if_pos c]
   rw[e,List.length_cons]
   refine⟨by trivial,fun z=>absurd z (by trivial),fun z=>?_⟩
   have:=z 0 (by trivial)
   rw[List.take_zero,List.append_nil] at this
   have:cnB ts done k=false:=this
   rw[c] at this;cases this
  | false =>
   have e:rgN ts done (k::r)=k::rgN ts (done++[k]) r:=by show (if cnB ts done k=true then _ else _)=_;rw[if_neg (by rw[c];simp)]
   rw[e,List.length_cons,List.length_cons]
   refine⟨by trivial,fun z j hj=>?_,fun z=>?_⟩
   ·cases j with
    | zero=>rw[List.take_zero,List.append_nil];exact c
    | succ j =>
     have:=ih2.mp (by trivial) j (by trivial)
     rw[List.take_succ_cons,show done++k::r.take j=done++[k]++r.take j by simp]
     exact this
   ·have:=ih2.mpr fun j hj=>by
     have:=z (j + 1) (by trivial)
     rw[List.take_succ_cons,show done++k::r.take j=done++[k]++r.take j by simp] at this
     exact this
    trivial
inductive spForL_i (K:PySem.W.Frag) (vs:List V) (H:Hp) (Q:VK):Prop
 | mk:∀ (n:Int) (ts:List Tie) (wv:V) (kp wp:Addr) (ns:List Int) (ww:List (List Int)),(vs=[wv,.ref kp,.ref wp])->(Is K H (webD n ts) wv)->(WebOk n ts)->(IntT H kp ns)->(Is K H (papD ww) (.ref wp))->(ww.length≤100)->((∀ r ∈ ww,r.length≤40))->(∀ H',Same H H'->Q (.bl (forB n ts ns ww)) H')->spForL_i K vs H Q
def spForL (K:PySem.W.Frag):Sp:=fun vs H Q _=>spForL_i K vs H Q
theorem zcl (T:Bi mg) (D:DefOk K mg "_law_forest_shown" s__law_forest_shown ["web","keep","ways"]) (O__law_joined:Ok P w K mg base 2 "_law_joined" ["web","numbers","a","b"] (spJoinedT K)) (O__law_way_shown:Ok P w K mg base 2 "_law_way_shown" ["web","keep","number","way"] (spShown K)):Ok P w K mg base 3 "_law_forest_shown" ["web","keep","ways"] (spForL K):=by
 refine zbi (k:=2) D sc__law_forest_shown (fun vs H Q E h=>?_) (fun f cdv A outer s H vs Q E hr h=>?_)
 ·obtain⟨n,ts,wv,kp,wp,ns,ww,rfl,_⟩:=h
  rfl
 obtain⟨n,ts,wv,kp,p,ns,ww,rfl,isw,ok,iK,ipw,wl,wr,q⟩:=h
 have nd:=sc__law_forest_shown.nd
 have units:∀ {u:Nat},u≤4->(A.deeper (envOfC "_law_forest_shown" (defScope s__law_forest_shown) s.heap.objs.size f cdv)).units + u < cLine:=fun {u} hu=>by have:=hr.units;trivial
 have few60:=ok.few
 obtain⟨p',ys,ep,hp,ia⟩:=ipw
 injection ep with ep
 subst ep
 obtain⟨ly,pa⟩:=zn0 ia
 obtain⟨g0,g,ws,rfl,hg0,hg,hall,hlw⟩:=za1 isw
 have lns:((ns.map V.int)).length=ns.length:=List.length_map _
 have eK:keepB ts.length (.tuple (ns.map .int))=(ns.all (fun x=>decide (0≤x) && decide (x < (ts.length:Int))) && risI ns):=by
  show ((ns.map PyData.int).all (numB ts.length) && risI ((ns.map PyData.int).map intOf))=_
  rw[List.map_map,show (intOf ∘ PyData.int)=id from rfl,List.map_id,List.all_map];rfl
 have noK:keepB ts.length (.tuple (ns.map .int))=false->∀ J,Same H J->Q (.bl false) J:=fun z J S=>by
  have:=q J S
  unfold forB at this
  rw[z] at this
  exact this
 refine⟨_,(BSs.h (zaj (zb3 (PW.pt (zgz (zap zlb (zbp (N:=["web","keep","ways","k","a","b","length","others"]) (sc0:=defScope s__law_forest_shown) (own:=["one"]) (fr:=["web"]) (js:=[0]) rfl (zeo (pv 1)) (fun _ _ _ _=>(zah (i:=0) (by show List.Nodup [("one":Str),("web":Str)];decide +kernel) rfl (Or.inl rfl))) (fun _ _ _ _=>(zf7 (zc2 (zm1 zop zcy zab (pv 0) (zaf zgp rfl T.z_len (by decide +kernel) (zaa (zao zb6 (pv 1) zab (fun _ _=>rfl)) zac)))))) (fun _ _ _ _=>(pv 0))) (zc5 zac) (nomark _)) (zen (zap zlb (zax zkk rfl T.z_list (by decide +kernel) (zaa (pv 1) zac)) (zaf (zhi rfl) rfl T.z_sorted (by decide +kernel) (zaa (zax (zmb rfl) rfl T.z_set (by decide +kernel) (zaa (pv 1) zac)) zac)) (nomark _))))) (zar (zbd (BE.mk zc6))) za6) (zaj (zcf PassesOwn.never rfl (zbh rfl T.z_range (zaa (zaf zag rfl T.z_len (by decide +kernel) (zaa (pv 1) zac)) zac)) (zah (i:=3) nd rfl (Or.inl rfl)) (zaj (BS.mk (zdf (zao zal (zao zal (pv 0) zab (fun _ _=>rfl)) (zao zal (pv 1) (pv 3) (fun _ _=>rfl)) (fun _ _=>rfl)) (zci (n:=3) rfl (zan (zah (i:=4) nd rfl (Or.inl rfl)) (zan (zah (i:=5) nd rfl (Or.inl rfl)) (zan (zah (i:=6) nd rfl (Or.inl rfl)) zba)))))) (zar (zb3 (zcm (zad O__law_joined hr rfl (zaa (pv 0) (zaa (zau zaz (pv 1) zaw (za0 (pv 3))) (zaa (pv 4) (zaa (pv 5) zac)))))) (zar (zbd (BE.mk zc6))) za6)))) (zaj (BS.mk (zbl (i:=7) (N:=["web","keep","ways","k","a","b","length","others"]) (sc0:=defScope s__law_forest_shown) (own:=["number"]) (fr:=["keep"]) (js:=[1]) rfl (zbh rfl T.z_range (zaa (zaf zag rfl T.z_len (by decide +kernel) (zaa (zao zal (pv 0) zab (fun _ _=>rfl)) zac)) zac)) (fun _ _ _ _=>(zah (i:=0) (by show List.Nodup [("number":Str),("keep":Str)];decide +kernel) rfl (Or.inl rfl))) (fun _ _ _ _=>(zf7 (zap zcd (pv 0) (pv 1) (by with_unfolding_all rfl)))) (fun _ _ _ _=>(pv 0)) nd rfl (Or.inl rfl))) (zaj (zb3 (zap zj9 (zaf zag rfl T.z_len (by decide +kernel) (zaa (pv 2) zac)) (zaf zag rfl T.z_len (by decide +kernel) (zaa (pv 7) zac)) (nomark _)) (zar (zbd (BE.mk zc6))) za6) (zar (zbd (BE.mk (zaf (zce rfl) rfl T.z_all (by decide +kernel) (zaa (zbp (N:=["web","keep","ways","k","a","b","length","others"]) (sc0:=defScope s__law_forest_shown) (own:=["number","way"]) (fr:=["web","keep"]) (js:=[0,1]) rfl (zfs false true rfl T.z_zip (zaa (pv 7) (zaa (pv 2) zac))) (fun _ _ _ _=>(zcn (n:=2) rfl (zan (zah (i:=0) (by show List.Nodup [("number":Str),("way":Str),("web":Str),("keep":Str)];decide +kernel) rfl (Or.inl rfl)) (zan (zah (i:=1) (by show List.Nodup [("number":Str),("way":Str),("web":Str),("keep":Str)];decide +kernel) rfl (Or.inl rfl)) zba)))) (fun _ _ _ _=>zbg) (fun _ _ _ _=>(zad O__law_way_shown hr rfl (zaa (pv 2) (zaa (pv 3) (zaa (pv 0) (zaa (pv 1) zac))))))) zac)))))))))),?_⟩
 refine⟨_,rfl,kp,rfl,⟨_,SqT.of iK.1⟩,?_⟩
 refine zhe iK.1 (fun σ'=>∃ o,σ'=[o,some (.ref g0)]) (fun i=>(ns[i]?).bind fun x=>if (decide (0≤x) && decide (x < (ts.length:Int)))=true then none else some (V.int x)) (by rw[lns];exact iK.2) (by exact⟨none,rfl⟩) (fun i x σ' H' hx s2 sg C L hC hL=>?_) (fun Lc J1 hLc S1 hH=>?_)
 ·obtain⟨o,rfl⟩:=sg
  rw[List.getElem?_map] at hx
  obtain⟨y,hy,rfl⟩:=Option.map_eq_some_iff.mp hx
  refine⟨_,rfl,_,_,rfl,rfl,_,rfl,?_⟩
  by_cases c1:0≤y
  case neg=>exact iteFq (decide_eq_false c1) ⟨_,rfl,iteT ⟨_,rfl,hC _ _ _ ⟨_,rfl⟩ (Same.refl _) (by rw[hy];simp [c1])⟩⟩
  refine iteTq (decide_eq_true c1) ⟨_,rfl,g0,_,_,_,rfl,rfl,SqT.of (s2 _ _ hg0),rfl,g,_,rfl,.inr (SqT.of (s2 _ _ hg)),_,_,rfl,rfl,_,rfl,?_⟩
  rw[hlw]
  by_cases c2:y < (ts.length:Int)
  ·exact iteFq (by rw[decide_eq_true c2];rfl) (hL _ _ ⟨_,rfl⟩ (Same.refl _) (by rw[hy];simp [c1,c2]))
  ·exact iteTq (by rw[decide_eq_false c2];rfl) ⟨_,rfl,hC _ _ _ ⟨_,rfl⟩ (Same.refl _) (by rw[hy];simp [c2])⟩
 rw[lns,zj8,zha] at hH
 refine⟨(by show 0≤1000;decide),fun Le J2 S2 f2 h2=>?_⟩
 generalize hfl:(ns.filter fun i=>!(decide (0≤i) && decide (i < (ts.length:Int))))=fl at hH
 refine⟨.list (fl.map .int),.list [],⟨Lc,_,rfl,S2 _ _ hH,IsAll.ints _⟩,⟨Le,_,rfl,h2,rfl⟩,zcv _,rfl,units (Nat.le_trans (Nat.min_le_right _ _) (by decide)),_,rfl,?_⟩
 rw[zni]
 have S12:=S1.trans S2
 cases cA:ns.all (fun x=>decide (0≤x) && decide (x < (ts.length:Int))) with
 | false =>
  have ne:¬ fl.map PyData.int=[]:=fun z=>by
   have z':=List.map_eq_nil_iff.mp z
   rw[← hfl,List.filter_eq_nil_iff] at z'
   have:ns.all (fun x=>decide (0≤x) && decide (x < (ts.length:Int)))=true:=List.all_eq_true.mpr fun x hx=>by have:=z' x hx;simpa using this
   rw[this] at cA;cases cA
  exact iteTq (by rw[decide_eq_false ne];rfl) (iteT (noK (by rw[eK,cA];rfl) J2 S12))
 | true =>
 have fe:fl=[]:=by
  rw[← hfl,List.filter_eq_nil_iff]
  intro x hx
  rw[List.all_eq_true.mp cA x hx];simp
 rw[fe]
 refine iteF ?_
 have inr:∀ x ∈ ns,0≤x∧x < (ts.length:Int):=fun x hx=>by
  have:=List.all_eq_true.mp cA x hx
  rw[Bool.and_eq_true,decide_eq_true_eq,decide_eq_true_eq] at this
  exact this
 refine⟨_,rfl,kp,_,rfl,.inr (S12 _ _ iK.1),fun ll J3 S3 f3 h3=>?_⟩
 have S13:=S12.trans S3
 refine⟨_,rfl,kp,ns,rfl,S13 _ _ iK.1,iK.2,fun sp J4 S4 f4 h4=>?_⟩
 refine⟨sp,_,_,rfl,h4,Nat.lt_of_le_of_lt (zmv inr) (by trivial),fun ms ml mm mw l5 J5 S5 f5 h5=>?_⟩
 have S15:=S13.trans (S4.trans S5)
 refine⟨.list (ns.map .int),.list (ms.map .int),⟨ll,_,rfl,S5 _ _ (S4 _ _ h3),IsAll.ints _⟩,⟨l5,_,rfl,h5,IsAll.ints _⟩,zcv _,zcv _,units (Nat.le_trans (Nat.min_le_left _ _) (Nat.le_trans (zhb ns) (by decide))),_,rfl,?_⟩
 have ee:PyData.eqv (.list (ns.map .int)) (.list (ms.map .int))=decide (ns=ms):=zfz ns ms
 rw[ee]
 have iff:ns=ms↔risI ns=true:=by
  rw[zjj]
  constructor
  ·intro z
   obtain⟨nd,_⟩:=zje ml mm
   rw[z]
   exact (List.pairwise_and_iff.mpr ⟨mw,nd⟩).imp fun ⟨h1,h2⟩=>by trivial
  ·intro z
   exact ((zmu ml mm mw (List.Perm.refl ns) (z.imp fun h=>Int.le_of_lt h)).mpr (z.imp fun h=>Int.ne_of_lt h)).symm
 cases cR:risI ns with
 | false=>exact iteTq (by rw[decide_eq_false fun z=>by rw[iff.mp z] at cR;cases cR];rfl) (noK (by rw[eK,cR,Bool.and_false]) J5 S15)
 | true =>
 refine iteFq (by rw[decide_eq_true (iff.mpr cR)];rfl) ?_
 have eK':keepB ts.length (.tuple (ns.map .int))=true:=by rw[eK,cA,cR];rfl
 obtain⟨ko,ek⟩:=zjq eK'
 have q':∀ J,Same H J->Q (.bl (decide (ns.length≤(rgN ts [] (ns.map Int.toNat)).length) && decide (ww.length=(outs ts.length (ns.map Int.toNat)).length) && (List.range ww.length).all fun i=>waB n ts (ns.map Int.toNat) ((outs ts.length (ns.map Int.toNat)).getD i 0) (ww.getD i []))) J:=fun J S=>by
  have:=q J S
  unfold forB at this
  rw[eK',Bool.true_and] at this
  exact this
 have nl:ns.length=(ns.map Int.toNat).length:=(List.length_map _).symm
 have kl:(ns.map Int.toNat).length≤60:=Nat.le_trans ko.len few60
 generalize eks:ns.map Int.toNat=ks at *
 have hkn:H kp=some (.tup (natV ks)):=by rw[za8,ek];exact iK.1
 obtain⟨rg1,rg2⟩:=znw (ts:=ts) ks []
 have wk:WK K H n ts ks (.ref g0) (.ref kp):=⟨isw,ok,⟨kp,_,rfl,by rw[← za8];exact hkn,IsAll.ints _⟩,ko⟩
 have lkn:(natV ks).length=ks.length:=by unfold natV;rw[List.length_map]
 refine⟨_,rfl,kp,_,rfl,.inr (SqT.of (S15 _ _ hkn)),_,rfl,by rw[lkn];trivial,by rw[lkn];trivial,?_⟩
 rw[lkn,Int.toNat_natCast]
 refine zbs (n:=ks.length) (fun i σ J=>∃ y3 y4 y5 y6 y7:Option V,σ=[some (.ref g0),some (.ref kp),some (.ref p),y3,y4,y5,y6,y7]∧Same H J∧∀ j,j < i->cnB ts (ks.take j) (ks.getD j 0)=false) ⟨_,_,_,_,_,rfl,S15,fun j hj=>absurd hj (Nat.not_lt_zero j)⟩ ?turn (fun σ J h=>?_)
 case turn =>
  rintro i σ J hi ⟨y3,y4,y5,y6,y7,rfl,S,dn⟩
  have ei:ks[i]?=some (ks.getD i 0):=by rw[List.getD_eq_getElem?_getD,List.getElem?_eq_getElem hi];rfl
  have hkl:=ko.2 _ (List.mem_of_getElem? ei)
  obtain⟨ta,hta,htie⟩:=zbf hall hkl
  obtain⟨u1,u2,u3,u4,u5⟩:=zpb ok hkl
  have ea:atI (natV ks) (0 + (i:Int))=some (.int ((ks.getD i 0:Nat):Int)):=by
   refine zaq (by trivial) ?_
   rw[show (0 + (i:Int)).toNat=i by trivial]
   unfold natV
   rw[List.getElem?_map,ei];rfl
  refine⟨_,rfl,g0,_,_,_,rfl,rfl,SqT.of (S _ _ hg0),rfl,_,rfl,_,rfl,kp,_,_,_,rfl,rfl,SqT.of (S _ _ hkn),ea,g,_,_,_,rfl,rfl,SqT.of (S _ _ hg),zaq (Int.natCast_nonneg _) hta,ta,_,rfl,SqT.of (S _ _ htie),rfl,_,_,rfl,_,_,rfl,_,_,rfl,rfl,?_⟩
  refine⟨_,rfl,_,rfl,_,rfl,_,rfl,kp,_,rfl,S _ _ hkn,fun pc J5' S5' e5=>?_⟩
  rw[show (0 + (i:Int))=(i:Int) by trivial,zda] at e5
  have e5':J5' pc=some (.tup (natV (ks.take i))):=by rw[e5];unfold natV;rw[List.map_take]
  have tk:=ok.tie _ (za7 hkl).2
  refine⟨_,rfl,_,rfl,n,ts,ks.take i,_,_,_,pc,rfl,Is.same (S.trans S5') _ isw,ok,fun k hk=>ko.2 k (List.mem_of_mem_take hk),by rw[List.length_take];trivial,e5',by trivial,by trivial,by trivial,by trivial,fun b J6 hb S6=>⟨_,rfl,?_⟩⟩
  have hb':b=cnB ts (ks.take i) (ks.getD i 0):=by
   rw[Bool.eq_iff_iff,hb,cnB_iff];rfl
  have S7:=S.trans (S5'.trans S6)
  cases eb:cnB ts (ks.take i) (ks.getD i 0) with
  | true =>
   refine iteTq (hb'.trans eb) ?_
   have:=q' J6 S7
   rw[decide_eq_false fun z=>by rw[nl] at z;have:=rg2.mp z i hi;rw[List.nil_append,eb] at this;cases this] at this
   exact this
  | false =>
   refine iteFq (hb'.trans eb) ⟨_,_,_,_,_,rfl,S7,fun j hj=>?_⟩
   by_cases z:j=i
   ·rw[z];exact eb
   ·exact dn j (by trivial)
 obtain⟨y3,y4,y5,y6,y7,rfl,S,dn⟩:=h
 have cR2:ns.length≤(rgN ts [] ks).length:=by rw[nl];exact rg2.mpr fun j hj=>by rw[List.nil_append];exact dn j hj
 refine⟨_,rfl,g0,_,_,_,rfl,rfl,SqT.of (S _ _ hg0),rfl,g,_,rfl,.inr (SqT.of (S _ _ hg)),_,rfl,by trivial,by trivial,?_⟩
 rw[Int.toNat_natCast,hlw]
 refine zhf (n:=ts.length) (fun σ'=>∃ o,σ'=[o,some (.ref kp)]) (fun i=>if i ∈ ks then none else some (.int (i:Int))) (by trivial) (by exact⟨none,rfl⟩) (fun i σ' J' hi s2 sg C L hC hL=>?_) (fun Lo J6 hLo S6 hH6=>?_)
 ·obtain⟨o,rfl⟩:=sg
  refine⟨_,rfl,_,rfl,kp,_,rfl,.inr (SqT.of (s2 _ _ (S _ _ hkn))),rfl,zdl ks,?_⟩
  rw[ze2 (by trivial),show (0 + (i:Int)).toNat=i by trivial]
  by_cases c:i ∈ ks
  ·exact⟨_,rfl,iteFq (by rw[decide_eq_true c];rfl) (hL _ _ ⟨_,rfl⟩ (Same.refl _) (by simp [c]))⟩
  ·exact⟨_,rfl,iteTq (by rw[decide_eq_false c];rfl) ⟨_,rfl,hC _ _ _ ⟨_,rfl⟩ (Same.refl _) (by simp [c])⟩⟩
 have eo:(List.range ts.length).filterMap (fun i=>if i ∈ ks then none else some (V.int (i:Int)))=natV (outs ts.length ks):=by
  unfold natV outs
  rw[← List.filterMap_eq_map,List.filterMap_filter]
  refine congrArg (fun f=>List.filterMap f (List.range ts.length)) (funext fun i=>?_)
  by_cases c:i ∈ ks <;> simp [c]
 rw[eo] at hH6
 have SS:=S.trans S6
 have lenO:(natV (outs ts.length ks)).length=(outs ts.length ks).length:=by unfold natV;rw[List.length_map]
 have lo60:(outs ts.length ks).length≤60:=by
  have:=List.length_filter_le (fun k=>decide (k ∉ ks)) (List.range ts.length)
  rw[List.length_range] at this
  exact Nat.le_trans this few60
 refine⟨_,rfl,p,_,rfl,.inr (SqT.of (SS _ _ hp)),_,rfl,Lo,_,rfl,.inl (SqL.of hH6),rfl,_,rfl,?_⟩
 rw[lenO,ly]
 by_cases cW:ww.length=(outs ts.length ks).length
 case neg =>
  refine iteTq (by rw[decide_eq_false fun z=>cW (by injection z with z;trivial)];rfl) ?_
  have:=q' J6 SS
  rw[decide_eq_true cR2,decide_eq_false cW] at this
  exact this
 refine iteFq (by rw[cW];simp) ?_
 refine⟨_,rfl,_,rfl,Lo,p,rfl,⟨_,SqX.of (t:=false) hH6⟩,⟨_,SqX.of (t:=true) (SS _ _ hp)⟩,?_⟩
 refine zdo (t1:=false) (t2:=true) (xs:=natV (outs ts.length ks)) (zs:=ys) hH6 (SS _ _ hp) (fun σ'=>∃ o1 o2,σ'=[o1,o2,some (.ref g0),some (.ref kp)]) (fun i v _=>v=.bl ((fun i=>waB n ts ks ((outs ts.length ks).getD i 0) (ww.getD i [])) i)) (by trivial) (by exact⟨none,none,rfl⟩) (fun _ _ _ _ _ h=>h) (fun i x z U σ' H' hx hz s6 hU sg C hC=>?_) (fun L bs H6 hL s6 hH hly hys=>?_)
 ·obtain⟨o1,o2,rfl⟩:=sg
  obtain⟨k,hk,rfl⟩:=zbr hx
  have hkl:k < ts.length:=List.mem_range.mp (List.mem_filter.mp (List.mem_of_getElem? hk)).1
  have hi:i < ww.length:=by have:=(List.getElem?_eq_some_iff.mp hz).1;trivial
  have ew:ww[i]?=some ww[i]:=List.getElem?_eq_getElem hi
  obtain⟨tw,rfl,htw⟩:=pa i ww[i] z ew hz
  have sN:=zam (o:=.tup [.int (k:Int),.ref tw]) hU
  have s7:=SS.trans (s6.trans sN)
  have rl:=wr ww[i] (List.getElem_mem hi)
  refine⟨U,_,rfl,SqT.of zae,rfl,_,_,rfl,_,_,rfl,rfl,?_⟩
  refine⟨_,rfl,_,rfl,_,rfl,_,rfl,n,ts,ks,_,_,k,tw,ww[i],rfl,wk.same s7,hkl,⟨s7 _ _ htw,by trivial⟩,rl,fun H7 s8=>hC _ _ _ ⟨_,_,rfl⟩ (sN.trans s8) ?_⟩
  show _=V.bl (waB n ts ks ((outs ts.length ks).getD i 0) (ww.getD i []))
  rw[List.getD_eq_getElem?_getD,hk,List.getD_eq_getElem?_getD,ew];rfl
 refine⟨L,_,rfl,SqL.of (by rw[hH,zcg hly hys]),?_⟩
 have:=q' H6 (SS.trans s6)
 rw[decide_eq_true cR2,decide_eq_true cW,Bool.true_and,Bool.true_and] at this
 rw[List.all_map,lenO,ly,← cW,Nat.min_self]
 exact this
theorem zij {ms:List Int} {fs:List Nat} (h:ms.Perm (keepI fs)):∃ ds:List Nat,ms=keepI ds∧ds.Perm fs:=by
 refine⟨ms.map Int.toNat,?_,?_⟩
 ·unfold keepI
  rw[List.map_map]
  conv=>lhs;rw[← List.map_id ms]
  refine List.map_congr_left fun m hm=>?_
  have:=h.mem_iff.mp hm
  unfold keepI at this
  obtain⟨k,_,rfl⟩:=List.mem_map.mp this
  rfl
 ·have:=h.map Int.toNat
  unfold keepI at this
  rw[List.map_map,show (Int.toNat ∘ fun k:Nat=>(k:Int))=id from funext fun k=>Int.toNat_natCast k,List.map_id] at this
  exact this
inductive spGrown38_i (K:PySem.W.Frag) (vs:List V) (H:Hp) (Q:VK):Prop
 | mk:∀ n ts wv (o:Addr) (os:List Nat),(vs=[wv,.ref o])->(Is K H (webD n ts) wv)->(WebOk n ts)->(H o=some (.lst (natV os)))->((∀ k ∈ os,k < ts.length))->(os.length≤60)->(∀ l ds H',Same H H'->(∀ k ∈ ds,k < ts.length)->ds.length≤60->H' l=some (.tup (natV ds))->Q (.ref l) H')->spGrown38_i K vs H Q
def spGrown38 (K:PySem.W.Frag):Sp:=fun vs H Q _=>spGrown38_i K vs H Q
theorem zeu (T:Bi mg) (D:DefOk K mg "_law_grown" s__law_grown ["web","order"]) (O__law_joined:Ok P w K mg base 1 "_law_joined" ["web","numbers","a","b"] (spJoined K)):Ok P w K mg base 2 "_law_grown" ["web","order"] (spGrown38 K):=by
 refine zbi (k:=1) D sc__law_grown (fun vs H Q E h=>?_) (fun f cdv A outer s H vs Q E hr h=>?_)
 ·obtain⟨n,ts,wv,o,os,rfl,_⟩:=h
  rfl
 obtain⟨n,ts,wv,o,os,rfl,isw,ok,ho,hos,l60,q⟩:=h
 have nd:=sc__law_grown.nd
 have few60:=ok.few
 obtain⟨g0,g,ws,rfl,hg0,hg,hall,hlw⟩:=za1 isw
 refine⟨_,(zai (za9 (i:=2) nd rfl (Or.inl rfl) (zc5 zac)) (zai (zde PassesOwn.never rfl (zbu (pv 1)) (zah (i:=3) nd rfl (Or.inl rfl)) (zak (zb2 (zc2 (zcm (zad O__law_joined hr rfl (zaa (pv 0) (zaa (pv 2) (zaa (zao zal (zao zal (zao zal (pv 0) zab (fun _ _=>rfl)) (pv 3) (fun _ _=>rfl)) zab (fun _ _=>rfl)) (zaa (zao zal (zao zal (zao zal (pv 0) zab (fun _ _=>rfl)) (pv 3) (fun _ _=>rfl)) zab (fun _ _=>rfl)) zac))))))) (zak (zds (zib PySem.F.plainAttrs_list PySem.F.slot_list_append PySem.F.type_list_append zct (pv 2) (zaa (pv 3) zac)))) za5))) (zak (zav (zax zdb rfl T.z_tuple (by decide +kernel) (zaa (zaf zd7 rfl T.z_sorted (by decide +kernel) (zaa (pv 2) zac)) zac)))))),?_⟩
 refine⟨(by show 0≤1000;decide),fun lf J0 S0 f0 e0=>?_⟩
 refine⟨_,rfl,o,rfl,⟨_,SqL.of (S0 _ _ ho)⟩,?_⟩
 have len:(natV os).length=os.length:=by unfold natV;rw[List.length_map]
 refine zgk (xs:=natV os) (fun i σ J=>∃ y3:Option V,σ=[some (.ref g0),some (.ref o),some (.ref lf),y3]∧Same H J∧∃ fs:List Nat,J lf=some (.lst (natV fs))∧fs.length≤i∧∀ k ∈ fs,k ∈ os) ⟨none,rfl,S0,[],e0,Nat.le_refl _,fun k hk=>by cases hk⟩ (fun i σ J _ h=>?_) (fun i x σ J hx h=>?_) (fun σ J h=>?_)
 ·obtain⟨y3,rfl,sm,_⟩:=h
  exact SqL.of (sm _ _ ho)
 ·obtain⟨y3,rfl,sm,fs,hf,fl,fm⟩:=h
  have il:i < os.length:=by have:=(List.getElem?_eq_some_iff.mp hx).1;trivial
  obtain⟨k,hk,rfl⟩:=zbr hx
  have hkl:k < ts.length:=hos k (List.mem_of_getElem? hk)
  obtain⟨ta,hta,htie⟩:=zbf hall hkl
  have tk:=ok.tie _ (za7 hkl).2
  have htie':=sm _ _ htie
  refine⟨_,rfl,_,rfl,_,rfl,g0,_,_,_,rfl,rfl,SqT.of (sm _ _ hg0),rfl,_,rfl,g,_,_,_,rfl,rfl,SqT.of (sm _ _ hg),zaq (Int.natCast_nonneg _) hta,ta,_,_,_,rfl,rfl,SqT.of htie',rfl,?_⟩
  refine⟨_,rfl,g0,_,_,_,rfl,rfl,SqT.of (sm _ _ hg0),rfl,_,rfl,g,_,_,_,rfl,rfl,SqT.of (sm _ _ hg),zaq (Int.natCast_nonneg _) hta,ta,_,_,_,rfl,rfl,SqT.of htie',rfl,?_⟩
  refine⟨n,ts,fs,_,_,_,lf,rfl,Is.same sm _ isw,ok,fun k hk=>hos k (fm k hk),by trivial,hf,by trivial,by trivial,by trivial,by trivial,fun b J1 hb S1=>?_⟩
  refine⟨_,rfl,?_⟩
  refine iteB2 (fun c=>?_) (fun c=>?_)
  ·exact⟨_,rfl,sm.trans S1,fs,S1 _ _ hf,by trivial,fm⟩
  ·refine⟨_,rfl,.inl ⟨rfl,_,SqL.of (S1 _ _ hf)⟩,_,rfl,lf,_,_,rfl,rfl,S1 _ _ hf,by unfold natV;rw[List.length_map];trivial,fun J2 b2 e2=>?_⟩
   refine⟨_,rfl,fun b o e=>b2 _ _ (zat e f0) (S1 _ _ (sm _ _ e)),fs++[k],?_,by simp;trivial,fun j hj=>?_⟩
   ·rw[e2];unfold natV;rw[List.map_append];rfl
   ·rcases List.mem_append.mp hj with z | z
    ·exact fm j z
    ·rw[show j=k by simpa using z];exact List.mem_of_getElem? hk
 ·obtain⟨y3,rfl,sm,fs,hf,fl,fm⟩:=h
  rw[len] at fl
  have e2':J lf=some (.lst ((keepI fs).map V.int)):=by rw[← za8];exact hf
  refine⟨_,rfl,lf,_,rfl,SqL.of e2',by unfold keepI;rw[List.length_map];trivial,fun ms pm2 pw l3 f3=>?_⟩
  obtain⟨ds,rfl,pd⟩:=zij pm2
  refine⟨l3,_,rfl,zae,fun l4 J4 S4 f4 e4=>?_⟩
  exact q l4 ds J4 (sm.trans ((zam (o:=.lst ((keepI ds).map V.int)) f3).trans S4)) (fun k hk=>hos k (fm k (pd.mem_iff.mp hk))) (by rw[pd.length_eq];trivial) (by rw[e4,za8])
structure PsO (n:Int) (ps:List (Int × Int)):Prop where
 nd:(ps.map (·.1)).Nodup
 inn:∀ p ∈ ps,0≤p.1∧p.1 < n
 val:∀ p ∈ ps,p.2 ∈ ps.map (·.1)
theorem PsO.len {n:Int} {ps:List (Int × Int)} (h:PsO n ps) (hn:n≤24):ps.length≤24:=by
 have:=Peel.zey n.toNat ((ps.map (·.1)).map Int.toNat) (by
  rw[List.Nodup,List.pairwise_map]
  refine List.Pairwise.imp_of_mem ?_ h.nd
  intro a b ha hb ne e
  obtain⟨p,hp,rfl⟩:=List.mem_map.mp ha
  obtain⟨r,hr,rfl⟩:=List.mem_map.mp hb
  have:=h.inn p hp;have:=h.inn r hr
  exact ne (by trivial)) fun k hk=>by
   obtain⟨x,hx,rfl⟩:=List.mem_map.mp hk
   obtain⟨p,hp,rfl⟩:=List.mem_map.mp hx
   have:=h.inn p hp;trivial
 rw[List.length_map,List.length_map] at this
 trivial
def dKv (ps:List (Int × Int)):List (Key × V):=ps.map fun p=>(Sum.inl p.1,V.int p.2)
theorem ze4 (ps:List (Int × Int)) (x:Int):(valV (dKv ps) (Sum.inl x)).isSome=true↔x ∈ ps.map (·.1):=by
 unfold valV
 rw[Option.isSome_map,List.find?_isSome]
 constructor
 ·rintro ⟨kv,hk,e⟩
  obtain⟨p,hp,rfl⟩:=List.mem_map.mp hk
  have:p.1=x:=by simpa using e
  exact List.mem_map.mpr ⟨p,hp,this⟩
 ·intro h
  obtain⟨p,hp,rfl⟩:=List.mem_map.mp h
  exact⟨_,List.mem_map.mpr ⟨p,hp,rfl⟩,by simp⟩
theorem zpf {ps:List (Int × Int)} {x:Int} (h:x ∈ ps.map (·.1)):∃ y,valV (dKv ps) (Sum.inl x)=some (.int y)∧∃ p ∈ ps,y=p.2:=by
 have:=(ze4 ps x).mpr h
 obtain⟨v,e⟩:=Option.isSome_iff_exists.mp this
 unfold valV at e
 obtain⟨kv,e1,rfl⟩:=Option.map_eq_some_iff.mp e
 obtain⟨p,hp,rfl⟩:=List.mem_map.mp (List.mem_of_find?_eq_some e1)
 exact⟨p.2,by unfold valV;rw[e1];rfl,p,hp,rfl⟩
theorem zpe {ps:List (Int × Int)} {x y:Int} (h:x ∉ ps.map (·.1)):putK (dKv ps) (Sum.inl x) (.int y)=dKv (ps++[(x,y)]):=by
 unfold putK
 rw[if_neg]
 ·unfold dKv;rw[List.map_append];rfl
 ·intro z
  obtain⟨kv,hk,e⟩:=List.any_eq_true.mp z
  obtain⟨p,hp,rfl⟩:=List.mem_map.mp hk
  have:p.1=x:=by simpa using e
  exact h (List.mem_map.mpr ⟨p,hp,this⟩)
theorem PsO.put {n:Int} {ps:List (Int × Int)} (h:PsO n ps) {x y:Int} (hx:x ∉ ps.map (·.1)) (x0:0≤x) (xn:x < n) (hy:y ∈ ps.map (·.1)):PsO n (ps++[(x,y)]):=by
 refine⟨?_,fun p hp=>?_,fun p hp=>?_⟩
 ·rw[List.map_append,List.nodup_append]
  exact⟨h.nd,by simp,fun a ha b hb e=>by rw[show b=x by simpa using hb] at e;rw[e] at ha;exact hx ha⟩
 ·rcases List.mem_append.mp hp with z | z
  ·exact h.inn p z
  ·rw[show p=(x,y) by simpa using z];exact⟨x0,xn⟩
 ·rw[List.map_append]
  rcases List.mem_append.mp hp with z | z
  ·exact List.mem_append_left _ (h.val p z)
  ·rw[show p=(x,y) by simpa using z];exact List.mem_append_left _ hy
inductive spPath38_i (K:PySem.W.Frag) (vs:List V) (H:Hp) (Q:VK):Prop
 | mk:∀ (n:Int) (ts:List Tie) (wv:V) (kp:Addr) (ds:List Nat) (a b:Int),(vs=[wv,.ref kp,.int a,.int b])->(Is K H (webD n ts) wv)->(WebOk n ts)->(H kp=some (.tup (natV ds)))->((∀ k ∈ ds,k < ts.length))->(0≤a)->(a < n)->(∀ l (ws:List Int) H',Same H H'->ws.length≤25->H' l=some (.tup (ws.map V.int))->Q (.ref l) H')->spPath38_i K vs H Q
def spPath38 (K:PySem.W.Frag):Sp:=fun vs H Q _=>spPath38_i K vs H Q
theorem zfb (T:Bi mg) (D:DefOk K mg "_law_path" s__law_path ["web","keep","a","b"]):Ok P w K mg base 1 "_law_path" ["web","keep","a","b"] (spPath38 K):=by
 refine zbi (k:=0) D sc__law_path (fun vs H Q E h=>?_) (fun f cdv A outer s H vs Q E hr h=>?_)
 ·obtain⟨n,ts,wv,kp,ds,a,b,rfl,_⟩:=h
  rfl
 obtain⟨n,ts,wv,kp,ds,a,b,rfl,isw,ok,hk,hds,a0,an,q⟩:=h
 have nd:=sc__law_path.nd
 have hu:(A.deeper (envOfC "_law_path" (defScope s__law_path) s.heap.objs.size f cdv)).units + 1 < cLine:=by have:=hr.units;trivial
 have n24:=ok.n24
 obtain⟨g0,g,ws,rfl,hg0,hg,hall,hlw⟩:=za1 isw
 refine⟨_,(BSs.h (zaj (BS.mk (za9 (i:=4) nd rfl (Or.inl rfl) (zk6 (pv 2) (pv 2)))) (zaj (zbn (i:=5) nd rfl (Or.inl rfl) (ziy (zbb (BE.mk (pv 2)) zb5))) (zaj (zcf PassesOwn.never rfl (zbh rfl T.z_range (zaa (zao zal (pv 0) zab (fun _ _=>rfl)) zac)) (zah (i:=6) nd rfl (Or.inl rfl)) (zar (zb3 (zap zcy (pv 6) (zaf zag rfl T.z_len (by decide +kernel) (zaa (pv 5) zac)) (nomark _)) (zar (zcf PassesOwn.never rfl (zeo (pv 1)) (zah (i:=7) nd rfl (Or.inl rfl)) (zar (zcf PassesOwn.never rfl (zbu (zc5 (zaa (zau zaz (zao zal (zao zal (pv 0) zab (fun _ _=>rfl)) (pv 7) (fun _ _=>rfl)) zaw (za0 zab)) (zaa (zbo (zaa (zao zal (zao zal (zao zal (pv 0) zab (fun _ _=>rfl)) (pv 7) (fun _ _=>rfl)) zab (fun _ _=>rfl)) (zaa (zao zal (zao zal (zao zal (pv 0) zab (fun _ _=>rfl)) (pv 7) (fun _ _=>rfl)) zab (fun _ _=>rfl)) zac))) zac)))) (zci (n:=2) rfl (zan (zah (i:=8) nd rfl (Or.inl rfl)) (zan (zah (i:=9) nd rfl (Or.inl rfl)) zba))) (zar (zb3 (PW.pt (zjk (zap zbe (pv 8) (zao za2 (pv 5) (pv 6) (fun _ _=>rfl)) (nomark _)) (zf6 (znx (zg1 hu (pv 9) (pv 4)) (by with_unfolding_all rfl))))) (zaj (BS.mk (zol hu (pv 4) (pv 9) (pv 8) rfl)) (zar (BS.mk (zds (zib PySem.F.plainAttrs_list PySem.F.slot_list_append PySem.F.type_list_append zct (pv 5) (zaa (pv 9) zac)))))) za6)))))) za6))) (zaj (zb3 (znx (zg1 hu (pv 3) (pv 4)) (by with_unfolding_all rfl)) (zar (zbd (zb1 zb5))) za6) (zaj (zbn (i:=10) nd rfl (Or.inl rfl) (ziy (zbb (BE.mk (pv 3)) zb5))) (zaj (zcf PassesOwn.never rfl (zbh rfl T.z_range (zaa (zao zal (pv 0) zab (fun _ _=>rfl)) zac)) (zah (i:=11) nd rfl (Or.inl rfl)) (zar (zb3 (zap zj9 (zao za2 (pv 10) (zia zek zab) (fun _ _=>rfl)) (pv 2) (nomark _)) (zar (BS.mk (zds (zib PySem.F.plainAttrs_list PySem.F.slot_list_append PySem.F.type_list_append zct (pv 10) (zaa (zon hu (pv 4) (zao za2 (pv 10) (zia zek zab) (fun _ _=>rfl)) (fun _ _=>rfl)) zac))))) za6))) (zar (zbd (BE.mk (zax zdb rfl T.z_tuple (by decide +kernel) (zaa (zg0 zoh (pv 10) zaw (zia zek zab)) zac)))))))))))),?_⟩
 refine fun db hdb=>⟨_,rfl,_,rfl,Sum.inl a,rfl,zae,?_⟩
 rw[zoa]
 have S1:Same H (upd H db (.dK [(Sum.inl a,.int a)])):=zam hdb
 refine⟨_,rfl,(by show 1≤1000;decide),fun lr J2 S2 f2 h2=>?_⟩
 have flr:H lr=none:=S1.free f2
 have ndl:db≠lr:=fun z=>by rw[← z,zae] at f2;cases f2
 have hd2:J2 db=some (.dK (dKv [(a,a)])):=S2 _ _ zae
 have po0:PsO n [(a,a)]:=⟨by simp,fun p hp=>by rw[show p=(a,a) by simpa using hp];exact⟨a0,an⟩,fun p hp=>by rw[show p=(a,a) by simpa using hp];simp⟩
 refine⟨_,rfl,g0,_,_,_,rfl,rfl,SqT.of (S2 _ _ (S1 _ _ hg0)),rfl,_,rfl,by trivial,by trivial,?_⟩
 have inv0:∀ {J:Hp},Same J2 J->True:=fun _=>trivial
 have toH:∀ {J:Hp} {ps:List (Int × Int)},(∀ c o,c≠db->c≠lr->J2 c=some o->J c=some o)->Same H J:=fun h c o e=>h c o (zat e hdb) (zat e flr) (S2 _ _ (S1 _ _ e))
 have lg:∀ ps:List (Int × Int),(ps.map fun p=>V.int p.1).length=ps.length:=fun ps=>List.length_map _
 refine zbs (n:=n.toNat) (fun i σ J=>∃ (y6 y7 y8 y9 y10 y11:Option V) (ps:List (Int × Int)),σ=[some (.ref g0),some (.ref kp),some (.int a),some (.int b),some (.ref db),some (.ref lr),y6,y7,y8,y9,y10,y11]∧(∀ c o,c≠db->c≠lr->J2 c=some o->J c=some o)∧J db=some (.dK (dKv ps))∧J lr=some (.lst (ps.map fun p=>V.int p.1))∧PsO n ps) ⟨_,_,_,_,_,_,[(a,a)],rfl,fun c o _ _ e=>e,hd2,h2,po0⟩ ?turn (fun σ J h=>?_)
 case turn =>
  rintro i σ J hi ⟨y6,y7,y8,y9,y10,y11,ps,rfl,kp2,hd,hl,po⟩
  have pl:=po.len n24
  refine⟨_,rfl,_,rfl,lr,_,rfl,.inl (SqL.of hl),_,_,rfl,rfl,_,rfl,?_⟩
  rw[lg]
  by_cases c1:(0:Int) + (i:Int) < (ps.length:Int)
  case neg=>exact iteFq (decide_eq_false c1) ⟨_,_,_,_,_,_,ps,rfl,kp2,hd,hl,po⟩
  refine iteTq (decide_eq_true c1) ?_
  have S3:Same H J:=toH (ps:=ps) kp2
  refine⟨_,rfl,kp,rfl,⟨_,SqT.of (S3 _ _ hk)⟩,?_⟩
  have lk:(natV ds).length=ds.length:=by unfold natV;rw[List.length_map]
  obtain⟨rh,erh,mrh⟩:∃ rh:Int,(ps[i]?).map (fun p=>V.int p.1)=some (.int rh)∧rh ∈ ps.map (·.1):=by
   have hi2:i < ps.length:=by trivial
   exact⟨ps[i].1,by rw[List.getElem?_eq_getElem hi2];rfl,List.mem_map.mpr ⟨_,List.getElem_mem hi2,rfl⟩⟩
  refine ziq (xs:=natV ds) (fun m σ J'=>∃ (z7 z8 z9:Option V) (qs:List (Int × Int)),σ=[some (.ref g0),some (.ref kp),some (.int a),some (.int b),some (.ref db),some (.ref lr),some (.int (0 + (i:Int))),z7,z8,z9,y10,y11]∧(∀ c o,c≠db->c≠lr->J2 c=some o->J' c=some o)∧J' db=some (.dK (dKv qs))∧J' lr=some (.lst (qs.map fun p=>V.int p.1))∧PsO n qs∧(qs[i]?).map (fun p=>V.int p.1)=some (.int rh)∧rh ∈ qs.map (·.1)) ⟨_,_,_,ps,rfl,kp2,hd,hl,po,erh,mrh⟩ (fun m σ J' _ h=>?_) (fun m x σ J' hx h=>?_) (fun σ J' h=>?_)
  ·obtain⟨z7,z8,z9,qs,rfl,k3,_⟩:=h
   exact SqT.of (toH (ps:=qs) k3 _ _ hk)
  ·obtain⟨z7,z8,z9,qs,rfl,k3,hd3,hl3,po3,er3,mr3⟩:=h
   obtain⟨k,hkk,rfl⟩:=zbr hx
   have hkl:=hds k (List.mem_of_getElem? hkk)
   obtain⟨ta,hta,htie⟩:=zbf hall hkl
   have tk:=ok.tie _ (za7 hkl).2
   have SJ:=toH (ps:=qs) k3
   refine⟨_,rfl,g0,_,_,_,rfl,rfl,SqT.of (SJ _ _ hg0),rfl,_,rfl,g,_,_,_,rfl,rfl,SqT.of (SJ _ _ hg),zaq (Int.natCast_nonneg _) hta,_,rfl,ta,_,rfl,SJ _ _ htie,fun p1 J4 S4 e4=>?_⟩
   have e4':J4 p1=some (.tup [.int (tieAt ts k).1,.int (tieAt ts k).2.1]):=e4
   have SJ4:=SJ.trans S4
   refine⟨_,rfl,g0,_,_,_,rfl,rfl,SqT.of (SJ4 _ _ hg0),rfl,_,rfl,g,_,_,_,rfl,rfl,SqT.of (SJ4 _ _ hg),zaq (Int.natCast_nonneg _) hta,ta,_,_,_,rfl,rfl,SqT.of (SJ4 _ _ htie),rfl,?_⟩
   refine⟨_,rfl,g0,_,_,_,rfl,rfl,SqT.of (SJ4 _ _ hg0),rfl,_,rfl,g,_,_,_,rfl,rfl,SqT.of (SJ4 _ _ hg),zaq (Int.natCast_nonneg _) hta,ta,_,_,_,rfl,rfl,SqT.of (SJ4 _ _ htie),rfl,(by show 2≤1000;decide),fun p2 J5 S5 f5 e5=>⟨(by show 2≤1000;decide),fun p3 J6 S6 f6 e6=>?_⟩⟩
   have S46:=S4.trans (S5.trans S6)
   have hd6:=S46 _ _ hd3
   have hl6:=S46 _ _ hl3
   have n1:p1≠db:=fun z=>by rw[z] at e4';rw[S4 _ _ hd3] at e4';cases e4'
   have n1':p1≠lr:=fun z=>by rw[z] at e4';rw[S4 _ _ hl3] at e4';cases e4'
   have n2:p2≠db:=fun z=>by rw[z] at f5;rw[S4 _ _ hd3] at f5;cases f5
   have n2':p2≠lr:=fun z=>by rw[z] at f5;rw[S4 _ _ hl3] at f5;cases f5
   have n3:p3≠db:=fun z=>by rw[z] at f6;rw[(S4.trans S5) _ _ hd3] at f6;cases f6
   have n3':p3≠lr:=fun z=>by rw[z] at f6;rw[(S4.trans S5) _ _ hl3] at f6;cases f6
   have g1:J6 p1=some (.tup [.int (tieAt ts k).1,.int (tieAt ts k).2.1]):=S6 _ _ (S5 _ _ e4')
   have g2:J6 p2=some (.tup [.int (tieAt ts k).2.1,.int (tieAt ts k).1]):=S6 _ _ e5
   refine⟨p3,rfl,⟨_,SqL.of e6⟩,?_⟩
   refine zgk (xs:=[.ref p1,.ref p2]) (fun m' σ J'=>∃ (z8 z9:Option V) (rs:List (Int × Int)),σ=[some (.ref g0),some (.ref kp),some (.int a),some (.int b),some (.ref db),some (.ref lr),some (.int (0 + (i:Int))),some (.int (k:Int)),z8,z9,y10,y11]∧(∀ c o,c≠db->c≠lr->J6 c=some o->J' c=some o)∧J' db=some (.dK (dKv rs))∧J' lr=some (.lst (rs.map fun p=>V.int p.1))∧PsO n rs∧(rs[i]?).map (fun p=>V.int p.1)=some (.int rh)∧rh ∈ rs.map (·.1)) ⟨_,_,qs,rfl,fun c o _ _ e=>e,hd6,hl6,po3,er3,mr3⟩ (fun m' σ J' _ h=>?_) (fun m' x σ J' hx' h=>?_) (fun σ J' h=>?_)
   ·obtain⟨z8,z9,rs,rfl,k4,_⟩:=h
    exact SqL.of (k4 _ _ n3 n3' e6)
   ·obtain⟨z8,z9,rs,rfl,k4,hd4,hl4,po4,er4,mr4⟩:=h
    obtain⟨px,u,v,rfl,hpx,u0,un⟩:∃ (px:Addr) (u v:Int),x=.ref px∧J' px=some (.tup [.int u,.int v])∧0≤v∧v < n:=by
     have:x=.ref p1∨x=.ref p2:=by
      have:=List.mem_of_getElem? hx'
      simpa using this
     rcases this with rfl | rfl
     ·exact⟨p1,_,_,rfl,k4 _ _ n1 n1' g1,by trivial,by trivial⟩
     ·exact⟨p2,_,_,rfl,k4 _ _ n2 n2' g2,by trivial,by trivial⟩
    refine⟨px,_,rfl,SqT.of hpx,rfl,_,_,rfl,_,_,rfl,rfl,?_⟩
    have atr:atI (rs.map fun p=>V.int p.1) (0 + (i:Int))=some (.int rh):=zaq (by trivial) (by rw[show (0 + (i:Int)).toNat=i by trivial,List.getElem?_map];exact er4)
    refine⟨_,rfl,_,rfl,_,rfl,lr,_,_,_,rfl,rfl,SqL.of hl4,atr,rfl,_,rfl,?_⟩
    rw[zei]
    by_cases c2:u=rh
    case neg=>exact iteFq (decide_eq_false c2) (iteF ⟨_,_,rs,rfl,k4,hd4,hl4,po4,er4,mr4⟩)
    refine iteTq (decide_eq_true c2) ?_
    refine⟨_,rfl,_,rfl,db,_,rfl,DGet.k (k:=Sum.inl v) hd4,_,rfl,?_⟩
    have rl:=po4.len n24
    by_cases c3:v ∈ rs.map (·.1)
    ·exact iteFq (by rw[(ze4 rs v).mpr c3];rfl) ⟨_,_,rs,rfl,k4,hd4,hl4,po4,er4,mr4⟩
    have dl:(dKv rs).length=rs.length:=List.length_map _
    refine iteTq (by rw[Bool.eq_false_iff.mpr fun z=>c3 ((ze4 rs v).mp z)];rfl) ?_
    refine⟨_,rfl,_,rfl,_,rfl,db,_,rfl,DPut.k (k:=Sum.inl v) hd4 (by rw[dl];exact Nat.lt_of_le_of_lt rl (by decide)),?_⟩
    rw[zpe c3]
    have hl7:upd J' db (.dK (dKv (rs++[(v,u)]))) lr=some (.lst (rs.map fun p=>V.int p.1)):=by rw[zas ndl.symm];exact hl4
    refine⟨_,rfl,.inl ⟨rfl,_,SqL.of hl7⟩,_,rfl,lr,_,_,rfl,rfl,hl7,by rw[lg];trivial,fun J8 b8 e8=>?_⟩
    have hmem:rh ∈ (rs++[(v,u)]).map (·.1):=by rw[List.map_append];exact List.mem_append_left _ mr4
    have il:i < rs.length:=by
     rcases Nat.lt_or_ge i rs.length with z | z
     ·exact z
     ·rw[List.getElem?_eq_none z] at er4;cases er4
    refine⟨_,_,rs++[(v,u)],rfl,fun c o h1 h2 e=>b8 _ _ h2 (by rw[zas h1];exact k4 c o h1 h2 e),b8 _ _ ndl zae,?_,po4.put c3 u0 un (by rw[c2];exact mr4),?_,hmem⟩
    ·rw[e8,List.map_append];rfl
    ·rw[List.getElem?_append_left il];exact er4
   ·obtain⟨z8,z9,rs,rfl,k4,hd4,hl4,po4,er4,mr4⟩:=h
    refine⟨_,_,_,rs,rfl,fun c o h1 h2 e=>k4 c o h1 h2 (S46 _ _ (k3 c o h1 h2 e)),hd4,hl4,po4,er4,mr4⟩
  ·obtain⟨z7,z8,z9,qs,rfl,k3,hd3,hl3,po3,er3,mr3⟩:=h
   exact⟨_,_,_,_,_,_,qs,rfl,k3,hd3,hl3,po3⟩
 obtain⟨y6,y7,y8,y9,y10,y11,ps,rfl,kp2,hd,hl,po⟩:=h
 have S3:Same H J:=toH (ps:=ps) kp2
 refine⟨_,rfl,_,rfl,db,_,rfl,DGet.k (k:=Sum.inl b) hd,_,rfl,?_⟩
 by_cases c1:b ∈ ps.map (·.1)
 case neg =>
  refine iteTq (by rw[Bool.eq_false_iff.mpr fun z=>c1 ((ze4 ps b).mp z)];rfl) ?_
  exact⟨(by show 0≤1000;decide),fun l J5 S5 _ e=>q l [] J5 (S3.trans S5) (by decide) e⟩
 refine iteFq (by rw[(ze4 ps b).mpr c1];rfl) ?_
 refine⟨_,rfl,(by show 1≤1000;decide),fun lw J4 S4 f4 h4=>?_⟩
 have flw:H lw=none:=S3.free f4
 have nwd:db≠lw:=fun z=>by rw[← z,hd] at f4;cases f4
 refine⟨_,rfl,g0,_,_,_,rfl,rfl,SqT.of (S4 _ _ (S3 _ _ hg0)),rfl,_,rfl,by trivial,by trivial,?_⟩
 refine zbs (n:=n.toNat) (fun i σ J'=>∃ (y11:Option V) (vs:List Int),σ=[some (.ref g0),some (.ref kp),some (.int a),some (.int b),some (.ref db),some (.ref lr),y6,y7,y8,y9,some (.ref lw),y11]∧But lw J4 J'∧J' lw=some (.lst (vs.map V.int))∧1≤vs.length∧vs.length≤i + 1∧∀ x ∈ vs,x ∈ ps.map (·.1)) ⟨_,[b],rfl,But.refl,h4,Nat.le_refl _,Nat.le_refl _,fun x hx=>by rw[show x=b by simpa using hx];exact c1⟩ ?t2 (fun σ J' h=>?_)
 case t2 =>
  rintro i σ J' hi ⟨y11,vs,rfl,bj,hv,v1,vi,vm⟩
  have lv:(vs.map V.int).length=vs.length:=List.length_map _
  have hl':=zpi v1
  have lm:vs.getD (vs.length - 1) 0 ∈ vs:=by
   rw[List.getD_eq_getElem?_getD,List.getElem?_eq_getElem (show vs.length - 1 < vs.length by trivial)]
   exact List.getElem_mem _
  refine⟨_,rfl,_,rfl,lw,_,_,_,rfl,rfl,SqL.of hv,hl',_,rfl,rfl,_,rfl,?_⟩
  rw[zei]
  by_cases c2:vs.getD (vs.length - 1) 0=a
  ·exact iteFq (by rw[decide_eq_true c2];rfl) ⟨_,vs,rfl,bj,hv,v1,by trivial,vm⟩
  refine iteTq (by rw[decide_eq_false c2];rfl) ?_
  have hd':=bj _ _ nwd (S4 _ _ hd)
  obtain⟨y,ey,p,hp,e2⟩:=zpf (vm _ lm)
  refine⟨_,rfl,.inl ⟨rfl,_,SqL.of hv⟩,_,rfl,_,rfl,_,rfl,lw,_,_,_,rfl,rfl,SqL.of hv,hl',db,.int y,rfl,?_,lw,_,_,rfl,rfl,hv,by rw[lv];trivial,fun J8 b8 e8=>?_⟩
  ·rw[← ey];exact DGet.k (k:=Sum.inl _) hd'
  refine⟨_,vs++[y],rfl,bj.trans b8,by rw[e8,List.map_append];rfl,by simp,by simp;trivial,fun x hx=>?_⟩
  rcases List.mem_append.mp hx with z | z
  ·exact vm x z
  ·rw[show x=y by simpa using z,e2];exact po.val p hp
 obtain⟨y11,vs,rfl,bj,hv,v1,vi,vm⟩:=h
 refine⟨_,rfl,_,rfl,rfl,lw,_,0,rfl,hv,.inl ⟨rfl,rfl⟩,fun l8 J8 S8 f8 h8=>?_⟩
 rw[List.drop_zero,← List.map_reverse] at h8
 refine⟨l8,_,rfl,h8,fun l9 J9 S9 f9 h9=>q l9 vs.reverse J9 (fun c o e=>S9 _ _ (S8 _ _ (bj _ _ (zat e flw) (S4 _ _ (S3 _ _ e))))) (by rw[List.length_reverse];trivial) h9⟩
theorem zhd (is:List Int) (k:Nat):cutV (is.map V.int) none (some (k:Int))=(is.take k).map V.int:=by rw[zda,List.map_take]
theorem zl7 (is:List Int) (k:Nat):cutV (is.map V.int) (some (k:Int)) none=(is.drop k).map V.int:=by rw[zb0,List.map_drop]
theorem zn6 (is:List Int) (k:Nat):cutV (is.map V.int) (some ((k:Int) + 1)) none=(is.drop (k + 1)).map V.int:=by rw[show (k:Int) + 1=((k + 1:Nat):Int) from rfl,zb0,List.map_drop]
theorem ziw {J:Hp} {x y:Addr} {a b:List Int} {R:V->Hp->Prop} (hx:J x=some (.tup (a.map V.int))) (hy:J y=some (.tup (b.map V.int))) (hl:a.length + b.length≤100) (h:∀ z J',Same J J'->J' z=some (.tup ((a++b).map V.int))->R (.ref z) J'):rCatA (.ref x) (.ref y) J R :=
 ⟨_,_,_,_,rfl,rfl,hx,hy,by rw[List.length_map,List.length_map];exact Nat.le_trans hl (by decide),fun z J' S e=>h z J' S (by rw[e,List.map_append])⟩
theorem zbt {J J':Hp} {p:Addr} (b:But p J J') (pp:Pot J p):TupKeep J J':=by
 obtain⟨xs,e⟩:=pp.lst
 exact fun a ys h=>b _ _ (fun z=>by rw[z,e] at h;cases h) h
inductive spSpo38_i  (vs:List V) (H:Hp) (Q:VK):Prop
 | mk:∀ (p ra:Addr) (top:Int) (is:List Int),(vs=[.ref p,.ref ra,.int top])->(Pot H p)->(0≤top)->(top≤60)->(H ra=some (.tup (is.map V.int)))->(is.length≤70)->(∀ q (js:List Int) H',But p H H'->Pot H' p->H' q=some (.tup (js.map V.int))->js.length≤is.length + 1->Q (.ref q) H')->spSpo38_i vs H Q
def spSpo38 :Sp:=fun vs H Q _=>spSpo38_i vs H Q
theorem zea (T:Bi mg) (D:DefOk K mg "_law_spoilt" s__law_spoilt ["pot","row","top"]) (O__law_take:Ok P w K mg base 1 "_law_take" ["pot","many"] spTake):Ok P w K mg base 2 "_law_spoilt" ["pot","row","top"] spSpo38:=by
 refine zbi (k:=1) D sc__law_spoilt (fun vs H Q E h=>?_) (fun f cdv A outer s H vs Q E hr h=>?_)
 ·obtain⟨p,ra,top,is,rfl,_⟩:=h
  rfl
 obtain⟨p,ra,top,is,rfl,hp,t0,t60,hr0,l70,q⟩:=h
 have nd:=sc__law_spoilt.nd
 have lm:(is.map V.int).length=is.length:=List.length_map _
 refine⟨_,(BSs.h (zaj (zbn (i:=3) nd rfl (Or.inl rfl) (BE.mk (zad O__law_take hr rfl (zaa (pv 0) (zaa zab zac))))) (zaj (zbn (i:=4) nd rfl (Or.inl rfl) (BE.mk (zad O__law_take hr rfl (zaa (pv 0) (zaa (zay zbw (zaf zag rfl T.z_len (by decide +kernel) (zaa (pv 1) zac)) zab) zac))))) (zaj (zbn (i:=5) nd rfl (Or.inl rfl) (zb1 (zbb (BE.mk (zay zck (zad O__law_take hr rfl (zaa (pv 0) (zaa (zay zbw (pv 2) zab) zac))) zab)) zb5))) (zaj (zb3 (zap zbe (pv 3) zab (nomark _)) (zar (zbd (zdc zbj (BE.mk (zau zaz (pv 1) zaw (za0 (pv 4)))) (BE.mk (zau zaz (pv 1) (za0 (zay zbw (pv 4) zab)) zaw))))) za6) (zaj (zb3 (zap zbe (pv 3) zab (nomark _)) (zar (zbd (zdc zbj (zdc zbj (BE.mk (zau zaz (pv 1) zaw (za0 (pv 4)))) (BE.mk (pv 5))) (BE.mk (zau zaz (pv 1) (za0 (pv 4)) zaw))))) za6) (zaj (zb3 (zap zbe (pv 3) zab (nomark _)) (zar (zbd (zdc zbj (BE.mk (zau zaz (pv 1) zaw (za0 (pv 4)))) (BE.mk (zau zaz (pv 1) (za0 (zaf (zcr rfl) rfl T.z_max (by decide +kernel) (zaa zab (zaa (zay zck (pv 4) zab) zac)))) zaw))))) za6) (zaj (zb3 (zap zbe (pv 3) zab (nomark _)) (zar (zbd (zdc zbj (zdc zbj (BE.mk (zau zaz (pv 1) zaw (za0 (pv 4)))) (BE.mk (pv 5))) (BE.mk (zau zaz (pv 1) (za0 (zay zbw (pv 4) zab)) zaw))))) za6) (zaj (zb3 (zap zbe (pv 3) zab (nomark _)) (zar (zbd (zdc zbj (BE.mk (zau zaz (pv 1) (za0 (pv 4)) zaw)) (BE.mk (zau zaz (pv 1) zaw (za0 (pv 4))))))) za6) (zar (zbd (BE.mk (zg0 zpr (pv 1) zaw (zia zek zab)))))))))))))),?_⟩
 refine⟨_,rfl,p,6,rfl,hp,by decide,by decide,fun way H1 w0 w1 b1 p1=>?_⟩
 have r1:=zbt b1 hp _ _ hr0
 refine⟨_,rfl,_,rfl,ra,_,rfl,.inr (SqT.of r1),_,_,rfl,rfl,p,_,rfl,p1,by rw[lm];trivial,by rw[lm];trivial,fun at_ H2 a0 a1 b2 p2=>?_⟩
 rw[lm] at a1
 have r2:=zbt b2 p1 _ _ r1
 have b02:=b1.trans b2
 obtain⟨k,rfl⟩:∃ k:Nat,at_=k:=⟨at_.toNat,by trivial⟩
 refine⟨_,rfl,_,rfl,_,_,rfl,rfl,p,_,rfl,p2,by trivial,by trivial,fun pl H3 u0 u1 b3 p3=>?_⟩
 have r3:=zbt b3 p2 _ _ r2
 have b03:=b02.trans b3
 refine⟨_,_,rfl,rfl,(by show 1≤1000;decide),fun so J0 S0 f0 g0=>?_⟩
 have r4:=S0 _ _ r3
 have g0':J0 so=some (.tup (([pl - 2]:List Int).map V.int)):=g0
 have ends:∀ {J:Hp} {z:Addr} {js:List Int},Same J0 J->J z=some (.tup (js.map V.int))->js.length≤is.length + 1->Q (.ref z) J:=fun S e hl=>q _ _ _ (b03.trans (Same.but (S0.trans S))) (p3.same (S0.trans S)) e hl
 refine⟨_,rfl,rfl,_,rfl,ite2 (fun _=>?_) (fun c0=>?_)⟩
 ·refine⟨_,rfl,_,rfl,_,rfl,ra,_,rfl,r4,fun x1 J1 S1 g1=>?_⟩
  rw[zhd] at g1
  refine⟨_,rfl,_,rfl,_,_,rfl,rfl,_,rfl,ra,_,rfl,S1 _ _ r4,fun x4 J4 S4 g4=>?_⟩
  rw[zn6] at g4
  exact ziw (S4 _ _ g1) g4 (by simp;trivial) fun x5 J5 S5 g5=>ends (S1.trans (S4.trans S5)) g5 (by simp;trivial)
 refine⟨_,rfl,rfl,_,rfl,ite2 (fun _=>?_) (fun c1=>?_)⟩
 ·refine⟨_,rfl,_,rfl,_,rfl,ra,_,rfl,r4,fun x1 J1 S1 g1=>?_⟩
  rw[zhd] at g1
  refine⟨_,rfl,ziw g1 (S1 _ _ g0') (by simp;trivial) fun x3 J3 S3 g3=>?_⟩
  have S13:=S1.trans S3
  refine⟨_,rfl,_,rfl,_,rfl,ra,_,rfl,S13 _ _ r4,fun x4 J4 S4 g4=>?_⟩
  rw[zl7] at g4
  exact ziw (S4 _ _ g3) g4 (by simp;trivial) fun x5 J5 S5 g5=>ends (S13.trans (S4.trans S5)) g5 (by simp;trivial)
 refine⟨_,rfl,rfl,_,rfl,ite2 (fun _=>?_) (fun c2=>?_)⟩
 ·refine⟨_,rfl,_,rfl,_,rfl,ra,_,rfl,r4,fun x1 J1 S1 g1=>?_⟩
  rw[zhd] at g1
  obtain⟨m,em⟩:∃ m:Nat,(if (k:Int) - 1 > 0 then (k:Int) - 1 else 0)=(m:Int):=⟨k - 1,by split <;> trivial⟩
  have ml:k≤m + 1:=by split at em <;> trivial
  refine⟨_,rfl,_,rfl,_,_,rfl,rfl,_,_,rfl,_,rfl,ra,_,rfl,S1 _ _ r4,fun x4 J4 S4 g4=>?_⟩
  rw[em,zl7] at g4
  exact ziw (S4 _ _ g1) g4 (by simp;trivial) fun x5 J5 S5 g5=>ends (S1.trans (S4.trans S5)) g5 (by simp;trivial)
 refine⟨_,rfl,rfl,_,rfl,ite2 (fun _=>?_) (fun c3=>?_)⟩
 ·refine⟨_,rfl,_,rfl,_,rfl,ra,_,rfl,r4,fun x1 J1 S1 g1=>?_⟩
  rw[zhd] at g1
  refine⟨_,rfl,ziw g1 (S1 _ _ g0') (by simp;trivial) fun x3 J3 S3 g3=>?_⟩
  have S13:=S1.trans S3
  refine⟨_,rfl,_,rfl,_,_,rfl,rfl,_,rfl,ra,_,rfl,S13 _ _ r4,fun x4 J4 S4 g4=>?_⟩
  rw[zn6] at g4
  exact ziw (S4 _ _ g3) g4 (by simp;trivial) fun x5 J5 S5 g5=>ends (S13.trans (S4.trans S5)) g5 (by simp;trivial)
 refine⟨_,rfl,rfl,_,rfl,ite2 (fun _=>?_) (fun c4=>?_)⟩
 ·refine⟨_,rfl,_,rfl,_,rfl,ra,_,rfl,r4,fun x1 J1 S1 g1=>?_⟩
  rw[zl7] at g1
  refine⟨_,rfl,_,rfl,_,rfl,ra,_,rfl,S1 _ _ r4,fun x4 J4 S4 g4=>?_⟩
  rw[zhd] at g4
  exact ziw (S4 _ _ g1) g4 (by simp;trivial) fun x5 J5 S5 g5=>ends (S1.trans (S4.trans S5)) g5 (by simp;trivial)
 refine⟨_,rfl,_,rfl,rfl,ra,_,0,rfl,r4,.inl ⟨rfl,rfl⟩,fun x1 J1 S1 _ g1=>?_⟩
 rw[List.drop_zero,← List.map_reverse] at g1
 exact ends S1 g1 (by rw[List.length_reverse];trivial)
def Pp38 (J:Hp) (j:Nat) (v:V):Prop:=∃ t kp wp,v=.ref t∧J t=some (.tup [.ref kp,.ref wp])∧RowV 0 (60 + j) J (.ref kp)∧PapV J 0 (25 + j) (60 + j) (.ref wp)
theorem Pp38.tk {J J':Hp} {j:Nat} {v:V} (k:TupKeep J J') (h:Pp38 J j v):Pp38 J' j v:=let ⟨t,kp,wp,e,h1,h2,h3⟩:=h;⟨t,kp,wp,e,k _ _ h1,h2.tk k,h3.tk k⟩
theorem Pp38.up {J:Hp} {j m:Nat} {v:V} (h:Pp38 J j v) (l:j≤m):Pp38 J m v:=by
 obtain⟨t,kp,wp,e,h1,⟨p,hs,e2,h2,l1,l2⟩,⟨p',xs,e3,h3,l3,l4⟩⟩:=h
 exact⟨t,kp,wp,e,h1,⟨p,hs,e2,h2,l1,by trivial⟩,⟨p',xs,e3,h3,by trivial,fun u hu=>let ⟨q,gs,e4,h4,l5,l6⟩:=l4 u hu;⟨q,gs,e4,h4,l5,by trivial⟩⟩⟩
theorem zo8 {i:Nat} {x:V} {c:TT} {a b:TS} {D:L2.Ends} {σ:L2.St} {H:Hp} (P:L2.St->Hp->Prop) (main:(∀ σ' J,P σ' J->b D σ' J)->tSeq (tIfS c a tNext) b D (σ.set i (some x)) H) (go:∀ σ' J,P σ' J->b D σ' J):gName i x σ H (tSeq (tIfS c a tNext) b D):=main go
theorem zmw {c:TT} {a b:TS} {D:L2.Ends} {σ:L2.St} {H:Hp} (P:L2.St->Hp->Prop) (main:(∀ σ' J,P σ' J->b D σ' J)->tSeq (tIfS c a tNext) b D σ H) (go:∀ σ' J,P σ' J->b D σ' J):tSeq (tIfS c a tNext) b D σ H:=main go
def Two38 (m:Nat) (sg:Int) (J:Hp) (v:V):Prop:=∃ (a:Addr) (l:Int) (k:Nat),v=.ref a∧k < m∧J a=some (.tup [.int l,.int (sg * k)])
theorem rows2 {J:Hp} {m:Nat} {sg:Int}:∀ {ys:List V},(∀ u ∈ ys,Two38 m sg J u)->∃ ks:List (List Int),Paired (fun (y:V) (k:List Int)=>∃ a,y=.ref a∧J a=some (.tup (k.map V.int))) ys ks∧∀ k ∈ ks,k≠[]
 | [],_=>⟨[],.nil,fun k hk=>by cases hk⟩
 | v::r,h=>by
  obtain⟨ks,p,n⟩:=rows2 (ys:=r) fun u hu=>h u (List.mem_cons_of_mem _ hu)
  obtain⟨a,l,k,e,_,ha⟩:=h v List.mem_cons_self
  refine⟨[l,sg * k]::ks,.cons ⟨a,e,ha⟩ p,fun k hk=>?_⟩
  rcases List.mem_cons.mp hk with rfl | hk
  ·exact fun z=>by cases z
  ·exact n k hk
theorem zdx {m:Nat}:∀ {ys:List V},(∀ u ∈ ys,∃ k:Nat,k < m∧u=.int (k:Int))->∃ os:List Nat,ys=natV os∧os.length=ys.length∧∀ k ∈ os,k < m
 | [],_=>⟨[],rfl,rfl,fun k hk=>by cases hk⟩
 | v::r,h=>by
  obtain⟨os,h1,h2,h3⟩:=zdx (ys:=r) fun u hu=>h u (List.mem_cons_of_mem _ hu)
  obtain⟨k,hk,e⟩:=h v List.mem_cons_self
  refine⟨k::os,by rw[e,h1];rfl,by simp [h2],fun j hj=>?_⟩
  rcases List.mem_cons.mp hj with rfl | hj
  ·exact hk
  ·exact h3 j hj
inductive spStart38_i (K:PySem.W.Frag) (vs:List V) (H:Hp) (Q:VK):Prop
 | mk:∀ (p:Addr) (n:Int) (ts:List Tie) (wv:V),(vs=[.ref p,wv])->(Pot H p)->(Is K H (webD n ts) wv)->(WebOk n ts)->(∀ v H',But p H H'->Pot H' p->Pp38 H' 0 v->Q v H')->spStart38_i K vs H Q
def spStart38 (K:PySem.W.Frag):Sp:=fun vs H Q _=>spStart38_i K vs H Q
theorem zes (T:Bi mg) (D:DefOk K mg "_law_start" s__law_start ["pot","web"]) (O__law_take:Ok P w K mg base 3 "_law_take" ["pot","many"] spTake) (O__law_order:Ok P w K mg base 3 "_law_order" ["pot","many"] spOrder) (O__law_grown:Ok P w K mg base 3 "_law_grown" ["web","order"] (spGrown38 K)) (O__law_path:Ok P w K mg base 3 "_law_path" ["web","keep","a","b"] (spPath38 K)):Ok P w K mg base 4 "_law_start" ["pot","web"] (spStart38 K):=by
 refine zbi (k:=3) D sc__law_start (fun vs H Q E h=>?_) (fun f cdv A outer s H vs Q E hr h=>?_)
 ·obtain⟨p,n,ts,wv,rfl,_⟩:=h
  rfl
 obtain⟨p,n,ts,wv,rfl,hp,isw,ok,q⟩:=h
 have nd:=sc__law_start.nd
 have few60:=ok.few
 refine⟨_,(BSs.h (zaj (zbn (i:=2) nd rfl (Or.inl rfl) (BE.mk (zad O__law_take hr rfl (zaa (pv 0) (zaa zab zac))))) (zaj (zbn (i:=3) nd rfl (Or.inl rfl) (BE.mk (zad O__law_order hr rfl (zaa (pv 0) (zaa (zaf zag rfl T.z_len (by decide +kernel) (zaa (zao zal (pv 1) zab (fun _ _=>rfl)) zac)) zac))))) (zaj (BS.mk (zbl (i:=4) (N:=["pot","web","way","drawn","places","order","keep","others"]) (sc0:=defScope s__law_start) (own:=["number"]) (fr:=["web"]) (js:=[1]) rfl (zbh rfl T.z_range (zaa (zaf zag rfl T.z_len (by decide +kernel) (zaa (zao zal (pv 1) zab (fun _ _=>rfl)) zac)) zac)) (fun _ _ _ _=>(zah (i:=0) (by show List.Nodup [("number":Str),("web":Str)];decide +kernel) rfl (Or.inl rfl))) (fun _ _ _ _=>zbg) (fun _ _ _ _=>(zbo (zaa (zao zb6 (zao zb6 (zao zb6 (pv 1) zab (fun _ _=>rfl)) (pv 0) (fun _ _=>rfl)) zab (fun _ _=>rfl)) (zaa (pv 0) zac)))) nd rfl (Or.inl rfl))) (zaj (BS.mk (zbl (i:=5) (N:=["pot","web","way","drawn","places","order","keep","others"]) (sc0:=defScope s__law_start) (own:=["length","number"]) (fr:=[]) (js:=[]) rfl (zbu (zaf zdq rfl T.z_sorted (by decide +kernel) (zaa (pv 4) zac))) (fun _ _ _ _=>(zcn (n:=2) rfl (zan (zah (i:=0) (by show List.Nodup [("length":Str),("number":Str)];decide +kernel) rfl (Or.inl rfl)) (zan (zah (i:=1) (by show List.Nodup [("length":Str),("number":Str)];decide +kernel) rfl (Or.inl rfl)) zba)))) (fun _ _ _ _=>zbg) (fun _ _ _ _=>(pv 1)) nd rfl (Or.inl rfl))) (zaj (zb3 (zap zbe (pv 2) zab (nomark _)) (zar (BS.mk (zbl (i:=5) (N:=["pot","web","way","drawn","places","order","keep","others"]) (sc0:=defScope s__law_start) (own:=["length","number"]) (fr:=[]) (js:=[]) rfl (zbu (zaf zdq rfl T.z_sorted (by decide +kernel) (zaa (zbp (N:=["pot","web","way","drawn","places","order","keep","others"]) (sc0:=defScope s__law_start) (own:=["length","number"]) (fr:=[]) (js:=[]) rfl (zbu (pv 4)) (fun _ _ _ _=>(zcn (n:=2) rfl (zan (zah (i:=0) (by show List.Nodup [("length":Str),("number":Str)];decide +kernel) rfl (Or.inl rfl)) (zan (zah (i:=1) (by show List.Nodup [("length":Str),("number":Str)];decide +kernel) rfl (Or.inl rfl)) zba)))) (fun _ _ _ _=>zbg) (fun _ _ _ _=>(zbo (zaa (pv 0) (zaa (zay zck zab (pv 1)) zac))))) zac))) (fun _ _ _ _=>(zcn (n:=2) rfl (zan (zah (i:=0) (by show List.Nodup [("length":Str),("number":Str)];decide +kernel) rfl (Or.inl rfl)) (zan (zah (i:=1) (by show List.Nodup [("length":Str),("number":Str)];decide +kernel) rfl (Or.inl rfl)) zba)))) (fun _ _ _ _=>zbg) (fun _ _ _ _=>(zay zck zab (pv 1))) nd rfl (Or.inl rfl)))) za6) (zaj (zb3 (zap zbe (pv 2) zab (nomark _)) (zar (zbn (i:=5) nd rfl (Or.inl rfl) (BE.mk (pv 3)))) za6) (zaj (zbn (i:=6) nd rfl (Or.inr rfl) (BE.mk (zad O__law_grown hr rfl (zaa (pv 1) (zaa (pv 5) zac))))) (zaj (BS.mk (zbl (i:=7) (N:=["pot","web","way","drawn","places","order","keep","others"]) (sc0:=defScope s__law_start) (own:=["number"]) (fr:=["keep"]) (js:=[6]) rfl (zbh rfl T.z_range (zaa (zaf zag rfl T.z_len (by decide +kernel) (zaa (zao zal (pv 1) zab (fun _ _=>rfl)) zac)) zac)) (fun _ _ _ _=>(zah (i:=0) (by show List.Nodup [("number":Str),("keep":Str)];decide +kernel) rfl (Or.inl rfl))) (fun _ _ _ _=>(zf7 (zap zcd (pv 0) (pv 1) (by with_unfolding_all rfl)))) (fun _ _ _ _=>(pv 0)) nd rfl (Or.inl rfl))) (zar (zbd (zb1 (zbb (BE.mk (pv 6)) (zbb (BE.mk (zax zdb rfl T.z_tuple (by decide +kernel) (zaa (zbp (N:=["pot","web","way","drawn","places","order","keep","others"]) (sc0:=defScope s__law_start) (own:=["number"]) (fr:=["web","keep"]) (js:=[1,6]) rfl (zbu (pv 7)) (fun _ _ _ _=>(zah (i:=0) (by show List.Nodup [("number":Str),("web":Str),("keep":Str)];decide +kernel) rfl (Or.inl rfl))) (fun _ _ _ _=>zbg) (fun _ _ _ _=>(zad O__law_path hr rfl (zaa (pv 1) (zaa (pv 2) (zaa (zao zb6 (zao zb6 (zao zb6 (pv 1) zab (fun _ _=>rfl)) (pv 0) (fun _ _=>rfl)) zab (fun _ _=>rfl)) (zaa (zao zb6 (zao zb6 (zao zb6 (pv 1) zab (fun _ _=>rfl)) (pv 0) (fun _ _=>rfl)) zab (fun _ _=>rfl)) zac))))))) zac))) zb5)))))))))))))),?_⟩
 refine⟨_,rfl,p,3,rfl,hp,by decide,by decide,fun way H1 w0 w1 b1 p1=>?_⟩
 have iswB:∀ {J:Hp},But p H J->Is K J (webD n ts) wv:=fun b=>by
  obtain⟨xs,e⟩:=hp.lst
  exact Is.but b e _ (zel n ts) isw
 obtain⟨g0,g,ws,rfl,hg0,hg,hall,hlw⟩:=za1 (iswB b1)
 refine⟨_,rfl,_,rfl,g0,_,_,_,rfl,rfl,SqT.of hg0,rfl,g,_,rfl,.inr (SqT.of hg),p,_,rfl,p1,by trivial,by trivial,fun ld H2 ms b2 p2 fld nld eld pm=>?_⟩
 have b02:=b1.trans b2
 obtain⟨g0',g',ws',eg,hg0,hg,hall,hlw⟩:=za1 (iswB b02)
 injection eg with eg
 subst eg
 have lms:ms.length=ts.length:=by have:=pm.length_eq;rw[List.length_map,List.length_range] at this;trivial
 obtain⟨od,eod,lod,mod⟩:∃ os:List Nat,ms.map V.int=natV os∧os.length=(ms.map V.int).length∧∀ k ∈ os,k < ts.length:=zdx fun u hu=>by
  obtain⟨m,hm,rfl⟩:=List.mem_map.mp hu
  obtain⟨k,hk,rfl⟩:=List.mem_map.mp (pm.mem_iff.mp hm)
  exact⟨k,by have:=List.mem_range.mp hk;trivial,rfl⟩
 rw[List.length_map] at lod
 rw[eod] at eld
 refine⟨_,rfl,g0,_,_,_,rfl,rfl,SqT.of hg0,rfl,g',_,rfl,.inr (SqT.of hg),_,rfl,by trivial,by trivial,?_⟩
 rw[Int.toNat_natCast,hlw]
 refine zki (n:=ts.length) (fun σ'=>∃ o,σ'=[o,some (.ref g0)]) (fun i v J=>Two38 ts.length 1 J v) (by trivial) (by exact⟨none,rfl⟩) (fun i v H H' k h=>?_) (fun i σ' J hi s2 sg C hC=>?_) (fun Lp zs J3 hLp S3 hH3 hlz hzs=>?_)
 ·obtain⟨a,l,k',e,h1,h2⟩:=h
  exact⟨a,l,k',e,h1,k _ _ h2⟩
 ·obtain⟨o,rfl⟩:=sg
  obtain⟨ta,hta,htie⟩:=zbf hall hi
  refine⟨_,rfl,g0,_,_,_,rfl,rfl,SqT.of (s2 _ _ hg0),rfl,_,rfl,g',_,_,_,rfl,rfl,SqT.of (s2 _ _ hg),zaq (by trivial) (by rw[show (0 + (i:Int)).toNat=i by trivial];exact hta),ta,_,_,_,rfl,rfl,SqT.of (s2 _ _ htie),rfl,_,rfl,(by show 2≤1000;decide),fun a J5 S5 f5 e5=>hC _ _ _ ⟨_,rfl⟩ S5 ⟨a,(tieAt ts i).2.2,i,rfl,hi,?_⟩⟩
  rw[e5];simp
 have zs_:∀ u ∈ zs,Two38 ts.length 1 J3 u:=fun u hu=>by
  obtain⟨i,hi,rfl⟩:=List.mem_iff_getElem.mp hu
  exact hzs i zs[i] (List.getElem?_eq_getElem hi)
 obtain⟨kss,pk,kne⟩:=rows2 zs_
 refine⟨_,rfl,Lp,zs,kss,rfl,hH3,by trivial,pk,kne,fun qs pq wq l4 J4 S4 f4 h4=>?_⟩
 obtain⟨zo1,zo2⟩:=zkq pq
 refine⟨l4,rfl,⟨_,SqL.of h4⟩,?_⟩
 refine zbx h4 (fun σ'=>∃ o1 o2,σ'=[o1,o2]) (fun i v J=>∃ k:Nat,k < ts.length∧v=.int (k:Int)) (by trivial) (by exact⟨none,none,rfl⟩) (fun _ _ _ _ _ h=>h) (fun i x σ' J hx s2 sg C hC=>?_) (fun Lo ys J5 hLo S5 hH5 hly hys=>?_)
 ·obtain⟨o1,o2,rfl⟩:=sg
  obtain⟨a,l,k,rfl,hk,ha⟩:=zs_ x (zo1 x (List.mem_of_getElem? hx))
  refine⟨a,_,rfl,SqT.of (s2 _ _ (S4 _ _ ha)),rfl,_,_,rfl,_,_,rfl,rfl,?_⟩
  exact⟨_,rfl,hC _ _ _ ⟨_,_,rfl⟩ (Same.refl _) ⟨k,hk,by rw[Int.one_mul]⟩⟩
 obtain⟨os0,eos0,los0,mos0⟩:=zdx (m:=ts.length) (ys:=ys) fun u hu=>by
  obtain⟨i,hi,rfl⟩:=List.mem_iff_getElem.mp hu
  exact hys i ys[i] (List.getElem?_eq_getElem hi)
 rw[eos0] at hH5
 have S35:=S4.trans S5
 have zs5:∀ u ∈ zs,Two38 ts.length 1 J5 u:=fun u hu=>let ⟨a,l,k,e,h1,h2⟩:=zs_ u hu;⟨a,l,k,e,h1,S35 _ _ h2⟩
 have hP5:=S35 _ _ hH3
 have S25:=S3.trans S35
 dsimp only
 refine zo8 (fun σ' J=>∃ (lo:Addr) (os:List Nat),σ'=[some (.ref p),some (.ref g0),some (.int way),some (.ref ld),some (.ref Lp),some (.ref lo),none,none]∧Same H2 J∧J lo=some (.lst (natV os))∧os.length≤60∧∀ k ∈ os,k < ts.length) (fun go=>?main) ?go
 case main =>
  refine⟨_,rfl,rfl,_,rfl,ite2 (fun c=>?_) (fun c=>?_)⟩
  ·refine⟨_,rfl,Lp,rfl,⟨_,SqL.of hP5⟩,?_⟩
   refine zbx hP5 (fun σ'=>∃ o1 o2,σ'=[o1,o2]) (fun i v J=>Two38 ts.length (-1) J v) (by trivial) (by exact⟨none,none,rfl⟩) (fun i v H H' k h=>?_) (fun i x σ' J hx s2 sg C hC=>?_) (fun Ln us J6 hLn S6 hH6 hlu hus=>?_)
   ·obtain⟨a,l,k',e,h1,h2⟩:=h
    exact⟨a,l,k',e,h1,k _ _ h2⟩
   ·obtain⟨o1,o2,rfl⟩:=sg
    obtain⟨a,l,k,rfl,hk,ha⟩:=zs5 x (List.mem_of_getElem? hx)
    refine⟨a,_,rfl,SqT.of (s2 _ _ ha),rfl,_,_,rfl,_,_,rfl,rfl,?_⟩
    refine⟨_,rfl,_,rfl,_,_,rfl,rfl,(by show 2≤1000;decide),fun a' J7 S7 f7 e7=>hC _ _ _ ⟨_,_,rfl⟩ S7 ⟨a',l,k,rfl,hk,?_⟩⟩
    rw[e7]
    show some (HO.tup [V.int l,V.int (0 - 1 * (k:Int))])=_
    rw[show (0 - 1 * (k:Int))=-1 * (k:Int) by trivial]
   have us_:∀ u ∈ us,Two38 ts.length (-1) J6 u:=fun u hu=>by
    obtain⟨i,hi,rfl⟩:=List.mem_iff_getElem.mp hu
    exact hus i us[i] (List.getElem?_eq_getElem hi)
   obtain⟨kss2,pk2,kne2⟩:=rows2 us_
   refine⟨Ln,us,kss2,rfl,hH6,by trivial,pk2,kne2,fun qs2 pq2 wq2 l7 J7 S7 f7 h7=>?_⟩
   obtain⟨zo3,zo4⟩:=zkq pq2
   refine⟨l7,rfl,⟨_,SqL.of h7⟩,?_⟩
   refine zbx h7 (fun σ'=>∃ o1 o2,σ'=[o1,o2]) (fun i v J=>∃ k:Nat,k < ts.length∧v=.int (k:Int)) (by trivial) (by exact⟨none,none,rfl⟩) (fun _ _ _ _ _ h=>h) (fun i x σ' J hx s2 sg C hC=>?_) (fun Lo2 ys2 J8 hLo2 S8 hH8 hly2 hys2=>?_)
   ·obtain⟨o1,o2,rfl⟩:=sg
    obtain⟨a,l,k,rfl,hk,ha⟩:=us_ x (zo3 x (List.mem_of_getElem? hx))
    refine⟨a,_,rfl,SqT.of (s2 _ _ (S7 _ _ ha)),rfl,_,_,rfl,_,_,rfl,rfl,?_⟩
    refine⟨_,rfl,_,_,rfl,rfl,hC _ _ _ ⟨_,_,rfl⟩ (Same.refl _) ⟨k,hk,?_⟩⟩
    show V.int (0 - -1 * (k:Int))=_
    rw[show (0 - -1 * (k:Int))=(k:Int) by trivial]
   obtain⟨os1,eos1,los1,mos1⟩:=zdx (m:=ts.length) (ys:=ys2) fun u hu=>by
    obtain⟨i,hi,rfl⟩:=List.mem_iff_getElem.mp hu
    exact hys2 i ys2[i] (List.getElem?_eq_getElem hi)
   rw[eos1] at hH8
   exact go _ _ ⟨Lo2,os1,rfl,S25.trans (S6.trans (S7.trans S8)),hH8,by trivial,mos1⟩
  ·exact go _ _ ⟨Lo,os0,rfl,S25,hH5,by trivial,mos0⟩
 case go =>
 rintro _ J6 ⟨lo6,os6,rfl,S6,h6,l6,m6⟩
 refine zmw (fun σ' J=>∃ (lo:Addr) (os:List Nat),σ'=[some (.ref p),some (.ref g0),some (.int way),some (.ref ld),some (.ref Lp),some (.ref lo),none,none]∧Same H2 J∧J lo=some (.lst (natV os))∧os.length≤60∧∀ k ∈ os,k < ts.length) (fun go=>?main2) ?go2
 case main2 =>
  refine⟨_,rfl,rfl,_,rfl,ite2 (fun c=>?_) (fun c=>?_)⟩
  ·exact⟨_,rfl,go _ _ ⟨ld,od,rfl,S6,S6 _ _ eld,by trivial,mod⟩⟩
  ·exact go _ _ ⟨lo6,os6,rfl,S6,h6,l6,m6⟩
 case go2 =>
 rintro _ J7 ⟨lo7,os7,rfl,S7,h7,l7,m7⟩
 have isw7:Is K J7 (webD n ts) (.ref g0):=Is.same S7 _ (iswB b02)
 refine⟨_,rfl,_,rfl,n,ts,_,lo7,os7,rfl,isw7,ok,h7,m7,l7,fun kp ds J8 S8 mds lds h8=>?_⟩
 have S28:=S7.trans S8
 refine⟨_,rfl,g0,_,_,_,rfl,rfl,SqT.of (S28 _ _ hg0),rfl,g',_,rfl,.inr (SqT.of (S28 _ _ hg)),_,rfl,by trivial,by trivial,?_⟩
 rw[Int.toNat_natCast,hlw]
 refine zhf (n:=ts.length) (fun σ'=>∃ o,σ'=[o,some (.ref kp)]) (fun i=>if i ∈ ds then none else some (.int (i:Int))) (by trivial) (by exact⟨none,rfl⟩) (fun i σ' J' hi s2 sg C L hC hL=>?_) (fun Lt J9 hLt S9 hH9=>?_)
 ·obtain⟨o,rfl⟩:=sg
  refine⟨_,rfl,_,rfl,kp,_,rfl,.inr (SqT.of (s2 _ _ h8)),rfl,zdl ds,?_⟩
  rw[ze2 (by trivial),show (0 + (i:Int)).toNat=i by trivial]
  by_cases c:i ∈ ds
  ·exact⟨_,rfl,iteFq (by rw[decide_eq_true c];rfl) (hL _ _ ⟨_,rfl⟩ (Same.refl _) (by simp [c]))⟩
  ·refine⟨_,rfl,iteTq (by rw[decide_eq_false c];rfl) ⟨_,rfl,hC _ _ _ ⟨_,rfl⟩ (Same.refl _) ?_⟩⟩
   rw[if_neg c,show (0 + (i:Int))=(i:Int) by trivial]
 obtain⟨ot,eot,lot,mot⟩:=zdx (m:=ts.length) (ys:=(List.range ts.length).filterMap fun i=>if i ∈ ds then none else some (V.int (i:Int))) fun u hu=>by
  obtain⟨i,hi,e⟩:=List.mem_filterMap.mp hu
  refine⟨i,List.mem_range.mp hi,?_⟩
  split at e <;> cases e
  rfl
 have lfm:=List.length_filterMap_le (fun i=>if i ∈ ds then none else some (V.int (i:Int))) (List.range ts.length)
 rw[List.length_range] at lfm
 rw[eot] at hH9
 have S29:=S28.trans S9
 have lot':(natV ot).length=ot.length:=by unfold natV;rw[List.length_map]
 refine⟨_,rfl,_,rfl,Lt,rfl,⟨_,SqL.of hH9⟩,?_⟩
 refine zbx hH9 (fun σ'=>∃ o,σ'=[o,some (.ref g0),some (.ref kp)]) (fun i v J=>RowV 0 25 J v) (by trivial) (by exact⟨none,rfl⟩) (fun i v H H' k h=>h.tk k) (fun i x σ' J hx s2 sg C hC=>?_) (fun Lq vs J10 hLq S10 hH10 hlv hvs=>?_)
 ·obtain⟨o,rfl⟩:=sg
  obtain⟨k,hk,rfl⟩:=zbr hx
  have hkl:=mot k (List.mem_of_getElem? hk)
  obtain⟨ta,hta,htie⟩:=zbf hall hkl
  have tk:=ok.tie _ (za7 hkl).2
  have S_:=S29.trans s2
  refine⟨_,rfl,_,rfl,_,rfl,g0,_,_,_,rfl,rfl,SqT.of (S_ _ _ hg0),rfl,_,rfl,g',_,_,_,rfl,rfl,SqT.of (S_ _ _ hg),zaq (Int.natCast_nonneg _) hta,ta,_,_,_,rfl,rfl,SqT.of (S_ _ _ htie),rfl,?_⟩
  refine⟨_,rfl,g0,_,_,_,rfl,rfl,SqT.of (S_ _ _ hg0),rfl,_,rfl,g',_,_,_,rfl,rfl,SqT.of (S_ _ _ hg),zaq (Int.natCast_nonneg _) hta,ta,_,_,_,rfl,rfl,SqT.of (S_ _ _ htie),rfl,?_⟩
  exact⟨n,ts,_,kp,ds,_,_,rfl,Is.same S_ _ (iswB b02),ok,s2 _ _ (S9 _ _ h8),mds,by trivial,by trivial,fun l wr J' S' lw e=>hC _ _ _ ⟨_,rfl⟩ S' ⟨l,wr,rfl,e,Nat.zero_le _,lw⟩⟩
 refine⟨Lq,_,rfl,hH10,fun wp J11 S11 f11 h11=>⟨(by show 2≤1000;decide),fun t J12 S12 f12 h12=>?_⟩⟩
 have S212:=S29.trans (S10.trans (S11.trans S12))
 have k8:J12 kp=some (.tup ((keepI ds).map V.int)):=by rw[← za8];exact S12 _ _ (S11 _ _ (S10 _ _ (S9 _ _ h8)))
 refine q _ J12 (b02.trans (Same.but S212)) (p2.same S212) ⟨t,kp,wp,rfl,h12,⟨kp,keepI ds,rfl,k8,Nat.zero_le _,?_⟩,⟨wp,vs,rfl,S12 _ _ h11,by trivial,fun u hu=>?_⟩⟩
 ·unfold keepI;rw[List.length_map];trivial
 ·obtain⟨i,hi,rfl⟩:=List.mem_iff_getElem.mp hu
  exact (hvs i vs[i] (List.getElem?_eq_getElem hi)).tk (fun a xs e=>S12 _ _ (S11 _ _ e))
theorem zli {c:TT} {a b:TS} {D:L2.Ends} {σ:L2.St} {H:Hp} {r:VK} {bk ct:L2.St->Hp->Prop} (P:L2.St->Hp->Prop) (main:(∀ σ' J,P σ' J->b D σ' J)->tSeq (tIfS c a tNext) b D σ H) (go:∀ σ' J,P σ' J->b D σ' J):tNext ⟨tSeq (tIfS c a tNext) b D,r,bk,ct⟩ σ H:=main go
theorem zhh {J:Hp} {x y:Addr} {a b:List V} {R:V->Hp->Prop} (hx:J x=some (.tup a)) (hy:J y=some (.tup b)) (hl:a.length + b.length≤300) (h:∀ z J',Same J J'->J' z=some (.tup (a++b))->R (.ref z) J'):rCatA (.ref x) (.ref y) J R :=
 ⟨_,_,_,_,rfl,rfl,hx,hy,Nat.le_trans hl (by decide),fun z J' S e=>h z J' S e⟩
inductive spStep38_i (K:PySem.W.Frag) (vs:List V) (H:Hp) (Q:VK):Prop
 | mk:∀ (p:Addr) (n:Int) (ts:List Tie) (wv v:V) (j:Nat),(vs=[.ref p,wv,v])->(Pot H p)->(Is K H (webD n ts) wv)->(WebOk n ts)->(Pp38 H j v)->(j≤5)->(∀ v' H',But p H H'->Pot H' p->Pp38 H' (j + 1) v'->Q v' H')->spStep38_i K vs H Q
def spStep38 (K:PySem.W.Frag):Sp:=fun vs H Q _=>spStep38_i K vs H Q
theorem zfa (T:Bi mg) (D:DefOk K mg "_law_step" s__law_step ["pot","web","told"]) (O__law_take:Ok P w K mg base 3 "_law_take" ["pot","many"] spTake) (O__law_order:Ok P w K mg base 3 "_law_order" ["pot","many"] spOrder) (O__law_spoilt:Ok P w K mg base 3 "_law_spoilt" ["pot","row","top"] spSpo38) (O__law_grown:Ok P w K mg base 3 "_law_grown" ["web","order"] (spGrown38 K)) (O__law_path:Ok P w K mg base 3 "_law_path" ["web","keep","a","b"] (spPath38 K)):Ok P w K mg base 4 "_law_step" ["pot","web","told"] (spStep38 K):=by
 refine zbi (k:=3) D sc__law_step (fun vs H Q E h=>?_) (fun f cdv A outer s H vs Q E hr h=>?_)
 ·obtain⟨p,n,ts,wv,v,j,rfl,_⟩:=h
  rfl
 obtain⟨p,n,ts,wv,v,j,rfl,hp,isw,ok,pp,j5,q⟩:=h
 have nd:=sc__law_step.nd
 have few60:=ok.few
 have n1:=ok.n1
 have n24:=ok.n24
 obtain⟨t,kp,wp,rfl,ht,⟨kp',ns,ek,hk,_,lk⟩,⟨wp',xs,ew,hw,lw,rw_⟩⟩:=id pp
 refine⟨_,(BSs.h (zaj (BS.mk (zdf (pv 2) (zci (n:=2) rfl (zan (zah (i:=3) nd rfl (Or.inl rfl)) (zan (zah (i:=4) nd rfl (Or.inl rfl)) zba))))) (zaj (zbn (i:=5) nd rfl (Or.inl rfl) (BE.mk (zad O__law_take hr rfl (zaa (pv 0) (zaa zab zac))))) (zaj (zbn (i:=6) nd rfl (Or.inl rfl) (BE.mk (zad O__law_take hr rfl (zaa (pv 0) (zaa (zay zbw (zaf zag rfl T.z_len (by decide +kernel) (zaa (pv 4) zac)) zab) zac))))) (zaj (zb3 (zap zbe (pv 5) zab (nomark _)) (zar (zbd (zb1 (zbb (BE.mk (zad O__law_spoilt hr rfl (zaa (pv 0) (zaa (pv 3) (zaa (zaf zag rfl T.z_len (by decide +kernel) (zaa (zao zal (pv 1) zab (fun _ _=>rfl)) zac)) zac))))) (zbb (BE.mk (pv 4)) zb5))))) za6) (zaj (zb3 (PW.pt (zjk (zap zbe (pv 5) zab (nomark _)) (zf6 (zap zcy (pv 6) (zaf zag rfl T.z_len (by decide +kernel) (zaa (pv 4) zac)) (nomark _))))) (zar (zbd (zb1 (zbb (BE.mk (pv 3)) (zbb (zdc zbj (zdc zbj (BE.mk (zau zaz (pv 4) zaw (za0 (pv 6)))) (zb1 (zbb (BE.mk (zad O__law_spoilt hr rfl (zaa (pv 0) (zaa (zao zal (pv 4) (pv 6) (fun _ _=>rfl)) (zaa (zao zal (pv 1) zab (fun _ _=>rfl)) zac))))) zb5))) (BE.mk (zau zaz (pv 4) (za0 (zay zbw (pv 6) zab)) zaw))) zb5))))) za6) (zaj (zb3 (zap zbe (pv 5) zab (nomark _)) (zar (zbd (zb1 (zbb (BE.mk (pv 3)) (zbb (zqr za2 (ziy (zbb (zdc zbj (BE.mk (zau zaz (pv 4) zaw (za0 (pv 6)))) (BE.mk (zau zaz (pv 4) (za0 (zay zbw (pv 6) zab)) zaw))) (zbb (zdc zbj (BE.mk (zau zaz (pv 4) zaw (za0 (pv 6)))) (BE.mk (zau zaz (pv 4) (za0 (zaf (zcr rfl) rfl T.z_max (by decide +kernel) (zaa zab (zaa (zay zck (pv 6) zab) zac)))) zaw))) (zbb (zdc zbj (BE.mk (zau zaz (pv 4) (za0 (pv 6)) zaw)) (BE.mk (zau zaz (pv 4) zaw (za0 (pv 6))))) (zbb (zdc zbj (BE.mk (pv 4)) (zb1 (zbb (zb1 zb5) zb5))) zb5))))) (BE.mk (zad O__law_take hr rfl (zaa (pv 0) (zaa zab zac)))) (fun _ _=>rfl)) zb5))))) za6) (zaj (zb3 (PW.pt (zjk (zap zcy (pv 6) (zaf zag rfl T.z_len (by decide +kernel) (zaa (pv 4) zac)) (nomark _)) (zf6 (zap zlf (zaf zag rfl T.z_len (by decide +kernel) (zaa (zao zal (pv 1) zab (fun _ _=>rfl)) zac)) zab (nomark _))))) (zaj (zbn (i:=7) nd rfl (Or.inl rfl) (BE.mk (zad O__law_grown hr rfl (zaa (pv 1) (zaa (zad O__law_order hr rfl (zaa (pv 0) (zaa (zaf zag rfl T.z_len (by decide +kernel) (zaa (zao zal (pv 1) zab (fun _ _=>rfl)) zac)) zac))) zac))))) (zaj (BS.mk (zdf (zao zal (zao zal (pv 1) zab (fun _ _=>rfl)) (zad O__law_take hr rfl (zaa (pv 0) (zaa (zaf zag rfl T.z_len (by decide +kernel) (zaa (zao zal (pv 1) zab (fun _ _=>rfl)) zac)) zac))) (fun _ _=>rfl)) (zci (n:=3) rfl (zan (zah (i:=8) nd rfl (Or.inl rfl)) (zan (zah (i:=9) nd rfl (Or.inl rfl)) (zan (zah (i:=10) nd rfl (Or.inl rfl)) zba)))))) (zar (zbd (zb1 (zbb (BE.mk (pv 3)) (zbb (zdc zbj (zdc zbj (BE.mk (zau zaz (pv 4) zaw (za0 (pv 6)))) (zb1 (zbb (BE.mk (zad O__law_path hr rfl (zaa (pv 1) (zaa (pv 7) (zaa (pv 8) (zaa (pv 9) zac)))))) zb5))) (BE.mk (zau zaz (pv 4) (za0 (zay zbw (pv 6) zab)) zaw))) zb5))))))) za6) (zar (zbd (BE.mk (pv 2)))))))))))),?_⟩
 injection ek with ek
 injection ew with ew
 subst ek
 subst ew
 refine⟨_,rfl,t,_,rfl,SqT.of ht,rfl,_,_,rfl,_,_,rfl,rfl,?_⟩
 refine⟨_,rfl,p,4,rfl,hp,by decide,by decide,fun kind H1 w0 w1 b1 p1=>?_⟩
 have hw1:=zbt b1 hp _ _ hw
 refine⟨_,rfl,_,rfl,wp,_,rfl,.inr (SqT.of hw1),_,_,rfl,rfl,p,_,rfl,p1,by trivial,by trivial,fun at_ H2 a0 a1 b2 p2=>?_⟩
 obtain⟨k,rfl⟩:∃ k:Nat,at_=k:=⟨at_.toNat,by trivial⟩
 have b02:=b1.trans b2
 have tk2:TupKeep H H2:=fun a ys e=>zbt b2 p1 _ _ (zbt b1 hp _ _ e)
 have isw2:Is K H2 (webD n ts) wv:=by
  obtain⟨zs,e⟩:=hp.lst
  exact Is.but b02 e _ (zel n ts) isw
 obtain⟨g0,g,ws,rfl,hg0,hg,hall,hlw⟩:=za1 isw2
 have hk2:=tk2 _ _ hk
 have hw2:=tk2 _ _ hw
 have fin:∀ {J J':Hp} {a z:Addr},But p H J->Pot J p->TupKeep H J->∀ {zs:List V},J z=some (.tup zs)->zs.length≤60 + (j + 1)->(∀ u ∈ zs,RowV 0 (25 + (j + 1)) J u)->Same J J'->J' a=some (.tup [.ref kp,.ref z])->Q (.ref a) J':=fun {J J' a z} bJ pJ tJ {zs} hz lz rz S e =>
  q _ J' (bJ.trans (Same.but S)) (pJ.same S) ⟨a,kp,z,rfl,e,⟨kp,ns,rfl,S _ _ (tJ _ _ hk),Nat.zero_le _,by trivial⟩,⟨z,zs,rfl,S _ _ hz,lz,fun u hu=>(rz u hu).tk (Same.tk S)⟩⟩
 have rows:∀ {J:Hp},TupKeep H J->∀ u ∈ xs,RowV 0 (25 + (j + 1)) J u:=fun tJ u hu=>let ⟨q',gs,e4,h4,l5,l6⟩:=rw_ u hu;⟨q',gs,e4,tJ _ _ h4,l5,by trivial⟩
 refine⟨_,rfl,rfl,_,rfl,ite2 (fun _=>?_) (fun c0=>?_)⟩
 ·refine⟨_,rfl,_,rfl,_,rfl,g0,_,_,_,rfl,rfl,SqT.of hg0,rfl,g,_,rfl,.inr (SqT.of hg),p,kp,_,ns,rfl,p2,by trivial,by trivial,hk2,by trivial,fun r js H3 b3 p3 h3 l3=>?_⟩
  refine⟨_,rfl,(by show 2≤1000;decide),fun t' J4 S4 f4 h4=>?_⟩
  have tk3:TupKeep H H3:=fun a ys e=>zbt b3 p2 _ _ (tk2 _ _ e)
  refine q _ J4 (b02.trans (b3.trans (Same.but S4))) (p3.same S4) ⟨t',r,wp,rfl,h4,⟨r,js,rfl,S4 _ _ h3,Nat.zero_le _,by trivial⟩,⟨wp,xs,rfl,S4 _ _ (tk3 _ _ hw),by trivial,fun u hu=>(rows tk3 u hu).tk (Same.tk S4)⟩⟩
  -- one way spoilt
 refine zli (fun σ' J=>σ'=[some (.ref p),some (.ref g0),some (.ref t),some (.ref kp),some (.ref wp),some (.int kind),some (.int (k:Int)),none,none,none,none]∧H2=J) (fun go=>?main) ?go
 case main =>
  refine⟨_,rfl,rfl,_,rfl,ite2 (fun _=>?_) (fun _=>iteF (go _ _ ⟨rfl,rfl⟩))⟩
  refine⟨_,rfl,_,rfl,wp,_,rfl,.inr (SqT.of hw2),_,_,rfl,rfl,_,rfl,?_⟩
  by_cases c2:(k:Int) < (xs.length:Int)
  case neg=>exact iteFq (decide_eq_false c2) (go _ _ ⟨rfl,rfl⟩)
  refine iteTq (decide_eq_true c2) ?_
  have kl:k < xs.length:=by trivial
  obtain⟨r,gs,e4,h4,_,l4⟩:=rw_ xs[k] (List.getElem_mem kl)
  refine⟨_,rfl,_,rfl,_,rfl,_,rfl,wp,_,rfl,hw2,fun x1 J1 S1 g1=>?_⟩
  rw[zda] at g1
  have ax:atI xs (k:Int)=some (.ref r):=zaq (Int.natCast_nonneg _) (by rw[Int.toNat_natCast,List.getElem?_eq_getElem kl,e4])
  refine⟨_,rfl,_,rfl,_,rfl,wp,_,_,_,rfl,rfl,SqT.of (S1 _ _ hw2),ax,_,rfl,g0,_,_,_,rfl,rfl,SqT.of (S1 _ _ hg0),rfl,p,r,n,gs,rfl,p2.same S1,by trivial,by trivial,S1 _ _ (tk2 _ _ h4),by trivial,fun r' js H3 b3 p3 h3 l3=>?_⟩
  have tk13:TupKeep J1 H3:=zbt b3 (p2.same S1)
  have tk3:TupKeep H H3:=fun a ys e=>tk13 _ _ (S1 _ _ (tk2 _ _ e))
  refine⟨(by show 1≤1000;decide),fun x2 J4 S4 f4 g4=>zhh (S4 _ _ (tk13 _ _ g1)) g4 (by rw[List.length_take];simp;trivial) fun x3 J5 S5 g5=>?_⟩
  have tk5:TupKeep H J5:=fun a ys e=>S5 _ _ (S4 _ _ (tk3 _ _ e))
  refine⟨_,rfl,_,rfl,_,_,rfl,rfl,_,rfl,wp,_,rfl,tk5 _ _ hw,fun x4 J6 S6 g6=>?_⟩
  rw[show (k:Int) + 1=((k + 1:Nat):Int) from rfl,zb0] at g6
  refine zhh (S6 _ _ g5) g6 (by simp;trivial) fun x5 J7 S7 g7=>⟨(by show 2≤1000;decide),fun t' J8 S8 f8 h8=>?_⟩
  have S47:=S4.trans (S5.trans (S6.trans S7))
  refine fin (b02.trans ((Same.but S1).trans (b3.trans (Same.but S47)))) (p3.same S47) (fun a ys e=>S47 _ _ (tk3 _ _ e)) g7 (by simp;trivial) (fun u hu=>?_) S8 h8
  rcases List.mem_append.mp hu with hu | hu
  ·rcases List.mem_append.mp hu with hu | hu
   ·exact rows (fun a ys e=>S47 _ _ (tk3 _ _ e)) u (List.mem_of_mem_take hu)
   ·rw[show u=.ref r' by simpa using hu]
    exact⟨r',js,rfl,S47 _ _ h3,Nat.zero_le _,by trivial⟩
  ·exact rows (fun a ys e=>S47 _ _ (tk3 _ _ e)) u (List.mem_of_mem_drop hu)
 case go =>
 rintro _ _ ⟨rfl,rfl⟩
 refine⟨_,rfl,rfl,_,rfl,ite2 (fun _=>?_) (fun c2=>?_)⟩
 ·refine⟨_,rfl,?_⟩
  refine⟨_,rfl,_,rfl,_,rfl,wp,_,rfl,hw2,fun x1 J1 S1 g1=>?_⟩
  rw[zda] at g1
  refine⟨_,rfl,_,rfl,_,_,rfl,rfl,_,rfl,wp,_,rfl,S1 _ _ hw2,fun x2 J2 S2 g2=>?_⟩
  rw[show (k:Int) + 1=((k + 1:Nat):Int) from rfl,zb0] at g2
  refine zhh (S2 _ _ g1) g2 (by simp;trivial) fun x3 J3 S3 g3=>?_
  have S13:=S1.trans (S2.trans S3)
  refine⟨_,rfl,_,rfl,_,rfl,wp,_,rfl,S13 _ _ hw2,fun x4 J4 S4 g4=>?_⟩
  rw[zda] at g4
  obtain⟨m,em⟩:∃ m:Nat,(if (k:Int) - 1 > 0 then (k:Int) - 1 else 0)=(m:Int):=⟨k - 1,by split <;> trivial⟩
  have ml:k≤m + 1:=by split at em <;> trivial
  refine⟨_,rfl,_,rfl,_,_,rfl,rfl,_,_,rfl,_,rfl,wp,_,rfl,(S13.trans S4) _ _ hw2,fun x5 J5 S5 g5=>?_⟩
  rw[em,zb0] at g5
  refine zhh (S5 _ _ g4) g5 (by simp;trivial) fun x6 J6 S6 g6=>?_
  have S16:=S13.trans (S4.trans (S5.trans S6))
  refine⟨_,rfl,_,rfl,_,rfl,wp,_,rfl,S16 _ _ hw2,fun x7 J7 S7 g7=>?_⟩
  rw[zb0] at g7
  refine⟨_,rfl,_,rfl,_,rfl,wp,_,rfl,(S16.trans S7) _ _ hw2,fun x8 J8 S8 g8=>?_⟩
  rw[zda] at g8
  refine zhh (S8 _ _ g7) g8 (by simp;trivial) fun x9 J9 S9 g9=>?_
  have S19:=S16.trans (S7.trans (S8.trans S9))
  refine⟨_,rfl,(by show 0≤1000;decide),fun y1 K1 T1 f1 h1=>⟨(by show 1≤1000;decide),fun y2 K2 T2 f2 h2=>?_⟩⟩
  refine zhh ((S19.trans (T1.trans T2)) _ _ hw2) h2 (by simp;trivial) fun y3 K3 T3 h3=>⟨(by show 4≤1000;decide),fun y4 K4 T4 f4 h4=>?_⟩
  have T14:=T1.trans (T2.trans (T3.trans T4))
  have S14:=S19.trans T14
  have pK4:=p2.same S14
  have ny:y4≠p:=by
   obtain⟨zs,e⟩:=(p2.same (S19.trans (T1.trans (T2.trans T3)))).lst
   exact fun z=>by rw[z,e] at f4;cases f4
  refine⟨_,rfl,p,4,rfl,pK4,by decide,by decide,fun r K5 r0 r1 b5 p5=>?_⟩
  have tk45:=zbt b5 pK4
  have tkF:TupKeep H K5:=fun a ys e=>tk45 _ _ (S14 _ _ (tk2 _ _ e))
  have up3:∀ {a:Addr} {ys:List V},J3 a=some (.tup ys)->K5 a=some (.tup ys):=fun e=>tk45 _ _ (T14 _ _ ((S4.trans (S5.trans (S6.trans (S7.trans (S8.trans S9))))) _ _ e))
  have up6:∀ {a:Addr} {ys:List V},J6 a=some (.tup ys)->K5 a=some (.tup ys):=fun e=>tk45 _ _ (T14 _ _ ((S7.trans (S8.trans S9)) _ _ e))
  have up9:∀ {a:Addr} {ys:List V},J9 a=some (.tup ys)->K5 a=some (.tup ys):=fun e=>tk45 _ _ (T14 _ _ e)
  have pick:∃ (z:Addr) (zs:List V),atI [V.ref x3,.ref x6,.ref x9,.ref y3] r=some (.ref z)∧K5 z=some (.tup zs)∧zs.length≤60 + (j + 1)∧∀ u ∈ zs,RowV 0 (25 + (j + 1)) K5 u:=by
   have:r=0∨r=1∨r=2∨r=3:=by trivial
   rcases this with e | e | e | e <;> rw[e]
   ·exact⟨x3,_,rfl,up3 g3,by simp;trivial,fun u hu=>rows tkF u ((List.mem_append.mp hu).elim List.mem_of_mem_take List.mem_of_mem_drop)⟩
   ·exact⟨x6,_,rfl,up6 g6,by simp;trivial,fun u hu=>rows tkF u ((List.mem_append.mp hu).elim List.mem_of_mem_take List.mem_of_mem_drop)⟩
   ·exact⟨x9,_,rfl,up9 g9,by simp;trivial,fun u hu=>rows tkF u ((List.mem_append.mp hu).elim List.mem_of_mem_drop List.mem_of_mem_take)⟩
   ·refine⟨y3,_,rfl,tk45 _ _ (T4 _ _ h3),by simp;trivial,fun u hu=>?_⟩
    rcases List.mem_append.mp hu with hu | hu
    ·exact rows tkF u hu
    ·rw[show u=.ref y1 by simpa using hu]
     exact⟨y1,[],rfl,tk45 _ _ ((T2.trans (T3.trans T4)) _ _ h1),Nat.zero_le _,Nat.zero_le _⟩
  obtain⟨z,zs,ez,hz,lz,rz⟩:=pick
  refine⟨y4,_,_,_,rfl,rfl,SqL.of (b5 _ _ ny h4),ez,(by show 2≤1000;decide),fun t' K6 T6 f6 h6=>?_⟩
  exact fin (b02.trans ((Same.but S14).trans b5)) p5 tkF hz lz rz T6 h6
  -- another way
 have same:Pp38 H2 (j + 1) (.ref t):=(pp.tk tk2).up (by trivial)
 refine zli (fun σ' J=>σ'=[some (.ref p),some (.ref g0),some (.ref t),some (.ref kp),some (.ref wp),some (.int kind),some (.int (k:Int)),none,none,none,none]∧H2=J) (fun go=>?main2) ?go2
 case main2 =>
  refine⟨_,rfl,_,rfl,wp,_,rfl,.inr (SqT.of hw2),_,_,rfl,rfl,_,rfl,?_⟩
  by_cases c2:(k:Int) < (xs.length:Int)
  case neg=>exact iteFq (decide_eq_false c2) (iteF (go _ _ ⟨rfl,rfl⟩))
  refine iteTq (decide_eq_true c2) ?_
  refine⟨_,rfl,g0,_,_,_,rfl,rfl,SqT.of hg0,rfl,g,_,rfl,.inr (SqT.of hg),_,_,rfl,rfl,_,rfl,?_⟩
  by_cases c3:(ws.length:Int) > 0
  case neg=>exact iteFq (decide_eq_false c3) (go _ _ ⟨rfl,rfl⟩)
  refine iteTq (decide_eq_true c3) ?_
  refine⟨_,rfl,_,rfl,_,rfl,g0,_,_,_,rfl,rfl,SqT.of hg0,rfl,g,_,rfl,.inr (SqT.of hg),p,_,rfl,p2,by trivial,by trivial,fun lo H3 ms b3 p3 flo nlo elo pm=>?_⟩
  have lms:ms.length=ts.length:=by have:=pm.length_eq;rw[List.length_map,List.length_range] at this;trivial
  obtain⟨od,eod,lod,mod⟩:∃ os:List Nat,ms.map V.int=natV os∧os.length=(ms.map V.int).length∧∀ k ∈ os,k < ts.length:=zdx fun u hu=>by
   obtain⟨m,hm,rfl⟩:=List.mem_map.mp hu
   obtain⟨k,hk,rfl⟩:=List.mem_map.mp (pm.mem_iff.mp hm)
   exact⟨k,by have:=List.mem_range.mp hk;trivial,rfl⟩
  rw[List.length_map] at lod
  rw[eod] at elo
  have isw3:Is K H3 (webD n ts) (.ref g0):=by
   obtain⟨zs,e⟩:=p2.lst
   exact Is.but b3 e _ (zel n ts) isw2
  refine⟨n,ts,_,lo,od,rfl,isw3,ok,elo,mod,by trivial,fun dp ds H4 S4 mds lds h4=>?_⟩
  have p4:=p3.same S4
  have tk23:=zbt b3 p2
  refine⟨_,rfl,g0,_,_,_,rfl,rfl,SqT.of (S4 _ _ (tk23 _ _ hg0)),rfl,_,rfl,_,rfl,g0,_,_,_,rfl,rfl,SqT.of (S4 _ _ (tk23 _ _ hg0)),rfl,g,_,rfl,.inr (SqT.of (S4 _ _ (tk23 _ _ hg))),p,_,rfl,p4,by trivial,by trivial,fun r H5 r0 r1 b5 p5=>?_⟩
  have tk25:TupKeep H2 H5:=fun a ys e=>zbt b5 p4 _ _ (S4 _ _ (tk23 _ _ e))
  have tk5:TupKeep H H5:=fun a ys e=>tk25 _ _ (tk2 _ _ e)
  have rl:r.toNat < ts.length:=by trivial
  obtain⟨ta,hta,htie⟩:=zbf hall rl
  have tk:=ok.tie _ (za7 rl).2
  refine⟨g,_,_,_,rfl,rfl,SqT.of (tk25 _ _ hg),zaq r0 hta,ta,_,rfl,SqT.of (tk25 _ _ htie),rfl,_,_,rfl,_,_,rfl,_,_,rfl,rfl,?_⟩
  have isw5:Is K H5 (webD n ts) (.ref g0):=by
   obtain⟨zs,e⟩:=p4.lst
   exact Is.but b5 e _ (zel n ts) (Is.same S4 _ isw3)
  have b25:But p H H5:=b02.trans (b3.trans ((Same.but S4).trans b5))
  refine⟨_,rfl,_,rfl,_,rfl,_,rfl,wp,_,rfl,tk5 _ _ hw,fun x1 J1 S1 g1=>?_⟩
  rw[zda] at g1
  refine⟨_,rfl,_,rfl,_,rfl,_,rfl,n,ts,_,dp,ds,_,_,rfl,Is.same S1 _ isw5,ok,S1 _ _ (zbt b5 p4 _ _ h4),mds,by trivial,by trivial,fun r' js J2 S2 l3 h3=>?_⟩
  refine⟨(by show 1≤1000;decide),fun x2 J4 S4' f4 g4=>zhh (S4' _ _ (S2 _ _ g1)) g4 (by rw[List.length_take];simp;trivial) fun x3 J5 S5 g5=>?_⟩
  have S15:=S1.trans (S2.trans (S4'.trans S5))
  refine⟨_,rfl,_,rfl,_,_,rfl,rfl,_,rfl,wp,_,rfl,S15 _ _ (tk5 _ _ hw),fun x4 J6 S6 g6=>?_⟩
  rw[show (k:Int) + 1=((k + 1:Nat):Int) from rfl,zb0] at g6
  refine zhh (S6 _ _ g5) g6 (by simp;trivial) fun x5 J7 S7 g7=>⟨(by show 2≤1000;decide),fun t' J8 S8 f8 h8=>?_⟩
  have S17:=S15.trans (S6.trans S7)
  have S47:=S4'.trans (S5.trans (S6.trans S7))
  refine fin (b25.trans (Same.but S17)) (p5.same S17) (fun a ys e=>S17 _ _ (tk5 _ _ e)) g7 (by simp;trivial) (fun u hu=>?_) S8 h8
  rcases List.mem_append.mp hu with hu | hu
  ·rcases List.mem_append.mp hu with hu | hu
   ·exact rows (fun a ys e=>S17 _ _ (tk5 _ _ e)) u (List.mem_of_mem_take hu)
   ·rw[show u=.ref r' by simpa using hu]
    exact⟨r',js,rfl,S47 _ _ h3,Nat.zero_le _,by trivial⟩
  ·exact rows (fun a ys e=>S17 _ _ (tk5 _ _ e)) u (List.mem_of_mem_drop hu)
 case go2 =>
 rintro _ _ ⟨rfl,rfl⟩
 exact⟨_,rfl,q _ _ b02 p2 same⟩
theorem zfc (T:Bi mg) (D:DefOk K mg "_law_most" s__law_most ["pot","k","most"]) (O__law_take:Ok P w K mg base 1 "_law_take" ["pot","many"] spTake):Ok P w K mg base 2 "_law_most" ["pot","k","most"] spMost3:=by
 refine zbi (k:=1) D sc__law_most (fun vs H Q E h=>?_) (fun f cdv A outer s H vs Q E hr h=>?_)
 ·obtain⟨p,k,m,rfl,_⟩:=h
  rfl
 obtain⟨p,k,m,rfl,hp,m1,m24,q⟩:=h
 have nd:=sc__law_most.nd
 refine⟨_,(zak (zav (zao za2 (zc5 (zaa (pv 2) (zaa zab zac))) (zax zmc rfl T.z_int (by decide +kernel) (zaa (zcj (za3 zbe (pv 1) zab (nomark _)) (zb9 (za3 zbe (zad O__law_take hr rfl (zaa (pv 0) (zaa zab zac))) zab (nomark _)))) zac)) (fun _ _=>rfl)))),?_⟩
 refine⟨_,rfl,(by show 2≤1000;decide),fun l1 J1 S1 f1 e1=>?_⟩
 have nl:l1≠p:=fun z=>by
  obtain⟨a',b',e',_⟩:=hp
  rw[z,e'] at f1;cases f1
 have B1:But p H J1:=Same.but S1
 refine⟨_,rfl,rfl,_,rfl,ite2 (fun c=>?_) (fun c=>?_)⟩
 ·refine⟨_,rfl,p,8,rfl,hp.same S1,by decide,by decide,fun r J2 _ _ b2 p2=>⟨rfl,.inr ⟨_,rfl,?_⟩⟩⟩
  cases decide (V.int r=V.int 0) with
  | true=>exact⟨l1,_,_,_,rfl,rfl,SqL.of (b2 _ _ nl e1),rfl,q 24 J2 (B1.trans b2) p2 (by decide) (by decide)⟩
  | false=>exact⟨l1,_,_,_,rfl,rfl,SqL.of (b2 _ _ nl e1),rfl,q m J2 (B1.trans b2) p2 m1 m24⟩
 ·exact .inr ⟨_,rfl,l1,_,_,_,rfl,rfl,SqL.of e1,rfl,q m J1 B1 (hp.same S1) m1 m24⟩
inductive spLaw_i (K:PySem.W.Frag) (vs:List V) (H:Hp) (Q:VK):Prop
 | mk:∀ (a:Addr) (ns:List Int),(vs=[.ref a])->(SqL K H a (ns.map V.int))->(ns.length≤63)->(∀ H',Q (.bl true) H')->spLaw_i K vs H Q
def spLaw (K:PySem.W.Frag):Sp:=fun vs H Q _=>spLaw_i K vs H Q
theorem zp3 {f:Addr} {fd:FuncData} (T:Bi mg) (F:Fun K "law" "law" s_law f fd) (O__law_pot:Ok P w K mg base 8 "_law_pot" ["script","k"] (spPot K)) (O__law_take:Ok P w K mg base 8 "_law_take" ["pot","many"] spTake) (O__law_most:Ok P w K mg base 8 "_law_most" ["pot","k","most"] spMost3) (O__law_web:Ok P w K mg base 8 "_law_web" ["pot","most"] (spWeb K))
  (O__law_start:Ok P w K mg base 8 "_law_start" ["pot","web"] (spStart38 K)) (O__law_step:Ok P w K mg base 8 "_law_step" ["pot","web","told"] (spStep38 K)) (O__law_forest_shown:Ok P w K mg base 8 "_law_forest_shown" ["web","keep","ways"] (spForL K)) (O_forest_right:Ok P w K mg base 8 "forest_right" ["web","told"] (spForI K)):FnOk P w K mg base CX0 9 f fd ["script"] (spLaw K):=by
 refine F.ok (k:=8) sc_law (fun vs H Q E h=>?_) (fun cdv A outer s H vs Q E hr h=>?_)
 ·obtain⟨a,ns,rfl,_⟩:=h
  rfl
 obtain⟨a,ns,rfl,hS,h63,q⟩:=h
 have nd:=sc_law.nd
 have hl:(ns.map V.int).length=ns.length:=List.length_map _
 refine⟨_,(BSs.h (zaj (zcf PassesOwn.never rfl (zbh rfl T.z_range (zaa (zaf (zcr rfl) rfl T.z_max (by decide +kernel) (zaa zab (zaa (zaf (zhl rfl) rfl T.z_min (by decide +kernel) (zaa zab (zaa (zaf zag rfl T.z_len (by decide +kernel) (zaa (pv 0) zac)) zac))) zac))) zac)) (zah (i:=1) nd rfl (Or.inl rfl)) (zaj (zbn (i:=2) nd rfl (Or.inl rfl) (BE.mk (zad O__law_pot hr rfl (zaa (pv 0) (zaa (pv 1) zac))))) (zaj (zbn (i:=3) nd rfl (Or.inl rfl) (BE.mk (zad O__law_take hr rfl (zaa (pv 2) (zaa zab zac))))) (zaj (zbn (i:=4) nd rfl (Or.inl rfl) (BE.mk (zad O__law_web hr rfl (zaa (pv 2) (zaa (zad O__law_most hr rfl (zaa (pv 2) (zaa (pv 1) (zaa zab zac)))) zac))))) (zaj (zbn (i:=5) nd rfl (Or.inl rfl) (BE.mk (zad O__law_start hr rfl (zaa (pv 2) (zaa (pv 4) zac))))) (zaj (zcf PassesOwn.never rfl (zbh rfl T.z_range (zaa (pv 3) zac)) (zah (i:=6) nd rfl (Or.inl rfl)) (zar (zbn (i:=5) nd rfl (Or.inl rfl) (BE.mk (zad O__law_step hr rfl (zaa (pv 2) (zaa (pv 4) (zaa (pv 5) zac)))))))) (zaj (zbn (i:=7) nd rfl (Or.inl rfl) (BE.mk (zad O__law_forest_shown hr rfl (zaa (pv 4) (zaa (zao zal (pv 5) zab (fun _ _=>rfl)) (zaa (zao zal (pv 5) zab (fun _ _=>rfl)) zac)))))) (zaj (zbn (i:=8) nd rfl (Or.inl rfl) (BE.mk (zad O_forest_right hr rfl (zaa (pv 4) (zaa (pv 5) zac))))) (zar (zb3 (PW.pt (zgz (zc2 (zcm (zaf (zcx (n:="bool")) rfl T.z_isinstance (by decide +kernel) (zaa (pv 8) (zaa (zdu (v:=.ty "bool") rfl T.z_bool (by decide +kernel) rfl) zac))))) (zen (zap zj9 (pv 8) (pv 7) (nomark _))))) (zar (zbd (BE.mk zc6))) za6)))))))))) (zar (zbd (BE.mk zc6))))),?_⟩
 refine⟨_,rfl,a,_,rfl,.inl hS,_,_,rfl,_,_,rfl,_,rfl,?_,?_,?_⟩
 ·split <;> split <;> trivial
 ·rw[hl];split <;> split <;> trivial
 generalize hj:(if (if (((ns.map V.int).length:Nat):Int) < 4 then (((ns.map V.int).length:Nat):Int) else 4) > 1 then (if (((ns.map V.int).length:Nat):Int) < 4 then (((ns.map V.int).length:Nat):Int) else 4) else 1)=j
 have j4:j≤4:=by rw[← hj];split <;> split <;> trivial
 refine zbs (n:=j.toNat) (fun i σ H'=>∃ x1 x2 x3 x4 x5 x6 x7 x8:Option V,σ=[some (.ref a),x1,x2,x3,x4,x5,x6,x7,x8]∧Same H H') ⟨none,none,none,none,none,none,none,none,rfl,Same.refl H⟩ ?turn (fun σ H' h=>?_)
 case turn =>
  rintro i σ H0 hi ⟨x1,x2,x3,x4,x5,x6,x7,x8,rfl,s0⟩
  refine⟨_,rfl,_,rfl,a,_,ns,rfl,s0.seq hS,by trivial,by trivial,fun l H1 s1 fl p1=>?_⟩
  have s01:Same H H1:=s0.trans s1
  have fl0:H l=none:=s0.free fl
  refine⟨_,rfl,l,4,rfl,p1,by decide,by decide,fun mn H2 m0 m1 b2 p2=>?_⟩
  refine⟨_,rfl,_,rfl,_,rfl,l,_,8,rfl,p2,by decide,by decide,fun m H3 b3 p3 ma mb=>?_⟩
  refine⟨l,m,rfl,p3,ma,mb,fun wv H4 n ts b4 p4 ok nm isw=>?_⟩
  refine⟨_,rfl,_,rfl,l,n,ts,wv,rfl,p4,isw,ok,fun v H5 b5 p5 pp5=>?_⟩
  have webB_:∀ {J:Hp},But l H4 J->Is K J (webD n ts) wv:=fun b=>by
   obtain⟨xs,e⟩:=p4.lst
   exact Is.but b e _ (zel n ts) isw
  refine⟨_,rfl,_,rfl,by trivial,by trivial,?_⟩
  refine zbs (n:=mn.toNat) (fun i' σ J=>∃ (v':V) (y6:Option V),σ=[some (.ref a),some (.int (0 + (i:Int))),some (.ref l),some (.int mn),some wv,some v',y6,x7,x8]∧But l H4 J∧Pot J l∧Pp38 J i' v') ⟨v,_,rfl,b5,p5,pp5⟩ ?in1 (fun σ J h=>?_)
  case in1 =>
   rintro i' σ J hi' ⟨v',y6,rfl,bj,pj,pp⟩
   exact⟨_,rfl,_,rfl,_,rfl,l,n,ts,wv,v',i',rfl,pj,webB_ bj,ok,pp,by trivial,fun v2 J2 b2' p2' pp2=>⟨v2,_,rfl,bj.trans b2',p2',pp2⟩⟩
  obtain⟨v',y6,rfl,bj,pj,pp⟩:=h
  obtain⟨t,kp,wp,rfl,ht,⟨kp',hs,ek,hk,_,lk⟩,pw⟩:=pp.up (show mn.toNat≤3 by trivial)
  injection ek with ek
  subst ek
  obtain⟨wp',ww,ew,ipw,lw,rwl⟩:=PapV.pap (K:=K) pw
  injection ew with ew
  subst ew
  have isw6:=webB_ bj
  have rw40:∀ r ∈ ww,r.length≤40:=fun r hr=>by have:=(rwl r hr).2;trivial
  refine⟨_,rfl,_,rfl,t,_,_,_,rfl,rfl,SqT.of ht,rfl,_,rfl,t,_,_,_,rfl,rfl,SqT.of ht,rfl,n,ts,wv,kp,wp,hs,ww,rfl,isw6,ok,⟨hk,by trivial⟩,ipw,by trivial,rw40,fun J7 S7=>?_⟩
  refine⟨_,rfl,_,rfl,n,ts,wv,t,kp,wp,hs,ww,rfl,Is.same S7 _ isw6,ok,S7 _ _ ht,⟨S7 _ _ hk,by trivial⟩,Is.same S7 _ ipw,by trivial,rw40,fun J8 S8=>?_⟩
  refine⟨_,rfl,_,_,_,rfl,TyOf.bl _,rfl,_,rfl,iteF ⟨_,rfl,_,rfl,rfl,_,rfl,iteFq (by simp) ?_⟩⟩
  have BB:But l H1 J8:=b2.trans (b3.trans (b4.trans (bj.trans (Same.but (S7.trans S8)))))
  exact⟨_,_,_,_,_,_,_,_,rfl,fun b o e=>BB _ _ (zat e fl0) (s01 _ _ e)⟩
 obtain⟨x1,x2,x3,x4,x5,x6,x7,x8,rfl,s0⟩:=h
 exact q H'
end
end Me
namespace Me
open PySem PySem.Spec PyProof.Rows L2 L3
theorem zqf {K:PySem.W.Frag} {h:Heap} {mg:Str->Option Value} {x:Str} {st:Stmt} {ps:List Str} {f:Addr} {od an:Option Addr} {sl:Array (Option Value)} {oc kV dc pm cd ct:Value} (X:K.In h) (G:h.Ns mainGlobals mg)
  (b:∀ (kV doc pm:Value) (an:Option Addr) (cdv ct:Value) (us:List Value),us.length=ps.length->bindArgs (PySem.W.fnOf x x (defArgs st) (defBody st) (defScope st) .none kV doc pm an cdv ct) ⟨us,[]⟩=pure (ps.zip us))
  (a:PySem.W.nsIn K mainGlobals x=some (some (.ref f))) (l:K.lookup f=some ⟨oc,od,.func (PySem.W.fnOf x x (defArgs st) (defBody st) (defScope st) .none kV dc pm an cd ct),sl⟩) (c:PySem.W.codeIn K cd x=true) (k:PySem.W.keepIn K (.ref f)=true):DefOk K mg x st ps:=by
 have F:=zn2 (st:=st) l c k
 exact⟨f,_,F,F.binds b,PySem.W.mg_of X G a⟩
theorem dq {p:Program} {K:PySem.W.Frag} {h:Heap} {mg:Str->Option Value} {x:Str} {st:Stmt} {ps:List Str} (f c j u:Nat) (X:K.In h) (G:h.Ns mainGlobals mg)
  (b:∀ (kV doc pm:Value) (an:Option Addr) (cdv ct:Value) (us:List Value),us.length=ps.length->bindArgs (PySem.W.fnOf x x (defArgs st) (defBody st) (defScope st) .none kV doc pm an cdv ct) ⟨us,[]⟩=pure (ps.zip us))
  (a:PySem.W.nsIn K mainGlobals x=some (some (.ref f))) (l:K.lookup f=some ⟨.type "function",none,.func (PySem.W.fnOf x x (defArgs st) (defBody st) (defScope st) .none .none .none (Hx.mdV p ⟨0,0,0,j,u,0⟩) none (.ref c) .none),#[]⟩) (cc:PySem.W.codeIn K (.ref c) x=true) (k:PySem.W.keepIn K (.ref f)=true):DefOk K mg x st ps:=zqf X G b a l cc k
theorem zi1 (kV doc pm:Value) (an:Option Addr) (cdv ct:Value) (us:List Value) (hl:us.length=(["thing"]:List Str).length):bindArgs (PySem.W.fnOf "is_whole" "is_whole" (defArgs s_is_whole) (defBody s_is_whole) (defScope s_is_whole) .none kV doc pm an cdv ct) ⟨us,[]⟩=pure (List.zip (["thing"]:List Str) us):=match us,hl with | [_],_=>rfl
theorem zhu (kV doc pm:Value) (an:Option Addr) (cdv ct:Value) (us:List Value) (hl:us.length=(["parts"]:List Str).length):bindArgs (PySem.W.fnOf "is_rising" "is_rising" (defArgs s_is_rising) (defBody s_is_rising) (defScope s_is_rising) .none kV doc pm an cdv ct) ⟨us,[]⟩=pure (List.zip (["parts"]:List Str) us):=match us,hl with | [_],_=>rfl
theorem zfn (kV doc pm:Value) (an:Option Addr) (cdv ct:Value) (us:List Value) (hl:us.length=(["thing","many"]:List Str).length):bindArgs (PySem.W.fnOf "is_tuple_of" "is_tuple_of" (defArgs s_is_tuple_of) (defBody s_is_tuple_of) (defScope s_is_tuple_of) .none kV doc pm an cdv ct) ⟨us,[]⟩=pure (List.zip (["thing","many"]:List Str) us):=match us,hl with | [_,_],_=>rfl
theorem zi2 (kV doc pm:Value) (an:Option Addr) (cdv ct:Value) (us:List Value) (hl:us.length=(["web","thing"]:List Str).length):bindArgs (PySem.W.fnOf "is_place" "is_place" (defArgs s_is_place) (defBody s_is_place) (defScope s_is_place) .none kV doc pm an cdv ct) ⟨us,[]⟩=pure (List.zip (["web","thing"]:List Str) us):=match us,hl with | [_,_],_=>rfl
theorem zed (kV doc pm:Value) (an:Option Addr) (cdv ct:Value) (us:List Value) (hl:us.length=(["web","thing"]:List Str).length):bindArgs (PySem.W.fnOf "is_tie_number" "is_tie_number" (defArgs s_is_tie_number) (defBody s_is_tie_number) (defScope s_is_tie_number) .none kV doc pm an cdv ct) ⟨us,[]⟩=pure (List.zip (["web","thing"]:List Str) us):=match us,hl with | [_,_],_=>rfl
theorem zkn (kV doc pm:Value) (an:Option Addr) (cdv ct:Value) (us:List Value) (hl:us.length=(["web","thing"]:List Str).length):bindArgs (PySem.W.fnOf "is_keep" "is_keep" (defArgs s_is_keep) (defBody s_is_keep) (defScope s_is_keep) .none kV doc pm an cdv ct) ⟨us,[]⟩=pure (List.zip (["web","thing"]:List Str) us):=match us,hl with | [_,_],_=>rfl
theorem znt (kV doc pm:Value) (an:Option Addr) (cdv ct:Value) (us:List Value) (hl:us.length=(["web"]:List Str).length):bindArgs (PySem.W.fnOf "whole" "whole" (defArgs s_whole) (defBody s_whole) (defScope s_whole) .none kV doc pm an cdv ct) ⟨us,[]⟩=pure (List.zip (["web"]:List Str) us):=match us,hl with | [_],_=>rfl
theorem zfm (kV doc pm:Value) (an:Option Addr) (cdv ct:Value) (us:List Value) (hl:us.length=(["web","a","b"]:List Str).length):bindArgs (PySem.W.fnOf "tie_between" "tie_between" (defArgs s_tie_between) (defBody s_tie_between) (defScope s_tie_between) .none kV doc pm an cdv ct) ⟨us,[]⟩=pure (List.zip (["web","a","b"]:List Str) us):=match us,hl with | [_,_,_],_=>rfl
theorem zc0 (kV doc pm:Value) (an:Option Addr) (cdv ct:Value) (us:List Value) (hl:us.length=(["web","thing"]:List Str).length):bindArgs (PySem.W.fnOf "are_unlike_places" "are_unlike_places" (defArgs s_are_unlike_places) (defBody s_are_unlike_places) (defScope s_are_unlike_places) .none kV doc pm an cdv ct) ⟨us,[]⟩=pure (List.zip (["web","thing"]:List Str) us):=match us,hl with | [_,_],_=>rfl
theorem zgq (kV doc pm:Value) (an:Option Addr) (cdv ct:Value) (us:List Value) (hl:us.length=(["web","places"]:List Str).length):bindArgs (PySem.W.fnOf "ties_along" "ties_along" (defArgs s_ties_along) (defBody s_ties_along) (defScope s_ties_along) .none kV doc pm an cdv ct) ⟨us,[]⟩=pure (List.zip (["web","places"]:List Str) us):=match us,hl with | [_,_],_=>rfl
theorem zhs (kV doc pm:Value) (an:Option Addr) (cdv ct:Value) (us:List Value) (hl:us.length=(["web","keep","way"]:List Str).length):bindArgs (PySem.W.fnOf "way_right" "way_right" (defArgs s_way_right) (defBody s_way_right) (defScope s_way_right) .none kV doc pm an cdv ct) ⟨us,[]⟩=pure (List.zip (["web","keep","way"]:List Str) us):=match us,hl with | [_,_,_],_=>rfl
theorem zec (kV doc pm:Value) (an:Option Addr) (cdv ct:Value) (us:List Value) (hl:us.length=(["web","keep","a","b","way"]:List Str).length):bindArgs (PySem.W.fnOf "leads_between" "leads_between" (defArgs s_leads_between) (defBody s_leads_between) (defScope s_leads_between) .none kV doc pm an cdv ct) ⟨us,[]⟩=pure (List.zip (["web","keep","a","b","way"]:List Str) us):=match us,hl with | [_,_,_,_,_],_=>rfl
theorem zi0 (kV doc pm:Value) (an:Option Addr) (cdv ct:Value) (us:List Value) (hl:us.length=(["web","keep"]:List Str).length):bindArgs (PySem.W.fnOf "not_kept" "not_kept" (defArgs s_not_kept) (defBody s_not_kept) (defScope s_not_kept) .none kV doc pm an cdv ct) ⟨us,[]⟩=pure (List.zip (["web","keep"]:List Str) us):=match us,hl with | [_,_],_=>rfl
theorem ziz (kV doc pm:Value) (an:Option Addr) (cdv ct:Value) (us:List Value) (hl:us.length=(["web","ties"]:List Str).length):bindArgs (PySem.W.fnOf "ringless" "ringless" (defArgs s_ringless) (defBody s_ringless) (defScope s_ringless) .none kV doc pm an cdv ct) ⟨us,[]⟩=pure (List.zip (["web","ties"]:List Str) us):=match us,hl with | [_,_],_=>rfl
theorem zi3 (kV doc pm:Value) (an:Option Addr) (cdv ct:Value) (us:List Value) (hl:us.length=(["web","one","other"]:List Str).length):bindArgs (PySem.W.fnOf "is_ahead" "is_ahead" (defArgs s_is_ahead) (defBody s_is_ahead) (defScope s_is_ahead) .none kV doc pm an cdv ct) ⟨us,[]⟩=pure (List.zip (["web","one","other"]:List Str) us):=match us,hl with | [_,_,_],_=>rfl
theorem zht (kV doc pm:Value) (an:Option Addr) (cdv ct:Value) (us:List Value) (hl:us.length=(["web","keep","tie","way"]:List Str).length):bindArgs (PySem.W.fnOf "way_ahead" "way_ahead" (defArgs s_way_ahead) (defBody s_way_ahead) (defScope s_way_ahead) .none kV doc pm an cdv ct) ⟨us,[]⟩=pure (List.zip (["web","keep","tie","way"]:List Str) us):=match us,hl with | [_,_,_,_],_=>rfl
theorem ze5 (kV doc pm:Value) (an:Option Addr) (cdv ct:Value) (us:List Value) (hl:us.length=(["web","told"]:List Str).length):bindArgs (PySem.W.fnOf "forest_right" "forest_right" (defArgs s_forest_right) (defBody s_forest_right) (defScope s_forest_right) .none kV doc pm an cdv ct) ⟨us,[]⟩=pure (List.zip (["web","told"]:List Str) us):=match us,hl with | [_,_],_=>rfl
theorem zi5 (kV doc pm:Value) (an:Option Addr) (cdv ct:Value) (us:List Value) (hl:us.length=(["script","k"]:List Str).length):bindArgs (PySem.W.fnOf "_law_pot" "_law_pot" (defArgs s__law_pot) (defBody s__law_pot) (defScope s__law_pot) .none kV doc pm an cdv ct) ⟨us,[]⟩=pure (List.zip (["script","k"]:List Str) us):=match us,hl with | [_,_],_=>rfl
theorem zhw (kV doc pm:Value) (an:Option Addr) (cdv ct:Value) (us:List Value) (hl:us.length=(["pot","many"]:List Str).length):bindArgs (PySem.W.fnOf "_law_take" "_law_take" (defArgs s__law_take) (defBody s__law_take) (defScope s__law_take) .none kV doc pm an cdv ct) ⟨us,[]⟩=pure (List.zip (["pot","many"]:List Str) us):=match us,hl with | [_,_],_=>rfl
theorem zfp (kV doc pm:Value) (an:Option Addr) (cdv ct:Value) (us:List Value) (hl:us.length=(["pot","way"]:List Str).length):bindArgs (PySem.W.fnOf "_law_length" "_law_length" (defArgs s__law_length) (defBody s__law_length) (defScope s__law_length) .none kV doc pm an cdv ct) ⟨us,[]⟩=pure (List.zip (["pot","way"]:List Str) us):=match us,hl with | [_,_],_=>rfl
theorem zhv (kV doc pm:Value) (an:Option Addr) (cdv ct:Value) (us:List Value) (hl:us.length=(["pot","n","style","a","b"]:List Str).length):bindArgs (PySem.W.fnOf "_law_tied" "_law_tied" (defArgs s__law_tied) (defBody s__law_tied) (defScope s__law_tied) .none kV doc pm an cdv ct) ⟨us,[]⟩=pure (List.zip (["pot","n","style","a","b"]:List Str) us):=match us,hl with | [_,_,_,_,_],_=>rfl
theorem zgs (kV doc pm:Value) (an:Option Addr) (cdv ct:Value) (us:List Value) (hl:us.length=(["pot","many"]:List Str).length):bindArgs (PySem.W.fnOf "_law_order" "_law_order" (defArgs s__law_order) (defBody s__law_order) (defScope s__law_order) .none kV doc pm an cdv ct) ⟨us,[]⟩=pure (List.zip (["pot","many"]:List Str) us):=match us,hl with | [_,_],_=>rfl
theorem zi4 (kV doc pm:Value) (an:Option Addr) (cdv ct:Value) (us:List Value) (hl:us.length=(["pot","most"]:List Str).length):bindArgs (PySem.W.fnOf "_law_web" "_law_web" (defArgs s__law_web) (defBody s__law_web) (defScope s__law_web) .none kV doc pm an cdv ct) ⟨us,[]⟩=pure (List.zip (["pot","most"]:List Str) us):=match us,hl with | [_,_],_=>rfl
theorem zfq (kV doc pm:Value) (an:Option Addr) (cdv ct:Value) (us:List Value) (hl:us.length=(["web","numbers","a","b"]:List Str).length):bindArgs (PySem.W.fnOf "_law_joined" "_law_joined" (defArgs s__law_joined) (defBody s__law_joined) (defScope s__law_joined) .none kV doc pm an cdv ct) ⟨us,[]⟩=pure (List.zip (["web","numbers","a","b"]:List Str) us):=match us,hl with | [_,_,_,_],_=>rfl
theorem zhy (kV doc pm:Value) (an:Option Addr) (cdv ct:Value) (us:List Value) (hl:us.length=(["web","keep","a","b"]:List Str).length):bindArgs (PySem.W.fnOf "_law_path" "_law_path" (defArgs s__law_path) (defBody s__law_path) (defScope s__law_path) .none kV doc pm an cdv ct) ⟨us,[]⟩=pure (List.zip (["web","keep","a","b"]:List Str) us):=match us,hl with | [_,_,_,_],_=>rfl
theorem zgt (kV doc pm:Value) (an:Option Addr) (cdv ct:Value) (us:List Value) (hl:us.length=(["web","order"]:List Str).length):bindArgs (PySem.W.fnOf "_law_grown" "_law_grown" (defArgs s__law_grown) (defBody s__law_grown) (defScope s__law_grown) .none kV doc pm an cdv ct) ⟨us,[]⟩=pure (List.zip (["web","order"]:List Str) us):=match us,hl with | [_,_],_=>rfl
theorem zee (kV doc pm:Value) (an:Option Addr) (cdv ct:Value) (us:List Value) (hl:us.length=(["web","here","there"]:List Str).length):bindArgs (PySem.W.fnOf "_law_numbered" "_law_numbered" (defArgs s__law_numbered) (defBody s__law_numbered) (defScope s__law_numbered) .none kV doc pm an cdv ct) ⟨us,[]⟩=pure (List.zip (["web","here","there"]:List Str) us):=match us,hl with | [_,_,_],_=>rfl
theorem zd4 (kV doc pm:Value) (an:Option Addr) (cdv ct:Value) (us:List Value) (hl:us.length=(["web","keep","number","way"]:List Str).length):bindArgs (PySem.W.fnOf "_law_way_shown" "_law_way_shown" (defArgs s__law_way_shown) (defBody s__law_way_shown) (defScope s__law_way_shown) .none kV doc pm an cdv ct) ⟨us,[]⟩=pure (List.zip (["web","keep","number","way"]:List Str) us):=match us,hl with | [_,_,_,_],_=>rfl
theorem zc1 (kV doc pm:Value) (an:Option Addr) (cdv ct:Value) (us:List Value) (hl:us.length=(["web","keep","ways"]:List Str).length):bindArgs (PySem.W.fnOf "_law_forest_shown" "_law_forest_shown" (defArgs s__law_forest_shown) (defBody s__law_forest_shown) (defScope s__law_forest_shown) .none kV doc pm an cdv ct) ⟨us,[]⟩=pure (List.zip (["web","keep","ways"]:List Str) us):=match us,hl with | [_,_,_],_=>rfl
theorem zfo (kV doc pm:Value) (an:Option Addr) (cdv ct:Value) (us:List Value) (hl:us.length=(["pot","row","top"]:List Str).length):bindArgs (PySem.W.fnOf "_law_spoilt" "_law_spoilt" (defArgs s__law_spoilt) (defBody s__law_spoilt) (defScope s__law_spoilt) .none kV doc pm an cdv ct) ⟨us,[]⟩=pure (List.zip (["pot","row","top"]:List Str) us):=match us,hl with | [_,_,_],_=>rfl
theorem zgr (kV doc pm:Value) (an:Option Addr) (cdv ct:Value) (us:List Value) (hl:us.length=(["pot","web"]:List Str).length):bindArgs (PySem.W.fnOf "_law_start" "_law_start" (defArgs s__law_start) (defBody s__law_start) (defScope s__law_start) .none kV doc pm an cdv ct) ⟨us,[]⟩=pure (List.zip (["pot","web"]:List Str) us):=match us,hl with | [_,_],_=>rfl
theorem zhx (kV doc pm:Value) (an:Option Addr) (cdv ct:Value) (us:List Value) (hl:us.length=(["pot","web","told"]:List Str).length):bindArgs (PySem.W.fnOf "_law_step" "_law_step" (defArgs s__law_step) (defBody s__law_step) (defScope s__law_step) .none kV doc pm an cdv ct) ⟨us,[]⟩=pure (List.zip (["pot","web","told"]:List Str) us):=match us,hl with | [_,_,_],_=>rfl
theorem zhz (kV doc pm:Value) (an:Option Addr) (cdv ct:Value) (us:List Value) (hl:us.length=(["pot","k","most"]:List Str).length):bindArgs (PySem.W.fnOf "_law_most" "_law_most" (defArgs s__law_most) (defBody s__law_most) (defScope s__law_most) .none kV doc pm an cdv ct) ⟨us,[]⟩=pure (List.zip (["pot","k","most"]:List Str) us):=match us,hl with | [_,_,_],_=>rfl
theorem zoy {P:Program} {w:World} {K:PySem.W.Frag} {mg:Str->Option Value} {base:Heap} {f:Addr} {fd:FuncData} (T:Bi mg)
  (D_is_whole:DefOk K mg "is_whole" s_is_whole ["thing"])
  (D_is_rising:DefOk K mg "is_rising" s_is_rising ["parts"])
  (D_is_tuple_of:DefOk K mg "is_tuple_of" s_is_tuple_of ["thing","many"])
  (D_is_place:DefOk K mg "is_place" s_is_place ["web","thing"])
  (D_is_tie_number:DefOk K mg "is_tie_number" s_is_tie_number ["web","thing"])
  (D_is_keep:DefOk K mg "is_keep" s_is_keep ["web","thing"])
  (D_whole:DefOk K mg "whole" s_whole ["web"])
  (D_tie_between:DefOk K mg "tie_between" s_tie_between ["web","a","b"])
  (D_are_unlike_places:DefOk K mg "are_unlike_places" s_are_unlike_places ["web","thing"])
  (D_ties_along:DefOk K mg "ties_along" s_ties_along ["web","places"])
  (D_way_right:DefOk K mg "way_right" s_way_right ["web","keep","way"])
  (D_leads_between:DefOk K mg "leads_between" s_leads_between ["web","keep","a","b","way"])
  (D_not_kept:DefOk K mg "not_kept" s_not_kept ["web","keep"])
  (D_ringless:DefOk K mg "ringless" s_ringless ["web","ties"])
  (D_is_ahead:DefOk K mg "is_ahead" s_is_ahead ["web","one","other"])
  (D_way_ahead:DefOk K mg "way_ahead" s_way_ahead ["web","keep","tie","way"])
  (D_forest_right:DefOk K mg "forest_right" s_forest_right ["web","told"])
  (D__law_pot:DefOk K mg "_law_pot" s__law_pot ["script","k"])
  (D__law_take:DefOk K mg "_law_take" s__law_take ["pot","many"])
  (D__law_length:DefOk K mg "_law_length" s__law_length ["pot","way"])
  (D__law_tied:DefOk K mg "_law_tied" s__law_tied ["pot","n","style","a","b"])
  (D__law_order:DefOk K mg "_law_order" s__law_order ["pot","many"])
  (D__law_web:DefOk K mg "_law_web" s__law_web ["pot","most"])
  (D__law_joined:DefOk K mg "_law_joined" s__law_joined ["web","numbers","a","b"])
  (D__law_path:DefOk K mg "_law_path" s__law_path ["web","keep","a","b"])
  (D__law_grown:DefOk K mg "_law_grown" s__law_grown ["web","order"])
  (D__law_numbered:DefOk K mg "_law_numbered" s__law_numbered ["web","here","there"])
  (D__law_way_shown:DefOk K mg "_law_way_shown" s__law_way_shown ["web","keep","number","way"])
  (D__law_forest_shown:DefOk K mg "_law_forest_shown" s__law_forest_shown ["web","keep","ways"])
  (D__law_spoilt:DefOk K mg "_law_spoilt" s__law_spoilt ["pot","row","top"])
  (D__law_start:DefOk K mg "_law_start" s__law_start ["pot","web"])
  (D__law_step:DefOk K mg "_law_step" s__law_step ["pot","web","told"])
  (D__law_most:DefOk K mg "_law_most" s__law_most ["pot","k","most"])
  (F:Fun K "law" "law" s_law f fd):FnOk P w K mg base CX0 9 f fd ["script"] (spLaw K):=by
 have O__law_take:=zg3 (P:=P) (w:=w) (base:=base) T D__law_take
 have O__law_pot:=zii (P:=P) (w:=w) (base:=base) T D__law_pot
 have O__law_length:=zfd T D__law_length O__law_take
 have O__law_tied:=zg2 T D__law_tied O__law_take
 have O__law_order:=zgd T D__law_order O__law_take
 have O__law_web:=zih T D__law_web (O__law_take.mono (by decide)) O__law_order O__law_tied O__law_length
 have O_whole:=zm4 (P:=P) (w:=w) (base:=base) T D_whole
 have O_ringless:=zic (P:=P) (w:=w) (base:=base) T D_ringless
 have O_tie_between:=ze9 (P:=P) (w:=w) (base:=base) T D_tie_between
 have O_ties_along:=zgc T D_ties_along O_tie_between
 have O_ties_alongO:=ze8 T D_ties_along O_tie_between
 have O_is_whole:=zie (P:=P) (w:=w) (base:=base) T D_is_whole
 have O_is_place:=zif T D_is_place O_is_whole
 have O_are_unlike_places:=zcz T D_are_unlike_places O_is_place
 have O_way_right:=zga T D_way_right O_are_unlike_places (O_ties_alongO.mono (by decide))
 have O_is_tie_number:=zd8 T D_is_tie_number O_is_whole
 have O_is_rising:=zdw (P:=P) (w:=w) (base:=base) T D_is_rising
 have O_is_keep:=zkb T D_is_keep O_is_tie_number (O_is_rising.mono (by decide))
 have O_is_tuple_of:=zer (P:=P) (w:=w) (K:=K) (base:=base) T D_is_tuple_of
 have O_leads_between:=zdv T D_leads_between O_way_right
 have O_is_ahead:=zig (P:=P) (w:=w) (base:=base) T D_is_ahead
 have O_way_ahead:=zgb T D_way_ahead O_leads_between (O_ties_along.mono (by decide)) (O_is_ahead.mono (by decide))
 have O_not_kept:=zid T D_not_kept O_whole
 have O_forest_right:=zd9 T D_forest_right (O_is_tuple_of.mono (by decide)) (O_is_keep.mono (by decide)) (O_ringless.mono (by decide)) (O_not_kept.mono (by decide)) O_way_ahead
 have O__law_joinedT:=zet (P:=P) (w:=w) (base:=base) T D__law_joined
 have O__law_joined:=zfe (P:=P) (w:=w) (base:=base) T D__law_joined
 have O__law_grown:=zeu T D__law_grown O__law_joined
 have O__law_path:=zfb (P:=P) (w:=w) (K:=K) (base:=base) T D__law_path
 have O__law_numbered:=zdh (P:=P) (w:=w) (K:=K) (base:=base) T D__law_numbered
 have O__law_way_shown:=zc7 T D__law_way_shown O__law_numbered
 have O__law_forest_shown:=zcl T D__law_forest_shown (O__law_joinedT.mono (by decide)) O__law_way_shown
 have O__law_spoilt:=zea T D__law_spoilt O__law_take
 have O__law_start:=zes T D__law_start (O__law_take.mono (by decide)) (O__law_order.mono (by decide)) (O__law_grown.mono (by decide)) (O__law_path.mono (by decide))
 have O__law_step:=zfa T D__law_step (O__law_take.mono (by decide)) (O__law_order.mono (by decide)) (O__law_spoilt.mono (by decide)) (O__law_grown.mono (by decide)) (O__law_path.mono (by decide))
 have O__law_most:=zfc T D__law_most O__law_take
 exact zp3 T F (O__law_pot.mono (by decide)) (O__law_take.mono (by decide)) (O__law_most.mono (by decide)) (O__law_web.mono (by decide)) (O__law_start.mono (by decide)) (O__law_step.mono (by decide)) (O__law_forest_shown.mono (by decide)) (O_forest_right.mono (by decide))
theorem walk {l:PySem.W.OpenLaw} {q:Program} {loose:List Str} {XP:(Str->Option Value)->Heap->Prop} {YP:World->Heap->Prop} {d:DefRec} {K:Params->PySem.W.Frag} (hn:l.most=some 63) (hdf:d.params.defaults=[])
  (hY:∀ (w:World) (h:Heap),YP w h->(K w.params).In h)
  (F:∀ (w:World) (mg:Str->Option Value) (fa:Addr) (h:Heap),(K w.params).In h->h.Ns mainGlobals mg->mg d.name=some (.ref fa) ->
   ∃ fd:FuncData,(∀ (s:Shared) (u:Value),BindsTo s fd ⟨[u],[]⟩ [("script",u)])∧∀ base:Heap,(K w.params).In base->base.Ns mainGlobals mg->FnOk l.prog w (K w.params) mg base CX0 9 fa fd ["script"] (spLaw (K w.params))) :
  PySem.W.WalkO q loose XP YP l.row.toRowW d [] (fun f vs=>PySem.call f vs) :=
 L2.zn9 (n:=63) (k:=9) (x:="script") (CX:=fun _=>CX0) (sp:=fun w=>spLaw (K w.params)) hn (by decide) hdf ⟨rfl,by decide,by decide,rfl⟩ hY F (fun _ _ a ns hl _ hS=>⟨a,ns,rfl,hS,hl,fun _=>rfl⟩) fun _ _ _ _ _ z=>z
end Me
namespace Hy
open PySem PySem.W Hx
def cs:List Ch:=[⟨0,15,187,0,187,0⟩,⟨1,15,189,0,187,0⟩,⟨2,22,196,0,187,0⟩,⟨3,27,202,0,187,0⟩,⟨4,34,210,4,210,0⟩,⟨5,34,212,4,210,0⟩,⟨6,41,220,4,210,0⟩,⟨7,48,228,4,210,0⟩,⟨8,53,234,4,210,0⟩,⟨9,60,241,4,210,0⟩,⟨10,67,253,10,253,0⟩,⟨11,67,255,10,253,0⟩,⟨12,72,261,10,253,0⟩,⟨13,77,267,10,253,0⟩,⟨14,82,273,10,253,0⟩,⟨15,89,284,15,284,0⟩,⟨16,89,286,15,284,0⟩,⟨17,94,292,17,292,0⟩,⟨18,94,294,17,292,0⟩,⟨19,99,300,17,292,0⟩,⟨20,106,309,17,292,0⟩,⟨21,111,315,17,292,0⟩,⟨22,116,321,22,321,0⟩,⟨23,116,323,22,321,0⟩,⟨24,123,333,22,321,0⟩,⟨25,130,342,22,321,0⟩,⟨26,137,350,22,321,0⟩,⟨27,144,362,22,321,0⟩,⟨28,151,373,22,321,0⟩,⟨29,158,390,22,321,0⟩,⟨30,163,396,22,321,0⟩,⟨31,170,414,22,321,0⟩,⟨32,177,424,22,321,0⟩,⟨33,184,437,22,321,0⟩,⟨34,191,450,22,321,0⟩,⟨35,196,456,22,321,0⟩,⟨36,203,468,22,321,0⟩,⟨37,208,474,22,321,0⟩,⟨38,215,491,22,321,0⟩,⟨39,222,500,22,321,0⟩]
end Hy
lay_quick Hx.PieceT Hx.PreT Hx.BlockT Hx.LookA Hx.LookB Hx.LookC PySem.Challenge.pw_thinways_k38_forests_judged
namespace Hy
open PySem PySem.W Hx
theorem pre:PreT PySem.Challenge.pw_thinways_k38_forests_judged boots boot_drawn boot_heap boot_toks cs ⟨0,15,187⟩:=by
 rw[PySem.W.Fast.te16428918119715843241,PySem.W.Fast.te17571722594529191684];delta PySem.W.Fast.tw16428918119715843241;intro w;kernel_rfl
theorem pc0:PieceT PySem.Challenge.pw_thinways_k38_forests_judged boots boot_drawn cs ⟨0,15,187⟩ ⟨16,89,286⟩ 382:=by
 rw[PySem.W.Fast.te4643275101561185336,PySem.W.Fast.te17571722594529191684];delta PySem.W.Fast.tw4643275101561185336;intro w;kernel_rfl
theorem pc1:PieceT PySem.Challenge.pw_thinways_k38_forests_judged boots boot_drawn cs ⟨16,89,286⟩ ⟨30,163,396⟩ 379:=by
 rw[PySem.W.Fast.te4643275101561185336,PySem.W.Fast.te17571722594529191684];delta PySem.W.Fast.tw4643275101561185336;intro w;kernel_rfl
theorem pc2:PieceT PySem.Challenge.pw_thinways_k38_forests_judged boots boot_drawn cs ⟨30,163,396⟩ ⟨40,229,515⟩ 336:=by
 rw[PySem.W.Fast.te4643275101561185336,PySem.W.Fast.te17571722594529191684];delta PySem.W.Fast.tw4643275101561185336;intro w;kernel_rfl
theorem blk:BlockT PySem.Challenge.pw_thinways_k38_forests_judged :=by
 rw[PySem.W.Fast.te421534021395069552,PySem.W.Fast.te17571722594529191684];delta PySem.W.Fast.tw421534021395069552;intro w s;kernel_rfl
theorem run (w:World) (os:OsState):topRun treeTable PySem.Challenge.pw_thinways_k38_forests_judged w 11 ann0 (12 + (1 + (382 + (379 + (336 + 2))))) ⟨boot_heap w.params,Array.mk [],boot_drawn,boot_toks,os⟩ (topStub PySem.Challenge.pw_thinways_k38_forests_judged)=some (stT PySem.Challenge.pw_thinways_k38_forests_judged boots boot_drawn cs ⟨40,229,515⟩ w os).abs:=zoi pre blk (chain pc0 (by decide) (chain pc1 (by decide) (chain pc2 (by decide) (zma (by kernel_rfl)))))
theorem size (w:World):((boot_heap w.params).isNs mainGlobals && (Array.mk []:Array GenState).size == 0,(boot_heap w.params).objs.size,(boot_heap w.params).nsMap mainGlobals "__annotations__")=(true,11,ann0):=by kernel_rfl
theorem lkA:LookA PySem.Challenge.pw_thinways_k38_forests_judged boots boot_drawn boot_heap cs ⟨40,229,515⟩:=by
 rw[PySem.W.Fast.te7818774390570169022,PySem.W.Fast.te17571722594529191684];delta PySem.W.Fast.tw7818774390570169022;intro w;kernel_rfl
theorem lkB:LookB PySem.Challenge.pw_thinways_k38_forests_judged boots boot_drawn cs ⟨40,229,515⟩ [39] (OpenRow.toRowW (PySem.Challenge.rw_thinways_k38_forests_judged).row).records:=by
 rw[PySem.W.Fast.te13889730532244352606,PySem.W.Fast.te17571722594529191684];delta PySem.W.Fast.tw13889730532244352606;intro w;kernel_rfl
theorem lkC:LookC PySem.Challenge.pw_thinways_k38_forests_judged boots cs ⟨40,229,515⟩ [3,20,21,25,26,32,33,39,40,46,47,51,52,58,59,65,66,70,71,75,76,80,81,87,88,92,93,97,98,104,105,109,110,114,115,121,122,128,129,135,136,142,143,149,150,156,157,161,162,168,169,175,176,182,183,189,190,194,195,201,202,206,207,213,214,220,221,227,228]:=by
 rw[PySem.W.Fast.te6241646928739474683,PySem.W.Fast.te17571722594529191684];delta PySem.W.Fast.tw6241646928739474683;intro w;kernel_rfl
noncomputable abbrev K:=Kf PySem.Challenge.pw_thinways_k38_forests_judged boots cs
theorem Kas (P:Params):[3,20,21,25,26,32,33,39,40,46,47,51,52,58,59,65,66,70,71,75,76,80,81,87,88,92,93,97,98,104,105,109,110,114,115,121,122,128,129,135,136,142,143,149,150,156,157,161,162,168,169,175,176,182,183,189,190,194,195,201,202,206,207,213,214,220,221,227,228]=(K P).map (·.1):=by kernel_rfl
noncomputable abbrev H:Hook:=kHook K [3,20,21,25,26,32,33,39,40,46,47,51,52,58,59,65,66,70,71,75,76,80,81,87,88,92,93,97,98,104,105,109,110,114,115,121,122,128,129,135,136,142,143,149,150,156,157,161,162,168,169,175,176,182,183,189,190,194,195,201,202,206,207,213,214,220,221,227,228] Kas
theorem opn:opening PySem.Challenge.pw_thinways_k38_forests_judged=plainProg (PySem.Challenge.pw_thinways_k38_forests_judged).main.scope.names:=by kernel_rfl
theorem fnc (s:Shared):fenceModules? PySem.Challenge.pw_thinways_k38_forests_judged s=some s:=by kernel_rfl
theorem left:LeftO PySem.Challenge.pw_thinways_k38_forests_judged (qv PySem.Challenge.pw_thinways_k38_forests_judged [39]) (lz PySem.Challenge.pw_thinways_k38_forests_judged [39] 40) (fun s=>xlAt (qv PySem.Challenge.pw_thinways_k38_forests_judged [39]) [] s && recOk (OpenRow.toRowW (PySem.Challenge.rw_thinways_k38_forests_judged).row).records s) (Hook.obs H) (Hook.val H) 2824 :=
 zow (p:=PySem.Challenge.pw_thinways_k38_forests_judged) (cs:=cs) (is:=[39]) (as:=[3,20,21,25,26,32,33,39,40,46,47,51,52,58,59,65,66,70,71,75,76,80,81,87,88,92,93,97,98,104,105,109,110,114,115,121,122,128,129,135,136,142,143,149,150,156,157,161,162,168,169,175,176,182,183,189,190,194,195,201,202,206,207,213,214,220,221,227,228]) (rc:=(OpenRow.toRowW (PySem.Challenge.rw_thinways_k38_forests_judged).row).records) (c:=⟨40,229,515⟩) (M:=12 + (1 + (382 + (379 + (336 + 2))))) (N:=2824) (e:=Kas) opn (by decide) fnc size run (by decide) lkA lkB lkC
end Hy
namespace Hy
open PySem PySem.W PyProof.Rows L2 L3 Hx Me
theorem all {w:World} {h:Heap} {mg:Str->Option Value} {fa:Addr} (X:(K w.params).In h) (G:h.Ns mainGlobals mg) (hfa:mg "law"=some (.ref fa)) :
  ∃ fd:FuncData,(∀ (s:Shared) (v:Value),BindsTo s fd ⟨[v],[]⟩ [("script",v)])∧∀ base:Heap,(K w.params).In base->base.Ns mainGlobals mg->FnOk (PySem.Challenge.rw_thinways_k38_forests_judged).prog w (K w.params) mg base CX0 9 fa fd ["script"] (spLaw (K w.params)):=by
 have T:Bi mg:=⟨PySem.W.mg_none_of X G (show PySem.W.nsIn (K w.params) mainGlobals "len"=some none by kernel_rfl),PySem.W.mg_none_of X G (show PySem.W.nsIn (K w.params) mainGlobals "range"=some none by kernel_rfl),PySem.W.mg_none_of X G (show PySem.W.nsIn (K w.params) mainGlobals "zip"=some none by kernel_rfl),PySem.W.mg_none_of X G (show PySem.W.nsIn (K w.params) mainGlobals "all"=some none by kernel_rfl),PySem.W.mg_none_of X G (show PySem.W.nsIn (K w.params) mainGlobals "sorted"=some none by kernel_rfl),PySem.W.mg_none_of X G (show PySem.W.nsIn (K w.params) mainGlobals "isinstance"=some none by kernel_rfl),PySem.W.mg_none_of X G (show PySem.W.nsIn (K w.params) mainGlobals "min"=some none by kernel_rfl),PySem.W.mg_none_of X G (show PySem.W.nsIn (K w.params) mainGlobals "max"=some none by kernel_rfl),PySem.W.mg_none_of X G (show PySem.W.nsIn (K w.params) mainGlobals "tuple"=some none by kernel_rfl),PySem.W.mg_none_of X G (show PySem.W.nsIn (K w.params) mainGlobals "list"=some none by kernel_rfl),PySem.W.mg_none_of X G (show PySem.W.nsIn (K w.params) mainGlobals "int"=some none by kernel_rfl),PySem.W.mg_none_of X G (show PySem.W.nsIn (K w.params) mainGlobals "bool"=some none by kernel_rfl),PySem.W.mg_none_of X G (show PySem.W.nsIn (K w.params) mainGlobals "str"=some none by kernel_rfl),PySem.W.mg_none_of X G (show PySem.W.nsIn (K w.params) mainGlobals "enumerate"=some none by kernel_rfl),PySem.W.mg_none_of X G (show PySem.W.nsIn (K w.params) mainGlobals "sum"=some none by kernel_rfl),PySem.W.mg_none_of X G (show PySem.W.nsIn (K w.params) mainGlobals "abs"=some none by kernel_rfl),PySem.W.mg_none_of X G (show PySem.W.nsIn (K w.params) mainGlobals "set"=some none by kernel_rfl),PySem.W.mg_none_of X G (show PySem.W.nsIn (K w.params) mainGlobals "reversed"=some none by kernel_rfl),PySem.W.mg_none_of X G (show PySem.W.nsIn (K w.params) mainGlobals "any"=some none by kernel_rfl),PySem.W.mg_none_of X G (show PySem.W.nsIn (K w.params) mainGlobals "repr"=some none by kernel_rfl),PySem.W.mg_none_of X G (show PySem.W.nsIn (K w.params) mainGlobals "dict"=some none by kernel_rfl)⟩
 have D_is_whole:=dq (p:=PySem.Challenge.pw_thinways_k38_forests_judged) (ps:=["thing"]) 21 20 0 187 X G zi1 (by kernel_rfl) (by kernel_rfl) (by kernel_rfl) (by kernel_rfl)
 have D_is_rising:=dq (p:=PySem.Challenge.pw_thinways_k38_forests_judged) (ps:=["parts"]) 26 25 0 187 X G zhu (by kernel_rfl) (by kernel_rfl) (by kernel_rfl) (by kernel_rfl)
 have D_is_tuple_of:=dq (p:=PySem.Challenge.pw_thinways_k38_forests_judged) (ps:=["thing","many"]) 33 32 0 187 X G zfn (by kernel_rfl) (by kernel_rfl) (by kernel_rfl) (by kernel_rfl)
 have D_is_place:=dq (p:=PySem.Challenge.pw_thinways_k38_forests_judged) (ps:=["web","thing"]) 40 39 4 210 X G zi2 (by kernel_rfl) (by kernel_rfl) (by kernel_rfl) (by kernel_rfl)
 have D_is_tie_number:=dq (p:=PySem.Challenge.pw_thinways_k38_forests_judged) (ps:=["web","thing"]) 47 46 4 210 X G zed (by kernel_rfl) (by kernel_rfl) (by kernel_rfl) (by kernel_rfl)
 have D_is_keep:=dq (p:=PySem.Challenge.pw_thinways_k38_forests_judged) (ps:=["web","thing"]) 52 51 4 210 X G zkn (by kernel_rfl) (by kernel_rfl) (by kernel_rfl) (by kernel_rfl)
 have D_whole:=dq (p:=PySem.Challenge.pw_thinways_k38_forests_judged) (ps:=["web"]) 59 58 4 210 X G znt (by kernel_rfl) (by kernel_rfl) (by kernel_rfl) (by kernel_rfl)
 have D_tie_between:=dq (p:=PySem.Challenge.pw_thinways_k38_forests_judged) (ps:=["web","a","b"]) 66 65 4 210 X G zfm (by kernel_rfl) (by kernel_rfl) (by kernel_rfl) (by kernel_rfl)
 have D_are_unlike_places:=dq (p:=PySem.Challenge.pw_thinways_k38_forests_judged) (ps:=["web","thing"]) 71 70 10 253 X G zc0 (by kernel_rfl) (by kernel_rfl) (by kernel_rfl) (by kernel_rfl)
 have D_ties_along:=dq (p:=PySem.Challenge.pw_thinways_k38_forests_judged) (ps:=["web","places"]) 76 75 10 253 X G zgq (by kernel_rfl) (by kernel_rfl) (by kernel_rfl) (by kernel_rfl)
 have D_way_right:=dq (p:=PySem.Challenge.pw_thinways_k38_forests_judged) (ps:=["web","keep","way"]) 81 80 10 253 X G zhs (by kernel_rfl) (by kernel_rfl) (by kernel_rfl) (by kernel_rfl)
 have D_leads_between:=dq (p:=PySem.Challenge.pw_thinways_k38_forests_judged) (ps:=["web","keep","a","b","way"]) 88 87 10 253 X G zec (by kernel_rfl) (by kernel_rfl) (by kernel_rfl) (by kernel_rfl)
 have D_not_kept:=dq (p:=PySem.Challenge.pw_thinways_k38_forests_judged) (ps:=["web","keep"]) 93 92 15 284 X G zi0 (by kernel_rfl) (by kernel_rfl) (by kernel_rfl) (by kernel_rfl)
 have D_ringless:=dq (p:=PySem.Challenge.pw_thinways_k38_forests_judged) (ps:=["web","ties"]) 98 97 17 292 X G ziz (by kernel_rfl) (by kernel_rfl) (by kernel_rfl) (by kernel_rfl)
 have D_is_ahead:=dq (p:=PySem.Challenge.pw_thinways_k38_forests_judged) (ps:=["web","one","other"]) 105 104 17 292 X G zi3 (by kernel_rfl) (by kernel_rfl) (by kernel_rfl) (by kernel_rfl)
 have D_way_ahead:=dq (p:=PySem.Challenge.pw_thinways_k38_forests_judged) (ps:=["web","keep","tie","way"]) 110 109 17 292 X G zht (by kernel_rfl) (by kernel_rfl) (by kernel_rfl) (by kernel_rfl)
 have D_forest_right:=dq (p:=PySem.Challenge.pw_thinways_k38_forests_judged) (ps:=["web","told"]) 115 114 17 292 X G ze5 (by kernel_rfl) (by kernel_rfl) (by kernel_rfl) (by kernel_rfl)
 have D__law_pot:=dq (p:=PySem.Challenge.pw_thinways_k38_forests_judged) (ps:=["script","k"]) 122 121 22 321 X G zi5 (by kernel_rfl) (by kernel_rfl) (by kernel_rfl) (by kernel_rfl)
 have D__law_take:=dq (p:=PySem.Challenge.pw_thinways_k38_forests_judged) (ps:=["pot","many"]) 129 128 22 321 X G zhw (by kernel_rfl) (by kernel_rfl) (by kernel_rfl) (by kernel_rfl)
 have D__law_length:=dq (p:=PySem.Challenge.pw_thinways_k38_forests_judged) (ps:=["pot","way"]) 136 135 22 321 X G zfp (by kernel_rfl) (by kernel_rfl) (by kernel_rfl) (by kernel_rfl)
 have D__law_tied:=dq (p:=PySem.Challenge.pw_thinways_k38_forests_judged) (ps:=["pot","n","style","a","b"]) 143 142 22 321 X G zhv (by kernel_rfl) (by kernel_rfl) (by kernel_rfl) (by kernel_rfl)
 have D__law_order:=dq (p:=PySem.Challenge.pw_thinways_k38_forests_judged) (ps:=["pot","many"]) 150 149 22 321 X G zgs (by kernel_rfl) (by kernel_rfl) (by kernel_rfl) (by kernel_rfl)
 have D__law_web:=dq (p:=PySem.Challenge.pw_thinways_k38_forests_judged) (ps:=["pot","most"]) 157 156 22 321 X G zi4 (by kernel_rfl) (by kernel_rfl) (by kernel_rfl) (by kernel_rfl)
 have D__law_joined:=dq (p:=PySem.Challenge.pw_thinways_k38_forests_judged) (ps:=["web","numbers","a","b"]) 162 161 22 321 X G zfq (by kernel_rfl) (by kernel_rfl) (by kernel_rfl) (by kernel_rfl)
 have D__law_path:=dq (p:=PySem.Challenge.pw_thinways_k38_forests_judged) (ps:=["web","keep","a","b"]) 169 168 22 321 X G zhy (by kernel_rfl) (by kernel_rfl) (by kernel_rfl) (by kernel_rfl)
 have D__law_grown:=dq (p:=PySem.Challenge.pw_thinways_k38_forests_judged) (ps:=["web","order"]) 176 175 22 321 X G zgt (by kernel_rfl) (by kernel_rfl) (by kernel_rfl) (by kernel_rfl)
 have D__law_numbered:=dq (p:=PySem.Challenge.pw_thinways_k38_forests_judged) (ps:=["web","here","there"]) 183 182 22 321 X G zee (by kernel_rfl) (by kernel_rfl) (by kernel_rfl) (by kernel_rfl)
 have D__law_way_shown:=dq (p:=PySem.Challenge.pw_thinways_k38_forests_judged) (ps:=["web","keep","number","way"]) 190 189 22 321 X G zd4 (by kernel_rfl) (by kernel_rfl) (by kernel_rfl) (by kernel_rfl)
 have D__law_forest_shown:=dq (p:=PySem.Challenge.pw_thinways_k38_forests_judged) (ps:=["web","keep","ways"]) 195 194 22 321 X G zc1 (by kernel_rfl) (by kernel_rfl) (by kernel_rfl) (by kernel_rfl)
 have D__law_spoilt:=dq (p:=PySem.Challenge.pw_thinways_k38_forests_judged) (ps:=["pot","row","top"]) 202 201 22 321 X G zfo (by kernel_rfl) (by kernel_rfl) (by kernel_rfl) (by kernel_rfl)
 have D__law_start:=dq (p:=PySem.Challenge.pw_thinways_k38_forests_judged) (ps:=["pot","web"]) 207 206 22 321 X G zgr (by kernel_rfl) (by kernel_rfl) (by kernel_rfl) (by kernel_rfl)
 have D__law_step:=dq (p:=PySem.Challenge.pw_thinways_k38_forests_judged) (ps:=["pot","web","told"]) 214 213 22 321 X G zhx (by kernel_rfl) (by kernel_rfl) (by kernel_rfl) (by kernel_rfl)
 have D__law_most:=dq (p:=PySem.Challenge.pw_thinways_k38_forests_judged) (ps:=["pot","k","most"]) 221 220 22 321 X G zhz (by kernel_rfl) (by kernel_rfl) (by kernel_rfl) (by kernel_rfl)
 have e:=hfa.symm.trans (PySem.W.mg_of X G (show PySem.W.nsIn (K w.params) mainGlobals "law"=some (some (.ref 228)) by kernel_rfl))
 cases e
 have F:=zn2 (x:="law") (qual:="law") (st:=s_law) (K:=K w.params) (f:=228) (oc:=.type "function") (od:=none) (an:=none) (osl:=#[]) (kV:=.none) (doc:=.none) (pm:=Hx.mdV PySem.Challenge.pw_thinways_k38_forests_judged ⟨0,0,0,22,321,0⟩) (cdv:=.ref 227) (ct:=.none) (by kernel_rfl) (by kernel_rfl) (by kernel_rfl)
 exact⟨_,fun s v=>.of_eq rfl,fun base _ _=>zoy (P:=(PySem.Challenge.rw_thinways_k38_forests_judged).prog) (w:=w) (base:=base) T D_is_whole D_is_rising D_is_tuple_of D_is_place D_is_tie_number D_is_keep D_whole D_tie_between D_are_unlike_places D_ties_along D_way_right D_leads_between D_not_kept D_ringless D_is_ahead D_way_ahead D_forest_right D__law_pot D__law_take D__law_length D__law_tied D__law_order D__law_web D__law_joined D__law_path D__law_grown D__law_numbered D__law_way_shown D__law_forest_shown D__law_spoilt D__law_start D__law_step D__law_most F⟩
end Hy
open PySem PySem.W PyProof.Rows
set_option maxRecDepth 100000 in
set_option maxHeartbeats 0 in
theorem PySem.Challenge.cw_thinways_k38_forests_judged_holds : PySem.Challenge.rw_thinways_k38_forests_judged.Holds := by
 w_on;o_law
 refine holds_open (q:=(Hx.qv PySem.Challenge.pw_thinways_k38_forests_judged [39])) (loose:=Hx.lz PySem.Challenge.pw_thinways_k38_forests_judged [39] 40) (Xt:=fun s=>xlAt (Hx.qv PySem.Challenge.pw_thinways_k38_forests_judged [39]) [] s && recOk (OpenRow.toRowW (PySem.Challenge.rw_thinways_k38_forests_judged).row).records s) (XP:=XL (Hx.qv PySem.Challenge.pw_thinways_k38_forests_judged [39]) []) (Yf:=Hook.obs Hy.H) (Ya:=Hook.val Hy.H) (YP:=Hook.says Hy.H) (N:=2824) Hy.left (Hook.of Hy.H) (Hook.keeps Hy.H) (fun s e=>xl_of s (Bool.and_eq_true_iff.mp e).1) XL.keeps (by rfl) (by rfl) (by rfl) (fun s e=>recFacts_of (Bool.and_eq_true_iff.mp e).2) (by rfl) (by first | assumption | decide +kernel) (by decide +kernel) ⟨rfl,rfl,rfl,rfl,rfl,by decide +kernel⟩ ?hw ?hc
 case hw=>w_witness2
 case hc =>
  refine Me.walk (l:=PySem.Challenge.rw_thinways_k38_forests_judged) rfl rfl (fun w h Y=>PySem.W.kIn_of Y) fun w mg fa h KX G hmg=>Hy.all KX G hmg
