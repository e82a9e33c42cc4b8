import PyProof.Rows.All
import Wide.All
import OpenK.AllK
import Wide.FinOn
import Lean
import PyProof.EqAt
import PyProof.EqKinds
import PyProof.TupleCall
import KE.KSortTup
import PyProof.ZipIter
import PyProof.TupleIter
import PyProof.WalksMore
import PyProof.Rows.TupIter
import PyProof.EnumIter
import PyProof.EnumFor
import PyProof.EnumStmt
import PyProof.ReprRoads
import PyProof.Rows.SeqMore
import PyProof.ListMulRoad
import PyProof.FactsAll.tuple_2
import PyProof.FactsAll.tuple_3
import PyProof.Rows.Tup
import PyProof.ListRange
import PyProof.TupleOfSeq
import PyProof.SumAny
import PyProof.ConsumeS
import PyProof.Rows.CallKwBuiltin
import KE.KLam
import KE.KSortKey
import PyProof.AutoSeq1
import KE.KListMore
import PyProof.FactsAll.subtypes_4
import PyProof.SetRoads
import PyProof.Rows.SetFrom
import PyProof.WalkInts
import PyProof.DictDisplay
import PyProof.ReprBulk
import PyProof.DictWalks
import PySem.Challenge.RW_thinways_k20_times_judged
set_option Elab.async false
set_option linter.all false
set_option maxRecDepth 100000
local macro_rules | `(tactic| trivial) => `(tactic| first | lia | omega)
namespace L2
open PySem PySem.Spec PyProof.Rows
abbrev Key:=Sum Int Str
def keyIs:Key->Value->Bool
 | .inl k,v=>Value.isInt k v
 | .inr x,v=>Value.isStrOf x v
def keyH (w:World):Key->Int
 | .inl k=>hashInt k
 | .inr x=>hashStr w x
theorem zbf:∀ {k:Key} {v:Value},keyIs k v=true->(∃ i t,k=Sum.inl i∧v=Value.int i t)∨(∃ x t,k=Sum.inr x∧v=Value.str x t)
 | .inl i,v,h=>by
  obtain⟨t,e⟩:=Value.isInt_shape (k:=i) (v:=v) h
  exact .inl ⟨i,t,rfl,e⟩
 | .inr x,v,h=>by
  obtain⟨t,e⟩:=Value.isStrOf_shape (x:=x) (v:=v) h
  exact .inr ⟨x,t,rfl,e⟩
theorem zmt (i:Int) (t:Tok):keyIs (.inl i) (.int i t)=true:=by simp [keyIs,Value.isInt]
theorem zms (x:Str) (t:Tok):keyIs (.inr x) (.str x t)=true:=by simp [keyIs,Value.isStrOf]
theorem zq8 (a b:Int):decide ((Sum.inl a:Key)=Sum.inl b)=(a == b):=by
 by_cases e:a=b
 ·subst e;simp
 ·have h:¬ (Sum.inl a:Key)=Sum.inl b:=fun q=>e (Sum.inl.inj q)
  rw[decide_eq_false h]
  exact (beq_eq_false_iff_ne.mpr e).symm
theorem zq5 (a b:Str):decide ((Sum.inr a:Key)=Sum.inr b)=decide (a=b):=by
 by_cases e:a=b
 ·subst e;simp
 ·have h:¬ (Sum.inr a:Key)=Sum.inr b:=fun q=>e (Sum.inr.inj q)
  rw[decide_eq_false h,decide_eq_false e]
theorem zq7 (a:Int) (b:Str):decide ((Sum.inl a:Key)=Sum.inr b)=false:=decide_eq_false (fun q=>nomatch q)
theorem zq6 (a:Str) (b:Int):decide ((Sum.inr a:Key)=Sum.inl b)=false:=decide_eq_false (fun q=>nomatch q)
def mixKind (prog:Program) (w:World):PySem.KeyKind prog w Key where
 is:=keyIs
 hash:=keyH w
 inj:=fun v a b ha hb=>by
  rcases zbf ha with ⟨i,t,rfl,rfl⟩ | ⟨x,t,rfl,rfl⟩
  ·rcases zbf hb with ⟨j,u,rfl,e⟩ | ⟨y,u,rfl,e⟩
   ·injection e with e1 _;rw[e1]
   ·exact nomatch e
  ·rcases zbf hb with ⟨j,u,rfl,e⟩ | ⟨y,u,rfl,e⟩
   ·exact nomatch e
   ·injection e with e1 _;rw[e1]
 byValue:=fun k v h=>by
  rcases zbf h with ⟨i,t,rfl,rfl⟩ | ⟨x,t,rfl,rfl⟩ <;> rfl
 pyHash:=fun hv h=>by
  rcases zbf hv with ⟨i,t,rfl,rfl⟩ | ⟨x,t,rfl,rfl⟩
  ·exact wpAny_pyHash_int h
  ·exact wpAny_pyHash_str h
 eqBool:=fun hu hv h=>by
  rcases zbf hu with ⟨i,t,rfl,rfl⟩ | ⟨x,t,rfl,rfl⟩
  ·rcases zbf hv with ⟨j,u,rfl,rfl⟩ | ⟨y,u,rfl,rfl⟩
   ·rw[zq8] at h;exact wpAny_eqBool_int h
   ·rw[zq7] at h;exact SeqAt.EqAt.int_str i t y u _ _ _ _ h
  ·rcases zbf hv with ⟨j,u,rfl,rfl⟩ | ⟨y,u,rfl,rfl⟩
   ·rw[zq6] at h;exact SeqAt.EqAt.str_int x t j u _ _ _ _ h
   ·rw[zq5] at h;exact wpAny_eqBool_str h
 «strs»:=fun k x t v h=>by
  rcases zbf h with ⟨i,u,rfl,e⟩ | ⟨y,u,rfl,e⟩
  ·exact nomatch e
  ·injection e with e1 _
   subst e1
   cases v <;> rfl
theorem zjp (prog:Program) (w:World) (i:Int) (t:Tok):(mixKind prog w).is (.inl i) (.int i t)=true:=zmt i t
theorem zjo (prog:Program) (w:World) (x:Str) (t:Tok):(mixKind prog w).is (.inr x) (.str x t)=true:=zms x t
end L2
namespace L2
open PySem PySem.Spec PyProof.Rows
inductive V where
 | non | bl (b:Bool) | int (i:Int) | str (x:Str) | byt (b:Array UInt8) | flt (b:UInt64) | ref (a:Addr) | ty (n:String)
 deriving DecidableEq
def RelV:V->Value->Prop
 | .non,u=>u=Value.none
 | .bl b,u=>u=Value.bool b
 | .int i,u=>∃ t,u=Value.int i t
 | .str x,u=>∃ t,u=Value.str x t
 | .byt b,u=>∃ t,u=Value.bytes b t
 | .flt b,u=>∃ t,u=Value.float b t
 | .ref a,u=>u=Value.ref a
 | .ty n,u=>u=Value.type n
abbrev Vals:List V->List Value->Prop:=Paired RelV
theorem Vals.length {xs:List V} {us:List Value} (r:Vals xs us):xs.length=us.length:=Paired.length r
theorem Vals.get:∀ {xs:List V} {us:List Value} {i:Nat} {x:V},Vals xs us->xs[i]?=some x->∃ u,us[i]?=some u∧RelV x u
 | _,_,_,_,.nil,e=>by simp at e
 | _,_,0,_,.cons r _,e=>by simp at e;subst e;exact⟨_,rfl,r⟩
 | _,_,i + 1,x,.cons _ t,e=>by
  obtain⟨u,h1,h2⟩:=Vals.get (i:=i) (x:=x) t (by simpa using e)
  exact⟨u,by simpa using h1,h2⟩
theorem Vals.set {x:V} {u:Value} (r:RelV x u):∀ {xs:List V} {us:List Value} (i:Nat),Vals xs us->Vals (xs.set i x) (us.set i u)
 | _,_,_,.nil=>.nil
 | _,_,0,.cons _ t=>.cons r t
 | _,_,i + 1,.cons q t=>.cons q (Vals.set r i t)
theorem Vals.append:∀ {xs ys:List V} {us ws:List Value},Vals xs us->Vals ys ws->Vals (xs++ys) (us++ws)
 | _,_,_,_,.nil,s=>s
 | _,_,_,_,.cons r t,s=>.cons r (Vals.append t s)
theorem Vals.take:∀ {xs:List V} {us:List Value} (n:Nat),Vals xs us->Vals (xs.take n) (us.take n)
 | _,_,0,_=>.nil
 | _,_,_ + 1,.nil=>.nil
 | _,_,n + 1,.cons r t=>.cons r (Vals.take n t)
theorem Vals.drop:∀ {xs:List V} {us:List Value} (n:Nat),Vals xs us->Vals (xs.drop n) (us.drop n)
 | _,_,0,r=>r
 | _,_,_ + 1,.nil=>.nil
 | _,_,n + 1,.cons _ t=>Vals.drop n t
def RelO:Option V->Option Value->Prop
 | some v,some u=>RelV v u
 | none,none=>True
 | _,_=>False
def KV {κ:Type}:List (κ × V)->List (κ × Value)->Prop:=Paired fun (p:κ × V) (q:κ × Value)=>p.1=q.1∧RelV p.2 q.2
def kV:Key->V
 | .inl i=>.int i
 | .inr x=>.str x
inductive HO where
  | lst (xs:List V)
  | tup (xs:List V)
  | dK (kvs:List (Key × V)) | dT (kvs:List (List Key × V))
  | set (S:Int->Bool) (n:Nat)
  | ins (C dx:Addr) (fs:List (Str × V))
  | own (x:Addr)
  | xd (fs:List (Str × V))
  | met (f x:Addr)
  | rng (lo hi:Int)
  | frz (o:Obj) (u:HO)
  | tbl (ps:Array Value)
  | ext (φ:Heap->Prop)
abbrev Hp:=Addr->Option HO
def upd (H:Hp) (a:Addr) (o:HO):Hp:=fun b=>if b=a then some o else H b
theorem zak {H:Hp} {a:Addr} {o:HO}:upd H a o a=some o:=by unfold upd;rw[if_pos rfl]
theorem zat {H:Hp} {a b:Addr} {o:HO} (h:b≠a):upd H a o b=H b:=by unfold upd;rw[if_neg h]
theorem zph {H:Hp} {a:Addr} {o u:HO}:upd (upd H a o) a u=upd H a u:=by
 funext b;unfold upd;split <;> rfl
theorem zrh {H:Hp} {a b:Addr} {o u:HO} (h:H a=some o) (h':H b=some u) (d:o≠u):a≠b:=by
 intro e;subst e;rw[h] at h';exact d (Option.some.inj h')
theorem zaq {H:Hp} {a b:Addr} {o:HO} (h:H a=some o) (h':H b=none):a≠b:=by
 intro e;subst e;rw[h] at h';cases h'
section
variable (P:Program) (w:World)
def TupN (h:Heap) (a:Addr) (items:Array Value):Prop:=∃ o,h.get? a=some o∧o.cls=.type "tuple"∧(∃ n,o.data=.seq items n)∧o.dict=none
theorem TupN.tup {h:Heap} {a:Addr} {items:Array Value} (x:TupN h a items):IsTup h a items:=let ⟨o,e,c,d,_⟩:=x;⟨o,e,c,d⟩
theorem TupN.new (h:Heap) (items:Array Value):TupN (h.push { cls:=.type "tuple",data:=.seq items }) h.objs.size items:=⟨_,Heap.get?_push_size _ rfl,rfl,⟨_,rfl⟩,rfl⟩
def ObjOk (H:Hp) (h:Heap) (a:Addr):HO->Prop
 | .lst xs=>xs.length≤sizeLine∧∃ (its:List Value) (n:Nat),Vals xs its∧h.get? a=some { cls:=.type "list",data:=.seq its.toArray n }
 | .tup xs=>xs.length≤sizeLine∧∃ its:List Value,Vals xs its∧TupN h a its.toArray
 | .dK kvs=>kvs.length≤sizeLine∧(a == sysModules)=false∧∃ vs,KV kvs vs∧h.DictOf (mixKind P w) a vs
 | .dT kvs => kvs.length ≤ sizeLine ∧ (a == sysModules) = false ∧ ∃ xs : List (List Key × Addr × Value),
     Paired (fun (p:List Key × V) (q:List Key × Addr × Value)=>p.1=q.1∧H q.2.1=some (.tup (p.1.map kV))∧RelV p.2 q.2.2) kvs xs ∧
     ∃ o es ep,h.get? a=some o∧o.ExactDict∧o.data=.dict es ep∧es.toList=xs.map (entryOfKey (tupleKind (mixKind P w)))∧(xs.map (·.1)).Nodup
 | .set S n=>h.SetOf (intKind P w) a S n
 | .ins C dx fs => H dx = some (.own a) ∧ fs.length ≤ 1000 ∧ dx ≠ a ∧ h.get? a = some (PySem.W.instObj C dx) ∧
     ∃ mA,h.Ns1 dx mA∧(∀ f,RelO (fs.lookup f) (mA f))∧PySem.Within mA (fs.map (·.1))
 | .own _=>∃ o,h.get? a=some o
 | .xd fs=>∃ mA,h.Ns1 a mA∧∀ f,RelO (fs.lookup f) (mA f)
 | .rng lo hi=>∃ t u v,h.get? a=some { cls:=.type "range",data:=.fields #[.int lo t,.int hi u,.int 1 v] }
 | .frz o u=>h.get? a=some o∧ObjOk H h a u
 | .tbl ps=>h.get? a=some { cls:=.none,data:=.fields ps }
 | .met f x=>h.get? a=some (PySem.W.methodObj (.ref f) (.ref x))
 | .ext φ=>φ h∧(∃ o,h.get? a=some o)∧∀ h1 h2:Heap,φ h1->(∀ o,h1.get? a=some o->h2.get? a=some o)->φ h2
def HOk (H:Hp) (h:Heap):Prop:=∀ a o,H a=some o->ObjOk P w H h a o
end
section
variable {P:Program} {w:World} {H H':Hp} {h h':Heap} {a:Addr} {o:HO}
theorem ObjOk.lt (x:ObjOk P w H h a o):a < h.objs.size:=by
 cases o with
 | lst xs=>obtain⟨_,_,_,_,e⟩:=x;exact Heap.lt_size e
 | tup xs=>obtain⟨_,_,_,p⟩:=x;exact p.tup.lt
 | dK kvs=>obtain⟨_,_,_,_,o,_,_,e,_⟩:=x;exact Heap.lt_size e
 | dT kvs=>obtain⟨_,_,_,_,o,_,_,e,_⟩:=x;exact Heap.lt_size e
 | set S n=>obtain⟨o,_,_,_,e,_⟩:=x;exact Heap.lt_size e
 | ins C dx fs=>obtain⟨_,_,_,e,_⟩:=x;exact Heap.lt_size e
 | own y=>obtain⟨_,e⟩:=x;exact Heap.lt_size e
 | xd fs=>obtain⟨_,⟨_,_,_,e,_⟩,_⟩:=x;exact Heap.lt_size e
 | rng lo hi=>obtain⟨_,_,_,e⟩:=x;exact Heap.lt_size e
 | frz ob u=>obtain⟨e,_⟩:=x;exact Heap.lt_size e
 | tbl ps=>exact Heap.lt_size (show h.get? a=some _ from x)
 | met f y=>exact Heap.lt_size (show h.get? a=some _ from x)
 | ext φ=>obtain⟨_,⟨_,e⟩,_⟩:=x;exact Heap.lt_size e
theorem Paired.mapP {α β:Type} {F G:α->β->Prop}:∀ {l₁:List α} {l₂:List β},Paired F l₁ l₂->(∀ a b,F a b->G a b)->Paired G l₁ l₂
 | _,_,.nil,_=>.nil
 | _,_,.cons r t,f=>.cons (f _ _ r) (Paired.mapP t f)
theorem ObjOk.stay (x:ObjOk P w H h a o) (k:∀ b u,(b=a∨H b=some (.own a))->h.get? b=some u->h'.get? b=some u)
  (ho:∀ b,H b=some (.own a)->H' b=some (.own a)) (ht:∀ b xs,H b=some (.tup xs)->H' b=some (.tup xs)):ObjOk P w H' h' a o:=by
 induction o with
 | lst xs=>obtain⟨z,its,n,r,e⟩:=x;exact⟨z,its,n,r,k _ _ (.inl rfl) e⟩
 | tup xs=>obtain⟨z,its,r,ob,e,c⟩:=x;exact⟨z,its,r,ob,k _ _ (.inl rfl) e,c⟩
 | dK kvs=>obtain⟨z,y,vs,r,ob,es,ep,e,c⟩:=x;exact⟨z,y,vs,r,ob,es,ep,k _ _ (.inl rfl) e,c⟩
 | dT kvs =>
  obtain⟨z,y,xs,r,ob,es,ep,e,c⟩:=x
  exact⟨z,y,xs,Paired.mapP r fun p q z=>⟨z.1,ht _ _ z.2.1,z.2.2⟩,ob,es,ep,k _ _ (.inl rfl) e,c⟩
 | set S n=>obtain⟨ob,es,ep,t,e,c⟩:=x;exact⟨ob,es,ep,t,k _ _ (.inl rfl) e,c⟩
 | ins C dx fs =>
  obtain⟨d,z,ne,e,mA,⟨od,es,ep,e2,c⟩,r⟩:=x
  exact⟨ho _ d,z,ne,k _ _ (.inl rfl) e,mA,⟨od,es,ep,k _ _ (.inr d) e2,c⟩,r⟩
 | own y=>obtain⟨ob,e⟩:=x;exact⟨ob,k _ _ (.inl rfl) e⟩
 | xd fs=>obtain⟨mA,⟨od,es,ep,e,c⟩,r⟩:=x;exact⟨mA,⟨od,es,ep,k _ _ (.inl rfl) e,c⟩,r⟩
 | rng lo hi=>obtain⟨t,u,v,e⟩:=x;exact⟨t,u,v,k _ _ (.inl rfl) e⟩
 | frz ob u ih=>obtain⟨e,q⟩:=x;exact⟨k _ _ (.inl rfl) e,ih q⟩
 | tbl ps =>
  have e:h.get? a=some { cls:=.none,data:=.fields ps }:=x
  show h'.get? a=some { cls:=.none,data:=.fields ps }
  exact k a _ (.inl rfl) e
 | met f y =>
  have e:h.get? a=some (PySem.W.methodObj (.ref f) (.ref y)):=x
  show h'.get? a=some (PySem.W.methodObj (.ref f) (.ref y))
  exact k a _ (.inl rfl) e
 | ext φ=>obtain⟨p,⟨o,e⟩,st⟩:=x;exact⟨st _ _ p fun o q=>k _ _ (.inl rfl) q,⟨o,k _ _ (.inl rfl) e⟩,st⟩
theorem HOk.lt (x:HOk P w H h) (e:H a=some o):a < h.objs.size:=(x a o e).lt
theorem HOk.fresh (x:HOk P w H h) (e:h.objs.size≤a):H a=none:=by
 cases q:H a with
 | none=>rfl
 | some u=>exact absurd (Nat.lt_of_lt_of_le (x.lt q) e) (Nat.lt_irrefl _)
theorem HOk.kept (x:HOk P w H h) (k:∀ b u,h.get? b=some u->h'.get? b=some u):HOk P w H h':=fun a o e =>
 (x a o e).stay (fun b u _ q=>k b u q) (fun _ q=>q) fun _ _ q=>q
theorem HOk.laid (x:HOk P w H h) (k:∀ b u,h.get? b=some u->h'.get? b=some u) (hp:h.objs.size≤a) (new:ObjOk P w (upd H a o) h' a o):HOk P w (upd H a o) h':=fun b u e=>by
 have hn:=x.fresh hp
 by_cases hb:b=a
 ·subst hb;rw[zak] at e;cases e;exact new
 ·rw[zat hb] at e
  exact (x b u e).stay (fun c v _ q=>k c v q) (fun c q=>by rw[zat (zaq q hn)];exact q) fun c xs q=>by rw[zat (zaq q hn)];exact q
end
def Rd (H:Hp) (a:Addr) (u:HO):Prop:=H a=some u∨∃ o,H a=some (.frz o u)
theorem Rd.ok {P:Program} {w:World} {H:Hp} {h:Heap} {a:Addr} {u:HO} (r:Rd H a u) (x:HOk P w H h):ObjOk P w H h a u:=by
 rcases r with r | ⟨o,r⟩
 ·exact x a u r
 ·obtain⟨_,q⟩:=x a _ r
  exact q
def Mut:Option HO->Prop
 | some (.lst _)=>True
 | some (.dK _)=>True
 | some (.dT _)=>True
 | some (.set _ _)=>True
 | some (.ins _ _ _)=>True
 | some (.ext _)=>True
 | _=>False
section
variable {P:Program} {w:World} {H:Hp} {h h':Heap} {x e:Addr} {o':HO}
theorem HOk.write (ok:HOk P w H h) (mu:Mut (H x)) (he:e=x∨H e=some (.own x)) (k:∀ b u,b≠e->h.get? b=some u->h'.get? b=some u) (heo:∃ u,h'.get? e=some u)
  (new:ObjOk P w (upd H x o') h' x o'):HOk P w (upd H x o') h':=fun b u q=>by
 have nown:∀ c y,H c=some (.own y)->c≠x:=fun c y r z=>by subst z;rw[r] at mu;exact mu
 have ntup:∀ c xs,H c=some (.tup xs)->c≠x:=fun c xs r z=>by subst z;rw[r] at mu;exact mu
 by_cases hb:b=x
 ·subst hb;rw[zak] at q;cases q;exact new
 ·rw[zat hb] at q
  by_cases hbe:b=e
  ·have q':H b=some (.own x):=by
    rcases he with z | z
    ·exact absurd (hbe.trans z) hb
    ·rw[hbe];exact z
   rw[q] at q';cases q'
   obtain⟨v,hv⟩:=heo
   exact⟨v,by rw[hbe];exact hv⟩
  ·refine (ok b u q).stay (fun c v hc r=>k c v ?_ r) (fun c r=>by rw[zat (nown c b r)];exact r) fun c xs r=>by rw[zat (ntup c xs r)];exact r
   rcases hc with rfl | hc
   ·exact hbe
   ·rintro rfl
    rcases he with z | z
    ·exact nown c b hc z
    ·rw[hc] at z;cases z;exact hb rfl
end
structure Un (fs ex:List Addr) (H H':Hp) (h h':Heap):Prop where
 keep:∀ b o,h.get? b=some o->H b=none->b ∉ fs->b ∉ ex->h'.get? b=some o
 slot:∀ b o,h.get? b=some o->H b=none->b ∈ fs->b ∉ ex->∃ sl,h'.get? b=some { o with slots:=sl }
 free:∀ b o,h.get? b=some o->H b=none->b ∉ ex->H' b=none
 there:∀ b o,h.get? b=some o->b ∉ ex->∃ o',h'.get? b=some o'
 tups:∀ b xs,H b=some (.tup xs)->H' b=some (.tup xs)
 frzs:∀ b o u,H b=some (.frz o u)->H' b=some (.frz o u)
 tbls:∀ b ps,H b=some (.tbl ps)->∃ more,H' b=some (.tbl (ps++more))
section
variable {fs fs' ex ex':List Addr} {H H1 H2:Hp} {h h1 h2 h':Heap} {a x e:Addr} {o:HO}
theorem Un.any (u:Un fs ex H H1 h h1) {b:Addr} {ob:Obj} (q:h.get? b=some ob) (n:H b=none) (hx:b ∉ ex):∃ sl,h1.get? b=some { ob with slots:=sl }:=by
 by_cases hb:b ∈ fs
 ·exact u.slot b ob q n hb hx
 ·exact⟨ob.slots,u.keep b ob q n hb hx⟩
theorem Un.trans (a:Un fs ex H H1 h h1) (b:Un fs ex H1 H2 h1 h2):Un fs ex H H2 h h2 where
 keep:=fun c ob q n hc hx=>b.keep c ob (a.keep c ob q n hc hx) (a.free c ob q n hx) hc hx
 slot:=fun c ob q n hc hx=>by
  obtain⟨sl,e1⟩:=a.slot c ob q n hc hx
  obtain⟨sl',e2⟩:=b.slot c _ e1 (a.free c ob q n hx) hc hx
  exact⟨sl',e2⟩
 free:=fun c ob q n hx=>by
  obtain⟨o',e1⟩:=a.there c ob q hx
  exact b.free c o' e1 (a.free c ob q n hx) hx
 there:=fun c ob q hx=>by
  obtain⟨o',e1⟩:=a.there c ob q hx
  exact b.there c o' e1 hx
 tups:=fun c xs q=>b.tups c xs (a.tups c xs q)
 frzs:=fun c ob xs q=>b.frzs c ob xs (a.frzs c ob xs q)
 tbls:=fun c ps q=>by
  obtain⟨m1,e1⟩:=a.tbls c ps q
  obtain⟨m2,e2⟩:=b.tbls c _ e1
  exact⟨m1++m2,by rw[e2,Array.append_assoc]⟩
theorem Un.kept (k:∀ b u,h.get? b=some u->h'.get? b=some u):Un fs ex H H h h' :=
 ⟨fun b ob q _ _ _=>k b ob q,fun b ob q _ _ _=>⟨ob.slots,k b ob q⟩,fun _ _ _ n _=>n,fun b ob q _=>⟨ob,k b ob q⟩,fun _ _ q=>q,fun _ _ _ q=>q,fun _ ps q=>⟨#[],by rw[q];simp⟩⟩
theorem Un.refl:Un fs ex H H h h:=Un.kept fun _ _ q=>q
theorem Un.laid (k:∀ b u,h.get? b=some u->h'.get? b=some u) (hp:h.objs.size≤a) (hn:H a=none):Un fs ex H (upd H a o) h h' where
 keep:=fun b u q _ _ _=>k b u q
 slot:=fun b u q _ _ _=>⟨u.slots,k b u q⟩
 free:=fun b u q n _=>by rw[zat (Nat.ne_of_lt (Nat.lt_of_lt_of_le (Heap.lt_size q) hp))];exact n
 there:=fun b u q _=>⟨u,k b u q⟩
 tups:=fun b xs q=>by rw[zat (zaq q hn)];exact q
 frzs:=fun b u xs q=>by rw[zat (zaq q hn)];exact q
 tbls:=fun b ps q=>⟨#[],by rw[zat (zaq q hn),q];simp⟩
theorem Un.write (mu:Mut (H x)) (he:e=x∨H e=some (.own x)) (k:∀ b u,b≠e->h.get? b=some u->h'.get? b=some u) (heo:∃ u,h'.get? e=some u):Un fs ex H (upd H x o) h h':=by
 have hx:∀ b,H b=none->b≠x:=fun b n z=>by subst z;rw[n] at mu;exact mu
 have hb:∀ b,H b=none->b≠e:=fun b n z=>by
  subst z
  rcases he with r | r
  ·exact hx b n r
  ·rw[n] at r;cases r
 have hm:∀ b u,H b=some u->¬ Mut (some u)->b≠x:=fun b u q nm z=>by subst z;rw[q] at mu;exact nm mu
 refine⟨fun b u q n _ _=>k b u (hb b n) q,fun b u q n _ _=>⟨u.slots,k b u (hb b n) q⟩,fun b u q n _=>by rw[zat (hx b n)];exact n,fun b u q _=>?_,
  fun b xs q=>by rw[zat (hm b _ q fun z=>z)];exact q,fun b u xs q=>by rw[zat (hm b _ q fun z=>z)];exact q,fun b ps q=>⟨#[],by rw[zat (hm b _ q fun z=>z),q];simp⟩⟩
 by_cases hbe:b=e
 ·subst hbe;exact heo
 ·exact⟨u,k b u hbe q⟩
end
def trk (h:Heap) (H:Hp):List Addr:=(List.range h.objs.size).filter fun a=>(H a).isSome
def hidT (h:Heap) (H:Hp):Heap:=PySem.W.hideAll h (trk h H)
theorem zmz (h:Heap) (H:Hp):(hidT h H).objs.size=h.objs.size:=PySem.W.hideAll_size _ _
theorem zok {h:Heap} {H:Hp} {b:Addr} {o:Obj} (e:h.get? b=some o) (n:H b=none):(hidT h H).get? b=some o :=
 PySem.W.hideAll_get _ e fun hm=>by
  have q:(H b).isSome=true:=(List.mem_filter.mp hm).2
  rw[n] at q;simp at q
theorem zpz {h:Heap} {H:Hp} {b:Addr} {o:Obj} (e:(hidT h H).get? b=some o):h.get? b=some o∧H b=none:=by
 have e':h.get? b=some o:=PySem.W.of_hideAll (trk h H) e
 refine⟨e',?_⟩
 cases q:H b with
 | none=>rfl
 | some x =>
  have hm:b ∈ trk h H:=List.mem_filter.mpr ⟨List.mem_range.mpr (Heap.lt_size e'),by simp [q]⟩
  have z:(hidT h H).get? b=none:=PySem.W.hideAll_none (trk h H) hm
  rw[z] at e;cases e
def allNews (g h:Heap) (L:Addr):List (Addr × Obj):=(List.range h.objs.size).filterMap fun a=>if a=L∨(g.get? a).isSome=true then none else (h.get? a).map fun o=>(a,o)
def rest (g h:Heap) (L d:Addr):List (Addr × Obj):=(allNews g h L).filter fun p=>decide (p.1≠d)
end L2
namespace L2
open PySem PySem.Spec PyProof.Rows
structure Mod (K:PySem.W.Frag) (mg:Str->Option Value) (base:Heap):Prop where
 kin:K.In base
 glob:base.Ns mainGlobals mg
 blt:∃ mb,base.Ns builtinsNs mb∧∀ x:Str,x≠"__name__"->mb x=bootBuiltins x
 nolimit:base.NoLimit
structure Cx where
 prog:Program
 w:World
 K:PySem.W.Frag
 mg:Str->Option Value
 base:Heap
 A:Around
 N:List Str
 s₀:Shared
 H₀:Hp
 env:Env
 outer:List Env
 stack:List Env
 ex:List Addr
 fn:Str->Bool
 calm:Bool
 pn:List (Addr × Obj)
 xe:Value->Shared->Prop
def frs (l:List Env):List Addr:=l.filterMap (·.frame)
abbrev Cx.fs (X:Cx):List Addr:=frs X.outer
def Vis (sc:Scope) (x:Str):Prop:=sc.names.lookup x=some .local∨sc.names.lookup x=some .cell∨sc.names.lookup x=some .free
def Loc (sc:Scope) (x:Str):Prop:=sc.names.lookup x=some .local∨sc.names.lookup x=some .cell
def Look (env:Env) (h:Heap) (m:Str->Option Value) (x:Str) (u:Value):Prop :=
 (env.kindOf x=some .local∧m x=some u)∨((env.kindOf x=some .cell∨env.kindOf x=some .free)∧∃ c,env.cells.lookup x=some c∧h.IsCell c (some u))
structure Cx.Ok (X:Cx):Prop where
 mod:Mod X.K X.mg X.base
 kind:X.env.scope.kind=.function
 glob:X.env.globals=mainGlobals
 blt:X.env.builtins=builtinsNs
 above:X.s₀.heap.objs.size≤X.env.locals
 inj:∀ x y c,X.env.cells.lookup x=some c->X.env.cells.lookup y=some c->x=y
 has:∀ x,(X.env.kindOf x=some .cell∨X.env.kindOf x=some .free)->∃ c,X.env.cells.lookup x=some c
 cab:∀ x c,X.fn x=true->X.env.cells.lookup x=some c->X.s₀.heap.objs.size≤c
 hd:X.calm=true->X.A.handled=none
 frames:X.A.frames=some X.stack
 stk:X.stack=X.outer∨(X.stack=X.env::X.outer∧X.env.frame=some X.env.locals)
 exf:∀ b ∈ X.ex,b≠X.env.locals∧∀ x c,X.env.cells.lookup x=some c->c≠b
 bs:∀ b o,X.base.get? b=some o->X.s₀.heap.get? b=some o∧X.H₀ b=none
 bsz:X.base.objs.size≤X.s₀.heap.objs.size
 noex:∀ b o,X.base.get? b=some o->b ∉ X.ex
 exfs:∀ b ∈ X.ex,b ∉ X.fs
 funs:X.s₀.heap.FunFrames X.base X.outer
 frf:∀ b ∈ X.fs,X.H₀ b=none
structure Inv (X:Cx) (pins:List (Addr × Obj)) (σ:List (Option V)) (H:Hp) (s:Shared):Prop where
 ok:X.Ok
 os:s.os=X.s₀.os
 bare:AllBare s.gens
 base:Un X.fs X.ex X.H₀ H X.s₀.heap s.heap
 loc:∃ m,s.heap.Ns X.env.locals m∧∀ (i:Nat) (x:Str) (v:V),X.N[i]?=some x->σ[i]?=some (some v)->Vis X.env.scope x->∃ u,RelV v u∧Look X.env s.heap m x u
 cell:∀ x c,X.env.cells.lookup x=some c->∃ v,s.heap.IsCell c v
 free:H X.env.locals=none
 freeC:∀ x c,X.env.cells.lookup x=some c->H c=none
 pin:∀ p ∈ X.pn++pins,s.heap.get? p.1=some p.2∧H p.1=none∧p.1≠X.env.locals∧p.1 ∉ X.fs∧∀ v,p.2.data≠.cell v
 hok:HOk X.prog X.w H s.heap
 len:σ.length=X.N.length
section
variable {X:Cx} {pins:List (Addr × Obj)} {σ:List (Option V)} {H H':Hp} {s:Shared} {h':Heap}
theorem Cx.Ok.nofr (ok:X.Ok) {b:Addr} {o:Obj} (e:X.base.get? b=some o):b ∉ X.fs:=fun hb=>by
 have:=(ok.funs.mem hb).1
 rw[e] at this;cases this
theorem Inv.bs (I:Inv X pins σ H s):∀ b o,X.base.get? b=some o->s.heap.get? b=some o∧H b=none:=fun b o e =>
 ⟨I.base.keep b o (I.ok.bs b o e).1 (I.ok.bs b o e).2 (I.ok.nofr e) (I.ok.noex b o e),I.base.free b o (I.ok.bs b o e).1 (I.ok.bs b o e).2 (I.ok.noex b o e)⟩
theorem Inv.bk (I:Inv X pins σ H s):∀ b o,X.base.get? b=some o->s.heap.get? b=some o:=fun b o e=>(I.bs b o e).1
theorem Inv.mod (I:Inv X pins σ H s):Mod X.K X.mg X.base:=I.ok.mod
theorem Inv.kIn (I:Inv X pins σ H s):X.K.In s.heap:=I.ok.mod.kin.keeps I.bk
theorem Inv.lt (I:Inv X pins σ H s):X.env.locals < s.heap.objs.size:=let ⟨_,hn,_⟩:=I.loc;hn.lt
theorem Inv.sz (I:Inv X pins σ H s):X.s₀.heap.objs.size≤s.heap.objs.size:=Nat.le_trans I.ok.above (Nat.le_of_lt I.lt)
theorem Inv.nofs (I:Inv X pins σ H s) {a:Addr} (h:s.heap.objs.size≤a):a ∉ X.fs:=fun hb=>by
 obtain⟨_,o,ho,_⟩:=I.ok.funs.mem hb
 exact absurd (Nat.lt_of_lt_of_le (Heap.lt_size ho) (Nat.le_trans I.sz h)) (Nat.lt_irrefl _)
theorem Inv.cne (I:Inv X pins σ H s):∀ x c,X.env.cells.lookup x=some c->c≠X.env.locals:=fun x c e z=>by
 obtain⟨v,o,ho,hd⟩:=I.cell x c e
 obtain⟨m,⟨o',es,ep,ho',hd',_⟩,_⟩:=I.loc
 rw[z,ho'] at ho;cases ho;rw[hd'] at hd;cases hd
theorem Inv.funs (I:Inv X pins σ H s):s.heap.FunFrames X.base X.outer:=by
 have all:∀ (l:List Env),(∀ b ∈ frs l,b ∈ X.fs)->X.s₀.heap.FunFrames X.base l->s.heap.FunFrames X.base l:=by
  intro l
  induction l with
  | nil=>intro _ _;trivial
  | cons env r ih =>
   intro hs hl
   obtain⟨hk,⟨L,o,hf,hn,ho,hd⟩,hr⟩:=hl
   have hL:L ∈ X.fs:=hs L (by unfold frs;rw[List.filterMap_cons,hf];exact List.mem_cons_self)
   obtain⟨sl,e⟩:=I.base.slot L o ho (I.ok.frf L hL) hL fun z=>I.ok.exfs L z hL
   exact⟨hk,⟨L,_,hf,hn,e,hd⟩,ih (fun b hb=>hs b (by unfold frs;rw[List.filterMap_cons,hf];exact List.mem_cons_of_mem _ hb)) hr⟩
 exact all X.outer (fun _ hb=>hb) I.ok.funs
theorem Inv.stack (I:Inv X pins σ H s):s.heap.FunFrames X.base X.stack:=by
 rcases I.ok.stk with e | ⟨e,hf⟩
 ·rw[e];exact I.funs
 ·rw[e]
  obtain⟨m,hn,_⟩:=I.loc
  refine .cons (by rw[I.ok.kind];decide) hf hn ?_ I.funs
  exact Heap.get?_none_of_le (Nat.le_trans I.ok.bsz I.ok.above)
theorem Inv.stkSub (I:Inv X pins σ H s):∀ b ∈ frs X.stack,b ∈ X.env.locals::X.fs:=fun b hb=>by
 rcases I.ok.stk with e | ⟨e,hf⟩
 ·rw[e] at hb;exact List.mem_cons_of_mem _ hb
 ·rw[e] at hb
  unfold frs at hb
  rw[List.filterMap_cons,hf] at hb
  exact hb
theorem Inv.stkFree (I:Inv X pins σ H s):∀ b ∈ frs X.stack,H b=none:=fun b hb=>by
 rcases List.mem_cons.mp (I.stkSub b hb) with e | hb
 ·rw[e];exact I.free
 ·obtain⟨_,o,ho,_⟩:=I.ok.funs.mem hb
  exact I.base.free b o ho (I.ok.frf b hb) fun z=>I.ok.exfs b z hb
theorem Inv.step {g':Array GenState} {t':Nat} {d':Drawn} {ch:List Addr} (I:Inv X pins σ H s)
  (hch:∀ b ∈ ch,(b ∈ X.ex∨X.s₀.heap.objs.size≤b)∧b≠X.env.locals∧(∀ x c,X.env.cells.lookup x=some c->c≠b)∧∀ p ∈ X.pn++pins,p.1≠b)
  (keep:∀ b o,b≠X.env.locals->b ∉ X.fs->b ∉ ch->s.heap.get? b=some o->H b=none->h'.get? b=some o)
  (slot:∀ b o,b≠X.env.locals->b ∈ X.fs->b ∉ ch->s.heap.get? b=some o->H b=none->∃ sl,h'.get? b=some { o with slots:=sl }) (free:∀ b o,b ∉ ch->s.heap.get? b=some o->H b=none->H' b=none)
  (there:∀ b o,b ∉ ch->s.heap.get? b=some o->∃ o',h'.get? b=some o')
  (tups:∀ b xs,H b=some (.tup xs)->H' b=some (.tup xs)) (frzs:∀ b o u,H b=some (.frz o u)->H' b=some (.frz o u)) (tbls:∀ b ps,H b=some (.tbl ps)->∃ more,H' b=some (.tbl (ps++more)))
  (ns:∀ m,s.heap.Ns X.env.locals m->h'.Ns X.env.locals m) (hok:HOk X.prog X.w H' h') (hg:AllBare g') :
  Inv X pins σ H' { s with heap:=h',gens:=g',drawn:=d',toks:=t' }:=by
 have neL:∀ b o,X.s₀.heap.get? b=some o->b≠X.env.locals:=fun b o e=>Nat.ne_of_lt (Nat.lt_of_lt_of_le (Heap.lt_size e) I.ok.above)
 have neC:∀ b o,X.s₀.heap.get? b=some o->b ∉ X.ex->b ∉ ch:=fun b o e hx hb=>by
  rcases (hch b hb).1 with z | z
  ·exact hx z
  ·exact absurd (Nat.lt_of_lt_of_le (Heap.lt_size e) z) (Nat.lt_irrefl _)
 have cellK:∀ x c,X.env.cells.lookup x=some c->∀ v,s.heap.IsCell c v->h'.IsCell c v:=fun x c e v ⟨o,ho,hd⟩=>by
  have nch:c ∉ ch:=fun z=>(hch c z).2.2.1 x c e rfl
  by_cases hc:c ∈ X.fs
  ·obtain⟨sl,q⟩:=slot c o (I.cne x c e) hc nch ho (I.freeC x c e)
   exact⟨_,q,hd⟩
  ·exact⟨o,keep c o (I.cne x c e) hc nch ho (I.freeC x c e),hd⟩
 refine⟨I.ok,I.os,hg,⟨fun b o e n hb hx=>?_,fun b o e n hb hx=>?_,fun b o e n hx=>?_,fun b o e hx=>?_,fun b xs e=>tups b xs (I.base.tups b xs e),fun b o xs e=>frzs b o xs (I.base.frzs b o xs e),fun b ps e=>?_⟩,?_,fun x c e=>?_,?_,fun x c e=>?_,fun p hp=>?_,hok,I.len⟩
 ·exact keep b o (neL b o e) hb (neC b o e hx) (I.base.keep b o e n hb hx) (I.base.free b o e n hx)
 ·obtain⟨sl,e1⟩:=I.base.slot b o e n hb hx
  obtain⟨sl',e2⟩:=slot b _ (neL b o e) hb (neC b o e hx) e1 (I.base.free b o e n hx)
  exact⟨sl',e2⟩
 ·obtain⟨o',e1⟩:=I.base.there b o e hx
  exact free b o' (neC b o e hx) e1 (I.base.free b o e n hx)
 ·obtain⟨o',e1⟩:=I.base.there b o e hx
  exact there b o' (neC b o e hx) e1
 ·obtain⟨m1,e1⟩:=I.base.tbls b ps e
  obtain⟨m2,e2⟩:=tbls b _ e1
  exact⟨m1++m2,by rw[e2,Array.append_assoc]⟩
 ·obtain⟨m,hn,hl⟩:=I.loc
  refine⟨m,ns m hn,fun i x v e1 e2 e3=>?_⟩
  obtain⟨u,r,l⟩:=hl i x v e1 e2 e3
  refine⟨u,r,?_⟩
  rcases l with l | ⟨k,c,e,z⟩
  ·exact .inl l
  ·exact .inr ⟨k,c,e,cellK x c e _ z⟩
 ·obtain⟨v,z⟩:=I.cell x c e
  exact⟨v,cellK x c e v z⟩
 ·obtain⟨m,⟨o,_,_,ho,_⟩,_⟩:=I.loc
  exact free _ o (fun z=>(hch _ z).2.1 rfl) ho I.free
 ·obtain⟨v,o,ho,hd⟩:=I.cell x c e
  exact free c o (fun z=>(hch c z).2.2.1 x c e rfl) ho (I.freeC x c e)
 ·obtain⟨e,n,ne,nf,d⟩:=I.pin p hp
  have nch:p.1 ∉ ch:=fun z=>(hch p.1 z).2.2.2 p hp rfl
  exact⟨keep p.1 p.2 ne nf nch e n,free p.1 p.2 nch e n,ne,nf,d⟩
theorem Inv.un {t':Nat} (I:Inv X pins σ H s) (u:Un X.fs [] H H' s.heap h') (hok:HOk X.prog X.w H' h'):Inv X pins σ H' { s with heap:=h',toks:=t' }:=by
 obtain⟨m,⟨o,es,ep,ho,r⟩,_⟩:=id I.loc
 obtain⟨sl,hL⟩:=u.any ho I.free (by simp)
 exact I.step (g':=s.gens) (d':=s.drawn) (ch:=[]) (fun _ z=>nomatch z) (fun b o _ hb _ e n=>u.keep b o e n hb (by simp)) (fun b o _ hb _ e n=>u.slot b o e n hb (by simp)) (fun b o _ e n=>u.free b o e n (by simp)) (fun b o _ e=>u.there b o e (by simp)) u.tups u.frzs u.tbls (fun m' hm=>by
  obtain⟨o',es',ep',ho',r'⟩:=hm
  rw[ho] at ho';cases ho'
  exact⟨_,es',ep',hL,r'⟩) hok I.bare
theorem Inv.call {g':Array GenState} {t':Nat} {d':Drawn} {ch:List Addr} (I:Inv X pins σ H s) (u:Un (frs X.stack) ch H H' s.heap h') (hok:HOk X.prog X.w H' h') (hg:AllBare g')
  (hch:∀ b ∈ ch,(b ∈ X.ex∨X.s₀.heap.objs.size≤b)∧b≠X.env.locals∧(∀ x c,X.env.cells.lookup x=some c->c≠b)∧∀ p ∈ X.pn++pins,p.1≠b) :
  Inv X pins σ H' { s with heap:=h',gens:=g',drawn:=d',toks:=t' }:=by
 obtain⟨m,⟨o,es,ep,ho,r⟩,_⟩:=id I.loc
 obtain⟨sl,hL⟩:=u.any ho I.free fun z=>(hch _ z).2.1 rfl
 exact I.step (ch:=ch) hch (fun b o hL hb hc e n=>u.keep b o e n (fun z=>(List.mem_cons.mp (I.stkSub b z)).elim hL hb) hc) (fun b o _ _ hc e n=>u.any e n hc) (fun b o hc e n=>u.free b o e n hc) (fun b o hc e=>u.there b o e hc) u.tups u.frzs u.tbls (fun m' hm=>by
  obtain⟨o',es',ep',ho',r'⟩:=hm
  rw[ho] at ho';cases ho'
  exact⟨_,es',ep',hL,r'⟩) hok hg
theorem Inv.turned {t':Nat} {it:Addr} (I:Inv X pins σ H s) (k:∀ b o,b≠it->s.heap.get? b=some o->h'.get? b=some o) (hn:H it=none) (hL:it≠X.env.locals)
  (h1:it ∈ X.ex∨X.s₀.heap.objs.size≤it) (h2:∀ x c,X.env.cells.lookup x=some c->c≠it) (h3:∀ p ∈ X.pn++pins,p.1≠it):Inv X pins σ H { s with heap:=h',toks:=t' }:=by
 have nit:∀ b u,H b=some u->b≠it:=fun b u e z=>by rw[z,hn] at e;cases e
 refine I.step (g':=s.gens) (d':=s.drawn) (ch:=[it]) (fun b hb=>?_) (fun b o _ _ hc e _=>k b o (fun z=>hc (by simp [z])) e) (fun b o _ _ hc e _=>⟨o.slots,k b o (fun z=>hc (by simp [z])) e⟩) (fun _ _ _ _ n=>n)
  (fun b o hc e=>⟨o,k b o (fun z=>hc (by simp [z])) e⟩) (fun _ _ e=>e) (fun _ _ _ e=>e) (fun b ps e=>⟨#[],by rw[e];simp⟩) (fun m hm=>?_) (fun b u e=>?_) I.bare
 ·have e:b=it:=by simpa using hb
  subst e
  exact⟨h1,hL,h2,h3⟩
 ·obtain⟨o,es,ep,ho,r⟩:=hm
  exact⟨o,es,ep,k _ o (Ne.symm hL) ho,r⟩
 ·refine (I.hok b u e).stay (fun c v hc q=>k c v ?_ q) (fun _ q=>q) fun _ _ q=>q
  rcases hc with z | z
  ·rw[z];exact nit b u e
  ·exact nit c _ z
theorem Inv.tok (I:Inv X pins σ H s) (t:Nat):Inv X pins σ H { s with toks:=t }:=I.un (h':=s.heap) (t':=t) Un.refl I.hok
theorem Inv.kept {t':Nat} (I:Inv X pins σ H s) (k:∀ b u,s.heap.get? b=some u->h'.get? b=some u):Inv X pins σ H { s with heap:=h',toks:=t' }:=I.un (Un.kept k) (I.hok.kept k)
theorem Inv.laid {a:Addr} {o:HO} {t':Nat} (I:Inv X pins σ H s) (k:∀ b u,s.heap.get? b=some u->h'.get? b=some u) (hp:s.heap.objs.size≤a) (new:ObjOk X.prog X.w (upd H a o) h' a o) :
  Inv X pins σ (upd H a o) { s with heap:=h',toks:=t' }:=I.un (Un.laid k hp (I.hok.fresh hp)) (I.hok.laid k hp new)
theorem Inv.write {x e:Addr} {o:HO} {t':Nat} (I:Inv X pins σ H s) (mu:Mut (H x)) (he:e=x∨H e=some (.own x)) (k:∀ b u,b≠e->s.heap.get? b=some u->h'.get? b=some u) (heo:∃ u,h'.get? e=some u)
  (new:ObjOk X.prog X.w (upd H x o) h' x o):Inv X pins σ (upd H x o) { s with heap:=h',toks:=t' }:=I.un (Un.write mu he k heo) (I.hok.write mu he k heo new)
theorem Inv.pins_of {pins':List (Addr × Obj)} (I:Inv X pins σ H s) (h:∀ p ∈ pins',s.heap.get? p.1=some p.2∧H p.1=none∧p.1≠X.env.locals∧p.1 ∉ X.fs∧∀ v,p.2.data≠.cell v):Inv X pins' σ H s :=
 ⟨I.ok,I.os,I.bare,I.base,I.loc,I.cell,I.free,I.freeC,fun p hp=>(List.mem_append.mp hp).elim (fun z=>I.pin p (List.mem_append_left _ z)) (h p),I.hok,I.len⟩
theorem zkh {N:List Str} (hN:N.Nodup) {i j:Nat} {x:Str} (a:N[i]?=some x) (b:N[j]?=some x):i=j:=by
 obtain⟨h1,e1⟩:=List.getElem?_eq_some_iff.mp a
 obtain⟨h2,e2⟩:=List.getElem?_eq_some_iff.mp b
 exact (List.getElem_inj hN).mp (e1.trans e2.symm)
theorem zlz {M:Model} {A:Around} {E:Value->Shared->Prop} {i:Nat} {x:Str} {v:V} {u:Value} {Q:Unit->Shared->Prop} (I:Inv X pins σ H s) (hN:X.N.Nodup) (hi:X.N[i]?=some x) (hx:Loc X.env.scope x) (r:RelV v u)
  (h:∀ s',Inv X pins (σ.set i (some v)) H s'->(∃ a,Heap.SameBut a s.heap s'.heap∧(a=X.env.locals∨X.env.cells.lookup x=some a))->Q () s') (hf:X.fn x=true∨X.env.scope.names.lookup x=some .local:=by first | exact .inl rfl | exact .inr rfl | assumption):wpAny M A (storeName X.env x u) Q E s:=by
 obtain⟨m,hn,hl⟩:=id I.loc
 have hcls:(X.env.scope.kind == .class || (X.env.scope.kind == .module && X.env.locals != X.env.globals))=false:=by rw[I.ok.kind];rfl
 have hiσ:i < σ.length:=by rw[I.len];exact (List.getElem?_eq_some_iff.mp hi).1
 have cne:=I.cne
 have tracked:∀ {a:Addr} {h':Heap},(∃ o,s.heap.get? a=some o∧H a=none)->Heap.SameBut a s.heap h'->HOk X.prog X.w H h':=fun {a h'} ha hs b ob e=>by
  obtain⟨_,_,hfree⟩:=ha
  refine (I.hok b ob e).stay (fun c w' hc q=>(hs.2 c ?_).trans q) (fun _ q=>q) fun _ _ q=>q
  rintro rfl
  rcases hc with rfl | hc
  ·rw[hfree] at e;cases e
  ·rw[hfree] at hc;cases hc
 rcases hx with hk | hk
 ·refine wpAny_storeName_local hk hn (fun h' hn' hs=>?_) hcls
  obtain⟨oL,_,_,hoL,_⟩:=id hn
  refine h _ ⟨I.ok,I.os,I.bare,⟨fun b o e n hb hx=>?_,fun b o e n hb hx=>?_,I.base.free,fun b o e hx=>?_,I.base.tups,I.base.frzs,I.base.tbls⟩,⟨_,hn',fun j y v' e1 e2 e3=>?_⟩,fun y c e=>?_,I.free,I.freeC,fun p hp=>?_,tracked ⟨oL,hoL,I.free⟩ hs,by simpa using I.len⟩ ⟨_,hs,.inl rfl⟩
  ·exact (hs.2 b (Nat.ne_of_lt (Nat.lt_of_lt_of_le (Heap.lt_size e) I.ok.above))).trans (I.base.keep b o e n hb hx)
  ·obtain⟨sl,e1⟩:=I.base.slot b o e n hb hx
   exact⟨sl,(hs.2 b (Nat.ne_of_lt (Nat.lt_of_lt_of_le (Heap.lt_size e) I.ok.above))).trans e1⟩
  ·obtain⟨o',e1⟩:=I.base.there b o e hx
   exact⟨o',(hs.2 b (Nat.ne_of_lt (Nat.lt_of_lt_of_le (Heap.lt_size e) I.ok.above))).trans e1⟩
  ·by_cases hj:j=i
   ·subst hj
    rw[hi] at e1;cases e1
    rw[List.getElem?_set_self hiσ] at e2
    cases e2
    exact⟨u,r,.inl ⟨hk,by simp⟩⟩
   ·rw[List.getElem?_set_ne (Ne.symm hj)] at e2
    obtain⟨u',r',q⟩:=hl j y v' e1 e2 e3
    refine⟨u',r',?_⟩
    rcases q with ⟨k,e⟩ | ⟨k,c,e,z⟩
    ·refine .inl ⟨k,?_⟩
     have:y≠x:=fun e=>hj (zkh hN e1 (e ▸ hi))
     simp [this,e]
    ·exact .inr ⟨k,c,e,z.sameBut hs (cne y c e)⟩
  ·obtain⟨w',z⟩:=I.cell y c e
   exact⟨w',z.sameBut hs (cne y c e)⟩
  ·obtain⟨e,n,ne,nf,d⟩:=I.pin p hp
   exact⟨(hs.2 p.1 ne).trans e,n,ne,nf,d⟩
 ·have hfn:X.fn x=true:=by
   rcases hf with z | z
   ·exact z
   ·rw[z] at hk;cases hk
  obtain⟨c,hc⟩:=I.ok.has x (.inl hk)
  obtain⟨w',z⟩:=I.cell x c hc
  refine wpAny_storeName_cell I.ok.kind hk hc z (fun h' hc' hs=>?_)
  obtain⟨oc,hoc,hocd⟩:=id z
  refine h { s with heap:=h' } ⟨I.ok,I.os,I.bare,⟨fun b o e n hb hx=>?_,fun b o e n hb hx=>?_,I.base.free,fun b o e hx=>?_,I.base.tups,I.base.frzs,I.base.tbls⟩,⟨m,hn.sameBut hs (Ne.symm (cne x c hc)),fun j y v' e1 e2 e3=>?_⟩,fun y c' e=>?_,I.free,I.freeC,fun p hp=>?_,tracked ⟨oc,hoc,I.freeC x c hc⟩ hs,by simpa using I.len⟩ ⟨c,hs,.inr hc⟩
  ·exact (hs.2 b (Nat.ne_of_lt (Nat.lt_of_lt_of_le (Heap.lt_size e) (I.ok.cab x c hfn hc)))).trans (I.base.keep b o e n hb hx)
  ·obtain⟨sl,e1⟩:=I.base.slot b o e n hb hx
   exact⟨sl,(hs.2 b (Nat.ne_of_lt (Nat.lt_of_lt_of_le (Heap.lt_size e) (I.ok.cab x c hfn hc)))).trans e1⟩
  ·obtain⟨o',e1⟩:=I.base.there b o e hx
   exact⟨o',(hs.2 b (Nat.ne_of_lt (Nat.lt_of_lt_of_le (Heap.lt_size e) (I.ok.cab x c hfn hc)))).trans e1⟩
  ·by_cases hj:j=i
   ·subst hj
    rw[hi] at e1;cases e1
    rw[List.getElem?_set_self hiσ] at e2
    cases e2
    exact⟨u,r,.inr ⟨.inl hk,c,hc,hc'⟩⟩
   ·rw[List.getElem?_set_ne (Ne.symm hj)] at e2
    obtain⟨u',r',q⟩:=hl j y v' e1 e2 e3
    refine⟨u',r',?_⟩
    rcases q with q | ⟨k,c',e,z'⟩
    ·exact .inl q
    ·refine .inr ⟨k,c',e,z'.sameBut hs ?_⟩
     rintro rfl
     exact hj (zkh hN e1 (I.ok.inj _ _ _ e hc ▸ hi))
  ·by_cases hcc:c'=c
   ·subst hcc;exact⟨_,hc'⟩
   ·obtain⟨w2,z2⟩:=I.cell y c' e
    exact⟨w2,z2.sameBut hs hcc⟩
  ·obtain⟨e,n,ne,nf,d⟩:=I.pin p hp
   refine⟨(hs.2 p.1 ?_).trans e,n,ne,nf,d⟩
   intro q
   rw[q,hoc] at e
   have q':oc=p.2:=Option.some.inj e
   exact d w' (by rw[← q'];exact hocd)
theorem zkc {M:Model} {A:Around} {E:Value->Shared->Prop} {i:Nat} {x:Str} {v:V} {u:Value} {Q:Unit->Shared->Prop} (I:Inv X pins σ H s) (hN:X.N.Nodup) (hi:X.N[i]?=some x) (hx:Loc X.env.scope x) (r:RelV v u)
  (h:∀ s',Inv X pins (σ.set i (some v)) H s'->Q () s') (hf:X.fn x=true∨X.env.scope.names.lookup x=some .local:=by first | exact .inl rfl | exact .inr rfl | assumption):wpAny M A (storeName X.env x u) Q E s :=
 zlz I hN hi hx r (fun s' I' _=>h s' I') hf
theorem Inv.call' {s':Shared} {ch:List Addr} (I:Inv X pins σ H s) (ho:s'.os=s.os) (u:Un (frs X.stack) ch H H' s.heap s'.heap) (hok:HOk X.prog X.w H' s'.heap) (hg:AllBare s'.gens)
  (hch:∀ b ∈ ch,(b ∈ X.ex∨X.s₀.heap.objs.size≤b)∧b≠X.env.locals∧(∀ x c,X.env.cells.lookup x=some c->c≠b)∧∀ p ∈ X.pn++pins,p.1≠b):Inv X pins σ H' s':=by
 obtain⟨h',g',d',t',o'⟩:=s'
 have e:o'=s.os:=ho
 subst e
 exact I.call (g':=g') (t':=t') (d':=d') u hok hg hch
end
abbrev XK:=Value->Option Addr->Hp->Prop
abbrev St:=List (Option V)
abbrev VK:=V->Hp->Prop
abbrev TE:=St->Hp->VK->Prop
abbrev TT:=St->Hp->(Bool->Hp->Prop)->Prop
abbrev TA:=St->Hp->(List V->Hp->Prop)->Prop
structure Ends where
 nx:St->Hp->Prop
 rt:VK
 bk:St->Hp->Prop:=fun _ _=>False
 ct:St->Hp->Prop:=fun _ _=>False
abbrev TS:=Ends->St->Hp->Prop
def EP (X:Cx) (pins:List (Addr × Obj)) (σ:St) (Q:VK) (u:Value) (s':Shared):Prop:=∃ v H',Inv X pins σ H' s'∧RelV v u∧Q v H'
def TP (X:Cx) (pins:List (Addr × Obj)) (σ:St) (Q:Bool->Hp->Prop) (b:Bool) (s':Shared):Prop:=∃ H',Inv X pins σ H' s'∧Q b H'
def AP (X:Cx) (pins:List (Addr × Obj)) (σ:St) (Q:List V->Hp->Prop) (us:List Value) (s':Shared):Prop:=∃ vs H',Inv X pins σ H' s'∧Vals vs us∧Q vs H'
def SP (X:Cx) (pins:List (Addr × Obj)) (D:Ends) (f:Flow) (s':Shared):Prop :=
 match f with
 | .next=>∃ σ' H',Inv X pins σ' H' s'∧D.nx σ' H'
 | .brk=>∃ σ' H',Inv X pins σ' H' s'∧D.bk σ' H'
 | .cont=>∃ σ' H',Inv X pins σ' H' s'∧D.ct σ' H'
 | .ret u=>∃ v σ' H',Inv X pins σ' H' s'∧RelV v u∧D.rt v H'
def PE (X:Cx) (e:Expr) (t:TE):Prop :=
 ∀ (pins:List (Addr × Obj)) (s:Shared) (σ:St) (H:Hp) (Q:VK),Inv X pins σ H s->t σ H Q->wpAny (model X.prog X.w) X.A (eval e X.env) (EP X pins σ Q) X.xe s
def PT (X:Cx) (e:Expr) (t:TT):Prop :=
 ∀ (pins:List (Addr × Obj)) (s:Shared) (σ:St) (H:Hp) (Q:Bool->Hp->Prop),Inv X pins σ H s->t σ H Q->wpAny (model X.prog X.w) X.A (isTrue e X.env (eval e X.env)) (TP X pins σ Q) X.xe s
def PW (X:Cx) (e:Expr) (t:TT):Prop :=
 ∀ (whole:Sem Value) (pins:List (Addr × Obj)) (s:Shared) (σ:St) (H:Hp) (Q:Bool->Hp->Prop),Inv X pins σ H s->t σ H Q->wpAny (model X.prog X.w) X.A (isTrue e X.env whole) (TP X pins σ Q) X.xe s
theorem PW.pt {X:Cx} {e:Expr} {t:TT} (h:PW X e t):PT X e t:=h _
def PA (X:Cx) (es:List Expr) (t:TA):Prop :=
 ∀ (pos:Pos) (pins:List (Addr × Obj)) (s:Shared) (σ:St) (H:Hp) (Q:List V->Hp->Prop),Inv X pins σ H s->t σ H Q->wpAny (model X.prog X.w) X.A (spliced (backTo pos (starEach es X.env))) (AP X pins σ Q) X.xe s
def PS (X:Cx) (st:Stmt) (t:TS):Prop :=
 ∀ (pins:List (Addr × Obj)) (s:Shared) (σ:St) (H:Hp) (D:Ends),Inv X pins σ H s->t D σ H->wpAny (model X.prog X.w) X.A (exec st X.env) (SP X pins D) X.xe s
def PSs (X:Cx) (st:List Stmt) (t:TS):Prop :=
 ∀ (pins:List (Addr × Obj)) (s:Shared) (σ:St) (H:Hp) (D:Ends),Inv X pins σ H s->t D σ H->wpAny (model X.prog X.w) X.A (execs st X.env) (SP X pins D) X.xe s
theorem thn {α:Type} {t:Sem α} {Q Q':α->Shared->Prop} {M:Model} {A:Around} {E:Value->Shared->Prop} {s:Shared} (h:wpAny M A t Q E s) (hQ:∀ a s,Q a s->Q' a s):wpAny M A t Q' E s:=wpAny_mono h hQ fun _ _ x=>x
end L2
namespace L2
open PySem PySem.Spec PyProof.Rows
section
variable {X:Cx}
inductive EVar (σ:L2.St) (i:Nat) (Q:V->Prop):Prop
 | mk:∀ v,(σ[i]?=some (some v))->Q v->EVar σ i Q
inductive EBl (x:V) (Q:Bool->Prop):Prop
 | mk:∀ c,(x=.bl c)->Q c->EBl x Q
inductive EInt (x:V) (Q:Int->Prop):Prop
 | mk:∀ i,(x=.int i)->Q i->EInt x Q
inductive ERef (x:V) (Q:Addr->Prop):Prop
 | mk:∀ a,(x=.ref a)->Q a->ERef x Q
inductive EOne (vs:List V) (Q:Int->Prop):Prop
 | mk:∀ j,(vs=[.int j])->Q j->EOne vs Q
inductive ETwo (vs:List V) (Q:V->V->Prop):Prop
 | mk:∀ v w,(vs=[v,w])->Q v w->ETwo vs Q
def tVar (i:Nat):TE:=fun σ H Q=>EVar σ i fun v=>Q v H
def tC (v:V):TE:=fun _ H Q=>Q v H
theorem zqx {i:Nat} {x:Str} {pos:Pos} (hN:X.N[i]?=some x) (hv:Vis X.env.scope x) (hd:(x == ("__debug__":Str))=false:=by decide) (hcd:(x == ("__classdict__":Str))=false:=by decide):PE X (.Name x pos) (tVar i):=by
 intro pins s σ H Q I h
 obtain⟨v,e,h⟩:=h
 obtain⟨m,hn,hl⟩:=I.loc
 obtain⟨u,r,l⟩:=hl i x v hN e hv
 have fin:EP X pins σ Q u s:=⟨v,H,I,r,h⟩
 rcases l with ⟨hk,hm⟩ | ⟨hk,c,hc,hcell⟩
 ·exact wpAny_Name (wpAny_loadName_local I.ok.kind hk hn hm fin) hd
 ·rcases hk with hk | hk
  ·exact wpAny_Name (wpAny_loadName_cell I.ok.kind hk hc hcell fin) hd
  ·exact wpAny_Name (wpAny_loadName_free I.ok.kind hk hc hcell fin hcd) hd
theorem zac {i j pos}:PE X (.Constant (.int i) j pos) (tC (.int i)):=fun _ _ _ H _ I h=>wpAny_Constant_int ⟨.int i,H,I.tok _,⟨_,rfl⟩,h⟩
theorem zcn {b j pos}:PE X (.Constant (.bool b) j pos) (tC (.bl b)):=fun _ _ _ H _ I h=>Constant_bool ⟨.bl b,H,I,rfl,h⟩
theorem zbn {j pos}:PE X (.Constant .none j pos) (tC .non):=fun _ _ _ H _ I h=>Constant_none ⟨.non,H,I,rfl,h⟩
theorem zdo {x j pos}:PE X (.Constant (.str x) j pos) (tC (.str x)):=fun _ _ _ H _ I h=>Calls.Constant_str ⟨.str x,H,I.tok _,⟨_,rfl⟩,h⟩
def Gl (X:Cx) (x:Str):Prop:=X.env.kindOf x=some .globalImplicit
theorem zp3 {E:Value->Shared->Prop} {pins:List (Addr × Obj)} {s:Shared} {σ:St} {H:Hp} {x:Str} {u:Value} {pos:Pos} {Q:Value->Shared->Prop} (I:Inv X pins σ H s) (hg:Gl X x) (hm:X.mg x=some u) (h:Q u s)
  (hd:(x == ("__debug__":Str))=false:=by decide):wpAny (model X.prog X.w) X.A (eval (.Name x pos) X.env) Q E s :=
 Calls.Name_function_global I.ok.kind hg (Calls.loadGlobal_global (by rw[I.ok.glob];exact I.mod.glob.keeps I.bk) hm h) hd
theorem ze6 {E:Value->Shared->Prop} {pins:List (Addr × Obj)} {s:Shared} {σ:St} {H:Hp} {x:Str} {u:Value} {pos:Pos} {Q:Value->Shared->Prop} (I:Inv X pins σ H s) (hg:Gl X x) (hm:X.mg x=none) (hv:bootBuiltins x=some u) (h:Q u s)
  (hn:x≠"__name__":=by decide) (hd:(x == ("__debug__":Str))=false:=by decide):wpAny (model X.prog X.w) X.A (eval (.Name x pos) X.env) Q E s:=by
 obtain⟨mb,h1,h2⟩:=I.mod.blt
 exact Calls.Name_function_global I.ok.kind hg (Calls.loadGlobal_builtin (by rw[I.ok.glob];exact I.mod.glob.keeps I.bk) hm (by rw[I.ok.blt];exact h1.keeps I.bk) ((h2 x hn).trans hv) h) hd
theorem zd3 {x:Str} {v:V} {u:Value} {pos:Pos} (hg:Gl X x) (hm:X.mg x=none) (hv:bootBuiltins x=some u) (r:RelV v u) (hn:x≠"__name__":=by decide) (hd:(x == ("__debug__":Str))=false:=by decide):PE X (.Name x pos) (tC v) :=
 fun _ _ _ H _ I h=>ze6 I hg hm hv ⟨v,H,I,r,h⟩ hn hd
variable {a b:Expr} {ta tb:TE} {pos:Pos}
def PC (X:Cx) (op:CmpOp) (a b:Expr) (t:TE):Prop :=
 ∀ (pins:List (Addr × Obj)) (s:Shared) (σ:St) (H:Hp) (Q:VK),Inv X pins σ H s->t σ H Q ->
  wpAny (model X.prog X.w) X.A (eval a X.env) (fun v s₁=>wpAny (model X.prog X.w) X.A (eval b X.env) (fun u s₂=>wpAny (model X.prog X.w) X.A (compareOp op v u) (EP X pins σ Q) X.xe s₂) X.xe s₁) X.xe s
theorem nobehind (b:Expr) {op:CmpOp} (h:op≠.In) (h2:op≠.NotIn):behindInMarks op b=false:=by
 have e1:(op == CmpOp.In)=false:=by cases op <;> first | rfl | exact absurd rfl h
 have e2:(op == CmpOp.NotIn)=false:=by cases op <;> first | rfl | exact absurd rfl h2
 cases b <;> simp [behindInMarks,e1,e2]
def tB (t:TE):TT:=fun σ H Q=>t σ H fun x H1=>EBl x fun c=>Q c H1
theorem zqu {op:CmpOp} {t:TE} (h:PC X op a b t) (h1:behindInMarks op b=false:=by first | exact nobehind _ (by decide) (by decide) | rfl):PT X (.Compare a [op] [b] pos) (tB t):=by
 intro pins s σ H Q I hw
 refine wpAny_isTrue_Compare1 (thn (h pins s σ H _ I hw) fun v s1 h1=>thn h1 fun u s2 h2=>thn h2 fun c s3 ⟨x,H1,I1,r1,q1⟩=>?_) h1
 obtain⟨d,rfl,q⟩:=q1
 cases r1
 exact wpAny_truthy_bool ⟨H1,I1,q⟩
theorem zb3 {e:Expr} {t:TE} (h:PE X e t) (he:∀ whole,isTrue e X.env whole=(do let v ← whole;standAt e.pos;holding [v] (truthy v)):=by intro _;rfl):PT X e (tB t):=by
 intro pins s σ H Q I hw
 refine isTrue_plain (thn (h pins s σ H _ I hw) fun v s1 ⟨x,H1,I1,r1,q1⟩=>?_) (he _)
 obtain⟨d,rfl,q⟩:=q1
 cases r1
 exact wpAny_truthy_bool ⟨H1,I1,q⟩
variable {tA tB':TT} {rest:List Expr}
def tAnd (t u:TT):TT:=fun σ H Q=>t σ H fun c H1=>if c=true then u σ H1 Q else Q false H1
def tOr (t u:TT):TT:=fun σ H Q=>t σ H fun c H1=>if c=true then Q true H1 else u σ H1 Q
def tNot (t:TT):TT:=fun σ H Q=>t σ H fun c H1=>Q (!c) H1
theorem zd0 (ha:PT X a tA):PW X (.BoolOp .And [a] pos) tA:=by
 intro wh pins s σ H Q I h
 refine isTrue_and (thn (ha pins s σ H Q I h) fun c s1 e=>?_)
 cases c with
 | true=>exact isTrue_and_nil e
 | false=>exact e
theorem zbx (ha:PT X a tA):PW X (.BoolOp .Or [a] pos) tA:=by
 intro wh pins s σ H Q I h
 refine isTrue_or (thn (ha pins s σ H Q I h) fun c s1 e=>?_)
 cases c with
 | false=>exact isTrue_or_nil e
 | true=>exact e
theorem zf2 (ha:PT X a tA) (hb:PW X (.BoolOp .And (b::rest) pos) tB'):PW X (.BoolOp .And (a::b::rest) pos) (tAnd tA tB'):=by
 intro wh pins s σ H Q I h
 refine isTrue_and (thn (ha pins s σ H _ I h) fun c s1 ⟨H1,I1,q1⟩=>?_)
 cases c with
 | true=>exact hb wh pins s1 σ H1 Q I1 q1
 | false=>exact⟨H1,I1,q1⟩
theorem zcl (ha:PT X a tA) (hb:PW X (.BoolOp .Or (b::rest) pos) tB'):PW X (.BoolOp .Or (a::b::rest) pos) (tOr tA tB'):=by
 intro wh pins s σ H Q I h
 refine isTrue_or (thn (ha pins s σ H _ I h) fun c s1 ⟨H1,I1,q1⟩=>?_)
 cases c with
 | true=>exact⟨H1,I1,q1⟩
 | false=>exact hb wh pins s1 σ H1 Q I1 q1
theorem zcs (ha:PT X a tA):PT X (.UnaryOp .Not a pos) (tNot tA):=by
 intro pins s σ H Q I h
 exact isTrue_not (ha pins s σ H (fun c H1=>Q (!c) H1) I h)
def tAndV (ta tb:TE):TE:=fun σ H Q=>ta σ H fun x H1=>EBl x fun c=>if c=true then tb σ H1 Q else Q (.bl false) H1
def tOrV (ta tb:TE):TE:=fun σ H Q=>ta σ H fun x H1=>EBl x fun c=>if c=true then Q (.bl true) H1 else tb σ H1 Q
def tNotV (ta:TE):TE:=fun σ H Q=>ta σ H fun x H1=>EBl x fun c=>Q (.bl (!c)) H1
theorem zbs {op} {t:TE} (h:PE X a t):PE X (.BoolOp op [a] pos) t:=fun pins s σ H Q I hw=>BoolOp_one (h pins s σ H Q I hw)
theorem zbv (ha:PE X a ta) (hb:PE X (.BoolOp .And (b::rest) pos) tb):PE X (.BoolOp .And (a::b::rest) pos) (tAndV ta tb):=by
 intro pins s σ H Q I h
 refine BoolOp_and (thn (ha pins s σ H _ I h) fun v s1 ⟨x,H1,I1,r1,q1⟩=>?_)
 obtain⟨c,rfl,q1⟩:=q1
 cases r1
 refine wpAny_truthy_bool ?_
 cases c with
 | true=>exact hb pins s1 σ H1 Q I1 q1
 | false=>exact⟨.bl false,H1,I1,rfl,q1⟩
theorem zpv (ha:PE X a ta) (hb:PE X (.BoolOp .Or (b::rest) pos) tb):PE X (.BoolOp .Or (a::b::rest) pos) (tOrV ta tb):=by
 intro pins s σ H Q I h
 refine BoolOp_or (thn (ha pins s σ H _ I h) fun v s1 ⟨x,H1,I1,r1,q1⟩=>?_)
 obtain⟨c,rfl,q1⟩:=q1
 cases r1
 refine wpAny_truthy_bool ?_
 cases c with
 | false=>exact hb pins s1 σ H1 Q I1 q1
 | true=>exact⟨.bl true,H1,I1,rfl,q1⟩
theorem zqy (ha:PE X a ta):PE X (.UnaryOp .Not a pos) (tNotV ta):=by
 intro pins s σ H Q I h
 refine UnaryOp_ (thn (ha pins s σ H _ I h) fun v s1 ⟨x,H1,I1,r1,q1⟩=>?_)
 obtain⟨c,rfl,q1⟩:=q1
 cases r1
 exact not_of (wpAny_truthy_bool ⟨.bl (!c),H1,I1,rfl,q1⟩)
def tIf (t:TT) (ta tb:TE):TE:=fun σ H Q=>t σ H fun c H1=>if c=true then ta σ H1 Q else tb σ H1 Q
theorem zgg {c:Expr} (hc:PT X c tA) (ha:PE X a ta) (hb:PE X b tb):PE X (.IfExp c a b pos) (tIf tA ta tb):=by
 intro pins s σ H Q I h
 refine wpAny_IfExp (thn (hc pins s σ H _ I h) fun d s1 ⟨H1,I1,q1⟩=>?_)
 cases d with
 | true=>exact ha pins s1 σ H1 Q I1 q1
 | false=>exact hb pins s1 σ H1 Q I1 q1
end
end L2
namespace L2
open PySem PySem.Spec PyProof.Rows
def SqL (K:PySem.W.Frag) (H:Hp) (a:Addr) (xs:List V):Prop :=
 Rd H a (.lst xs) ∨
  ∃ (o:Obj) (its:Array Value) (n:Nat),K.lookup a=some o∧o.cls=.type "list"∧o.dict=none∧o.data=.seq its n∧its.size≤sizeLine∧Vals xs its.toList
def SqT (K:PySem.W.Frag) (H:Hp) (a:Addr) (xs:List V):Prop :=
 Rd H a (.tup xs) ∨
  ∃ (o:Obj) (its:Array Value) (n:Nat),K.lookup a=some o∧o.cls=.type "tuple"∧o.data=.seq its n∧its.size≤sizeLine∧Vals xs its.toList
def absV:Value->Option V
 | .none=>some .non
 | .bool b=>some (.bl b)
 | .int i _=>some (.int i)
 | .str x _=>some (.str x)
 | .bytes b _=>some (.byt b)
 | .float b _=>some (.flt b)
 | .ref a=>some (.ref a)
 | .type n=>some (.ty n)
 | _=>none
theorem RelV.abs {x:V} {u:Value} (r:RelV x u):absV u=some x:=by
 cases x with
 | non=>cases r;rfl
 | bl _=>cases r;rfl
 | int _=>obtain⟨t,rfl⟩:=r;rfl
 | str _=>obtain⟨t,rfl⟩:=r;rfl
 | byt _=>obtain⟨t,rfl⟩:=r;rfl
 | flt _=>obtain⟨t,rfl⟩:=r;rfl
 | ref _=>cases r;rfl
 | ty _=>cases r;rfl
theorem RelV.inj {x y:V} {u:Value} (r:RelV x u) (q:RelV y u):x=y:=Option.some.inj (r.abs.symm.trans q.abs)
theorem Vals.inj:∀ {xs ys:List V} {us:List Value},Vals xs us->Vals ys us->xs=ys
 | _,_,_,.nil,.nil=>rfl
 | _,_,_,.cons r t,.cons r' t'=>by rw[r.inj r',Vals.inj t t']
section
variable {X:Cx} {pins:List (Addr × Obj)} {σ:St} {H:Hp} {s:Shared} {a:Addr} {xs ys:List V}
theorem SqL.of {K:PySem.W.Frag} (h:H a=some (.lst xs)):SqL K H a xs:=.inl (.inl h)
theorem SqT.of {K:PySem.W.Frag} (h:H a=some (.tup xs)):SqT K H a xs:=.inl (.inl h)
theorem Inv.list (I:Inv X pins σ H s) (h:SqL X.K H a xs):∃ its:List Value,Vals xs its∧PlainL s.heap a its.toArray∧xs.length≤sizeLine:=by
 rcases h with h | ⟨o,its,n,hk,hc,hd,hs,hz,r⟩
 ·obtain⟨z,its,n,r,e⟩:=h.ok I.hok
  exact⟨its,r,⟨_,n,e,rfl,rfl,rfl⟩,z⟩
 ·refine⟨its.toList,r,⟨o,n,I.kIn a o hk,hc,hd,by simpa using hs⟩,?_⟩
  have e:=r.length
  simp only [Array.length_toList] at e
  trivial
theorem Inv.tuple (I:Inv X pins σ H s) (h:SqT X.K H a xs):∃ its:List Value,Vals xs its∧IsTup s.heap a its.toArray∧xs.length≤sizeLine:=by
 rcases h with h | ⟨o,its,n,hk,hc,hs,hz,r⟩
 ·obtain⟨z,its,r,p⟩:=h.ok I.hok
  exact⟨its,r,p.tup,z⟩
 ·refine⟨its.toList,r,⟨o,I.kIn a o hk,hc,n,by simpa using hs⟩,?_⟩
  have e:=r.length
  simp only [Array.length_toList] at e
  trivial
theorem Inv.list_inj (I:Inv X pins σ H s) (h:SqL X.K H a xs) (h':SqL X.K H a ys):xs=ys:=by
 obtain⟨its,r,⟨o,n,e,_,_,d⟩,_⟩:=I.list h
 obtain⟨its',r',⟨o',n',e',_,_,d'⟩,_⟩:=I.list h'
 rw[e] at e';cases e'
 rw[d] at d'
 injection d' with d1 _
 have:its=its':=by simpa using congrArg Array.toList d1
 subst this
 exact r.inj r'
theorem Inv.tuple_inj (I:Inv X pins σ H s) (h:SqT X.K H a xs) (h':SqT X.K H a ys):xs=ys:=by
 obtain⟨its,r,⟨o,e,_,n,d⟩,_⟩:=I.tuple h
 obtain⟨its',r',⟨o',e',_,n',d'⟩,_⟩:=I.tuple h'
 rw[e] at e';cases e'
 rw[d] at d'
 injection d' with d1 _
 have:its=its':=by simpa using congrArg Array.toList d1
 subst this
 exact r.inj r'
end
abbrev Cx.wish (X:Cx) (E:Value->Shared->Prop):Cx:={ X with xe:=E }
abbrev Cx.nox (X:Cx):Cx:=X.wish fun _ _=>False
theorem Cx.Ok.wish {X:Cx} (ok:X.Ok) (E:Value->Shared->Prop):(X.wish E).Ok :=
 ⟨ok.mod,ok.kind,ok.glob,ok.blt,ok.above,ok.inj,ok.has,ok.cab,ok.hd,ok.frames,ok.stk,ok.exf,ok.bs,ok.bsz,ok.noex,ok.exfs,ok.funs,ok.frf⟩
theorem Cx.Ok.unwish {X:Cx} {E:Value->Shared->Prop} (ok:(X.wish E).Ok):X.Ok :=
 ⟨ok.mod,ok.kind,ok.glob,ok.blt,ok.above,ok.inj,ok.has,ok.cab,ok.hd,ok.frames,ok.stk,ok.exf,ok.bs,ok.bsz,ok.noex,ok.exfs,ok.funs,ok.frf⟩
section
variable {X:Cx} {pins:List (Addr × Obj)} {σ:St} {H:Hp} {s:Shared} {E:Value->Shared->Prop}
theorem Inv.wish (I:Inv X pins σ H s) (E:Value->Shared->Prop):Inv (X.wish E) pins σ H s:=⟨I.ok.wish E,I.os,I.bare,I.base,I.loc,I.cell,I.free,I.freeC,I.pin,I.hok,I.len⟩
theorem Inv.unwish (I:Inv (X.wish E) pins σ H s):Inv X pins σ H s:=⟨I.ok.unwish,I.os,I.bare,I.base,I.loc,I.cell,I.free,I.freeC,I.pin,I.hok,I.len⟩
theorem SP.unwish {D:Ends} {f:Flow} {s':Shared} (h:SP (X.wish E) pins D f s'):SP X pins D f s':=by
 cases f with
 | next=>obtain⟨σ',H',I,q⟩:=h;exact⟨σ',H',I.unwish,q⟩
 | brk=>obtain⟨σ',H',I,q⟩:=h;exact⟨σ',H',I.unwish,q⟩
 | cont=>obtain⟨σ',H',I,q⟩:=h;exact⟨σ',H',I.unwish,q⟩
 | ret u=>obtain⟨v,σ',H',I,r,q⟩:=h;exact⟨v,σ',H',I.unwish,r,q⟩
theorem PSs.nox {st:List Stmt} {t:TS} (h:PSs X.nox st t):PSs X st t:=fun pins s σ H D I hw =>
 wpAny_mono (h pins s σ H D (I.wish _) hw) (fun _ _ q=>q.unwish) fun _ _ z=>False.elim z
end
section
variable {X:Cx} {st:Stmt} {rest:List Stmt} {t u:TS} {e:Expr} {te:TE} {pos:Pos}
def tNext:TS:=fun D σ H=>D.nx σ H
def tSeq (t u:TS):TS:=fun D σ H=>t { D with nx:=u D } σ H
theorem zau:PSs X [] tNext:=fun _ _ σ H _ I h=>wpAny_execs_nil ⟨σ,H,I,h⟩
theorem zad (h1:PS X st t) (h2:PSs X rest u):PSs X (st::rest) (tSeq t u):=by
 intro pins s σ H D I h
 refine wpAny_execs_cons (thn (h1 pins s σ H { D with nx:=u D } I h) fun f s1 q=>?_)
 cases f with
 | next =>
  obtain⟨σ',H',I',q⟩:=q
  exact h2 pins s1 σ' H' D I' q
 | ret v=>exact q
 | brk=>exact q
 | cont=>exact q
theorem zaf (h1:PS X st t):PSs X [st] t:=by
 intro pins s σ H D I h
 refine wpAny_execs_cons (thn (h1 pins s σ H D I h) fun f s1 q=>?_)
 cases f with
 | next=>exact wpAny_execs_nil q
 | ret v=>exact q
 | brk=>exact q
 | cont=>exact q
def tCont:TS:=fun D σ H=>D.ct σ H
theorem zjc:PS X (.Continue pos) tCont:=fun _ _ σ H _ I h=>wpAny_Continue ⟨σ,H,I,h⟩
theorem Inv.quiet {pins:List (Addr × Obj)} {σ:St} {H:Hp} {s:Shared} (I:Inv X pins σ H s):interactive X.env=false:=by simp [interactive,I.ok.kind]
def tDrop (te:TE):TS:=fun D σ H=>te σ H fun _ H1=>D.nx σ H1
theorem zcb (he:PE X e te) (hs:swapsWith e none pos.line X.env=pure false:=by rfl):PS X (.Expr e pos) (tDrop te):=by
 intro pins s σ H D I h
 exact wpAny_Expr_any (thn (he pins s σ H _ I h) fun v s1 ⟨x,H1,I1,r1,q1⟩=>⟨σ,H1,I1,q1⟩) I.quiet hs
def tRet (te:TE):TS:=fun D σ H=>te σ H D.rt
theorem zaj (he:PE X e te):PS X (.Return (some e) pos) (tRet te):=by
 intro pins s σ H D I h
 exact wpAny_Return_some (thn (he pins s σ H _ I h) fun v s1 ⟨x,H1,I1,r1,q1⟩=>⟨x,σ,H1,I1,r1,q1⟩)
def tIfS (c:TT) (t u:TS):TS:=fun D σ H=>c σ H fun b H1=>if b=true then t D σ H1 else u D σ H1
theorem za6 {c:Expr} {a b:List Stmt} {tc:TT} (hc:PT X c tc) (ha:PSs X a t) (hb:PSs X b u):PS X (.If c a b pos) (tIfS tc t u):=by
 intro pins s σ H D I h
 refine wpAny_If (thn (hc pins s σ H _ I h) fun d s1 ⟨H1,I1,q1⟩=>?_)
 cases d with
 | true=>exact ha pins s1 σ H1 D I1 q1
 | false=>exact hb pins s1 σ H1 D I1 q1
def tNever:TS:=fun _ _ _=>False
theorem zn9:PS X st tNever:=fun _ _ _ _ _ _ h=>h.elim
end
abbrev TG:=V->St->Hp->(St->Hp->Prop)->Prop
abbrev TGs:=List V->St->Hp->(St->Hp->Prop)->Prop
def PG (X:Cx) (target:Expr) (t:TG):Prop :=
 ∀ (pins:List (Addr × Obj)) (s:Shared) (σ:St) (H:Hp) (v:V) (u:Value) (Q:St->Hp->Prop),Inv X pins σ H s->RelV v u->t v σ H Q ->
  wpAny (model X.prog X.w) X.A (assign target X.env u) (fun _ s'=>∃ σ' H',Inv X pins σ' H' s'∧Q σ' H') X.xe s
def PGs (X:Cx) (ts:List Expr) (t:TGs):Prop :=
 ∀ (pins:List (Addr × Obj)) (s:Shared) (σ:St) (H:Hp) (vs:List V) (us:List Value) (Q:St->Hp->Prop),Inv X pins σ H s->Vals vs us->t vs σ H Q ->
  wpAny (model X.prog X.w) X.A (assignInOrder ((assignEach ts X.env).map (·.2)) us) (fun _ s'=>∃ σ' H',Inv X pins σ' H' s'∧Q σ' H') X.xe s
abbrev TSet:=V->V->V->Hp->(Hp->Prop)->Prop
def PSet (X:Cx) (t:TSet):Prop :=
 ∀ (pins:List (Addr × Obj)) (s:Shared) (σ:St) (H:Hp) (o i v:V) (ov iv u:Value) (Q:Hp->Prop),Inv X pins σ H s->RelV o ov->RelV i iv->RelV v u->t o i v H Q ->
  wpAny (model X.prog X.w) X.A (setItem ov iv u) (fun _ s'=>∃ H',Inv X pins σ H' s'∧Q H') X.xe s
section
variable {X:Cx} {pos:Pos}
def gName (i:Nat):TG:=fun v σ H Q=>Q (σ.set i (some v)) H
theorem zag {i:Nat} {x:Str} (hN:X.N.Nodup) (hi:X.N[i]?=some x) (hx:Loc X.env.scope x) (hf:X.fn x=true∨X.env.scope.names.lookup x=some .local:=by first | exact .inl rfl | exact .inr rfl | assumption):PG X (.Name x pos) (gName i):=by
 intro pins s σ H v u Q I r h
 exact wpAny_assign_Name (zkc I hN hi hx r (fun s' I'=>⟨_,H,I',h⟩) hf)
def gNil:TGs:=fun vs σ H Q=>vs=[]∧Q σ H
inductive gCons_i (t:TG) (u:TGs) (vs:List V) (σ:L2.St) (H:Hp) (Q:L2.St->Hp->Prop):Prop
 | mk:∀ v r,(vs=v::r)->(t v σ H fun σ' H'=>u r σ' H' Q)->gCons_i t u vs σ H Q
def gCons (t:TG) (u:TGs):TGs:=fun vs σ H Q=>gCons_i t u vs σ H Q
theorem za4:PGs X [] gNil:=by
 intro pins s σ H vs us Q I r h
 obtain⟨e,h⟩:=h
 subst e
 cases r
 exact assignInOrder_nil ⟨σ,H,I,h⟩
theorem zah {e:Expr} {es:List Expr} {t:TG} {u:TGs} (h1:PG X e t) (h2:PGs X es u)
  (hs:(assignEach (e::es) X.env).map (·.2)=assign e X.env::(assignEach es X.env).map (·.2):=by rfl):PGs X (e::es) (gCons t u):=by
 intro pins s σ H vs us Q I r h
 obtain⟨v,vr,e1,h⟩:=h
 subst e1
 cases r with
 | cons r rr =>
  rw[hs]
  refine assignInOrder_cons (thn (h1 pins s σ H _ _ _ I r h) fun _ s1 ⟨σ1,H1,I1,q1⟩=>?_)
  exact h2 pins s1 σ1 H1 _ _ Q I1 rr q1
inductive gTup_i (K:PySem.W.Frag) (n:Nat) (t:TGs) (v:V) (σ:L2.St) (H:Hp) (Q:L2.St->Hp->Prop):Prop
 | mk:∀ a xs,(v=.ref a)->(SqT K H a xs)->(xs.length=n)->(t xs σ H Q)->gTup_i K n t v σ H Q
def gTup (K:PySem.W.Frag) (n:Nat) (t:TGs):TG:=fun v σ H Q=>gTup_i K n t v σ H Q
theorem zbk {es:List Expr} {k:Nat} {t:TGs} {n:Nat} (hc:X.calm=true) (h:PGs X es t)
  (hn:(assignEach es X.env).length=n:=by rfl) (hst:(assignEach es X.env).findIdx? (·.1)=none:=by rfl):PG X (.Tuple es k pos) (gTup X.K n t):=by
 intro pins s σ H v u Q I r hw
 obtain⟨a,xs,e1,hq,hl,hw⟩:=hw
 subst e1
 cases r
 obtain⟨its,rv,ht,hz⟩:=I.tuple hq
 refine assign_Tuple_tuple (I.ok.hd hc) ht (by simp [hn,← hl,rv.length]) hst fun h' hx=>?_
 have I1:Inv X pins σ H { s with heap:=h' }:=I.kept (t':=s.toks) fun b o e=>hx b o (Nat.ne_of_lt (Heap.lt_size e)) e
 exact h pins _ σ H xs _ Q I1 (by simpa using rv) hw
def gSub (to ti:TE) (t:TSet):TG:=fun v σ H Q=>to σ H fun o H1=>ti σ H1 fun i H2=>t o i v H2 fun H3=>Q σ H3
theorem zdn {o i:Expr} {to ti:TE} {t:TSet} (ho:PE X o to) (hi:PE X i ti) (hs:PSet X t)
  (ha:∀ v,assign (.Subscript o i pos) X.env v=(do
   let ov ← holding [v] (eval o X.env)
   let iv ← holding [v,ov] (eval i X.env)
   standAt pos
   holding [v,ov,iv] (setItem ov iv v)
   release [v,ov,iv] []):=by intro _;rfl):PG X (.Subscript o i pos) (gSub to ti t):=by
 intro pins s σ H v u Q I r h
 rw[ha]
 refine wpAny_bind (wpAny_holding (thn (ho pins s σ H _ I h) fun ov s1 ⟨x,H1,I1,r1,q1⟩=>?_))
 refine wpAny_bind (wpAny_holding (thn (hi pins s1 σ H1 _ I1 q1) fun iv s2 ⟨y,H2,I2,r2,q2⟩=>?_))
 refine wpAny_bind (wpAny_standAt (wpAny_bind (wpAny_holding (thn (hs pins s2 σ H2 x y v ov iv u _ I2 r1 r2 r q2) fun _ s3 ⟨H3,I3,q3⟩=>?_))))
 exact wpAny_release ⟨σ,H3,I3,q3⟩
def tAsg (te:TE) (g:TG):TS:=fun D σ H=>te σ H fun x H1=>g x σ H1 D.nx
theorem zbc {tg e:Expr} {te:TE} {g:TG} (he:PE X e te) (hg:PG X tg g) (hs:swapsWithSole [tg] e pos.line X.env=pure false:=by rfl) (hw:swappedStores [tg] e X.env=pure none:=by rfl)
  (h1:(assignEach [tg] X.env).map (·.2)=[assign tg X.env]:=by rfl):PS X (.Assign [tg] e pos) (tAsg te g):=by
 intro pins s σ H D I h
 refine wpAny_Assign_stores (thn (he pins s σ H _ I h) fun v s1 ⟨x,H1,I1,r1,q1⟩=>?_) hs hw
 rw[h1]
 exact thn (hg pins s1 σ H1 x v _ I1 r1 q1) fun _ s2 q=>q
theorem zas {i:Nat} {x:Str} {e:Expr} {te:TE} {pos':Pos} (hN:X.N.Nodup) (hi:X.N[i]?=some x) (hx:Loc X.env.scope x) (he:PE X e te) (hs:swapsWith e (some (.Name x pos')) pos.line X.env=pure false:=by rfl) (hf:X.fn x=true∨X.env.scope.names.lookup x=some .local:=by first | exact .inl rfl | exact .inr rfl | assumption) :
  PS X (.Assign [.Name x pos'] e pos) (tAsg te (gName i)):=by
 intro pins s σ H D I h
 refine wpAny_Assign_Name (thn (he pins s σ H _ I h) fun v s1 ⟨y,H1,I1,r1,q1⟩=>?_) hs
 exact zkc I1 hN hi hx r1 (fun s2 I2=>⟨_,H1,I2,q1⟩) hf
end
section
variable {X:Cx} {pos:Pos}
def tWhile (c:TT) (tb:TS):TS:=fun D σ H=>∃ W:Nat->St->Hp->Prop,(∃ m,W m σ H)∧∀ m σ H,W m σ H ->
 c σ H fun b H1=>if b=true then ∃ N:St->Hp->Prop,(∀ σ' H',N σ' H'->∃ m',m' < m∧W m' σ' H')∧tb { D with nx:=N,ct:=N,bk:=D.nx } σ H1 else D.nx σ H1
theorem zkf {c:Expr} {body:List Stmt} {tc:TT} {tb:TS} (hp:PassesOwn (model X.prog X.w) X.A X.env X.xe) (hc:PT X c tc) (hb:PSs X body tb):PS X (.While c body [] pos) (tWhile tc tb):=by
 intro pins s σ H D I h
 obtain⟨W,⟨m0,w0⟩,turn⟩:=h
 refine wpAny_While (codeAny_whileLoop (fun n s'=>∃ σ' H',Inv X pins σ' H' s'∧W n σ' H') ?_ m0 ⟨σ,H,I,w0⟩)
 rintro n s1 ⟨σ1,H1,I1,w1⟩
 refine wpAny_passesOwn hp (thn (hc pins s1 σ1 H1 _ I1 (turn n σ1 H1 w1)) fun b s2 ⟨H2,I2,q2⟩=>?_)
 cases b with
 | true =>
  obtain⟨N,hN,q2⟩:=q2
  rw[if_pos rfl]
  refine wpAny_passesOwn hp (thn (hb pins s2 σ1 H2 _ I2 q2) fun f s3 q3=>?_)
  cases f with
  | next =>
   obtain⟨σ3,H3,I3,n3⟩:=q3
   obtain⟨m',hm,w3⟩:=hN σ3 H3 n3
   exact⟨m',hm,σ3,H3,I3,w3⟩
  | cont =>
   obtain⟨σ3,H3,I3,n3⟩:=q3
   obtain⟨m',hm,w3⟩:=hN σ3 H3 n3
   exact⟨m',hm,σ3,H3,I3,w3⟩
  | brk=>exact q3
  | ret v=>exact q3
 | false =>
  rw[if_neg Bool.false_ne_true]
  exact wpAny_execs_nil ⟨σ1,H2,I2,q2⟩
end
structure It where
 go:Nat->Hp->Prop
 yld:Nat->Hp->V->Hp->Prop
 stop:Nat->Hp->Prop
def FpOk (X:Cx) (pins:List (Addr × Obj)) (H:Hp) (b:Addr):Prop :=
 H b=none∧b≠X.env.locals∧b ∉ X.fs∧(b ∈ X.ex∨X.s₀.heap.objs.size≤b)∧(∀ x c,X.env.cells.lookup x=some c->c≠b)∧∀ p ∈ X.pn++pins,p.1≠b
theorem Inv.fpOk {X:Cx} {pins:List (Addr × Obj)} {σ:St} {H H':Hp} {s:Shared} {b:Addr} (I:Inv X pins σ H s) (hb:s.heap.objs.size≤b) (hn:H' b=none):FpOk X pins H' b:=by
 refine⟨hn,Nat.ne_of_gt (Nat.lt_of_lt_of_le I.lt hb),I.nofs hb,.inr (Nat.le_trans I.sz hb),fun x c e z=>?_,fun p hp z=>?_⟩
 ·obtain⟨v,q⟩:=I.cell x c e
  exact absurd (Nat.lt_of_lt_of_le q.lt (by rw[z];exact hb)) (Nat.lt_irrefl _)
 ·exact absurd (Nat.lt_of_lt_of_le (Heap.lt_size (I.pin p hp).1) (by rw[z];exact hb)) (Nat.lt_irrefl _)
structure Turn (P:Program) (w:World) (K:PySem.W.Frag) (tg:Expr) (J:It) (fp:List Addr) (it:Addr) (tn:Nat->Heap->Prop):Prop where
 mem:it ∈ fp
 obj:∀ i h,tn i h->∀ b ∈ fp,∃ o,h.get? b=some o∧∀ v,o.data≠.cell v
 keep:∀ i h h',tn i h->(∀ b ∈ fp,∀ o,h.get? b=some o->h'.get? b=some o)->tn i h'
 item:∀ (X:Cx),X.prog=P->X.w=w->X.K=K->X.calm=true->∀ (i:Nat) (pins:List (Addr × Obj)) (s:Shared) (σ:St) (H:Hp) (E:Value->Shared->Prop),Inv X pins σ H s->(∀ b ∈ fp,FpOk X pins H b)->tn i s.heap->J.go i H ->
  wpAny (model P w) X.A (pyNext (.ref it)) (fun r s1=>∃ u,r=some u ∧
   wpAny (model P w) X.A (letOwnedTupleGo tg (.ref it) u) (fun _ s2=>∃ x H',Inv X pins σ H' s2∧RelV x u∧J.yld i H x H'∧tn (i + 1) s2.heap∧∀ b ∈ fp,H' b=none) E s1) E s
 done:∀ (X:Cx),X.prog=P->X.w=w->X.K=K->X.calm=true->∀ (i:Nat) (pins:List (Addr × Obj)) (s:Shared) (σ:St) (H:Hp) (E:Value->Shared->Prop),Inv X pins σ H s->(∀ b ∈ fp,FpOk X pins H b)->tn i s.heap->J.stop i H ->
  wpAny (model P w) X.A (pyNext (.ref it)) (fun r s1=>r=none∧Inv X pins σ H s1) E s
 self:∀ (A:Around) (i:Nat) (s:Shared) (Q:Value->Shared->Prop) (E:Value->Shared->Prop),tn i s.heap->Q (.ref it) s->wpAny (model P w) A (pyIter (.ref it)) Q E s
abbrev TI:=St->Hp->(It->Hp->Prop)->Prop
def PIE (X:Cx) (pins:List (Addr × Obj)) (σ:St) (tg:Expr) (R:It->Hp->Prop) (itv:Value) (s2:Shared):Prop :=
 ∃ (it:Addr) (fp:List Addr) (tn:Nat->Heap->Prop) (J:It) (H':Hp),itv=.ref it∧Inv X pins σ H' s2∧Turn X.prog X.w X.K tg J fp it tn∧tn 0 s2.heap∧(∀ b ∈ fp,FpOk X pins H' b)∧R J H'
def PI (X:Cx) (tg iter:Expr) (wi:TI):Prop :=
 ∀ (pins:List (Addr × Obj)) (s:Shared) (σ:St) (H:Hp) (R:It->Hp->Prop),Inv X pins σ H s->wi σ H R ->
  wpAny (model X.prog X.w) X.A (eval iter X.env) (fun v s1=>wpAny (model X.prog X.w) X.A (pyIter v) (PIE X pins σ tg R) X.xe s1) X.xe s
theorem zp8 {M:Model} {A:Around} {E:Value->Shared->Prop} {s:Shared} {tg:Expr} {it:Addr} {u:Value} {o:Obj} {n:String} {vs:Array Value} {Q:Unit->Shared->Prop} (ho:s.heap.get? it=some o) (hc:o.cls=.type n) (hd:o.data=.fields vs)
  (hn:["enumerate","zip","dict_itemiterator","dict_reverseitemiterator","odict_iterator","itertools.zip_longest","itertools.pairwise"].contains n=false) (hQ:Q () s):wpAny M A (letOwnedTupleGo tg (.ref it) u) Q E s:=by
 unfold letOwnedTupleGo
 cases tg <;> first
  | exact wpAny_pure hQ
  | (cases u <;> first
      | exact wpAny_pure hQ
      | (refine wpAny_bind (wpAny_load ho ?_)
         rw[hc,hd]
         show wpAny M A (if (["enumerate","zip","dict_itemiterator","dict_reverseitemiterator","odict_iterator","itertools.zip_longest","itertools.pairwise"].contains n && vs[0]? == some (rawInt _))=true then _ else _) Q E s
         rw[if_neg (by intro h;rw[hn,Bool.false_and] at h;cases h)]
         exact wpAny_pure hQ))
def Itl (K:PySem.W.Frag) (a:Addr):It :=
 ⟨fun i H=>∃ xs x,SqL K H a xs∧xs[i]?=some x,fun i H x H'=>H'=H∧∀ xs,SqL K H a xs->xs[i]?=some x,fun i H=>∃ xs,SqL K H a xs∧xs.length≤i⟩
def Itt (K:PySem.W.Frag) (a:Addr):It :=
 ⟨fun i H=>∃ xs x,SqT K H a xs∧xs[i]?=some x,fun i H x H'=>H'=H∧∀ xs,SqT K H a xs->xs[i]?=some x,fun i H=>∃ xs,SqT K H a xs∧xs.length≤i⟩
def Itr (lo:Int) (n:Nat):It:=⟨fun i _=>i < n,fun i H x H'=>H'=H∧x=.int (lo + i),fun i _=>n≤i⟩
theorem zlu {P:Program} {w:World} {K:PySem.W.Frag} {tg:Expr} (a it:Addr):Turn P w K tg (Itl K a) [it] it (fun i h=>h.IsListIter it a i) where
 mem:=by simp
 obj:=fun i h st b hb=>by
  have e:b=it:=by simpa using hb
  subst e
  obtain⟨o,e,c,d⟩:=st
  exact⟨o,e,fun v z=>by rw[d] at z;cases z⟩
 keep:=fun i h h' st k=>st.at fun o e=>k it (by simp) o e
 item:=by
  intro X hP hw hK hc i pins s σ H E I hf st hg
  subst hP hw hK
  obtain⟨xs,x,hq,hx⟩:=hg
  obtain⟨its,rv,p,hz⟩:=I.list hq
  obtain⟨u,hu,ru⟩:=rv.get hx
  obtain⟨f0,f1,f2,f3,f4,f5⟩:=hf it (by simp)
  refine wpAny_pyNext_list_item st p.isList (x:=u) (by simpa using hu) fun h' st' sb=>?_
  have I1:Inv X pins σ H { s with heap:=h' }:=I.turned (t':=s.toks) (fun b o hb e=>(sb.2 b hb).trans e) f0 f1 f3 f4 f5
  obtain⟨o,e,c,d⟩:=id st'
  exact⟨u,rfl,zp8 (s:={ s with heap:=h' }) e c d (by decide) ⟨x,H,I1,ru,⟨rfl,fun ys hy=>by rw[I.list_inj hy hq];exact hx⟩,st',fun b hb=>(hf b hb).1⟩⟩
 done:=by
  intro X hP hw hK hc i pins s σ H E I hf st hg
  subst hP hw hK
  obtain⟨xs,hq,hx⟩:=hg
  obtain⟨its,rv,p,hz⟩:=I.list hq
  obtain⟨f0,f1,f2,f3,f4,f5⟩:=hf it (by simp)
  have hl:=rv.length
  exact wpAny_pyNext_list_end (I.ok.hd hc) st p.isList (by simp;trivial) fun h' eb=>⟨rfl,I.turned (t':=s.toks) (fun b o hb e=>eb b o hb e) f0 f1 f3 f4 f5⟩
 self:=fun _ _ _ _ _ st h=>wpAny_pyIter_listiter st h
theorem zk2 {P:Program} {w:World} {K:PySem.W.Frag} {tg:Expr} (a it:Addr):Turn P w K tg (Itt K a) [it] it (fun i h=>h.IsTupleIter it a i) where
 mem:=by simp
 obj:=fun i h st b hb=>by
  have e:b=it:=by simpa using hb
  subst e
  obtain⟨o,e,c,d⟩:=st
  exact⟨o,e,fun v z=>by rw[d] at z;cases z⟩
 keep:=fun i h h' st k=>st.at fun o e=>k it (by simp) o e
 item:=by
  intro X hP hw hK hc i pins s σ H E I hf st hg
  subst hP hw hK
  obtain⟨xs,x,hq,hx⟩:=hg
  obtain⟨its,rv,p,hz⟩:=I.tuple hq
  obtain⟨u,hu,ru⟩:=rv.get hx
  obtain⟨f0,f1,f2,f3,f4,f5⟩:=hf it (by simp)
  refine wpAny_pyNext_tuple_item st (show s.heap.IsTuple a its.toArray from p) (x:=u) (by simpa using hu) fun h' st' sb=>?_
  have I1:Inv X pins σ H { s with heap:=h' }:=I.turned (t':=s.toks) (fun b o hb e=>(sb.2 b hb).trans e) f0 f1 f3 f4 f5
  obtain⟨o,e,c,d⟩:=id st'
  exact⟨u,rfl,zp8 (s:={ s with heap:=h' }) e c d (by decide) ⟨x,H,I1,ru,⟨rfl,fun ys hy=>by rw[I.tuple_inj hy hq];exact hx⟩,st',fun b hb=>(hf b hb).1⟩⟩
 done:=by
  intro X hP hw hK hc i pins s σ H E I hf st hg
  subst hP hw hK
  obtain⟨xs,hq,hx⟩:=hg
  obtain⟨its,rv,p,hz⟩:=I.tuple hq
  obtain⟨f0,f1,f2,f3,f4,f5⟩:=hf it (by simp)
  have hl:=rv.length
  exact wpAny_pyNext_tuple_end (I.ok.hd hc) st (show s.heap.IsTuple a its.toArray from p) (by simp;trivial) fun h' eb=>⟨rfl,I.turned (t':=s.toks) (fun b o hb e=>eb b o hb e) f0 f1 f3 f4 f5⟩
 self:=fun _ _ _ _ _ st h=>wpAny_pyIter_tupleiter st h
theorem zk3 {P:Program} {w:World} {K:PySem.W.Frag} {tg:Expr} (it:Addr) (lo:Int) (n:Nat):Turn P w K tg (Itr lo n) [it] it (fun i h=>IsRangeIter h it (lo + (i:Nat) * 1) ((n:Int) - (i:Nat)) 1) where
 mem:=by simp
 obj:=fun i h st b hb=>by
  have e:b=it:=by simpa using hb
  subst e
  exact⟨_,st,fun v z=>by
   have z':Data.fields _=Data.cell v:=z
   cases z'⟩
 keep:=fun i h h' st k=>k it (by simp) _ st
 item:=by
  intro X hP hw hK hc i pins s σ H E I hf st hg
  subst hP hw hK
  obtain⟨f0,f1,f2,f3,f4,f5⟩:=hf it (by simp)
  have W:=Walks.range (prog:=X.prog) (w:=X.w) (I.ok.hd hc) it lo 1 n
  refine W.item i s _ _ hg st fun v h' tk hv st' kk=>?_
  obtain⟨t,rfl⟩:=hv
  have I1:Inv X pins σ H { s with heap:=h',toks:=tk }:=I.turned (fun b o hb e=>kk b o (by simpa using hb) e) f0 f1 f3 f4 f5
  refine⟨_,rfl,zp8 (s:={ s with heap:=h',toks:=tk }) (n:="range_iterator") st' rfl rfl (by decide) ⟨.int (lo + i),H,I1,⟨t,?_⟩,⟨rfl,rfl⟩,st',fun b hb=>(hf b hb).1⟩⟩
  rw[Int.mul_one]
 done:=by
  intro X hP hw hK hc i pins s σ H E I hf st hg
  subst hP hw hK
  obtain⟨f0,f1,f2,f3,f4,f5⟩:=hf it (by simp)
  exact wpAny_pyNext_range_end (I.ok.hd hc) st (by have:n≤i:=hg;trivial) fun h' eb=>⟨rfl,I.turned (t':=s.toks) (fun b o hb e=>eb b o hb e) f0 f1 f3 f4 f5⟩
 self:=fun _ _ _ _ _ st h=>wpAny_pyIter_rangeiter st h
end L2
namespace L2
open PySem PySem.Spec PyProof.Rows
section
variable {X:Cx} {tg:Expr}
def iList (K:PySem.W.Frag) (tl:TE):TI:=fun σ H R=>tl σ H fun x H1=>ERef x fun a=>(∃ xs,SqL K H1 a xs)∧R (Itl K a) H1
def iTup (K:PySem.W.Frag) (tl:TE):TI:=fun σ H R=>tl σ H fun x H1=>ERef x fun a=>(∃ xs,SqT K H1 a xs)∧R (Itt K a) H1
theorem zcm {l:Expr} {tl:TE} (hl:PE X l tl):PI X tg l (iList X.K tl):=by
 intro pins s σ H R I h
 refine thn (hl pins s σ H _ I h) fun v s1 ⟨x,H1,I1,r1,q1⟩=>?_
 obtain⟨a,e,⟨xs,hq⟩,q⟩:=q1
 subst e
 cases r1
 obtain⟨its,rv,p,hz⟩:=I1.list hq
 refine wpAny_pyIter_list p.isList ?_
 refine⟨s1.heap.objs.size,[s1.heap.objs.size],_,_,H1,rfl,I1.kept (t':=s1.toks) fun b o e=>Heap.get?_push_of_some _ e,zlu a _,⟨_,Heap.get?_push_size _ rfl,rfl,rfl⟩,fun b hb=>?_,q⟩
 have e:b=s1.heap.objs.size:=by simpa using hb
 subst e
 exact I1.fpOk (Nat.le_refl _) (I1.hok.fresh (Nat.le_refl _))
theorem zct {l:Expr} {tl:TE} (hl:PE X l tl):PI X tg l (iTup X.K tl):=by
 intro pins s σ H R I h
 refine thn (hl pins s σ H _ I h) fun v s1 ⟨x,H1,I1,r1,q1⟩=>?_
 obtain⟨a,e,⟨xs,hq⟩,q⟩:=q1
 subst e
 cases r1
 obtain⟨its,rv,p,hz⟩:=I1.tuple hq
 refine wpAny_pyIter_tuple (show s1.heap.IsTuple a its.toArray from p) ?_
 refine⟨s1.heap.objs.size,[s1.heap.objs.size],_,_,H1,rfl,I1.kept (t':=s1.toks) fun b o e=>Heap.get?_push_of_some _ e,zk2 a _,⟨_,Heap.get?_push_size _ rfl,rfl,rfl⟩,fun b hb=>?_,q⟩
 have e:b=s1.heap.objs.size:=by simpa using hb
 subst e
 exact I1.fpOk (Nat.le_refl _) (I1.hok.fresh (Nat.le_refl _))
theorem zn7 {pins:List (Addr × Obj)} {σ:St} {H:Hp} {s:Shared} {R:It->Hp->Prop} {E:Value->Shared->Prop} {lo hi:Int} {t u v:Tok} {tk:Nat} (I:Inv X pins σ H s) (h1:-(2 ^ 62)≤lo) (h2:lo < 2 ^ 62) (h3:-(2 ^ 62)≤hi) (h4:hi < 2 ^ 62)
  (q:R (Itr lo (hi - lo).toNat) H):wpAny (model X.prog X.w) X.A (pyIter (.ref s.heap.objs.size)) (PIE X pins σ tg R) E { s with heap:=s.heap.push { cls:=.type "range",data:=.fields #[.int lo t,.int hi u,.int 1 v] },toks:=tk }:=by
 refine wpAny_pyIter_range (IsRange.new ..) (small_one h1 h2 h3 h4) ?_
 have I1:Inv X pins σ H { s with heap:=s.heap.push { cls:=.type "range",data:=.fields #[.int lo t,.int hi u,.int 1 v] },toks:=tk }:=I.kept fun b o e=>Heap.get?_push_of_some _ e
 refine⟨(s.heap.push { cls:=.type "range",data:=.fields #[.int lo t,.int hi u,.int 1 v] }).objs.size,[(s.heap.push { cls:=.type "range",data:=.fields #[.int lo t,.int hi u,.int 1 v] }).objs.size],_,_,H,rfl,
  I1.kept (t':=tk) fun b o e=>Heap.get?_push_of_some _ e,zk3 _ lo (hi - lo).toNat,?_,fun b hb=>?_,q⟩
 ·have e1:lo + ((0:Nat):Int) * 1=lo:=by simp
  have e2:(((hi - lo).toNat:Nat):Int) - ((0:Nat):Int)=Builtin.Range.rangeSize lo hi 1:=by rw[rangeSize_one];split <;> trivial
  show IsRangeIter _ _ (lo + ((0:Nat):Int) * 1) ((((hi - lo).toNat:Nat):Int) - ((0:Nat):Int)) 1
  rw[e1,e2]
  exact Heap.get?_push_size _ rfl
 ·have e:b=(s.heap.push { cls:=.type "range",data:=.fields #[.int lo t,.int hi u,.int 1 v] }).objs.size:=by simpa using hb
  subst e
  exact I1.fpOk (Nat.le_refl _) (I1.hok.fresh (Nat.le_refl _))
def iRng1 (ta:TA):TI:=fun σ H R=>ta σ H fun vs H1=>EOne vs fun j=>-(2 ^ 62)≤j∧j < 2 ^ 62∧R (Itr 0 j.toNat) H1
theorem zbq {a:Expr} {ta:TA} {p pos:Pos} (hg:Gl X "range") (hm:X.mg "range"=none) (ha:PA X [a] ta) (hs:starEach [a] X.env=[(false,eval a X.env)]:=by rfl):PI X tg (.Call (.Name "range" p) [a] [] pos) (iRng1 ta):=by
 intro pins s σ H R I h
 refine Call_ (ze6 I hg hm boot_range (PyProof.Rows.callWith_type1 (thn (ha pos pins s σ H _ I h) fun us s1 ⟨vs,H1,I1,r1,q1⟩=>?_) hs rfl))
 obtain⟨j,e,q1,q2,q⟩:=q1
 subst e
 cases r1 with
 | cons r rr =>
  cases rr
  obtain⟨t,rfl⟩:=r
  exact call_range_1 (zn7 I1 (by trivial) (by trivial) q1 q2 (by simpa using q))
def tFor (wi:TI) (g:TG) (tb:TS):TS:=fun D σ H=>wi σ H fun J H1=>∃ W:Nat->Nat->St->Hp->Prop,(∃ m,W 0 m σ H1)∧∀ i m σ H,W i m σ H ->
 (J.stop i H∧D.nx σ H)∨(J.go i H∧∃ N:St->Hp->Prop,(∀ σ' H',N σ' H'->∃ m',m' < m∧W (i + 1) m' σ' H')∧∀ x H',J.yld i H x H'->g x σ H' fun σ2 H2=>tb { D with nx:=N,ct:=N,bk:=D.nx } σ2 H2)
def pinsAt (fp:List Addr) (h:Heap):List (Addr × Obj):=fp.filterMap fun b=>(h.get? b).map fun o=>(b,o)
theorem zc2 {fp:List Addr} {h:Heap} {b:Addr} {o:Obj} (hb:b ∈ fp) (e:h.get? b=some o):(b,o) ∈ pinsAt fp h:=List.mem_filterMap.mpr ⟨b,hb,by rw[e];rfl⟩
theorem zmj {fp:List Addr} {h:Heap} {p:Addr × Obj} (hp:p ∈ pinsAt fp h):p.1 ∈ fp∧h.get? p.1=some p.2:=by
 obtain⟨b,hb,e⟩:=List.mem_filterMap.mp hp
 cases q:h.get? b with
 | none=>rw[q] at e;cases e
 | some o =>
  rw[q] at e
  have e':(b,o)=p:=Option.some.inj e
  subst e'
  exact⟨hb,q⟩
theorem Inv.pinned {pins:List (Addr × Obj)} {σ:St} {H:Hp} {s:Shared} {fp:List Addr} (I:Inv X pins σ H s) (hf:∀ b ∈ fp,FpOk X pins H b) (ho:∀ b ∈ fp,∃ o,s.heap.get? b=some o∧∀ v,o.data≠.cell v):Inv X (pins++pinsAt fp s.heap) σ H s :=
 I.pins_of fun p hp=>(List.mem_append.mp hp).elim (fun z=>I.pin p (List.mem_append_right _ z)) fun z=>by
  obtain⟨hb,e⟩:=zmj z
  obtain⟨f0,f1,f2,_⟩:=hf p.1 hb
  obtain⟨o,e',d⟩:=ho p.1 hb
  rw[e] at e';cases e'
  exact⟨e,f0,f1,f2,d⟩
theorem Inv.unpinned {pins pl:List (Addr × Obj)} {σ:St} {H:Hp} {s:Shared} (I:Inv X (pins++pl) σ H s):Inv X pins σ H s:=I.pins_of fun p hp=>I.pin p (List.mem_append_right _ (List.mem_append_left _ hp))
theorem zbm {iter:Expr} {body:List Stmt} {wi:TI} {g:TG} {tb:TS} {pos:Pos} (hp:PassesOwn (model X.prog X.w) X.A X.env X.xe) (hc:X.calm=true) (hi:PI X tg iter wi) (hg:PG X tg g) (hb:PSs X body tb)
  (hs:∀ x,foldedSetIterable iter X.env x=pure x:=by intro _;rfl):PS X (.For tg iter body [] pos) (tFor wi g tb):=by
 intro pins s σ H D I h
 refine wpAny_For (thn (hi pins s σ H _ I h) fun v s1 h1=>thn h1 fun itv s2 h2=>?_) hs
 obtain⟨it,fp,tn,J,H2,e,I2,T,st2,f2,W,⟨m0,w0⟩,turn⟩:=h2
 subst e
  -- what stays true of the iterator's objects through the loop
 have stat:∀ {H':Hp},(∀ b ∈ fp,H' b=none)->∀ b ∈ fp,FpOk X pins H' b:=fun hn b hb=>⟨hn b hb,(f2 b hb).2⟩
 refine codeAny_forLoop_any (fun n s'=>∃ i σ' H',Inv X pins σ' H' s'∧tn i s'.heap∧(∀ b ∈ fp,H' b=none)∧W i n σ' H') ?_ m0 ⟨0,σ,H2,I2,st2,fun b hb=>(f2 b hb).1,w0⟩
 rintro n s3 ⟨i,σ3,H3,I3,st3,fr3,w3⟩
 rcases turn i n σ3 H3 w3 with ⟨stop,qn⟩ | ⟨go,N,hN,step⟩
 ·refine wpAny_passesOwn hp (thn (T.done X rfl rfl rfl hc i pins s3 σ3 H3 X.xe I3 (stat fr3) st3 stop) fun r s4 ⟨hr,I4⟩=>?_)
  subst hr
  exact wpAny_execs_nil ⟨σ3,H3,I4,qn⟩
 ·refine wpAny_passesOwn hp (thn (T.item X rfl rfl rfl hc i pins s3 σ3 H3 X.xe I3 (stat fr3) st3 go) fun r s4 ⟨u,hr,h4⟩=>?_)
  subst hr
  refine wpAny_passesOwn hp (thn h4 fun _ s5 ⟨x,H5,I5,r5,y5,st5,fr5⟩=>?_)
  have I5':=I5.pinned (stat fr5) (T.obj _ _ st5)
  refine wpAny_passesOwn hp (thn (hg _ s5 σ3 H5 x u _ I5' r5 (step x H5 y5)) fun _ s6 ⟨σ6,H6,I6,q6⟩=>?_)
  refine wpAny_passesOwn hp (thn (hb _ s6 σ6 H6 _ I6 q6) fun f s7 q7=>?_)
  have again:∀ {σ7:St} {H7:Hp},Inv X (pins++pinsAt fp s5.heap) σ7 H7 s7->N σ7 H7->∃ m,m < n∧∃ i σ' H',Inv X pins σ' H' s7∧tn i s7.heap∧(∀ b ∈ fp,H' b=none)∧W i m σ' H':=fun {σ7 H7} I7 n7=>by
   obtain⟨m',hm,w7⟩:=hN σ7 H7 n7
   refine⟨m',hm,i + 1,σ7,H7,I7.unpinned,T.keep _ _ _ st5 fun b hb o e=>(I7.pin (b,o) (List.mem_append_right _ (List.mem_append_right _ (zc2 hb e)))).1,fun b hb=>?_,w7⟩
   obtain⟨o,e,d⟩:=T.obj _ _ st5 b hb
   exact (I7.pin (b,o) (List.mem_append_right _ (List.mem_append_right _ (zc2 hb e)))).2.1
  cases f with
  | next=>obtain⟨σ7,H7,I7,n7⟩:=q7;exact again I7 n7
  | cont=>obtain⟨σ7,H7,I7,n7⟩:=q7;exact again I7 n7
  | brk=>obtain⟨σ7,H7,I7,q7⟩:=q7;exact⟨σ7,H7,I7.unpinned,q7⟩
  | ret v=>obtain⟨x7,σ7,H7,I7,r7,q7⟩:=q7;exact⟨x7,σ7,H7,I7.unpinned,r7,q7⟩
end
theorem zgz {K:PySem.W.Frag} {a:Addr} {xs:List V} {g:TG} {tb:TS} {D:Ends} {σ:St} {H:Hp} (Pv:Nat->St->Hp->Prop) (h0:Pv 0 σ H) (hl:∀ i σ H,i≤xs.length->Pv i σ H->SqL K H a xs)
  (hs:∀ i x σ H,xs[i]?=some x->Pv i σ H->g x σ H fun σ2 H2=>tb { D with nx:=Pv (i + 1),ct:=Pv (i + 1),bk:=D.nx } σ2 H2) (hd:∀ σ H,Pv xs.length σ H->D.nx σ H) :
  ∃ W:Nat->Nat->St->Hp->Prop,(∃ m,W 0 m σ H)∧∀ i m σ H,W i m σ H ->
   ((Itl K a).stop i H∧D.nx σ H)∨((Itl K a).go i H∧∃ N:St->Hp->Prop,(∀ σ' H',N σ' H'->∃ m',m' < m∧W (i + 1) m' σ' H')∧∀ x H',(Itl K a).yld i H x H'->g x σ H' fun σ2 H2=>tb { D with nx:=N,ct:=N,bk:=D.nx } σ2 H2):=by
 refine⟨fun i m σ H=>m=xs.length - i∧i≤xs.length∧Pv i σ H,⟨xs.length,by simp,Nat.zero_le _,h0⟩,?_⟩
 rintro i m σ H ⟨rfl,hi,p⟩
 have q:=hl i σ H hi p
 by_cases hlt:i < xs.length
 ·refine .inr ⟨⟨xs,xs[i],q,by simp [hlt]⟩,Pv (i + 1),fun σ' H' p'=>⟨xs.length - (i + 1),by trivial,rfl,hlt,p'⟩,fun x H' y=>?_⟩
  obtain⟨e,y⟩:=y
  subst e
  exact hs i x σ _ (y xs q) p
 ·have e:i=xs.length:=by trivial
  subst e
  exact .inl ⟨⟨xs,q,Nat.le_refl _⟩,hd σ H p⟩
theorem zdj {K:PySem.W.Frag} {a:Addr} {xs:List V} {g:TG} {tb:TS} {D:Ends} {σ:St} {H:Hp} (Pv:Nat->St->Hp->Prop) (h0:Pv 0 σ H) (hl:∀ i σ H,i≤xs.length->Pv i σ H->SqT K H a xs)
  (hs:∀ i x σ H,xs[i]?=some x->Pv i σ H->g x σ H fun σ2 H2=>tb { D with nx:=Pv (i + 1),ct:=Pv (i + 1),bk:=D.nx } σ2 H2) (hd:∀ σ H,Pv xs.length σ H->D.nx σ H) :
  ∃ W:Nat->Nat->St->Hp->Prop,(∃ m,W 0 m σ H)∧∀ i m σ H,W i m σ H ->
   ((Itt K a).stop i H∧D.nx σ H)∨((Itt K a).go i H∧∃ N:St->Hp->Prop,(∀ σ' H',N σ' H'->∃ m',m' < m∧W (i + 1) m' σ' H')∧∀ x H',(Itt K a).yld i H x H'->g x σ H' fun σ2 H2=>tb { D with nx:=N,ct:=N,bk:=D.nx } σ2 H2):=by
 refine⟨fun i m σ H=>m=xs.length - i∧i≤xs.length∧Pv i σ H,⟨xs.length,by simp,Nat.zero_le _,h0⟩,?_⟩
 rintro i m σ H ⟨rfl,hi,p⟩
 have q:=hl i σ H hi p
 by_cases hlt:i < xs.length
 ·refine .inr ⟨⟨xs,xs[i],q,by simp [hlt]⟩,Pv (i + 1),fun σ' H' p'=>⟨xs.length - (i + 1),by trivial,rfl,hlt,p'⟩,fun x H' y=>?_⟩
  obtain⟨e,y⟩:=y
  subst e
  exact hs i x σ _ (y xs q) p
 ·have e:i=xs.length:=by trivial
  subst e
  exact .inl ⟨⟨xs,q,Nat.le_refl _⟩,hd σ H p⟩
theorem zb6 {lo:Int} {n:Nat} {g:TG} {tb:TS} {D:Ends} {σ:St} {H:Hp} (Pv:Nat->St->Hp->Prop) (h0:Pv 0 σ H)
  (hs:∀ i σ H,i < n->Pv i σ H->g (.int (lo + i)) σ H fun σ2 H2=>tb { D with nx:=Pv (i + 1),ct:=Pv (i + 1),bk:=D.nx } σ2 H2) (hd:∀ σ H,Pv n σ H->D.nx σ H) :
  ∃ W:Nat->Nat->St->Hp->Prop,(∃ m,W 0 m σ H)∧∀ i m σ H,W i m σ H ->
   ((Itr lo n).stop i H∧D.nx σ H)∨((Itr lo n).go i H∧∃ N:St->Hp->Prop,(∀ σ' H',N σ' H'->∃ m',m' < m∧W (i + 1) m' σ' H')∧∀ x H',(Itr lo n).yld i H x H'->g x σ H' fun σ2 H2=>tb { D with nx:=N,ct:=N,bk:=D.nx } σ2 H2):=by
 refine⟨fun i m σ H=>m=n - i∧i≤n∧Pv i σ H,⟨n,by simp,Nat.zero_le _,h0⟩,?_⟩
 rintro i m σ H ⟨rfl,hi,p⟩
 by_cases hlt:i < n
 ·refine .inr ⟨hlt,Pv (i + 1),fun σ' H' p'=>⟨n - (i + 1),by trivial,rfl,hlt,p'⟩,fun x H' y=>?_⟩
  obtain⟨e,y⟩:=y
  subst e y
  exact hs i σ _ hlt p
 ·have e:i=n:=by trivial
  subst e
  exact .inl ⟨Nat.le_refl _,hd σ H p⟩
end L2
namespace L2
open PySem PySem.Spec PyProof.Rows
abbrev R2:=V->V->Hp->VK->Prop
def OpR (X:Cx) (f:Value->Value->Sem Value) (r:R2):Prop :=
 ∀ (pins:List (Addr × Obj)) (s:Shared) (σ:St) (H:Hp) (x y:V) (v u:Value) (Q:VK),Inv X pins σ H s->RelV x v->RelV y u->r x y H Q ->
  wpAny (model X.prog X.w) X.A (f v u) (EP X pins σ Q) X.xe s
def UnR (X:Cx) (f:Value->Sem Value) (r:V->Hp->VK->Prop):Prop :=
 ∀ (pins:List (Addr × Obj)) (s:Shared) (σ:St) (H:Hp) (x:V) (v:Value) (Q:VK),Inv X pins σ H s->RelV x v->r x H Q ->
  wpAny (model X.prog X.w) X.A (f v) (EP X pins σ Q) X.xe s
def CallR (X:Cx) (f:Value) (r:List V->Hp->VK->Prop):Prop :=
 ∀ (pins:List (Addr × Obj)) (s:Shared) (σ:St) (H:Hp) (xs:List V) (us:List Value) (Q:VK),Inv X pins σ H s->Vals xs us->r xs H Q ->
  wpAny (model X.prog X.w) X.A (call f us) (EP X pins σ Q) X.xe s
def tOp (r:R2) (ta tb:TE):TE:=fun σ H Q=>ta σ H fun x H1=>tb σ H1 fun y H2=>r x y H2 Q
def tUn (r:V->Hp->VK->Prop) (ta:TE):TE:=fun σ H Q=>ta σ H fun x H1=>r x H1 Q
inductive rI_i (C:Int->Int->Prop) (g:Int->Int->V) (x:V) (y:V) (H:Hp) (Q:VK):Prop
 | mk:∀ i j,(x=.int i)->(y=.int j)->(C i j)->(Q (g i j) H)->rI_i C g x y H Q
def rI (C:Int->Int->Prop) (g:Int->Int->V):R2:=fun x y H Q=>rI_i C g x y H Q
inductive rI0_i (g:Int->Int->V) (x:V) (y:V) (H:Hp) (Q:VK):Prop
 | mk:∀ i j,(x=.int i)->(y=.int j)->(Q (g i j) H)->rI0_i g x y H Q
def rI0 (g:Int->Int->V):R2:=fun x y H Q=>rI0_i g x y H Q
inductive rU_i (g:Int->V) (x:V) (H:Hp) (Q:VK):Prop
 | mk:∀ i,(x=.int i)->(Q (g i) H)->rU_i g x H Q
def rU (g:Int->V):V->Hp->VK->Prop:=fun x H Q=>rU_i g x H Q
section
variable {X:Cx} {a b c:Expr} {ta tb tc:TE} {pos:Pos}
theorem binT (ha:PE X a ta) (hb:PE X b tb) {pins:List (Addr × Obj)} {s:Shared} {σ:St} {H:Hp} {R:V->V->Hp->Prop} (I:Inv X pins σ H s)
  (h:ta σ H fun x H1=>tb σ H1 fun y H2=>R x y H2) {Q:Value->Shared->Prop} {f:Value->Value->Sem Value}
  (hf:∀ v u s2 x y H2,Inv X pins σ H2 s2->RelV x v->RelV y u->R x y H2->wpAny (model X.prog X.w) X.A (f v u) Q X.xe s2) :
  wpAny (model X.prog X.w) X.A (eval a X.env) (fun v s₁=>wpAny (model X.prog X.w) X.A (eval b X.env) (fun u s₂=>wpAny (model X.prog X.w) X.A (f v u) Q X.xe s₂) X.xe s₁) X.xe s:=by
 refine thn (ha pins s σ H _ I h) fun v s1 ⟨x,H1,I1,r1,q1⟩=>?_
 refine thn (hb pins s1 σ H1 _ I1 q1) fun u s2 ⟨y,H2,I2,r2,q2⟩=>?_
 exact hf v u s2 x y H2 I2 r1 r2 q2
theorem zar {op:Operator} {r:R2} (ho:OpR X (binaryOp op) r) (ha:PE X a ta) (hb:PE X b tb):PE X (.BinOp a op b pos) (tOp r ta tb):=by
 intro pins s σ H Q I h
 exact wpAny_BinOp (binT ha hb I h fun v u s2 x y H2 I2 rx ry q=>ho pins s2 σ H2 x y v u Q I2 rx ry q)
theorem zd1 {op:UnaryOp} {r:V->Hp->VK->Prop} (ho:UnR X (unaryOp op) r) (ha:PE X a ta):PE X (.UnaryOp op a pos) (tUn r ta):=by
 intro pins s σ H Q I h
 exact UnaryOp_ (thn (ha pins s σ H _ I h) fun v s1 ⟨x,H1,I1,r1,q1⟩=>ho pins s1 σ H1 x v Q I1 r1 q1)
theorem opI {f:Value->Value->Sem Value} {C:Int->Int->Prop} {g:Int->Int->Int}
  (rule:∀ (i j:Int) (t u:Tok) (s:Shared) (Q:Value->Shared->Prop) (E:Value->Shared->Prop),C i j->Q (.int (g i j) s.toks) { s with toks:=s.toks + 1 }->wpAny (model X.prog X.w) X.A (f (.int i t) (.int j u)) Q E s) :
  OpR X f (rI C fun i j=>.int (g i j)):=by
 intro pins s σ H x y v u Q I rx ry h
 obtain⟨i,j,rfl,rfl,hc,q⟩:=h
 obtain⟨t,rfl⟩:=rx
 obtain⟨t',rfl⟩:=ry
 exact rule i j t t' s _ _ hc ⟨.int (g i j),H,I.tok _,⟨_,rfl⟩,q⟩
theorem opI0 {f:Value->Value->Sem Value} {g:Int->Int->Int}
  (rule:∀ (i j:Int) (t u:Tok) (s:Shared) (Q:Value->Shared->Prop) (E:Value->Shared->Prop),Q (.int (g i j) s.toks) { s with toks:=s.toks + 1 }->wpAny (model X.prog X.w) X.A (f (.int i t) (.int j u)) Q E s) :
  OpR X f (rI0 fun i j=>.int (g i j)):=by
 intro pins s σ H x y v u Q I rx ry h
 obtain⟨i,j,rfl,rfl,q⟩:=h
 obtain⟨t,rfl⟩:=rx
 obtain⟨t',rfl⟩:=ry
 exact rule i j t t' s _ _ ⟨.int (g i j),H,I.tok _,⟨_,rfl⟩,q⟩
theorem opB0 {f:Value->Value->Sem Value} {g:Int->Int->Bool}
  (rule:∀ (i j:Int) (t u:Tok) (s:Shared) (Q:Value->Shared->Prop) (E:Value->Shared->Prop),Q (.bool (g i j)) s->wpAny (model X.prog X.w) X.A (f (.int i t) (.int j u)) Q E s) :
  OpR X f (rI0 fun i j=>.bl (g i j)):=by
 intro pins s σ H x y v u Q I rx ry h
 obtain⟨i,j,rfl,rfl,q⟩:=h
 obtain⟨t,rfl⟩:=rx
 obtain⟨t',rfl⟩:=ry
 exact rule i j t t' s _ _ ⟨.bl (g i j),H,I,rfl,q⟩
def CDiv (i j:Int):Prop:=0 < j∧j < 1073741824
def CPow (i j:Int):Prop:=0≤j∧j≤1000000∧i.natAbs < 2 ^ 64
def CMul (i j:Int):Prop:=(-(2 ^ 64) < i∧i < 2 ^ 64)∨(-(2 ^ 64) < j∧j < 2 ^ 64)
theorem CMul.ok {i j:Int} (h:CMul i j):IntMulOk i j:=by
 rcases h with ⟨h1,h2⟩ | ⟨h1,h2⟩
 ·exact .of_left (intBits_le_64 h1 h2)
 ·exact .of_right (intBits_le_64 h1 h2)
theorem zba:OpR X (binaryOp .Add) (rI0 fun i j=>.int (i + j)):=opI0 fun _ _ _ _ _ _ _ q=>add_int q
theorem zb4:OpR X (binaryOp .Sub) (rI0 fun i j=>.int (i - j)):=opI0 fun _ _ _ _ _ _ _ q=>sub_int q
theorem zb8:OpR X (binaryOp .Mult) (rI CMul fun i j=>.int (i * j)):=opI fun _ _ _ _ _ _ _ hc q=>mul_int q hc.ok
theorem zmg:OpR X (binaryOp .FloorDiv) (rI CDiv fun i j=>.int (i / j)):=opI fun i j _ _ _ _ _ hc q=>by
 have h1:(0:Int) < j:=hc.1
 have h2:j < 1073741824:=hc.2
 exact floordiv_int (by trivial) (by rw[Int.fdiv_eq_ediv_of_nonneg i (by trivial)];exact q) (.inl (PyProof.noPylong_small (by trivial)))
theorem zcf:OpR X (binaryOp .Mod) (rI (fun _ j=>0 < j) fun i j=>.int (i % j)):=opI fun i j _ _ _ _ _ hc q=>by
 have h1:(0:Int) < j:=hc
 exact mod_int' (by trivial) (by rw[Int.fmod_eq_emod_of_nonneg i (by trivial)];exact q)
theorem zby:OpR X (binaryOp .Pow) (rI CPow fun i j=>.int (i ^ j.toNat)):=opI fun _ _ _ _ _ _ _ hc q=>pow_int_small hc.1 hc.2.1 hc.2.2 q
theorem unI {f:Value->Sem Value} {g:Int->Int}
  (rule:∀ (i:Int) (t:Tok) (s:Shared) (Q:Value->Shared->Prop) (E:Value->Shared->Prop),Q (.int (g i) s.toks) { s with toks:=s.toks + 1 }->wpAny (model X.prog X.w) X.A (f (.int i t)) Q E s) :
  UnR X f (rU fun i=>.int (g i)):=by
 intro pins s σ H x v Q I rx h
 obtain⟨i,rfl,q⟩:=h
 obtain⟨t,rfl⟩:=rx
 exact rule i t s _ _ ⟨.int (g i),H,I.tok _,⟨_,rfl⟩,q⟩
theorem zcd:UnR X (unaryOp .USub) (rU fun i=>.int (-i)):=unI fun _ _ _ _ _ q=>neg_int q
end
def scal:V->V->Bool
 | .non,.non=>true | .non,.int _=>true | .int _,.non=>true | .non,.bl _=>true | .bl _,.non=>true | .non,.str _=>true | .str _,.non=>true
 | .int _,.int _=>true | .bl _,.bl _=>true | .str _,.str _=>true | .byt _,.byt _=>true
 | .int _,.str _=>true | .str _,.int _=>true | .bl _,.str _=>true | .str _,.bl _=>true
 | _,_=>false
def rEq:R2:=fun x y H Q=>scal x y=true∧Q (.bl (decide (x=y))) H
def rNe:R2:=fun x y H Q=>scal x y=true∧Q (.bl (!decide (x=y))) H
theorem zm3 {i j:Int}:decide (V.int i=V.int j)=(i == j):=by
 rw[Bool.eq_iff_iff]
 simp
theorem zpa {i j:Bool}:decide (V.bl i=V.bl j)=(i == j):=by
 rw[Bool.eq_iff_iff]
 simp
theorem zm2 {i j:Str}:decide (V.str i=V.str j)=(i == j):=by
 rw[Bool.eq_iff_iff]
 simp
theorem zm4 {i j:Array UInt8}:decide (V.byt i=V.byt j)=(i.toList == j.toList):=by
 rw[Bool.eq_iff_iff]
 cases i
 cases j
 simp
section
variable {X:Cx} {a b c:Expr} {ta tb tc:TE} {pos:Pos}
theorem za5 {pins:List (Addr × Obj)} {σ:St} {H:Hp} {s:Shared} {Q:VK} {k k':Bool} (I:Inv X pins σ H s) (q:Q (.bl k) H) (e:k=k'):EP X pins σ Q (.bool k') s:=by
 subst e
 exact⟨.bl k,H,I,rfl,q⟩
theorem zbb:OpR X (compareOp .Eq) rEq:=by
 intro pins s σ H x y v u Q I rx ry h
 obtain⟨hs,q⟩:=h
 cases x with
 | non =>
  cases rx
  cases y with
  | non=>cases ry;exact PySem.EqNone.eq_none_none (za5 I q (by simp))
  | bl j=>cases ry;exact PySem.EqNone.eq_none_bool (za5 I q (by simp))
  | int j=>obtain⟨t',rfl⟩:=ry;exact PySem.EqNone.eq_none_int (za5 I q (by simp))
  | str j=>obtain⟨t',rfl⟩:=ry;exact PySem.EqNone.eq_none_str (za5 I q (by simp))
  | _=>exact absurd (show false=true from hs) Bool.false_ne_true
 | bl i =>
  cases rx
  cases y with
  | non=>cases ry;exact PySem.EqNone.eq_bool_none (za5 I q (by simp))
  | bl j=>cases ry;exact eq_bool (za5 I q zpa)
  | str j=>obtain⟨t',rfl⟩:=ry;exact PySem.EqMixed.eq_bool_str (za5 I q (by simp))
  | _=>exact absurd (show false=true from hs) Bool.false_ne_true
 | int i =>
  obtain⟨t,rfl⟩:=rx
  cases y with
  | non=>cases ry;exact PySem.EqNone.eq_int_none (za5 I q (by simp))
  | int j=>obtain⟨t',rfl⟩:=ry;exact eq_int (za5 I q zm3)
  | str j=>obtain⟨t',rfl⟩:=ry;exact PySem.EqMixed.eq_int_str (za5 I q (by simp))
  | _=>exact absurd (show false=true from hs) Bool.false_ne_true
 | str i =>
  obtain⟨t,rfl⟩:=rx
  cases y with
  | non=>cases ry;exact PySem.EqNone.eq_str_none (za5 I q (by simp))
  | bl j=>cases ry;exact PySem.EqMixed.eq_str_bool (za5 I q (by simp))
  | int j=>obtain⟨t',rfl⟩:=ry;exact PySem.EqMixed.eq_str_int (za5 I q (by simp))
  | str j=>obtain⟨t',rfl⟩:=ry;exact eq_str (za5 I q zm2)
  | _=>exact absurd (show false=true from hs) Bool.false_ne_true
 | byt i =>
  obtain⟨t,rfl⟩:=rx
  cases y with
  | byt j=>obtain⟨t',rfl⟩:=ry;exact PySem.W.eq_bytes (za5 I q zm4)
  | _=>exact absurd (show false=true from hs) Bool.false_ne_true
 | _=>cases y <;> exact absurd (show false=true from hs) Bool.false_ne_true
theorem zjg:OpR X (compareOp .NotEq) rNe:=by
 intro pins s σ H x y v u Q I rx ry h
 obtain⟨hs,q⟩:=h
 cases x with
 | non =>
  cases rx
  cases y with
  | non=>cases ry;exact PySem.EqNone.ne_none_none (za5 I q (by simp))
  | bl j=>cases ry;exact PySem.EqNone.ne_none_bool (za5 I q (by simp))
  | int j=>obtain⟨t',rfl⟩:=ry;exact PySem.EqNone.ne_none_int (za5 I q (by simp))
  | str j=>obtain⟨t',rfl⟩:=ry;exact PySem.EqNone.ne_none_str (za5 I q (by simp))
  | _=>exact absurd (show false=true from hs) Bool.false_ne_true
 | bl i =>
  cases rx
  cases y with
  | non=>cases ry;exact PySem.EqNone.ne_bool_none (za5 I q (by simp))
  | bl j=>cases ry;exact ne_bool (za5 I q (congrArg not zpa))
  | str j=>obtain⟨t',rfl⟩:=ry;exact PySem.EqMixed.ne_bool_str (za5 I q (by simp))
  | _=>exact absurd (show false=true from hs) Bool.false_ne_true
 | int i =>
  obtain⟨t,rfl⟩:=rx
  cases y with
  | non=>cases ry;exact PySem.EqNone.ne_int_none (za5 I q (by simp))
  | int j=>obtain⟨t',rfl⟩:=ry;exact ne_int (za5 I q (congrArg not zm3))
  | str j=>obtain⟨t',rfl⟩:=ry;exact PySem.EqMixed.ne_int_str (za5 I q (by simp))
  | _=>exact absurd (show false=true from hs) Bool.false_ne_true
 | str i =>
  obtain⟨t,rfl⟩:=rx
  cases y with
  | non=>cases ry;exact PySem.EqNone.ne_str_none (za5 I q (by simp))
  | bl j=>cases ry;exact PySem.EqMixed.ne_str_bool (za5 I q (by simp))
  | int j=>obtain⟨t',rfl⟩:=ry;exact PySem.EqMixed.ne_str_int (za5 I q (by simp))
  | str j=>obtain⟨t',rfl⟩:=ry;exact ne_str (za5 I q (congrArg not zm2))
  | _=>exact absurd (show false=true from hs) Bool.false_ne_true
 | byt i =>
  obtain⟨t,rfl⟩:=rx
  cases y with
  | byt j=>obtain⟨t',rfl⟩:=ry;exact PySem.W.ne_bytes (za5 I q (congrArg not zm4))
  | _=>exact absurd (show false=true from hs) Bool.false_ne_true
 | _=>cases y <;> exact absurd (show false=true from hs) Bool.false_ne_true
theorem zgl:OpR X (compareOp .Lt) (rI0 fun i j=>.bl (decide (i < j))):=opB0 fun _ _ _ _ _ _ _ q=>lt_int q
theorem zhr:OpR X (compareOp .LtE) (rI0 fun i j=>.bl (decide (i≤j))):=opB0 fun _ _ _ _ _ _ _ q=>le_int q
theorem zeb:OpR X (compareOp .Gt) (rI0 fun i j=>.bl (decide (j < i))):=opB0 fun _ _ _ _ _ _ _ q=>gt_int q
theorem zea:OpR X (compareOp .Is) (fun x y H Q=>y=.non∧Q (.bl (decide (x=.non))) H):=by
 intro pins s σ H x y v u Q I rx ry h
 obtain⟨rfl,q⟩:=h
 cases ry
 refine is_none_gen (za5 I q ?_)
 cases x <;> first
  | (cases rx;rfl)
  | (obtain⟨t,rfl⟩:=rx;rfl)
theorem zgk:OpR X (compareOp .IsNot) (fun x y H Q=>y=.non∧Q (.bl (!decide (x=.non))) H):=by
 intro pins s σ H x y v u Q I rx ry h
 obtain⟨rfl,q⟩:=h
 cases ry
 refine isnot_none_gen (za5 I q ?_)
 cases x <;> first
  | (cases rx;rfl)
  | (obtain⟨t,rfl⟩:=rx;rfl)
theorem nomark (b:Expr) {op:CmpOp} (h:op≠.In:=by decide) (h2:op≠.NotIn:=by decide):behindInMarks op b=false:=by
 have e1:(op == CmpOp.In)=false:=by cases op <;> first | rfl | exact absurd rfl h
 have e2:(op == CmpOp.NotIn)=false:=by cases op <;> first | rfl | exact absurd rfl h2
 cases b <;> simp [behindInMarks,e1,e2]
theorem zaz {op:CmpOp} {r:R2} (ho:OpR X (compareOp op) r) (ha:PE X a ta) (hb:PE X b tb) (hm:behindInMarks op b=false):PE X (.Compare a [op] [b] pos) (tOp r ta tb):=by
 intro pins s σ H Q I h
 exact wpAny_Compare1 (binT ha hb I h fun v u s2 x y H2 I2 rx ry q=>ho pins s2 σ H2 x y v u Q I2 rx ry q) hm
def tTest (t:TE):TT:=fun σ H Q=>t σ H fun x H'=>EBl x fun k=>Q k H'
theorem zan {op:CmpOp} {r:R2} (ho:OpR X (compareOp op) r) (ha:PE X a ta) (hb:PE X b tb) (hm:behindInMarks op b=false):PT X (.Compare a [op] [b] pos) (tTest (tOp r ta tb)):=by
 intro pins s σ H Q I h
 refine wpAny_isTrue_Compare1 (thn (ha pins s σ H _ I h) fun v s1 ⟨x,H1,I1,r1,q1⟩=>thn (hb pins s1 σ H1 _ I1 q1) fun u s2 ⟨y,H2,I2,r2,q2⟩ =>
  thn (ho pins s2 σ H2 x y v u _ I2 r1 r2 q2) fun c s3 ⟨z,H3,I3,r3,k,e,q3⟩=>?_) hm
 subst e
 cases r3
 exact wpAny_truthy_bool ⟨H3,I3,q3⟩
def tChain (r r':R2) (ta tb tc:TE):TE:=fun σ H Q=>ta σ H fun x H1=>tb σ H1 fun y H2=>r x y H2 fun z H3=>EBl z fun k=>(if k=true then tc σ H3 fun w' H4=>r' y w' H4 Q else Q (.bl false) H3)
theorem zgh {op op':CmpOp} {r r':R2} (ho:OpR X (compareOp op) r) (ho':OpR X (compareOp op') r') (ha:PE X a ta) (hb:PE X b tb) (hc:PE X c tc)
  (hm:lastMarks [op,op'] [b,c]=false:=by with_unfolding_all rfl):PE X (.Compare a [op,op'] [b,c] pos) (tChain r r' ta tb tc):=by
 intro pins s σ H Q I h
 refine Compare_chain (thn (ha pins s σ H _ I h) fun v s1 ⟨x,H1,I1,r1,q1⟩=>chain_link (thn (hb pins s1 σ H1 _ I1 q1) fun u s2 ⟨y,H2,I2,r2,q2⟩ =>
  thn (ho pins s2 σ H2 x y v u _ I2 r1 r2 q2) fun d s3 ⟨z,H3,I3,r3,k,e,q3⟩=>?_)) hm
 subst e
 cases r3
 refine wpAny_truthy_bool ?_
 cases k with
 | false=>exact ite_ff ⟨.bl false,H3,I3,rfl,q3⟩
 | true=>exact ite_tt (chain_last (thn (hc pins s3 σ H3 _ I3 q3) fun w' s4 ⟨z',H4,I4,r4,q4⟩=>ho' pins s4 σ H4 y z' u w' Q I4 r2 r4 q4))
theorem zn8 {op op':CmpOp} {r r':R2} (ho:OpR X (compareOp op) r) (ho':OpR X (compareOp op') r') (ha:PE X a ta) (hb:PE X b tb) (hc:PE X c tc)
  (hm:lastMarks [op,op'] [b,c]=false:=by with_unfolding_all rfl):PT X (.Compare a [op,op'] [b,c] pos) (tTest (tChain r r' ta tb tc)):=by
 intro pins s σ H Q I h
 refine isTrue_chain (thn (ha pins s σ H _ I h) fun v s1 ⟨x,H1,I1,r1,q1⟩=>test_link (thn (hb pins s1 σ H1 _ I1 q1) fun u s2 ⟨y,H2,I2,r2,q2⟩ =>
  thn (ho pins s2 σ H2 x y v u _ I2 r1 r2 q2) fun d s3 ⟨z,H3,I3,r3,k,e,q3⟩=>?_)) hm
 subst e
 cases r3
 refine wpAny_truthy_bool ?_
 cases k with
 | false =>
  obtain⟨k',e',q'⟩:=q3
  cases e'
  exact ite_ff ⟨H3,I3,q'⟩
 | true =>
  refine ite_tt (test_last (thn (hc pins s3 σ H3 _ I3 q3) fun w' s4 ⟨z',H4,I4,r4,q4⟩=>thn (ho' pins s4 σ H4 y z' u w' _ I4 r2 r4 q4) fun d' s5 ⟨z2,H5,I5,r5,k2,e2,q5⟩=>?_))
  subst e2
  cases r5
  exact wpAny_truthy_bool ⟨H5,I5,q5⟩
theorem line63:(sizeLine:Nat) < 2 ^ 63:=by rw[sizeLine_eq];decide
theorem vals1 {x:V} {us:List Value} (r:Vals [x] us):∃ u,us=[u]∧RelV x u:=by
 cases r with
 | cons r1 r2=>cases r2;exact⟨_,rfl,r1⟩
theorem vals2 {x y:V} {us:List Value} (r:Vals [x,y] us):∃ u w',us=[u,w']∧RelV x u∧RelV y w':=by
 cases r with
 | cons r1 r2 =>
  cases r2 with
  | cons r3 r4=>cases r4;exact⟨_,_,rfl,r1,r3⟩
inductive call_abs_i  (xs:List V) (H:Hp) (Q:VK):Prop
 | mk:∀ i,(xs=[.int i])->(Q (.int (if i < 0 then -i else i)) H)->call_abs_i xs H Q
theorem zg6:CallR X (.builtin "abs") (call_abs_i):=by
 intro pins s σ H xs us Q I r h
 obtain⟨i,rfl,q⟩:=h
 obtain⟨u,rfl,t,rfl⟩:=vals1 r
 exact call_abs_int fun u tk=>⟨.int (if i < 0 then -i else i),H,I.tok _,⟨_,rfl⟩,q⟩
theorem zdw (hc:X.calm=true):CallR X (.builtin "max") (fun xs H Q=>∃ i j,xs=[.int i,.int j]∧Q (.int (if j > i then j else i)) H):=by
 intro pins s σ H xs us Q I r h
 obtain⟨i,j,rfl,q⟩:=h
 obtain⟨u,w',rfl,⟨t,rfl⟩,⟨t',rfl⟩⟩:=vals2 r
 refine max_two_ints (I.ok.hd hc) fun h' tk k=>⟨_,H,I.kept k,?_,q⟩
 by_cases hj:j > i
 ·rw[if_pos hj,if_pos hj];exact⟨_,rfl⟩
 ·rw[if_neg hj,if_neg hj];exact⟨_,rfl⟩
inductive call_min2_i  (xs:List V) (H:Hp) (Q:VK):Prop
 | mk:∀ i j,(xs=[.int i,.int j])->(Q (.int (if j < i then j else i)) H)->call_min2_i xs H Q
theorem zcy (hc:X.calm=true):CallR X (.builtin "min") (call_min2_i):=by
 intro pins s σ H xs us Q I r h
 obtain⟨i,j,rfl,q⟩:=h
 obtain⟨u,w',rfl,⟨t,rfl⟩,⟨t',rfl⟩⟩:=vals2 r
 refine min_two_ints (I.ok.hd hc) fun h' tk k=>⟨_,H,I.kept k,?_,q⟩
 by_cases hj:j < i
 ·rw[if_pos hj,if_pos hj];exact⟨_,rfl⟩
 ·rw[if_neg hj,if_neg hj];exact⟨_,rfl⟩
end
end L2
namespace L2
open PySem PySem.Spec PyProof.Rows
structure ObjM (h:Heap) (x dx C:Addr) (mA:Str->Option Value):Prop where
 obj:h.get? x=some (PySem.W.instObj C dx)
 ns:h.Ns1 dx mA
 ne:dx≠x
theorem zmm {h:Heap} {dx:Addr} {mA:Str->Option Value} (n:h.Ns1 dx mA):∃ od,h.get? dx=some od∧∀ name,PySem.W.lookIn name od=some (mA name):=by
 obtain⟨o,es,ep,ho,hd,hk,_,hm⟩:=n
 refine⟨o,ho,fun name=>?_⟩
 have e:=hm name
 unfold nsFind findBy at e
 rw[← Array.find?_toList] at e
 unfold PySem.W.lookIn
 rw[hd]
 dsimp only
 split
 ·rename_i y q
  rw[q] at e
  exact congrArg some e
 ·rename_i q
  rw[q] at e
  have a:es.toList.any (·.refKey)=false:=by
   rw[List.any_eq_false]
   intro y hy
   obtain⟨z,t,hkey⟩:=hk y (Array.mem_toList_iff.mp hy)
   simp [DictEntry.refKey,hkey]
  have a':¬ es.toList.any (·.refKey)=true:=by rw[a];exact Bool.false_ne_true
  rw[if_neg a']
  exact congrArg some e
theorem ObjM.look {h:Heap} {x dx C:Addr} {mA:Str->Option Value} (I:ObjM h x dx C mA):∃ od,PySem.W.InstAt h x (PySem.W.instObj C dx) C (some od)∧∀ name,PySem.W.lookIn name od=some (mA name) :=
 let ⟨od,ho,hl⟩:=zmm I.ns
 ⟨od,⟨I.obj,rfl,rfl,ho⟩,hl⟩
section
variable {prog:Program} {w:World} {A:Around} {E:Value->Shared->Prop} {s:Shared} {K:PySem.W.Frag} {x dx C f:Addr} {mA:Str->Option Value} {name:Str} {v:Value}
end
theorem RelO.some_of {v:V} {o:Option Value} (r:RelO (some v) o):∃ u,o=some u∧RelV v u:=by
 cases o with
 | none=>exact (show False from r).elim
 | some u=>exact⟨u,rfl,r⟩
section
variable {P:Program} {w:World} {H H':Hp} {h h':Heap} {a C dx:Addr} {fs fs':List (Str × V)}
theorem zp6 (hok:HOk P w H h) (e:H a=some (.ins C dx fs)):∃ mA,ObjM h a dx C mA∧(∀ f,RelO (fs.lookup f) (mA f))∧PySem.Within mA (fs.map (·.1))∧fs.length≤1000∧H dx=some (.own a):=by
 obtain⟨d,z,ne,ob,mA,n,r,q⟩:=(show ObjOk P w H h a (.ins C dx fs) from hok a _ e)
 exact⟨mA,⟨ob,n,ne⟩,r,q,z,d⟩
end
structure Cls (K:PySem.W.Frag) (C:Addr):Prop where
 pg:PySem.W.plainGet K C Str.empty=true
 hd:PySem.W.hasDictIn K C=true
 po:PySem.W.plainOver K C=true
 sa:PySem.W.findIn K (.ref C) "__setattr__"=some (some (.builtin "object.__setattr__"))
theorem Cls.get {K:PySem.W.Frag} {C:Addr} (c:Cls K C) (f:Str):PySem.W.plainGet K C f=true:=c.pg
structure Con (K:PySem.W.Frag) (C:Addr) (f:Str) (v:V) (u:Value):Prop where
 at_:PySem.W.findIn K (.ref C) f=some (some u)
 rel:RelV v u
 get:PySem.W.specialIn K u "__get__"=some none
 cp:PySem.W.copiedNames.contains f=false
section
variable {X:Cx} {pins:List (Addr × Obj)} {σ:St} {H:Hp} {s:Shared} {a C dx:Addr} {fs:List (Str × V)} {f:Str} {v:V} {A:Around} {E:Value->Shared->Prop}
end
section
variable {X:Cx} {o e value:Expr} {f:Str} {pos pos' tpos:Pos} {ta tv:TE}
end
section
variable {X:Cx} {pins:List (Addr × Obj)} {σ:St} {H:Hp} {s:Shared} {A:Around} {E:Value->Shared->Prop} {Q:Value->Shared->Prop} {c:Value} {b:Bool}
inductive TyOf (K:PySem.W.Frag) (H:Hp):V->Value->Prop where
 | non:TyOf K H .non (.type "NoneType")
 | bl (x:Bool):TyOf K H (.bl x) (.type "bool")
 | int (i:Int):TyOf K H (.int i) (.type "int")
 | str (x:Str):TyOf K H (.str x) (.type "str")
 | flt (x:UInt64):TyOf K H (.flt x) (.type "float")
 | lst {a:Addr} {xs:List V} (e:H a=some (.lst xs)):TyOf K H (.ref a) (.type "list")
 | frz {a:Addr} {o:Obj} {xs:List V} (e:H a=some (.frz o (.lst xs))):TyOf K H (.ref a) (.type "list")
 | tup {a:Addr} {xs:List V} (e:H a=some (.tup xs)):TyOf K H (.ref a) (.type "tuple")
 | dK {a:Addr} {kvs:List (Key × V)} (e:H a=some (.dK kvs)):TyOf K H (.ref a) (.type "dict")
 | dT {a:Addr} {kvs:List (List Key × V)} (e:H a=some (.dT kvs)):TyOf K H (.ref a) (.type "dict")
 | ins {a C dx : Addr} {fs : List (Str × V)} (e : H a = some (.ins C dx fs)) (cl : Cls K C) (ha : PySem.W.findIn K (.ref C) "__class__" = some (some (.builtin "object.__class__")))
     (hn:PySem.W.specialIn K (.builtin "object.__class__") "__get__"=some (some (.builtin "getset_descriptor.__get__"))) (htk:PySem.W.takesIn K (.builtin "object.__class__")=some true)
     (hm:PySem.W.mroIn K C (.type "object")=some true):TyOf K H (.ref a) (.ref C)
theorem zmv {x:V} {u t:Value} (I:Inv X pins σ H s) (rx:RelV x u) (ty:TyOf X.K H x t) (e:PySem.W.kitOne X.K t c=some b) (h:∀ tk,Q (.bool b) { s with toks:=tk }) :
  wpAny (model X.prog X.w) A (call (.builtin "isinstance") [u,c]) Q E s:=by
 cases ty with
 | non=>cases (show u=Value.none from rx);exact PySem.W.kia_one PySem.W.kitx_none I.kIn True.intro e (fun z=>nomatch z) h
 | bl y=>cases (show u=Value.bool y from rx);exact PySem.W.kia_one PySem.W.kitx_bool I.kIn True.intro e (fun z=>nomatch z) h
 | int i=>obtain⟨t,q⟩:=(show ∃ t,u=Value.int i t from rx);cases q;exact PySem.W.kia_one PySem.W.kitx_int I.kIn True.intro e (fun z=>nomatch z) h
 | str y=>obtain⟨t,q⟩:=(show ∃ t,u=Value.str y t from rx);cases q;exact PySem.W.kia_one PySem.W.kitx_str I.kIn True.intro e (fun z=>nomatch z) h
 | flt y=>obtain⟨t,q⟩:=(show ∃ t,u=Value.float y t from rx);cases q;exact PySem.W.kia_one PySem.W.kitx_float I.kIn True.intro e (fun z=>nomatch z) h
 | @lst a xs ea =>
  cases (show u=Value.ref a from rx)
  obtain⟨_,_,n,_,h1⟩:=(show ObjOk X.prog X.w H s.heap a (.lst xs) from I.hok a _ ea)
  exact PySem.W.kia_one PySem.W.kitx_list I.kIn ⟨_,h1,rfl⟩ e (fun z=>nomatch z) h
 | @frz a ob xs ea =>
  cases (show u=Value.ref a from rx)
  obtain⟨_,_,_,n,_,h1⟩:=(show ObjOk X.prog X.w H s.heap a (.frz ob (.lst xs)) from I.hok a _ ea)
  exact PySem.W.kia_one PySem.W.kitx_list I.kIn ⟨_,h1,rfl⟩ e (fun z=>nomatch z) h
 | @tup a xs ea =>
  cases (show u=Value.ref a from rx)
  obtain⟨_,_,_,p⟩:=(show ObjOk X.prog X.w H s.heap a (.tup xs) from I.hok a _ ea)
  obtain⟨o,h1,h2,_⟩:=p
  exact PySem.W.kia_one PySem.W.kitx_tuple I.kIn ⟨o,h1,h2⟩ e (fun z=>nomatch z) h
 | @dK a kvs ea =>
  cases (show u=Value.ref a from rx)
  obtain⟨_,_,vs,_,p⟩:=(show ObjOk X.prog X.w H s.heap a (.dK kvs) from I.hok a _ ea)
  obtain⟨o,es,ep,h1,h2,_⟩:=p
  exact PySem.W.kia_one PySem.W.kitx_dict I.kIn ⟨o,h1,h2.1⟩ e (fun z=>nomatch z) h
 | @dT a kvs ea =>
  cases (show u=Value.ref a from rx)
  obtain⟨_,_,xs,_,o,es,ep,h1,h2,_⟩:=(show ObjOk X.prog X.w H s.heap a (.dT kvs) from I.hok a _ ea)
  exact PySem.W.kia_one PySem.W.kitx_dict I.kIn ⟨o,h1,h2.1⟩ e (fun z=>nomatch z) h
 | @ins a C dx fs ea cl ha hn htk hm =>
  cases (show u=Value.ref a from rx)
  obtain⟨mA,O,_⟩:=zp6 I.hok ea
  obtain⟨od,J,_⟩:=O.look
  exact PySem.W.kia_one (PySem.W.kitx_own (cl.get _) cl.hd ha hn htk hm) I.kIn J e (fun z=>nomatch z) h
end
end L2
namespace L2
open PySem PySem.Spec PyProof.Rows
structure Room (k:Nat) (A:Around):Prop where
 hd:A.handled=none
 dp:A.depth + 3 * k + 5 < recursionLimit
 un:A.units + 16 * k + 200 < cLine
 gd:A.guards=some []
theorem Room.mono {j k:Nat} {A:Around} (r:Room k A) (h:j≤k):Room j A:=⟨r.hd,by have:=r.dp;trivial,by have:=r.un;trivial,r.gd⟩
theorem Room.deeper {k:Nat} {A:Around} (r:Room (k + 1) A) (env:Env):Room k (A.deeper env) :=
 ⟨r.hd,by have:=r.dp;show A.depth + 1 + 3 * k + 5 < _;trivial,by have:=r.un;show A.units + 3 + 16 * k + 200 < _;trivial,r.gd⟩
theorem Room.depth {k:Nat} {A:Around} (r:Room k A):A.depth < recursionLimit:=by have:=r.dp;trivial
theorem Room.units {k:Nat} {A:Around} (r:Room k A):A.units + 64 < cLine:=by have:=r.un;trivial
theorem Room.units0 {k:Nat} {A:Around} (r:Room k A):A.units < cLine:=by have:=r.un;trivial
def tNil:TA:=fun _ H Q=>Q [] H
def tCons (ta:TE) (tr:TA):TA:=fun σ H Q=>ta σ H fun x H1=>tr σ H1 fun xs H2=>Q (x::xs) H2
section
variable {X:Cx} {e:Expr} {es:List Expr} {te:TE} {t:TA} {pos:Pos}
theorem zab:PA X [] tNil:=fun _ _ _ _ H Q I h=>Calls.spliced_nil ⟨[],H,I,.nil,h⟩
theorem zaa (ha:PE X e te) (hr:PA X es t) (hs:starEach (e::es) X.env=(false,eval e X.env)::starEach es X.env:=by rfl):PA X (e::es) (tCons te t):=by
 intro pos pins s σ H Q I h
 rw[hs]
 show wpAny _ _ (spliced ((false,eval e X.env)::backTo pos (starEach es X.env))) _ _ s
 refine Calls.spliced_cons (thn (ha pins s σ H _ I h) fun u s1 ⟨x,H1,I1,r1,q1⟩=>?_)
 exact thn (hr pos pins s1 σ H1 _ I1 q1) fun us s2 ⟨xs,H2,I2,r2,q2⟩=>⟨x::xs,H2,I2,.cons r1 r2,q2⟩
def tTup (t:TA):TE:=fun σ H Q=>t σ H fun xs H1=>xs.length≤sizeLine∧∀ p,H1 p=none->Q (.ref p) (upd H1 p (.tup xs))
def tLst (t:TA):TE:=fun σ H Q=>t σ H fun xs H1=>xs.length≤sizeLine∧∀ p,H1 p=none->Q (.ref p) (upd H1 p (.lst xs))
theorem zo4 {x1} (h:PA X es t):PE X (.Tuple es x1 pos) (tTup t):=by
 intro pins s σ H Q I hq
 refine wpAny_Tuple_spliced (thn (h pos pins s σ H _ I hq) fun us s1 ⟨xs,H1,I1,r,z,q⟩=>⟨by rw[← r.length];exact z,?_⟩)
 have hf:H1 s1.heap.objs.size=none:=I1.hok.fresh (Nat.le_refl _)
 refine⟨.ref s1.heap.objs.size,upd H1 s1.heap.objs.size (.tup xs),I1.laid (t':=s1.toks) (fun b u e=>Heap.get?_push_of_some _ e) (Nat.le_refl _) ?_,rfl,q _ hf⟩
 exact⟨z,us,r,⟨_,Heap.get?_push_size _ rfl,rfl,⟨_,rfl⟩,rfl⟩⟩
theorem zeq (h:PA X es t):PE X (.List es pos) (tLst t):=by
 intro pins s σ H Q I hq
 refine wpAny_List_spliced (thn (h pos pins s σ H _ I hq) fun us s1 ⟨xs,H1,I1,r,z,q⟩=>⟨by rw[← r.length];exact z,?_⟩)
 have hf:H1 s1.heap.objs.size=none:=I1.hok.fresh (Nat.le_refl _)
 refine⟨.ref s1.heap.objs.size,upd H1 s1.heap.objs.size (.lst xs),I1.laid (t':=s1.toks) (fun b u e=>Heap.get?_push_of_some _ e) (Nat.le_refl _) ?_,rfl,q _ hf⟩
 exact⟨z,us,0,r,Heap.get?_push_size _ rfl⟩
end
abbrev Sp:=List V->Hp->VK->XK->Prop
abbrev CXT:=List Env->Hp->Shared->XK->Value->Shared->Prop
structure Env0 (P:Program) (w:World) (K:PySem.W.Frag) (mg:Str->Option Value) (base:Heap) (A:Around) (outer:List Env) (s:Shared) (H:Hp):Prop where
 frames:A.frames=some outer
 mod:Mod K mg base
 bs:∀ b o,base.get? b=some o->s.heap.get? b=some o∧H b=none
 bsz:base.objs.size≤s.heap.objs.size
 funs:s.heap.FunFrames base outer
 frf:∀ b ∈ frs outer,H b=none
 hok:HOk P w H s.heap
 bare:AllBare s.gens
def CE (outer:List Env) (P:Program) (w:World) (H:Hp) (s:Shared) (Q:VK) (u:Value) (s':Shared):Prop :=
 ∃ v H',s'.os=s.os∧AllBare s'.gens∧Un (frs outer) [] H H' s.heap s'.heap∧HOk P w H' s'.heap∧RelV v u∧Q v H'
def CR (CX:CXT) (outer:List Env) (P:Program) (w:World) (H:Hp) (s:Shared) (Q:VK) (E:XK) (r:Result) (s':Shared):Prop :=
 match r with
 | .ok (.ret u)=>CE outer P w H s Q u s'
 | .ok _=>False
 | .error e=>CX outer H s E e s'
structure FnOk (P:Program) (w:World) (K:PySem.W.Frag) (mg:Str->Option Value) (base:Heap) (CX:CXT) (k:Nat) (f:Addr) (fd:FuncData) (ps:List Str) (sp:Sp):Prop where
 len:∀ vs H Q E,sp vs H Q E->vs.length=ps.length
 run:∀ (A:Around) (outer:List Env) (s:Shared) (H:Hp) (args:Args) (us:List Value) (vs:List V) (Q:VK) (E:XK),Room k A->Env0 P w K mg base A outer s H->BindsTo s fd args (ps.zip us)->Vals vs us->sp vs H Q E ->
  codeAny (model P w) A (.call (.ref f) args) (CR CX outer P w H s Q E) s
theorem FnOk.mono {P:Program} {w:World} {K:PySem.W.Frag} {mg:Str->Option Value} {base:Heap} {CX:CXT} {j k:Nat} {f:Addr} {fd:FuncData} {ps:List Str} {sp:Sp} (F:FnOk P w K mg base CX j f fd ps sp) (h:j≤k) :
  FnOk P w K mg base CX k f fd ps sp:=⟨F.len,fun A outer s H args us vs Q E hr=>F.run A outer s H args us vs Q E (hr.mono h)⟩
theorem FnOk.imp {P:Program} {w:World} {K:PySem.W.Frag} {mg:Str->Option Value} {base:Heap} {CX:CXT} {k:Nat} {f:Addr} {fd:FuncData} {ps:List Str} {sp sp':Sp} (F:FnOk P w K mg base CX k f fd ps sp)
  (h:∀ vs H Q E,sp' vs H Q E->sp vs H Q E):FnOk P w K mg base CX k f fd ps sp' :=
 ⟨fun vs H Q E q=>F.len vs H Q E (h _ _ _ _ q),fun A outer s H args us vs Q E hr he hb hv hs=>F.run A outer s H args us vs Q E hr he hb hv (h _ _ _ _ hs)⟩
section
variable {X:Cx} {pins:List (Addr × Obj)} {σ:St} {H:Hp} {s s':Shared}
theorem Inv.env0 (I:Inv X pins σ H s):Env0 X.prog X.w X.K X.mg X.base X.A X.stack s H :=
 ⟨I.ok.frames,I.ok.mod,I.bs,Nat.le_trans I.ok.bsz I.sz,I.stack,I.stkFree,I.hok,I.bare⟩
theorem Inv.after {Q:VK} {u:Value} (I:Inv X pins σ H s) (h:CE X.stack X.prog X.w H s Q u s'):EP X pins σ Q u s':=by
 obtain⟨v,H',os,bare,un,hok,r,q⟩:=h
 obtain⟨hh,g,d,t,os'⟩:=s'
 obtain rfl:os'=s.os:=os
 exact⟨v,H',I.call (h':=hh) (g':=g) (d':=d) (t':=t) (ch:=[]) un hok bare (fun b z=>absurd z (by simp)),r,q⟩
end
def tCall (sp:Sp) (dvs:List V) (E:XK) (t:TA):TE:=fun σ H Q=>t σ H fun vs H1=>sp (vs++dvs) H1 Q E
def Binds (K:PySem.W.Frag) (fd:FuncData) (ps:List Str) (ds:List Value):Prop :=
 ∀ (s:Shared) (us:List Value),K.In s.heap->(us++ds).length=ps.length->BindsTo s fd ⟨us,[]⟩ (ps.zip (us++ds))
theorem Binds.all {K:PySem.W.Frag} {fd:FuncData} {ps:List Str} (h:∀ us:List Value,us.length=ps.length->bindArgs fd ⟨us,[]⟩=pure (ps.zip us)):Binds K fd ps []:=fun s us _ hl=>by
 rw[List.append_nil] at hl ⊢
 exact .of_eq (h us hl)
def Passes (CX:CXT) (X:Cx) (E:XK):Prop:=∀ (pins:List (Addr × Obj)) (σ:St) (H:Hp) (s:Shared) (e:Value) (s':Shared),Inv X pins σ H s->CX X.stack H s E e s'->X.xe e s'
section
variable {X:Cx} {CX:CXT} {k:Nat} {f C:Addr} {fd:FuncData} {ps:List Str} {sp:Sp} {dvs:List V} {ds:List Value} {E:XK} {x m:Str} {p pos apos:Pos} {e o:Expr} {es:List Expr} {ta:TE} {t:TA}
theorem zqs {pins:List (Addr × Obj)} {σ:St} {H:Hp} {s:Shared} {Q:VK} {us:List Value} {vs:List V} (F:FnOk X.prog X.w X.K X.mg X.base CX k f fd ps sp) (hr:Room k X.A) (hb:Binds X.K fd ps ds) (hd:Vals dvs ds) (hx:Passes CX X E)
  (I:Inv X pins σ H s) (r:Vals vs us) (h:sp (vs++dvs) H Q E):wpAny (model X.prog X.w) X.A (call (.ref f) us) (EP X pins σ Q) X.xe s:=by
 have r2:Vals (vs++dvs) (us++ds):=r.append hd
 have hl:(us++ds).length=ps.length:=by rw[← r2.length];exact F.len _ _ _ _ h
 refine wpAny_call (codeAny_mono (F.run X.A X.stack s H ⟨us,[]⟩ (us++ds) (vs++dvs) Q E hr I.env0 (hb s us I.kIn hl) r2 h) fun r s' hq=>?_)
 cases r with
 | error e=>exact hx pins σ H s e s' I hq
 | ok fl =>
  cases fl with
  | ret u=>exact I.after hq
  | next=>exact False.elim hq
  | brk=>exact False.elim hq
  | cont=>exact False.elim hq
theorem zpx (F:FnOk X.prog X.w X.K X.mg X.base CX k f fd ps sp) (hr:Room k X.A) (hg:Gl X x) (hm:X.mg x=some (.ref f)) (hk:PySem.W.keepIn X.K (.ref f)=true) (hb:Binds X.K fd ps ds) (hd:Vals dvs ds) (hx:Passes CX X E)
  (ha:PA X (e::es) t) (hdb:(x == ("__debug__":Str))=false:=by decide) (he:starEach (e::es) X.env=(false,eval e X.env)::starEach es X.env:=by rfl) (hpl:(backTo pos (starEach es X.env)).any (·.1)=false:=by rfl) :
  PE X (.Call (.Name x p) (e::es) [] pos) (tCall sp dvs E t):=by
 intro pins s σ H Q I h
 refine wpAny_Call_Name_kw (zp3 I hg hm ?_ hdb)
 refine PySem.W.callWith_K (h₀:=X.base) I.ok.mod.kin hk (thn (ha pos pins s σ H _ I h) fun us s1 ⟨vs,H1,I1,r,q⟩=>⟨I1.kIn,?_⟩) he hpl
 exact zqs F hr hb hd hx I1 r q
end
section
variable {X:Cx} {CX:CXT} {k:Nat} {f C:Addr} {fd:FuncData} {ps ks:List Str} {sp:Sp} {E:XK} {x m:Str} {p pos apos kpos:Pos} {e o:Expr} {es:List Expr} {kws:List Keyword} {te ta:TE} {t tk:TA} {nm:Option Str}
variable {g:List Value->List Value->List Value} {gV:List V->List V->List V}
end
structure FnScope (N P:List Str) (sc:Scope):Prop where
 kind:sc.kind=.function
 co:sc.isCoroutine=false
 gen:sc.isGenerator=false
 nd:N.Nodup
 pre:N.take P.length=P
 par:∀ x ∈ P,sc.names.lookup x=some .local∨sc.names.lookup x=some .cell
 nofree:∀ y ∈ sc.names,y.2≠.free
theorem zil {kindOf:Str->Option NameKind} {x:Str}:∀ {binds:List (Str × Value)} {m:Str->Option Value},(∀ v,(x,v) ∉ binds)->bindL kindOf binds m x=m x
 | [],_,_=>rfl
 | (n,v)::r,m,h=>by
  unfold bindL
  rw[zil fun w hw=>h w (List.mem_cons_of_mem _ hw)]
  split
  ·have:x≠n:=by rintro rfl;exact h v List.mem_cons_self
   simp [this]
  ·rfl
theorem zin {kindOf:Str->Option NameKind} {x:Str}:∀ {binds:List (Str × Value)} {m:Str->Option Value},(∀ v,(x,v) ∉ binds)->bindC kindOf binds m x=m x
 | [],_,_=>rfl
 | (n,v)::r,m,h=>by
  unfold bindC
  rw[zin fun w hw=>h w (List.mem_cons_of_mem _ hw)]
  split
  ·rfl
  ·have:x≠n:=by rintro rfl;exact h v List.mem_cons_self
   simp [this]
theorem zim {kindOf:Str->Option NameKind} {x:Str} {v:Value}:∀ {P:List Str} {vs:List Value} {i:Nat} {m:Str->Option Value},P.Nodup->P[i]?=some x->vs[i]?=some v->kindOf x=some .local ->
  bindL kindOf (P.zip vs) m x=some v
 | [],_,_,_,_,h,_,_=>by simp at h
 | _::_,[],_,_,_,_,h,_=>by simp at h
 | p::P,w::vs,0,m,nd,h1,h2,hk=>by
  simp at h1 h2;subst h1;subst h2
  show bindL kindOf ((p,w)::P.zip vs) m p=_
  unfold bindL
  rw[zil fun v hv=>(List.nodup_cons.mp nd).1 (List.of_mem_zip hv).1,if_pos hk]
  simp
 | p::P,w::vs,i + 1,m,nd,h1,h2,hk=>by
  show bindL kindOf ((p,w)::P.zip vs) m x=_
  unfold bindL
  exact zim (i:=i) (List.nodup_cons.mp nd).2 (by simpa using h1) (by simpa using h2) hk
theorem zio {kindOf:Str->Option NameKind} {x:Str} {v:Value}:∀ {P:List Str} {vs:List Value} {i:Nat} {m:Str->Option Value},P.Nodup->P[i]?=some x->vs[i]?=some v->kindOf x≠some .local ->
  bindC kindOf (P.zip vs) m x=some v
 | [],_,_,_,_,h,_,_=>by simp at h
 | _::_,[],_,_,_,_,h,_=>by simp at h
 | p::P,w::vs,0,m,nd,h1,h2,hk=>by
  simp at h1 h2;subst h1;subst h2
  show bindC kindOf ((p,w)::P.zip vs) m p=_
  unfold bindC
  rw[zin fun v hv=>(List.nodup_cons.mp nd).1 (List.of_mem_zip hv).1,if_neg hk]
  simp
 | p::P,w::vs,i + 1,m,nd,h1,h2,hk=>by
  show bindC kindOf ((p,w)::P.zip vs) m x=_
  unfold bindC
  exact zio (i:=i) (List.nodup_cons.mp nd).2 (by simpa using h1) (by simpa using h2) hk
def start (N:List Str) (vs:List V):St:=vs.map some++List.replicate (N.length - vs.length) none
def cxOf (CX:CXT) (P:Program) (w:World) (K:PySem.W.Frag) (mg:Str->Option Value) (base:Heap) (N:List Str) (qual:Str) (scope:Scope) (f:Addr) (cd:Value) (A:Around) (outer:List Env) (s:Shared) (H:Hp) (E:XK):Cx where
 prog:=P
 w:=w
 K:=K
 mg:=mg
 base:=base
 A:=A.deeper (envOfC qual scope s.heap.objs.size f cd)
 N:=N
 s₀:=s
 H₀:=H
 env:=envOfC qual scope s.heap.objs.size f cd
 outer:=outer
 stack:=envOfC qual scope s.heap.objs.size f cd::outer
 ex:=[]
 calm:=true
 fn:=fun _=>true
 pn:=[]
 xe:=fun e s'=>wpAny (model P w) (A.deeper (envOfC qual scope s.heap.objs.size f cd)) (leaving (envOfC qual scope s.heap.objs.size f cd) e) (fun _ s''=>CX outer H s E e s'') (fun e' s''=>CX outer H s E e' s'') s'
theorem zkv {sc:Scope} {n:Nat} {x:Str} (h:sc.names.lookup x=some .cell):∃ c,(cellsFrom n sc.names []).lookup x=some c:=by
 have q:=PySem.W.cellsFrom_some sc.names n [] (.inl h)
 exact Option.isSome_iff_exists.mp q
theorem zmw {CX:CXT} {P:Program} {w:World} {K:PySem.W.Frag} {mg:Str->Option Value} {base:Heap} {N ps:List Str} {qual:Str} {scope:Scope} {f:Addr} {cd:Value} {A:Around} {outer:List Env} {s s1:Shared} {H:Hp} {E:XK} {us:List Value} {vs:List V}
  (S:FnScope N ps scope) (hd:A.handled=none) (e0:Env0 P w K mg base A outer s H) (hl:vs.length=ps.length) (r:Vals vs us)
  (x:InCallC s s.heap.objs.size (bindL (envOfC qual scope s.heap.objs.size f cd).kindOf (ps.zip us) fun _=>none) (cellsFrom (s.heap.objs.size + 1) scope.names []) (bindC (envOfC qual scope s.heap.objs.size f cd).kindOf (ps.zip us) fun _=>none) s1) :
  Inv (cxOf CX P w K mg base N qual scope f cd A outer s H E) [] (start N vs) H s1:=by
 have hpl:ps.length≤N.length:=by have:=congrArg List.length S.pre;rw[List.length_take] at this;trivial
 obtain⟨h1,tk,rfl,hk⟩:=x.done
 have noA:∀ b:Addr,b ∉ (cxOf CX P w K mg base N qual scope f cd A outer s H E).ex:=fun b z=>absurd (show b ∈ ([]:List Addr) from z) (by simp)
 refine⟨⟨e0.mod,S.kind,rfl,rfl,Nat.le_refl _,fun y z c h1 h2=>?_,fun y hy=>?_,fun y c _ h=>?_,fun _=>hd,Around.frames_deeper e0.frames,.inr ⟨rfl,rfl⟩,fun b z=>absurd z (noA b),e0.bs,e0.bsz,fun b _ _=>noA b,fun b z=>absurd z (noA b),e0.funs,e0.frf⟩,
  rfl,e0.bare,Un.kept hk,⟨_,x.toInCall.ns,fun i y v h1 h2 h3=>?_⟩,fun y c h=>⟨_,x.cell y c h⟩,e0.hok.fresh (Nat.le_refl _),fun y c h=>?_,fun p hp=>absurd (show p ∈ ([]:List (Addr × Obj)) from hp) (by simp),e0.hok.kept hk,?_⟩
 ·exact name_of_addr x.apart (PySem.mem_of_lookup h1) (PySem.mem_of_lookup h2)
 ·have hy:scope.names.lookup y=some .cell∨scope.names.lookup y=some .free:=hy
  rcases hy with hy | hy
  ·exact zkv hy
  ·exact absurd rfl (S.nofree _ (PySem.mem_of_lookup hy))
 ·exact Nat.le_of_lt (x.above y c (PySem.mem_of_lookup h))
 ·have hi:i < vs.length:=by
   unfold start at h2
   by_cases hi:i < vs.length
   ·exact hi
   ·rw[List.getElem?_append_right (by simpa using hi)] at h2
    rw[List.getElem?_replicate] at h2
    split at h2 <;> cases h2
  have ha:vs[i]?=some v:=by
   unfold start at h2
   rw[List.getElem?_append_left (by simpa using hi),List.getElem?_map] at h2
   cases e:vs[i]? with
   | none=>rw[e] at h2;cases h2
   | some a=>rw[e] at h2;cases h2;rfl
  obtain⟨u,hu,rv⟩:=r.get ha
  have hp:ps[i]?=some y:=by
   rw[← S.pre,List.getElem?_take_of_lt (by trivial)];exact h1
  have ndP:ps.Nodup:=by rw[← S.pre];exact S.nd.sublist (List.take_sublist _ _)
  refine⟨u,rv,?_⟩
  rcases S.par y (List.mem_of_getElem? hp) with k | k
  ·exact .inl ⟨k,zim ndP hp hu k⟩
  ·obtain⟨c,e⟩:=zkv (n:=s.heap.objs.size + 1) k
   refine .inr ⟨.inl k,c,e,?_⟩
   have q:=x.cell y c e
   rw[zio ndP hp hu (by show scope.names.lookup y≠_;rw[k];decide)] at q
   exact q
 ·exact e0.hok.fresh (Nat.le_of_lt (x.above y c (PySem.mem_of_lookup h)))
 ·unfold start
  show _=N.length
  rw[List.length_append,List.length_map,List.length_replicate]
  trivial
theorem zri {CX:CXT} {P:Program} {w:World} {K:PySem.W.Frag} {mg:Str->Option Value} {base:Heap} {k:Nat} {f:Addr} {name qual:Str} {params:Arguments} {body:List Stmt} {scope:Scope} {dV kV doc pm cdv ct oc:Value} {an od:Option Addr}
  {osl:Array (Option Value)} {N ps:List Str} {sp:Sp} (lk:K.lookup f=some ⟨oc,od,.func (PySem.W.fnOf name qual params body scope dV kV doc pm an cdv ct),osl⟩) (hcd:PySem.W.codeIn K cdv qual=true) (S:FnScope N ps scope)
  (len:∀ vs H Q E,sp vs H Q E->vs.length=ps.length)
  (hbody:∀ (A:Around) (outer:List Env) (s:Shared) (H:Hp) (vs:List V) (Q:VK) (E:XK),Room k (A.deeper (envOfC qual scope s.heap.objs.size f cdv))->sp vs H Q E ->
   ∃ t,PSs (cxOf CX P w K mg base N qual scope f cdv A outer s H E) body t∧t { nx:=fun _ H'=>Q .non H',rt:=Q } (start N vs) H) :
  FnOk P w K mg base CX (k + 1) f (PySem.W.fnOf name qual params body scope dV kV doc pm an cdv ct) ps sp:=by
 refine⟨len,fun A outer s H args us vs Q E hr e0 hb r hsp=>?_⟩
 have hl:=len _ _ _ _ hsp
 have KX:K.In s.heap:=e0.mod.kin.keeps fun b o e=>(e0.bs b o e).1
 have lim:s.heap.NoLimit:=e0.mod.nolimit.keeps fun b o e=>(e0.bs b o e).1
 have hkind:∀ y ∈ ps.zip us,scope.names.lookup y.1=some .local∨(scope.names.lookup y.1=some .cell∧((cellsFrom (s.heap.objs.size + 1) scope.names []).lookup y.1).isSome=true):=fun ⟨n,v⟩ hy=>by
  rcases S.par n (List.of_mem_zip hy).1 with q | q
  ·exact .inl q
  ·exact .inr ⟨q,PySem.W.cellsFrom_some _ _ _ (.inl q)⟩
 refine codeAny_call_function hr.depth (KX _ _ lk) rfl S.co S.gen rfl (PySem.W.codeRec_of KX hcd) (hb _ _ _ _ ?_)
 refine wpAny_newFunctionEnv_cells S.kind hkind fun env he s1 x=>?_
 subst he
 refine⟨lim.keeps x.toInCall.keep,codeAny_func ?_⟩
 obtain⟨t,ht,hq⟩:=hbody A outer s H vs Q E (hr.deeper _) hsp
 have I:Inv (cxOf CX P w K mg base N qual scope f cdv A outer s H E) [] (start N vs) H s1:=zmw S hr.hd e0 hl r x
 refine wpAny_mono (ht [] s1 (start N vs) H _ I hq) (fun fl s' hs=>?_) fun e s' hs=>hs
 have fin:∀ {σ':St} {H':Hp} {v:V} {u:Value},Inv (cxOf CX P w K mg base N qual scope f cdv A outer s H E) [] σ' H' s'->RelV v u->Q v H'->CE outer P w H s Q u s' :=
  fun {σ' H' v u} J rv q=>⟨v,H',J.os,J.bare,J.base,J.hok,rv,q⟩
 cases fl with
 | ret u =>
  obtain⟨v,σ',H',J,rv,q⟩:=hs
  exact fin J rv q
 | next =>
  obtain⟨σ',H',J,q⟩:=hs
  exact fin (v:=V.non) (u:=Value.none) J rfl q
 | brk =>
  obtain⟨_,_,_,q⟩:=hs
  exact False.elim q
 | cont =>
  obtain⟨_,_,_,q⟩:=hs
  exact False.elim q
end L2
namespace L2
open PySem PySem.Spec PyProof.Rows
section
variable {X:Cx} {x:Str} {p pos:Pos} {e:Expr} {es:List Expr} {t:TA} {id T:String} {r:List V->Hp->VK->Prop}
def tCB (r:List V->Hp->VK->Prop) (t:TA):TE:=fun σ H Q=>t σ H fun vs H1=>r vs H1 Q
theorem zai (hc:CallR X (.builtin id) r) (hg:Gl X x) (hm:X.mg x=none) (hv:bootBuiltins x=some (.builtin id)) (ha:PA X (e::es) t) (hn:x≠"__name__":=by decide) (hdb:(x == ("__debug__":Str))=false:=by decide)
  (he:starEach (e::es) X.env=(false,eval e X.env)::starEach es X.env:=by rfl) (hpl:(backTo pos (starEach es X.env)).any (·.1)=false:=by rfl):PE X (.Call (.Name x p) (e::es) [] pos) (tCB r t):=by
 intro pins s σ H Q I h
 refine wpAny_Call_Name_kw (ze6 I hg hm hv ?_ hn hdb)
 exact PyProof.Rows.callWith_builtin1 (thn (ha pos pins s σ H _ I h) fun us s1 ⟨vs,H1,I1,r1,q1⟩=>hc pins s1 σ H1 vs us Q I1 r1 q1) he hpl
theorem za1 (hc:CallR X (.type T) r) (hg:Gl X x) (hm:X.mg x=none) (hv:bootBuiltins x=some (.type T)) (ha:PA X (e::es) t) (hn:x≠"__name__":=by decide) (hdb:(x == ("__debug__":Str))=false:=by decide)
  (he:starEach (e::es) X.env=(false,eval e X.env)::starEach es X.env:=by rfl) (hpl:(backTo pos (starEach es X.env)).any (·.1)=false:=by rfl):PE X (.Call (.Name x p) (e::es) [] pos) (tCB r t):=by
 intro pins s σ H Q I h
 refine wpAny_Call_Name_kw (ze6 I hg hm hv ?_ hn hdb)
 exact PyProof.Rows.callWith_type1 (thn (ha pos pins s σ H _ I h) fun us s1 ⟨vs,H1,I1,r1,q1⟩=>hc pins s1 σ H1 vs us Q I1 r1 q1) he hpl
end
end L2
namespace HT
open PySem PyProof.Rows
def lexLt:List Int->List Int->Bool
 | [],[]=>false
 | [],_::_=>true
 | _::_,[]=>false
 | x::xs,y::ys=>if x=y then lexLt xs ys else decide (x < y)
theorem zld (x y:Int) (xs ys:List Int):lexLt (x::xs) (y::ys)=if x=y then lexLt xs ys else decide (x < y):=rfl
theorem zgu:lexLt [] []=false:=rfl
theorem zfq (y:Int) (ys:List Int):lexLt [] (y::ys)=true:=rfl
theorem zfr (x:Int) (xs:List Int):lexLt (x::xs) []=false:=rfl
theorem zon (A:Around) (s:Shared) (a:Int) (t:Tok) (c:Int) (u:Tok):∃ e,SeqAt.EqAt A s (.int a t) (.int c u) e∧(e=true↔a=c) :=
 ⟨(a == c),SeqAt.EqAt.int_int a t c u,by simp⟩
theorem zn6 (A:Around) (s:Shared) (a:Int) (t:Tok) (c:Int) (u:Tok) (prog:Program) (w:World) (E:Value->Shared->Prop) (Q:Value->Shared->Prop) (h:Q (.bool (decide (a < c))) s) :
  wpAny (model prog w) A (richCompare .Lt (.int a t) (.int c u)) Q E s :=
 (PyProof.Rows.lt_int h:wpAny (model prog w) A (compareOp .Lt (.int a t) (.int c u)) Q E s)
section
open PySem.SeqAt
open PySem.AutoSeq1 (wpAny_loadPart')
open PySem.MeetsSeq PySem.MeetsSeq2 PySem.MeetsSeq3
theorem zgc (l b:Addr) (items items2:Array Value) (n n2:Nat) (dd dd2:Option Addr) (sl sl2:Array (Option Value)) (ns ms:List Int) (hi:IntsAre items.toList ns) (hj:IntsAre items2.toList ms) :
  Meets (Builtin.«tuple.__lt__» ⟨[.ref l,.ref b],[]⟩)
   (fun _ R s=>s.heap.get? l=some { cls:=.type "tuple",dict:=dd,data:=.seq items n,slots:=sl }∧s.heap.get? b=some { cls:=.type "tuple",dict:=dd2,data:=.seq items2 n2,slots:=sl2 } ∧
    R (.ok (.ret (.bool (lexLt ns ms)))) s) :=
 .of_wp fun prog w A R s h=>by
  obtain⟨hp,g,d,tk,os⟩:=s;obtain⟨hl,hb,h⟩:=h
  have f2:=AutoSeq1.sub_tuple_tuple
  have z1:items.size=ns.length:=by rw[← hi.length];simp
  have z2:items2.size=ms.length:=by rw[← hj.length];simp
  wp_walk using wpAny_loadPart' hl,wpAny_loadPart' hb,wpAny_forIn_list _ (fun rest b s'=>b.1=none∧s'=⟨hp,g,d,tk,os⟩∧∃ (vs ws:List Value) (ns' ms':List Int),rest=vs.zip ws ∧
   IntsAre vs ns'∧IntsAre ws ms'∧ns'.length + items2.size=ms'.length + items.size∧R (.ok (.ret (.bool (lexLt ns' ms')))) ⟨hp,g,d,tk,os⟩) _
  case turn =>
   rintro ⟨y,x⟩ rest b s' ⟨hb',rfl,vs,ws,ns',ms',hz,hvi,hwi,hlen,hR⟩
   cases hvi with
   | nil=>rw[List.zip_nil_left] at hz;cases hz
   | cons a t hvi' =>
    cases hwi with
    | nil=>rw[List.zip_nil_right] at hz;cases hz
    | cons c u hwi' =>
     rw[List.zip_cons_cons] at hz
     injection hz with hyx hrest
     injection hyx with hy hx
     subst hy hx
     rw[zld] at hR
     simp only [List.length_cons] at hlen
     obtain⟨e,he,hiff⟩:=zon A.in1 ⟨hp,g,d,tk,os⟩ a t c u
     refine wpAny_bind (he prog w _ _ ?_)
     cases e with
     | true =>
      rw[if_pos (hiff.mp rfl)] at hR
      wp_walk
      exact⟨rfl,rfl,_,_,_,_,hrest,hvi',hwi',by trivial,hR⟩
     | false =>
      rw[if_neg (fun q=>absurd (hiff.mpr q) Bool.false_ne_true)] at hR
      have hri:=zn6 A.in1 ⟨hp,g,d,tk,os⟩ a t c u prog w
      wp_walk using hri
      exact⟨_,rfl,by simpa using hR⟩
  case fin =>
   rintro ⟨b1,b2⟩ s' ⟨hb',rfl,vs,ws,ns',ms',hz,hvi,hwi,hlen,hR⟩
   simp only at hb'
   subst hb'
   have hv:lexLt ns' ms'=decide (items.size < items2.size):=by
    cases hvi with
    | nil =>
     cases hwi with
     | nil =>
      simp only [List.length_nil] at hlen
      rw[zgu]
      exact (decide_eq_false (by trivial)).symm
     | cons c u hw =>
      simp only [List.length_nil,List.length_cons] at hlen
      rw[zfq]
      exact (decide_eq_true (by trivial)).symm
    | cons a t hv =>
     cases hwi with
     | nil =>
      simp only [List.length_nil,List.length_cons] at hlen
      rw[zfr]
      exact (decide_eq_false (by trivial)).symm
     | cons c u hw =>
      rw[List.zip_cons_cons] at hz
      cases hz
   rw[hv] at hR
   wp_walk
   exact⟨_,rfl,by simpa [Builtin.Tuple.tupleCompareSizes] using hR⟩
  case h =>
   exact⟨rfl,rfl,items.toList,items2.toList,ns,ms,rfl,hi,hj,by trivial,h⟩
end
section
variable {prog:Program} {w:World} {A:Around} {E:Value->Shared->Prop} {s:Shared}
theorem zlb {l b:Addr} {items items2:Array Value} {ns ms:List Int} {Q:Value->Shared->Prop} (hl:IsTup s.heap l items) (hb:IsTup s.heap b items2) (hi:IntsAre items.toList ns) (hj:IntsAre items2.toList ms)
  (hu:A.units < cLine) (h:Q (.bool (lexLt ns ms)) s):wpAny (model prog w) A (compareOp .Lt (.ref l) (.ref b)) Q E s:=by
 obtain⟨⟨cls,dd,data,sl⟩,ho,hc,n,hd⟩:=id hl
 obtain⟨⟨cls2,dd2,data2,sl2⟩,ho2,hc2,n2,hd2⟩:=id hb
 simp only at hc hd hc2 hd2
 subst hc hd hc2 hd2
 exact richCompare_meets_room (op:=.Lt) ⟨_,ho,rfl⟩ ⟨_,ho2,rfl⟩ PySem.F.slot_tuple_lt PySem.F.entry_tuple_lt (PySem.F.args_tuple_lt_2 _ _) (zgc l b items items2 n n2 dd dd2 sl sl2 ns ms hi hj)
  ⟨ho,ho2,show Value.bool (lexLt ns ms)≠Value.notImplemented∧Q (.bool (lexLt ns ms)) s from ⟨(fun x=>nomatch x),h⟩⟩ hu
theorem zqe {t b:Addr} {vs ws:List Value} {Q:Value->Shared->Prop} (ht:IsTup s.heap t vs.toArray) (hb:IsTup s.heap b ws.toArray) (hv:vs≠[])
  (h1:ws=[]->Q (.ref t) s) (h2:ws≠[]->Q (.ref s.heap.objs.size) { s with heap:=s.heap.push { cls:=.type "tuple",data:=.seq (vs++ws).toArray } })
  (hsz:vs.length + ws.length≤sizeLine):wpAny (model prog w) A (binaryOp .Add (.ref t) (.ref b)) Q E s:=by
 obtain⟨⟨cls,dd,data,sl⟩,ho,hc,n,hd⟩:=id ht
 obtain⟨⟨cls2,dd2,data2,sl2⟩,ho2,hc2,n2,hd2⟩:=id hb
 simp only at hc hd hc2 hd2
 subst hc hd hc2 hd2
 have e:vs.toArray++ws.toArray=(vs++ws).toArray:=by simp
 by_cases hw:ws=[]
 ·exact concat_meets ⟨_,ho,rfl⟩ ⟨_,ho2,rfl⟩ noFill_tuple_add seq_tuple_add PySem.F.slot_tuple_add PySem.F.entry_tuple_add (PySem.F.args_tuple_add_2 _ _)
   (tuple_addW1 t b vs.toArray ws.toArray n n2 dd dd2 sl sl2 (by simpa using hv) (by simp [hw])) ⟨ho,ho2,h1 hw⟩
 ·refine concat_meets ⟨_,ho,rfl⟩ ⟨_,ho2,rfl⟩ noFill_tuple_add seq_tuple_add PySem.F.slot_tuple_add PySem.F.entry_tuple_add (PySem.F.args_tuple_add_2 _ _)
   (tuple_addW2 t b vs.toArray ws.toArray n n2 dd dd2 sl sl2 (by simpa using hv) (by simpa using hw) (by rw[List.size_toArray,List.size_toArray];exact hsz)) ⟨ho,ho2,?_⟩
  rw[e]
  exact h2 hw
def sIx (n d:Nat):Option Int->Nat
 | none=>d
 | some v=>if v < 0 then (v + (n:Int)).toNat else min v.toNat n
theorem zkd (n d:Nat):sIx n d none=d:=rfl
theorem zl1 (n d k:Nat):sIx n d (some (k:Int))=min k n:=by
 show (if (k:Int) < 0 then ((k:Int) + (n:Int)).toNat else min (k:Int).toNat n)=min k n
 rw[if_neg (by trivial),Int.toNat_natCast]
theorem zqr (n d:Nat) (hd:d≤n) (o:Option Int):sIx n d o≤n:=by
 cases o with
 | none=>exact hd
 | some v =>
  show (if v < 0 then (v + (n:Int)).toNat else min v.toNat n)≤n
  by_cases hv:v < 0
  ·rw[if_pos hv];trivial
  ·rw[if_neg hv];exact Nat.min_le_right _ _
theorem znf (v:Int) (n d:Nat):(if v < 0 then max (v + (n:Int)) 0 else min v (n:Int))=((sIx n d (some v):Nat):Int):=by
 show (if v < 0 then max (v + (n:Int)) 0 else min v (n:Int))=(((if v < 0 then (v + (n:Int)).toNat else min v.toNat n):Nat):Int)
 by_cases hv:v < 0
 ·simp only [if_pos hv];trivial
 ·simp only [if_neg hv];trivial
theorem zlm (lo hi:Option Int) (n:Nat):Builtin.Slice.sliceAdjust lo hi 1 (n:Int)=(((sIx n 0 lo:Nat):Int),((sIx n n hi:Nat):Int)):=by
 have h1:¬ ((1:Int) < 0):=by trivial
 unfold Builtin.Slice.sliceAdjust
 simp only [h1,if_false]
 refine Prod.ext ?_ ?_
 ·cases lo with
  | none=>rfl
  | some v=>exact znf v n 0
 ·cases hi with
  | none=>rfl
  | some v=>exact znf v n n
theorem zk6 (i j:Nat):Builtin.Slice.slicePlaces (i:Int) (j:Int) 1=j - i:=by
 unfold Builtin.Slice.slicePlaces
 have h1:(1:Int) > 0:=by trivial
 simp only [h1,if_true,Int.ediv_one]
 split <;> trivial
theorem zce {v:Value} {o:Option Int} {Q:Option Int->Shared->Prop} (p:IsPart v o) (h:Q o s):wpAny (model prog w) A (Builtin.Slice.slicePartIndex v) Q E s:=by
 cases p with
 | none=>exact slicePart_none h
 | int i t=>exact slicePart_int h
theorem zcr {sl:Addr} {vl vu:Value} {lo hi:Option Int} {n:Nat} {Q:Int × Int × Nat->Shared->Prop} (hs:s.heap.IsSliceOf sl vl vu .none) (pl:IsPart vl lo) (pu:IsPart vu hi)
  (h:Q (((sIx n 0 lo:Nat):Int),1,sIx n n hi - sIx n 0 lo) s):wpAny (model prog w) A (Builtin.Slice.sliceApplied (.ref sl) (pure (n:Int))) Q E s:=by
 obtain⟨os,hos,hcs,hds⟩:=id hs
 unfold Builtin.Slice.sliceApplied Builtin.Slice.sliceFields
 refine wpAny_bind (wpAny_bind (wpAny_field hos hds (x:=vl) rfl (wpAny_bind (wpAny_field hos hds (x:=vu) rfl (wpAny_bind (wpAny_field hos hds (x:=.none) rfl (wpAny_pure ?_)))))))
 refine wpAny_bind (slicePart_none ?_)
 show wpAny _ _ (if ((1:Int) == 0)=true then _ else _) _ _ s
 rw[if_neg (by decide)]
 refine wpAny_bind (zce pl (wpAny_bind (zce pu (wpAny_bind (wpAny_pure ?_)))))
 show wpAny _ _ (match Builtin.Slice.sliceAdjust lo hi 1 (n:Int) with | (lo,hi)=>pure (lo,(1:Int),Builtin.Slice.slicePlaces lo hi 1)) _ _ s
 rw[zlm lo hi n]
 show wpAny _ _ (pure (((sIx n 0 lo:Nat):Int),(1:Int),Builtin.Slice.slicePlaces ((sIx n 0 lo:Nat):Int) ((sIx n n hi:Nat):Int) 1)) _ _ s
 rw[zk6]
 exact wpAny_pure h
theorem zoa (xs:Array Value) (i k:Nat):((List.range k).filterMap fun (m:Nat)=>xs[((i:Int) + (m:Int) * 1).toNat]?).toArray=((xs.toList.drop i).take k).toArray:=by
 have e:(fun (m:Nat)=>xs[((i:Int) + (m:Int) * 1).toNat]?)=fun m=>xs[i + m]?:=by
  funext m
  have:((i:Int) + (m:Int) * 1).toNat=i + m:=by trivial
  rw[this]
 rw[e]
 have:=pick_run xs i k
 rw[List.filterMap_map] at this
 have e2:((fun x=>xs[x]?) ∘ fun x=>i + x)=fun m=>xs[i + m]?:=rfl
 rw[e2] at this
 rw[this]
theorem zd7 {t sl:Addr} {items:Array Value} {vl vu:Value} {lo hi:Option Int} {Q:Value->Shared->Prop} (ht:IsTup s.heap t items) (hs:s.heap.IsSliceOf sl vl vu .none) (pl:IsPart vl lo) (pu:IsPart vu hi)
  (hw:¬ (sIx items.size 0 lo=0∧sIx items.size items.size hi=items.size))
  (h:Q (.ref s.heap.objs.size) { s with heap:=s.heap.push { cls:=.type "tuple",data:=.seq ((items.toList.drop (sIx items.size 0 lo)).take (sIx items.size items.size hi - sIx items.size 0 lo)).toArray } })
  (hsz:items.size≤sizeLine):wpAny (model prog w) A (getItem (.ref t) (.ref sl)) Q E s:=by
 have htake:sizeOk (.seq ((items.toList.drop (sIx items.size 0 lo)).take (sIx items.size items.size hi - sIx items.size 0 lo)).toArray):=by
  show ((items.toList.drop (sIx items.size 0 lo)).take (sIx items.size items.size hi - sIx items.size 0 lo)).toArray.size≤sizeLine
  rw[List.size_toArray,List.length_take,List.length_drop,Array.length_toList]
  trivial
 have hj:sIx items.size items.size hi≤items.size:=zqr _ _ (Nat.le_refl _) hi
 obtain⟨os,hos,hcs,hds⟩:=id hs
 have hTs:s.TypeIs (.ref sl) "slice":=⟨os,hos,hcs⟩
 unfold getItem
 try with_reducible refine wpAny_holding ?_
 first | refine wpAny_bind (wpAny_pure ?_) | skip
 refine wpAny_bind (wpAny_sequenceKey ht.typeIs (by decide) ?_)
 refine wpAny_bind (wpAny_callSpecial?_slot (name:=Str.ofString "__getitem__") ht.typeIs PyProof.Rows.slot_tuple_getitem
  (wpAny_call_entry PyProof.Rows.slot_tuple_getitem ht.typeIs entry_tuple_getitem ?_ (args_tuple_getitem _ _)))
 show wpAny _ _ (Builtin.Tuple.tupleItemsOf (.ref t) >>= _) _ _ s
 refine wpAny_bind (tupleItemsOf_ ht ?_)
 refine wpAny_bind (wpAny_typeOf hTs ?_)
 rw[if_pos (by decide)]
 refine wpAny_bind (zcr hs pl pu ?_)
 have hno:¬ ((((sIx items.size 0 lo:Nat):Int) == 0 && (1:Int) == 1 && (sIx items.size items.size hi - sIx items.size 0 lo) == items.size)=true):=by
  intro q
  rw[Bool.and_eq_true,Bool.and_eq_true] at q
  have q1:((sIx items.size 0 lo:Nat):Int)=0:=eq_of_beq q.1.1
  have q2:sIx items.size items.size hi - sIx items.size 0 lo=items.size:=eq_of_beq q.2
  exact hw ⟨by trivial,by trivial⟩
 show wpAny _ _ (if (((sIx items.size 0 lo:Nat):Int) == 0 && (1:Int) == 1 && (sIx items.size items.size hi - sIx items.size 0 lo) == items.size)=true then _ else _) _ _ s
 rw[if_neg hno,zoa]
 first
  | exact wpAny_bind (m:=Builtin.Tuple.tupleExact _) (wpAny_newObj_type (wpAny_pure ⟨_,rfl,wpAny_pure h⟩) htake)
  | exact wpAny_bind (m:=Builtin.Tuple.tupleExact _) (wpAny_newObj_type (wpAny_bind (wpAny_pure (wpAny_pure ⟨_,rfl,wpAny_pure h⟩))) htake)
  | exact wpAny_bind (wpAny_bind (m:=Builtin.Tuple.tupleExact _) (wpAny_newObj_type (wpAny_pure (wpAny_pure ⟨_,rfl,wpAny_pure h⟩)) htake))
  | exact wpAny_bind (wpAny_bind (m:=Builtin.Tuple.tupleExact _) (wpAny_newObj_type (wpAny_pure ⟨_,rfl,wpAny_pure h⟩) htake))
end
end HT
namespace L2
open PySem PySem.Spec PyProof.Rows
abbrev TO:=St->Hp->(Option Int->Hp->Prop)->Prop
def PO (X:Cx) (e:Option Expr) (t:TO):Prop :=
 ∀ (pins:List (Addr × Obj)) (s:Shared) (σ:St) (H:Hp) (Q:Option Int->Hp->Prop),Inv X pins σ H s->t σ H Q ->
  wpAny (model X.prog X.w) X.A (evalPart e X.env) (fun u s'=>∃ o H',Inv X pins σ H' s'∧IsPart u o∧Q o H') X.xe s
def tNoPart:TO:=fun _ H Q=>Q none H
def tPart (t:TE):TO:=fun σ H Q=>t σ H fun x H1=>EInt x fun i=>Q (some i) H1
theorem zb2 {ns:List Int}:∀ {us:List Value},Vals (ns.map V.int) us->IntsAre us ns:=by
 induction ns with
 | nil=>intro us r;rw[List.map_nil] at r;cases r;exact .nil
 | cons n ns ih =>
  intro us r
  rw[List.map_cons] at r
  cases r with
  | cons r1 r2 =>
   obtain⟨t,e⟩:=r1
   subst e
   exact .cons n t (ih r2)
section
variable {X:Cx} {e:Expr} {te:TE} {lo hi:Option Expr} {tl th:TO} {pos p2:Pos}
theorem zbe:PO X none tNoPart:=by
 intro pins s σ H Q I h
 rw[evalPart_none]
 exact wpAny_pure ⟨none,H,I,.none,h⟩
theorem zbj (h:PE X e te):PO X (some e) (tPart te):=by
 intro pins s σ H Q I hw
 rw[evalPart_some]
 refine thn (h pins s σ H _ I hw) fun u s1 ⟨x,H1,I1,r1,q1⟩=>?_
 obtain⟨i,rfl,q⟩:=q1
 obtain⟨t,rfl⟩:=r1
 exact⟨some i,H1,I1,.int i t,q⟩
def SlR (X:Cx) (r:V->Option Int->Option Int->Hp->VK->Prop):Prop :=
 ∀ (pins:List (Addr × Obj)) (s:Shared) (σ:St) (H:Hp) (x:V) (v vl vu:Value) (lo hi:Option Int) (sl:Addr) (Q:VK),Inv X pins σ H s->RelV x v->s.heap.IsSliceOf sl vl vu .none->IsPart vl lo->IsPart vu hi->r x lo hi H Q ->
  ∃ T id,typeLookup (.type T) "__getitem__"=pure (some (.builtin id))∧s.TypeIs v T∧wpAny (model X.prog X.w) X.A (getItem v (.ref sl)) (EP X pins σ Q) X.xe s
def tSl (r:V->Option Int->Option Int->Hp->VK->Prop) (te:TE) (tl th:TO):TE:=fun σ H Q=>te σ H fun x H1=>tl σ H1 fun l H2=>th σ H2 fun u H3=>r x l u H3 Q
theorem za8 {r:V->Option Int->Option Int->Hp->VK->Prop} (hr:SlR X r) (he:PE X e te) (hl:PO X lo tl) (hu:PO X hi th):PE X (.Subscript e (.Slice lo hi none p2) pos) (tSl r te tl th):=by
 intro pins s σ H Q I h
 refine Subscript_ (thn (he pins s σ H _ I h) fun v s1 ⟨x,H1,I1,r1,q1⟩=>?_)
 refine wpAny_Slice (thn (hl pins s1 σ H1 _ I1 q1) fun vl s2 ⟨l,H2,I2,pl,q2⟩=>thn (hu pins s2 σ H2 _ I2 q2) fun vu s3 ⟨u,H3,I3,pu,q3⟩=>?_)
 rw[evalPart_none]
 refine wpAny_pure ?_
 have I4:Inv X pins σ H3 { s3 with heap:=s3.heap.push { cls:=.type "slice",data:=.fields #[vl,vu,.none] } }:=I3.kept (t':=s3.toks) fun b ob q=>Heap.get?_push_of_some _ q
 obtain⟨T,id,hT,ht,hg⟩:=hr pins { s3 with heap:=s3.heap.push { cls:=.type "slice",data:=.fields #[vl,vu,.none] } } σ H3 x v vl vu l u s3.heap.objs.size Q I4 r1 (Heap.IsSliceOf.new ..) pl pu q3
 show wpAny (model X.prog X.w) X.A (subscriptTail e (.Slice lo hi none p2) v (.ref s3.heap.objs.size)) (EP X pins σ Q) X.xe { s3 with heap:=s3.heap.push { cls:=.type "slice",data:=.fields #[vl,vu,.none] } }
 exact tail_any (ops:=[.ref s3.heap.objs.size,v]) ht hT hg (by with_unfolding_all rfl)
def cutV (xs:List V) (lo hi:Option Int):List V:=(xs.drop (HT.sIx xs.length 0 lo)).take (HT.sIx xs.length xs.length hi - HT.sIx xs.length 0 lo)
theorem zjv (xs:List V) (lo hi:Option Int):(cutV xs lo hi).length≤xs.length:=by
 unfold cutV
 rw[List.length_take,List.length_drop]
 trivial
inductive rSlT_i (K:PySem.W.Frag) (x:V) (lo:Option Int) (hi:Option Int) (H:Hp) (Q:VK):Prop
 | mk:∀ a xs,(x=.ref a)->(SqT K H a xs)->(¬ (HT.sIx xs.length 0 lo=0∧HT.sIx xs.length xs.length hi=xs.length))->(∀ p,H p=none->Q (.ref p) (upd H p (.tup (cutV xs lo hi))))->rSlT_i K x lo hi H Q
def rSlT (K:PySem.W.Frag):V->Option Int->Option Int->Hp->VK->Prop:=fun x lo hi H Q=>rSlT_i K x lo hi H Q
theorem zqp:SlR X (rSlT X.K):=by
 intro pins s σ H x v vl vu lo hi sl Q I rx hs pl pu h
 obtain⟨a,xs,rfl,hx,hw,q⟩:=h
 cases rx
 obtain⟨its,r,ht,hz⟩:=I.tuple hx
 have hlen:its.toArray.size=xs.length:=by rw[List.size_toArray];exact r.length.symm
 refine⟨"tuple",_,PyProof.Rows.slot_tuple_getitem.lookup,ht.typeIs,?_⟩
 refine HT.zd7 ht hs pl pu (by rw[hlen];exact hw) ?_ (by rw[hlen];exact hz)
 rw[hlen]
 refine⟨.ref s.heap.objs.size,_,I.laid (t':=s.toks) (o:=.tup (cutV xs lo hi)) (fun b ob q=>Heap.get?_push_of_some _ q) (Nat.le_refl _) ?_,rfl,q _ (I.hok.fresh (Nat.le_refl _))⟩
 exact⟨Nat.le_trans (zjv xs lo hi) hz,_,(r.drop (HT.sIx xs.length 0 lo)).take (HT.sIx xs.length xs.length hi - HT.sIx xs.length 0 lo),TupN.new _ _⟩
inductive rLtT_i (K:PySem.W.Frag) (x:V) (y:V) (H:Hp) (Q:VK):Prop
 | mk:∀ a b ns ms,(x=.ref a)->(y=.ref b)->(SqT K H a (ns.map V.int))->(SqT K H b (ms.map V.int))->(Q (.bl (HT.lexLt ns ms)) H)->rLtT_i K x y H Q
def rLtT (K:PySem.W.Frag):R2:=fun x y H Q=>rLtT_i K x y H Q
theorem zq1 (hu:X.A.units < cLine):OpR X (compareOp .Lt) (rLtT X.K):=by
 intro pins s σ H x y v u Q I rx ry h
 obtain⟨a,b,ns,ms,rfl,rfl,ha,hb,q⟩:=h
 cases rx
 cases ry
 obtain⟨its,r1,p1,_⟩:=I.tuple ha
 obtain⟨its2,r2,p2,_⟩:=I.tuple hb
 have i1:IntsAre its.toArray.toList ns:=zb2 r1
 have i2:IntsAre its2.toArray.toList ms:=zb2 r2
 exact HT.zlb p1 p2 i1 i2 hu ⟨.bl (HT.lexLt ns ms),H,I,rfl,q⟩
inductive rCatT_i (K:PySem.W.Frag) (x:V) (y:V) (H:Hp) (Q:VK):Prop
 | mk:∀ a b xs ys,(x=.ref a)->(y=.ref b)->(SqT K H a xs)->(SqT K H b ys)->(xs≠[])->(xs.length + ys.length≤sizeLine)->((ys=[]->Q (.ref a) H))->((ys≠[]->∀ p,H p=none->Q (.ref p) (upd H p (.tup (xs++ys)))))->rCatT_i K x y H Q
def rCatT (K:PySem.W.Frag):R2:=fun x y H Q=>rCatT_i K x y H Q
theorem Vals.nil_iff {xs:List V} {us:List Value} (r:Vals xs us):us=[]↔xs=[]:=by
 cases r with
 | nil=>simp
 | cons _ _=>simp
theorem zpy:OpR X (binaryOp .Add) (rCatT X.K):=by
 intro pins s σ H x y v u Q I rx ry h
 obtain⟨a,b,xs,ys,rfl,rfl,ha,hb,hx,hz,q1,q2⟩:=h
 cases rx
 cases ry
 obtain⟨its,r1,p1,_⟩:=I.tuple ha
 obtain⟨its2,r2,p2,_⟩:=I.tuple hb
 refine HT.zqe p1 p2 (fun z=>hx (r1.nil_iff.mp z)) (fun z=>⟨.ref a,H,I,rfl,q1 (r2.nil_iff.mp z)⟩) (fun z=>?_) (by rw[← r1.length,← r2.length];exact hz)
 refine⟨.ref s.heap.objs.size,_,I.laid (t':=s.toks) (o:=.tup (xs++ys)) (fun b ob q=>Heap.get?_push_of_some _ q) (Nat.le_refl _) ?_,rfl,q2 (fun w=>z (r2.nil_iff.mpr w)) _ (I.hok.fresh (Nat.le_refl _))⟩
 exact⟨by rw[List.length_append];exact hz,_,r1.append r2,TupN.new _ _⟩
end
end L2
namespace L2
open PySem PySem.Spec PyProof.Rows
def ixN (n:Nat) (i:Int):Option Nat:=if 0≤i then (if i < n then some i.toNat else none) else if -(n:Int)≤i then some (i + n).toNat else none
def atI {α:Type} (xs:List α) (i:Int):Option α:=(ixN xs.length i).bind fun j=>xs[j]?
theorem zjq {n:Nat} {i:Int} {j:Nat} (h:ixN n i=some j):seqIndex? i n=some j∧j < n∧-(n:Int)≤i∧i < n:=by
 unfold ixN at h
 by_cases h0:0≤i
 ·rw[if_pos h0] at h
  by_cases h1:i < n
  ·rw[if_pos h1] at h
   have e:i.toNat=j:=Option.some.inj h
   exact⟨by rw[seqIndex_of h0 h1,e],by trivial,by trivial,h1⟩
  ·rw[if_neg h1] at h;cases h
 ·rw[if_neg h0] at h
  by_cases h1:-(n:Int)≤i
  ·rw[if_pos h1] at h
   have e:(i + n).toNat=j:=Option.some.inj h
   exact⟨by rw[seqIndex_neg (by trivial) h1,e],by trivial,h1,by trivial⟩
  ·rw[if_neg h1] at h;cases h
theorem zno {α:Type} {xs:List α} {i:Int} {v:α} (h:atI xs i=some v):∃ j,seqIndex? i xs.length=some j∧xs[j]?=some v∧j < xs.length∧-(xs.length:Int)≤i∧i < xs.length:=by
 unfold atI at h
 cases e:ixN xs.length i with
 | none=>rw[e] at h;cases h
 | some j =>
  rw[e] at h
  obtain⟨h1,h2,h3,h4⟩:=zjq e
  exact⟨j,h1,h,h2,h3,h4⟩
theorem znn {α:Type} {xs:List α} {j:Nat} {v:α} (h:xs[j]?=some v):atI xs (j:Int)=some v:=by
 have hj:j < xs.length:=(List.getElem?_eq_some_iff.mp h).1
 have e:ixN xs.length (j:Int)=some j:=by
  unfold ixN
  rw[if_pos (by trivial),if_pos (by trivial)];simp
 unfold atI;rw[e];exact h
theorem zky {α:Type} (xs:List α) (v:α):atI (xs++[v]) (-1)=some v:=by
 have hl:(xs++[v]).length=xs.length + 1:=by simp
 have e:ixN (xs++[v]).length (-1)=some xs.length:=by
  unfold ixN
  rw[hl,if_neg (by decide),if_pos (by trivial)]
  congr 1
  trivial
 unfold atI
 rw[e]
 show (xs++[v])[xs.length]?=some v
 simp
def PlainIx (b:Expr):Prop:=∀ o i,subscripted b false o i=operate [o,i] (getItem o i)
def IxR (X:Cx) (r:R2):Prop :=
 ∀ (value slice:Expr) (pins:List (Addr × Obj)) (s:Shared) (σ:St) (H:Hp) (x y:V) (v u:Value) (Q:VK),Inv X pins σ H s->RelV x v->RelV y u->r x y H Q ->
  subscripted slice false v u=operate [v,u] (getItem v u)->wpAny (model X.prog X.w) X.A (subscriptTail value slice v u) (EP X pins σ Q) X.xe s
def MtR (X:Cx) (id:String) (r:V->List V->Hp->VK->Prop):Prop :=
 ∀ (pins:List (Addr × Obj)) (s:Shared) (σ:St) (H:Hp) (x:V) (xs:List V) (v:Value) (us:List Value) (Q:VK),Inv X pins σ H s->RelV x v->Vals xs us->r x xs H Q ->
  wpAny (model X.prog X.w) X.A (call (.builtin id) (v::us)) (EP X pins σ Q) X.xe s
section
variable {X:Cx} {a b:Expr} {ta tb:TE} {pos:Pos}
theorem zam {r:R2} (hr:IxR X r) (ha:PE X a ta) (hb:PE X b tb) (hs:PlainIx b):PE X (.Subscript a b pos) (tOp r ta tb):=by
 intro pins s σ H Q I h
 exact Subscript_ (binT ha hb I h fun v u s2 x y H2 I2 rx ry q=>hr a b pins s2 σ H2 x y v u Q I2 rx ry q (hs _ _))
inductive rIxL_i (K:PySem.W.Frag) (x:V) (y:V) (H:Hp) (Q:VK):Prop
 | mk:∀ p xs i v,(x=.ref p)->(y=.int i)->(SqL K H p xs)->(atI xs i=some v)->(Q v H)->rIxL_i K x y H Q
def rIxL (K:PySem.W.Frag):R2:=fun x y H Q=>rIxL_i K x y H Q
inductive rIxT_i (K:PySem.W.Frag) (x:V) (y:V) (H:Hp) (Q:VK):Prop
 | mk:∀ p xs i v,(x=.ref p)->(y=.int i)->(SqT K H p xs)->(atI xs i=some v)->(Q v H)->rIxT_i K x y H Q
def rIxT (K:PySem.W.Frag):R2:=fun x y H Q=>rIxT_i K x y H Q
theorem zaw:IxR X (rIxL X.K):=by
 intro value slice pins s σ H x y v u Q I rx ry h hs
 obtain⟨p,xs,i,z,rfl,rfl,hq,he,q⟩:=h
 cases rx
 obtain⟨t,rfl⟩:=ry
 obtain⟨its,r,pl,hz⟩:=I.list hq
 obtain⟨j,h1,h2,h3,h4,h5⟩:=zno he
 obtain⟨w,ew,rw'⟩:=r.get h2
 have hl:=r.length
 have hn:=line63
 have fin:EP X pins σ Q w s:=⟨z,H,I,rw',q⟩
 by_cases h0:0≤i
 ·have hj:i.toNat=j:=by
   rw[seqIndex_of h0 h5] at h1
   exact Option.some.inj h1
  exact item_listR pl.isList h0 (by trivial) (by rw[hj];simpa using ew) fin hs
 ·have hj:(i + (its.toArray.size:Int)).toNat=j:=by
   rw[seqIndex_neg (by trivial) h4] at h1
   rw[List.size_toArray,← hl]
   exact Option.some.inj h1
  exact subscriptTail_builtinR (x:=w) pl.isList.typeIs slot_list_getitem.lookup
   (wpAny_getItem_list_neg (Q:=fun r s'=>r=w∧EP X pins σ Q r s') pl.isList (by trivial) (by rw[List.size_toArray] <;> trivial) (by trivial) (by rw[hj];simpa using ew) ⟨rfl,fin⟩) hs
theorem zao:IxR X (rIxT X.K):=by
 intro value slice pins s σ H x y v u Q I rx ry h hs
 obtain⟨p,xs,i,z,rfl,rfl,hq,he,q⟩:=h
 cases rx
 obtain⟨t,rfl⟩:=ry
 obtain⟨its,r,pl,hz⟩:=I.tuple hq
 obtain⟨j,h1,h2,h3,h4,h5⟩:=zno he
 obtain⟨w,ew,rw'⟩:=r.get h2
 have hl:=r.length
 have hn:=line63
 have fin:EP X pins σ Q w s:=⟨z,H,I,rw',q⟩
 exact subscriptTail_builtinR (x:=w) pl.typeIs slot_tuple_getitem.lookup
  (getItem_tuple (j:=j) (Q:=fun r s'=>r=w∧EP X pins σ Q r s') pl (by trivial) (by trivial) (by rw[List.size_toArray,← hl];exact h1) (by simpa using ew) ⟨rfl,fin⟩) hs
theorem zla (its:List Value) (n j:Nat) (u:Value):Obj.mapSeq (·.setIfInBounds j u) { cls:=.type "list",data:=.seq its.toArray n }={ cls:=.type "list",data:=.seq (its.set j u).toArray n }:=by
 simp [Obj.mapSeq]
theorem Inv.lst {pins:List (Addr × Obj)} {σ:St} {H:Hp} {s:Shared} {p:Addr} {xs:List V} (I:Inv X pins σ H s) (h:H p=some (.lst xs)) :
  ∃ (its:List Value) (n:Nat),Vals xs its∧s.heap.get? p=some { cls:=.type "list",data:=.seq its.toArray n }∧xs.length≤sizeLine:=by
 obtain⟨z,its,n,r,e⟩:=I.hok p _ h
 exact⟨its,n,r,e,z⟩
theorem Inv.lstUpd {pins:List (Addr × Obj)} {σ:St} {H:Hp} {s:Shared} {p:Addr} {xs ys:List V} {its its':List Value} {n n':Nat} {f:Obj->Obj} (I:Inv X pins σ H s) (h:H p=some (.lst xs))
  (ho:s.heap.get? p=some { cls:=.type "list",data:=.seq its.toArray n }) (hf:f { cls:=.type "list",data:=.seq its.toArray n }={ cls:=.type "list",data:=.seq its'.toArray n' }) (r:Vals ys its') (hz:ys.length≤sizeLine) (t:Nat) :
  Inv X pins σ (upd H p (.lst ys)) { s with heap:=s.heap.update p f,toks:=t }:=by
 have e:(s.heap.update p f).get? p=some { cls:=.type "list",data:=.seq its'.toArray n' }:=by
  rw[Heap.get?_update_self f ho (by rw[hf] <;> rfl),hf]
 refine I.write (x:=p) (e:=p) (by rw[h];trivial) (.inl rfl) (fun b u hb q=>(Heap.get?_update_other _ _ (Ne.symm hb)).trans q) ⟨_,e⟩ ?_
 exact⟨hz,its',n',r,e⟩
inductive rSetL_i  (o:V) (i:V) (v:V) (H:Hp) (Q:Hp->Prop):Prop
 | mk:∀ p xs k j,(o=.ref p)->(i=.int k)->(H p=some (.lst xs))->(ixN xs.length k=some j)->(Q (upd H p (.lst (xs.set j v))))->rSetL_i o i v H Q
def rSetL :V->V->V->Hp->(Hp->Prop)->Prop:=fun o i v H Q=>rSetL_i o i v H Q
theorem zbz:PSet X rSetL:=by
 intro pins s σ H o i v ov iv u Q I ro ri rv h
 obtain⟨p,xs,k,j,rfl,rfl,hp,hj,q⟩:=h
 cases ro
 obtain⟨t,rfl⟩:=ri
 obtain⟨its,n,r,ho,hz⟩:=I.lst hp
 obtain⟨h1,h2,h3,h4⟩:=zjq hj
 have hl:=r.length
 have hn:=line63
 have I':Inv X pins σ (upd H p (.lst (xs.set j v))) { s with heap:=s.heap.update p (Obj.mapSeq (·.setIfInBounds j u)) } :=
  I.lstUpd hp ho (zla its n j u) (r.set rv j) (by rw[List.length_set];exact hz) s.toks
 by_cases h0:0≤k
 ·have hk:k.toNat=j:=by
   rw[seqIndex_of h0 h4] at h1
   exact Option.some.inj h1
  exact PySem.W.ki_setAt ho h0 (by trivial) (by rw[List.size_toArray,← hl];exact h4) (by rw[hk];exact⟨_,I',q⟩)
 ·have hk:(k + (its.toArray.size:Int)).toNat=j:=by
   rw[seqIndex_neg (by trivial) h3] at h1
   rw[List.size_toArray,← hl]
   exact Option.some.inj h1
  exact PySem.W.ki_setBack ho (by trivial) (by rw[List.size_toArray,← hl];exact h3) (by trivial) (by rw[hk];exact⟨_,I',q⟩)
def flatV:V->Bool
 | .non=>true
 | .bl _=>true
 | .int _=>true
 | .str _=>true
 | _=>false
def eqV:V->V->Bool
 | .non,.non=>true
 | .bl a,.bl b=>a == b
 | .bl a,.int b=>(if a then 1 else 0) == b
 | .int a,.bl b=>a == (if b then 1 else 0)
 | .int a,.int b=>a == b
 | .str a,.str b=>a == b
 | _,_=>false
theorem zra {A:Around} {s:Shared} {y x:V} {u v:Value} (ry:RelV y u) (rx:RelV x v) (fy:flatV y=true) (fx:flatV x=true):SeqAt.EqAt A s u v (eqV y x):=by
 cases y with
 | non =>
  cases ry
  cases x with
  | non=>cases rx;exact SeqAt.EqAt.same _
  | bl b=>cases rx;exact SeqAt.EqAt.none_bool b
  | int b=>obtain⟨t,rfl⟩:=rx;exact SeqAt.EqAt.none_int b t
  | str b=>obtain⟨t,rfl⟩:=rx;exact SeqAt.EqAt.none_str b t
  | _=>exact absurd (show false=true from fx) Bool.false_ne_true
 | bl a =>
  cases ry
  cases x with
  | non=>cases rx;exact SeqAt.EqAt.bool_none a
  | bl b=>cases rx;exact SeqAt.EqAt.bool_bool a b
  | int b=>obtain⟨t,rfl⟩:=rx;exact SeqAt.EqAt.bool_int a b t
  | str b=>obtain⟨t,rfl⟩:=rx;exact SeqAt.EqAt.bool_str a b t
  | _=>exact absurd (show false=true from fx) Bool.false_ne_true
 | int a =>
  obtain⟨t',rfl⟩:=ry
  cases x with
  | non=>cases rx;exact SeqAt.EqAt.int_none a t'
  | bl b=>cases rx;exact SeqAt.EqAt.int_bool a t' b
  | int b=>obtain⟨t,rfl⟩:=rx;exact SeqAt.EqAt.int_int a t' b t
  | str b=>obtain⟨t,rfl⟩:=rx;exact SeqAt.EqAt.int_str a t' b t
  | _=>exact absurd (show false=true from fx) Bool.false_ne_true
 | str a =>
  obtain⟨t',rfl⟩:=ry
  cases x with
  | non=>cases rx;exact SeqAt.EqAt.str_none a t'
  | bl b=>cases rx;exact SeqAt.EqAt.str_bool a t' b
  | int b=>obtain⟨t,rfl⟩:=rx;exact SeqAt.EqAt.str_int a t' b t
  | str b=>obtain⟨t,rfl⟩:=rx;exact SeqAt.EqAt.str_str a t' b t
  | _=>exact absurd (show false=true from fx) Bool.false_ne_true
 | _=>exact absurd (show false=true from fy) Bool.false_ne_true
def eqU (x:V) (u:Value):Bool:=match u with
 | .none=>eqV .non x
 | .bool b=>eqV (.bl b) x
 | .int i _=>eqV (.int i) x
 | .str z _=>eqV (.str z) x
 | _=>false
theorem zo9 {x y:V} {u:Value} (r:RelV y u) (f:flatV y=true):eqU x u=eqV y x:=by
 cases y with
 | non=>cases r;rfl
 | bl b=>cases r;rfl
 | int i=>obtain⟨t,rfl⟩:=r;rfl
 | str z=>obtain⟨t,rfl⟩:=r;rfl
 | _=>exact absurd (show false=true from f) Bool.false_ne_true
theorem zfi {x:V}:∀ {xs:List V} {us:List Value},Vals xs us->xs.all flatV=true->us.any (eqU x)=xs.any fun y=>eqV y x
 | _,_,.nil,_=>rfl
 | y::xs,u::us,.cons r t,f=>by
  rw[List.all_cons,Bool.and_eq_true] at f
  rw[List.any_cons,List.any_cons,zo9 r f.1,zfi t f.2]
theorem zds {A:Around} {s:Shared} {x:V} {v:Value} (rx:RelV x v) (fx:flatV x=true):∀ {xs:List V} {us:List Value},Vals xs us->xs.all flatV=true->∀ u ∈ us,SeqAt.EqAt A s u v (eqU x u)
 | _,_,.nil,_=>fun u hu=>by cases hu
 | y::xs,u::us,.cons r t,f=>fun u' hu=>by
  rw[List.all_cons,Bool.and_eq_true] at f
  rcases List.mem_cons.mp hu with rfl | hu
  ·rw[zo9 r f.1];exact zra r rx f.1 fx
  ·exact zds rx fx t f.2 u' hu
def inV (x:V) (xs:List V):Bool:=xs.any fun y=>eqV y x
inductive rIn_i (K:PySem.W.Frag) (neg:Bool) (x:V) (y:V) (H:Hp) (Q:VK):Prop
 | mk:∀ p xs,(y=.ref p)->((SqL K H p xs∨SqT K H p xs))->(flatV x=true)->(xs.all flatV=true)->(Q (.bl (if neg then !inV x xs else inV x xs)) H)->rIn_i K neg x y H Q
def rIn (K:PySem.W.Frag) (neg:Bool):R2:=fun x y H Q=>rIn_i K neg x y H Q
theorem zes:OpR X (compareOp .In) (rIn X.K false):=by
 intro pins s σ H x y v u Q I rx ry h
 obtain⟨p,xs,rfl,hq,fx,fs,q⟩:=h
 cases ry
 rcases hq with hq | hq
 ·obtain⟨its,r,pl,hz⟩:=I.list hq
  refine SeqAt.in_listAt (eqU x) pl.isList (fun w hw=>zds rx fx r fs w (by simpa using hw)) ⟨.bl _,H,I,rfl,?_⟩
  rw[show its.toArray.any (eqU x)=its.any (eqU x) by simp,zfi r fs]
  exact q
 ·obtain⟨its,r,pl,hz⟩:=I.tuple hq
  refine SeqAt.in_tupleAt (eqU x) pl (fun w hw=>zds rx fx r fs w (by simpa using hw)) ⟨.bl _,H,I,rfl,?_⟩
  rw[show its.toArray.any (eqU x)=its.any (eqU x) by simp,zfi r fs]
  exact q
theorem zb7:OpR X (compareOp .NotIn) (rIn X.K true):=by
 intro pins s σ H x y v u Q I rx ry h
 obtain⟨p,xs,rfl,hq,fx,fs,q⟩:=h
 cases ry
 rcases hq with hq | hq
 ·obtain⟨its,r,pl,hz⟩:=I.list hq
  refine SeqAt.notIn_listAt (eqU x) pl.isList (fun w hw=>zds rx fx r fs w (by simpa using hw)) ⟨.bl _,H,I,rfl,?_⟩
  rw[show its.toArray.any (eqU x)=its.any (eqU x) by simp,zfi r fs]
  exact q
 ·obtain⟨its,r,pl,hz⟩:=I.tuple hq
  refine SeqAt.notIn_tupleAt (eqU x) pl (fun w hw=>zds rx fx r fs w (by simpa using hw)) ⟨.bl _,H,I,rfl,?_⟩
  rw[show its.toArray.any (eqU x)=its.any (eqU x) by simp,zfi r fs]
  exact q
inductive call_len_seq_i (K:PySem.W.Frag) (xs:List V) (H:Hp) (Q:VK):Prop
 | mk:∀ p ys,(xs=[.ref p])->((SqL K H p ys∨SqT K H p ys))->(Q (.int ys.length) H)->call_len_seq_i K xs H Q
theorem zal:CallR X (.builtin "len") (call_len_seq_i X.K):=by
 intro pins s σ H xs us Q I r h
 obtain⟨p,ys,rfl,hq,q⟩:=h
 obtain⟨u,rfl,rx⟩:=vals1 r
 cases rx
 have hn:=line63
 rcases hq with hq | hq
 ·obtain⟨its,r',pl,hz⟩:=I.list hq
  have hlen:=r'.length
  exact Calls.call_len_list pl.isList (by simp only [List.size_toArray] <;> trivial) ⟨.int ys.length,H,I.tok _,⟨s.toks + 1,by rw[List.size_toArray,hlen]⟩,q⟩
 ·obtain⟨its,r',pl,hz⟩:=I.tuple hq
  have hlen:=r'.length
  exact len_tuple pl (by simp only [List.size_toArray] <;> trivial) ⟨.int ys.length,H,I.tok _,⟨s.toks + 1,by rw[List.size_toArray,hlen]⟩,q⟩
inductive call_list_of_i (K:PySem.W.Frag) (xs:List V) (H:Hp) (Q:VK):Prop
 | mk:∀ p ys,(xs=[.ref p])->((SqL K H p ys∨SqT K H p ys))->(∀ l,H l=none->Q (.ref l) (upd H l (.lst ys)))->call_list_of_i K xs H Q
theorem zij:CallR X (.type "list") (call_list_of_i X.K):=by
 intro pins s σ H xs us Q I r h
 obtain⟨p,ys,rfl,hq,q⟩:=h
 obtain⟨u,rfl,rx⟩:=vals1 r
 cases rx
 have fin : ∀ (its : List Value), Vals ys its → ys.length ≤ sizeLine → ∀ (h' : Heap) (c' : Nat), (∀ b o', s.heap.get? b = some o' → h'.get? b = some o') →
     h'.get? s.heap.objs.size=some { cls:=.type "list",dict:=none,data:=.seq its.toArray c',slots:=#[] }->EP X pins σ Q (.ref s.heap.objs.size) { s with heap:=h' }:=fun its r' hz h' c' kp e =>
  ⟨.ref s.heap.objs.size,_,I.laid (t':=s.toks) kp (Nat.le_refl _) (show ObjOk X.prog X.w _ h' _ (.lst ys) from ⟨hz,its,c',r',e⟩),rfl,q _ (I.hok.fresh (Nat.le_refl _))⟩
 rcases hq with hq | hq
 ·obtain⟨its,r',pl,hz⟩:=I.list hq
  have hlen:=r'.length
  obtain⟨o,ho,hc,n,hd⟩:=pl.isList
  exact call_list_seq p (.inl rfl) ho hc hd (fun h' c' kp e=>fin its r' hz h' c' kp e) (by simp only [List.size_toArray] <;> trivial)
 ·obtain⟨its,r',pl,hz⟩:=I.tuple hq
  have hlen:=r'.length
  obtain⟨o,ho,hc,n,hd⟩:=pl
  exact call_list_seq p (.inr rfl) ho hc hd (fun h' c' kp e=>fin its r' hz h' c' kp e) (by simp only [List.size_toArray] <;> trivial)
inductive call_tuple_of_i (K:PySem.W.Frag) (xs:List V) (H:Hp) (Q:VK):Prop
 | mk:∀ p ys,(xs=[.ref p])->(((SqL K H p ys∧∀ l,H l=none->Q (.ref l) (upd H l (.tup ys)))∨(SqT K H p ys∧Q (.ref p) H)))->call_tuple_of_i K xs H Q
theorem zcp:CallR X (.type "tuple") (call_tuple_of_i X.K):=by
 intro pins s σ H xs us Q I r h
 obtain⟨p,ys,rfl,h⟩:=h
 obtain⟨u,rfl,rx⟩:=vals1 r
 cases rx
 rcases h with ⟨hq,q⟩ | ⟨hq,q⟩
 ·obtain⟨its,r',pl,hz⟩:=I.list hq
  have hlen:=r'.length
  refine call_tuple_list pl.isList (fun h' kp=>?_) (by simp only [List.size_toArray] <;> trivial)
  have I1:Inv X pins σ H { s with heap:=h' }:=I.kept (t':=s.toks) kp
  have I2:Inv X pins σ (upd H h'.objs.size (.tup ys)) { s with heap:=h'.push { cls:=.type "tuple",data:=.seq its.toArray } } :=
   I1.laid (t':=s.toks) (fun b o e=>Heap.get?_push_of_some _ e) (Nat.le_refl _) (show ObjOk X.prog X.w _ _ _ (.tup ys) from ⟨hz,its,r',TupN.new _ _⟩)
  exact⟨.ref h'.objs.size,_,I2,rfl,q _ (I1.hok.fresh (Nat.le_refl _))⟩
 ·obtain⟨its,r',pl,hz⟩:=I.tuple hq
  exact call_tuple_same pl ⟨.ref p,H,I,rfl,q⟩
def tyV (K:PySem.W.Frag) (T:String) (x:V) (H:Hp):Prop:=match x with
 | .str _=>T="str"
 | .int _=>T="int"
 | .ref p => (T = "list" ∧ ∃ xs, SqL K H p xs) ∨ (T = "tuple" ∧ ∃ o, K.lookup p = some o ∧ o.cls = .type "tuple" ∧ o.dict = none) ∨
     (T="dict"∧((∃ kvs,H p=some (.dK kvs))∨∃ kvs,H p=some (.dT kvs)))∨(T="set"∧∃ S n,H p=some (.set S n))
 | _=>False
theorem zql {pins:List (Addr × Obj)} {σ:St} {H:Hp} {s:Shared} {T:String} {x:V} {v:Value} (I:Inv X pins σ H s) (r:RelV x v) (ty:tyV X.K T x H) :
  s.TypeIs v T∧∀ a,v=.ref a->∃ ob,s.heap.get? a=some ob∧ob.dict=none:=by
 cases x with
 | str z =>
  obtain⟨t,rfl⟩:=r
  cases (show T="str" from ty)
  exact⟨typeIs_str s z t,fun _ e=>nomatch e⟩
 | int i =>
  obtain⟨t,rfl⟩:=r
  cases (show T="int" from ty)
  exact⟨typeIs_int s i t,fun _ e=>nomatch e⟩
 | ref p =>
  cases r
  rcases ty with ⟨rfl,xs,hq⟩ | ⟨rfl,o,hk,hc,hd⟩ | ⟨rfl,hk⟩ | ⟨rfl,S,n,hk⟩
  ·obtain⟨its,_,pl,_⟩:=I.list hq
   refine⟨pl.isList.typeIs,fun a e=>?_⟩
   cases e
   obtain⟨o,n,e,c,hd,_⟩:=pl
   exact⟨o,e,hd⟩
  ·refine⟨⟨o,I.kIn p o hk,hc⟩,fun a e=>?_⟩
   cases e
   exact⟨o,I.kIn _ o hk,hd⟩
  ·have z:∃ o,s.heap.get? p=some o∧o.ExactDict:=by
    rcases hk with ⟨kvs,hk⟩ | ⟨kvs,hk⟩
    ·obtain⟨_,_,_,_,o,_,_,e,ex,_⟩:=I.hok p _ hk
     exact⟨o,e,ex⟩
    ·obtain⟨_,_,_,_,o,_,_,e,ex,_⟩:=I.hok p _ hk
     exact⟨o,e,ex⟩
   obtain⟨o,e,ex⟩:=z
   refine⟨⟨o,e,ex.1⟩,fun a e2=>?_⟩
   cases e2
   exact⟨o,e,ex.2.1⟩
  ·obtain⟨o,_,_,_,e,ex,_⟩:=I.hok p _ hk
   refine⟨⟨o,e,ex.1⟩,fun a e2=>?_⟩
   cases e2
   exact⟨o,e,ex.2.1⟩
 | _=>exact False.elim ty
def tBM (K:PySem.W.Frag) (T:String) (r:V->List V->Hp->VK->Prop) (to:TE) (t:TA):TE:=fun σ H Q=>to σ H fun x H1=>tyV K T x H1∧t σ H1 fun xs H2=>r x xs H2 Q
variable {o e:Expr} {es:List Expr} {to:TE} {t:TA} {name:Str} {apos cpos:Pos} {T id:String} {r:V->List V->Hp->VK->Prop}
theorem zgi (pa:PlainAttrs T) (slot:Slot T name id) (hty:typeOf (.builtin id)=pure (.type "method_descriptor")) (hm:MtR X id r) (ho:PE X o to) (ha:PA X (e::es) t)
  (hbase:attributeBase o name X.env (eval o X.env)=eval o X.env:=by rfl)
  (hfew:((backTo cpos (starEach (e::es) X.env)).all (fun x=>!x.1) && (backToKw cpos (keywordEach [] X.env)).all (fun x=>x.1.isSome)
   && decide ((e::es).length + ([]:List Keyword).length + (if ([]:List Keyword).isEmpty then 0 else 1) < 30))=true:=by rfl)
  (hline:(apos.endLine == cpos.line)=true:=by rfl) (hs:starEach (e::es) X.env=(false,eval e X.env)::starEach es X.env:=by rfl) (hplain:(backTo cpos (starEach es X.env)).any (·.1)=false:=by rfl) :
  PE X (.Call (.Attribute o name apos) (e::es) [] cpos) (tBM X.K T r to t):=by
 intro pins s σ H Q I h
 refine wpAny_Call_method_late hbase hfew hline rfl (thn (ho pins s σ H _ I h) fun v s1 ⟨x,H1,I1,r1,ty,q1⟩=>?_)
 obtain⟨h1,h2⟩:=zql I1 r1 ty
 refine⟨T,id,pa,slot,hty,h1,h2,?_⟩
 have hA:=ha cpos pins s1 σ H1 _ I1 q1
 rw[hs] at hA ⊢
 refine Calls.callWith_builtin (by show (false || (backTo cpos (starEach es X.env)).any (·.1))=false;rw[hplain] <;> rfl) (Calls.evalArgs_plain ?_)
 exact thn hA fun us s2 ⟨vs,H2,I2,r2,q2⟩=>hm pins s2 σ H2 x vs v us Q I2 r1 r2 q2
end
end L2
namespace L2
open PySem PySem.Spec PyProof.Rows
def MtM (X:Cx) (id:String) (r:V->List V->Hp->VK->Prop):Prop :=
 ∀ (pins:List (Addr × Obj)) (s:Shared) (σ:St) (H:Hp) (x:V) (xs:List V) (v:Value) (us:List Value) (Q:VK),Inv X pins σ H s->RelV x v->Vals xs us->r x xs H Q ->
  wpAny (model X.prog X.w) X.A (call (.builtin id) (v::us)) (EP X pins σ Q) X.xe s
theorem Vals.one:∀ {x:V} {us:List Value},Vals [x] us->∃ u,us=[u]∧RelV x u
 | _,_,.cons r .nil=>⟨_,rfl,r⟩
theorem Vals.two:∀ {x y:V} {us:List Value},Vals [x,y] us->∃ u v,us=[u,v]∧RelV x u∧RelV y v
 | _,_,_,.cons r (.cons q .nil)=>⟨_,_,rfl,r,q⟩
theorem Vals.eraseIdx:∀ {xs:List V} {us:List Value} (i:Nat),Vals xs us->Vals (xs.eraseIdx i) (us.eraseIdx i)
 | _,_,_,.nil=>.nil
 | _,_,0,.cons _ t=>t
 | _,_,i + 1,.cons r t=>.cons r (Vals.eraseIdx i t)
theorem Vals.reverse {xs:List V} {us:List Value} (h:Vals xs us):Vals xs.reverse us.reverse:=by
 induction h with
 | nil=>exact .nil
 | cons r t ih=>rw[List.reverse_cons,List.reverse_cons];exact Vals.append ih (.cons r .nil)
theorem Vals.rep {xs:List V} {us:List Value} (h:Vals xs us):∀ k:Nat,Vals (List.replicate k xs).flatten (List.replicate k us).flatten
 | 0=>.nil
 | k + 1=>by
  rw[List.replicate_succ,List.replicate_succ,List.flatten_cons,List.flatten_cons]
  exact Vals.append h (Vals.rep h k)
theorem zh8 {α:Type}:∀ (l:List α) (i:Nat),(l.eraseIdx i).length≤l.length
 | [],_=>Nat.le_refl _
 | _::_,0=>Nat.le_succ _
 | _::r,i + 1=>Nat.succ_le_succ (zh8 r i)
theorem zid (its:List Value):∀ (k:Nat) (acc:List Value),
  List.foldl (fun x1 x2=>x1++x2) acc.toArray (List.replicate k its.toArray)=(acc++(List.replicate k its).flatten).toArray
 | 0,acc=>by simp
 | k + 1,acc=>by
  have e:acc.toArray++its.toArray=(acc++its).toArray:=by simp
  have e2:(acc++its)++(List.replicate k its).flatten=acc++(List.replicate (k + 1) its).flatten:=by
   rw[List.replicate_succ,List.flatten_cons,List.append_assoc]
  rw[← e2,← zid its k (acc++its),← e,List.replicate_succ,List.foldl_cons]
section
variable {X:Cx} {pins:List (Addr × Obj)} {σ:St} {H:Hp} {s:Shared} {l b:Addr} {xs ys zs:List V}
theorem Inv.lset {its its':List Value} {n:Nat} {f:Array Value->Array Value} {t':Nat} (I:Inv X pins σ H s) (hH:H l=some (.lst xs))
  (e:s.heap.get? l=some { cls:=.type "list",data:=.seq its.toArray n }) (hf:f its.toArray=its'.toArray) (hv:Vals ys its') (hz:ys.length≤sizeLine) :
  Inv X pins σ (upd H l (.lst ys)) { s with heap:=s.heap.update l (Obj.mapSeq f),toks:=t' }:=by
 have q:=PySem.IsL.update e f
 rw[hf] at q
 refine I.write (x:=l) (e:=l) (by rw[hH];exact trivial) (.inl rfl) (fun b' u hb hu=>(Heap.get?_update_other s.heap (Obj.mapSeq f) (Ne.symm hb)).trans hu) ⟨_,q⟩ ?_
 exact⟨hz,its',_,hv,q⟩
theorem Inv.lnew {its:List Value} {t':Nat} (I:Inv X pins σ H s) (hv:Vals ys its) (hz:ys.length≤sizeLine) :
  Inv X pins σ (upd H s.heap.objs.size (.lst ys)) { s with heap:=s.heap.push { cls:=.type "list",data:=.seq its.toArray },toks:=t' } :=
 I.laid (fun _ _ q=>Heap.get?_push_of_some _ q) (Nat.le_refl _) ⟨hz,its,0,hv,Heap.get?_push_size _ rfl⟩
theorem Inv.fresh (I:Inv X pins σ H s):H s.heap.objs.size=none:=I.hok.fresh (Nat.le_refl _)
theorem Inv.lstM (I:Inv X pins σ H s) (hH:H l=some (.lst xs)):xs.length≤sizeLine∧∃ (its:List Value) (n:Nat),Vals xs its∧xs.length=its.length∧s.heap.get? l=some { cls:=.type "list",data:=.seq its.toArray n }:=by
 obtain⟨z,its,n,r,e⟩:=I.hok l _ hH
 exact⟨z,its,n,r,r.length,e⟩
theorem notLongL {n:Nat} (h:n≤sizeLine):Builtin.List.listTooLong n=false:=by
 unfold Builtin.List.listTooLong
 exact decide_eq_false (by trivial)
end
section
variable {X:Cx}
inductive rAppend_i  (x:V) (vs:List V) (H:Hp) (Q:VK):Prop
 | mk:∀ l xs y,(x=.ref l)->(vs=[y])->(H l=some (.lst xs))->(xs.length < sizeLine)->(Q .non (upd H l (.lst (xs++[y]))))->rAppend_i x vs H Q
def rAppend :V->List V->Hp->VK->Prop:=fun x vs H Q=>rAppend_i x vs H Q
theorem zdr:MtM X "list.append" rAppend:=by
 intro pins s σ H x vs v us Q I rx rv h
 obtain⟨l,xs,y,rfl,rfl,hH,hz,q⟩:=h
 cases rx
 obtain⟨u,rfl,ru⟩:=rv.one
 obtain⟨z,its,n,r,hl,e⟩:=I.lstM hH
 refine call_meets F.slot_list_append ⟨_,e,rfl⟩ F.entry_list_append (F.args_list_append_2 _ _) (PySem.list_append l its.toArray n u (by rw[List.size_toArray];trivial)) ⟨e,?_⟩
 refine⟨.non,_,I.lset (its':=its++[u]) hH e (by simp) (r.append (.cons ru .nil)) ?_,rfl,q⟩
 rw[List.length_append,List.length_singleton]
 trivial
inductive rPopAt_i  (x:V) (vs:List V) (H:Hp) (Q:VK):Prop
 | mk:∀ l xs i k y,(x=.ref l)->(vs=[.int i])->(H l=some (.lst xs))->(-(2 ^ 63)≤i)->(i < 2 ^ 63)->(seqIndex? i xs.length=some k)->(xs[k]?=some y)->(Q y (upd H l (.lst (xs.eraseIdx k))))->rPopAt_i x vs H Q
def rPopAt :V->List V->Hp->VK->Prop:=fun x vs H Q=>rPopAt_i x vs H Q
theorem zof:MtM X "list.pop" rPopAt:=by
 intro pins s σ H x vs v us Q I rx rv h
 obtain⟨l,xs,i,k,y,rfl,rfl,hH,h1,h2,hk,hy,q⟩:=h
 cases rx
 obtain⟨u,rfl,ru⟩:=rv.one
 obtain⟨t,rfl⟩:=ru
 obtain⟨z,its,n,r,hl,e⟩:=I.lstM hH
 obtain⟨w,hw,rw'⟩:=r.get hy
 refine call_meets F.slot_list_pop ⟨_,e,rfl⟩ F.entry_list_pop (F.args_list_pop_2 _ _)
  (MeetsSeq.list_pop_at l its.toArray n i t k w (fitsIndex_both h1 h2) (by rw[List.size_toArray,← hl];exact hk) (by rw[← Array.getElem?_toList];exact hw) (by rw[List.size_toArray];trivial)) ⟨e,?_⟩
 refine⟨y,_,I.lset (its':=its.eraseIdx k) hH e ?_ (r.eraseIdx k) ?_,rw',q⟩
 ·show its.toArray.eraseIdxIfInBounds k=(its.eraseIdx k).toArray
  rw[List.eraseIdxIfInBounds_toArray]
 ·have:=zh8 xs k
  trivial
inductive rRep_i  (x:V) (y:V) (H:Hp) (Q:VK):Prop
 | mk:∀ l k xs,(x=.ref l)->(y=.int k)->(H l=some (.lst xs))->(-(2 ^ 63)≤k)->(k < 2 ^ 63)->(xs.length * k.toNat≤sizeLine)->(∀ p,H p=none->Q (.ref p) (upd H p (.lst (List.replicate k.toNat xs).flatten)))->rRep_i x y H Q
def rRep :R2:=fun x y H Q=>rRep_i x y H Q
theorem zp0 {α:Type} (xs:List α) (k:Nat):(List.replicate k xs).flatten.length=k * xs.length:=by
 induction k with
 | zero=>simp
 | succ k ih=>rw[List.replicate_succ,List.flatten_cons,List.length_append,ih,Nat.succ_mul,Nat.add_comm]
theorem zqz:OpR X (binaryOp .Mult) rRep:=by
 intro pins s σ H x y v u Q I rx ry h
 obtain⟨l,k,xs,rfl,rfl,hH,h1,h2,hz,q⟩:=h
 cases rx
 obtain⟨t,rfl⟩:=ry
 obtain⟨z,its,n,r,hl,e⟩:=I.lstM hH
 have hlen:its.toArray.size * k.toNat≤sizeLine:=by rw[List.size_toArray,← hl];exact hz
 have hcap:¬ its.toArray.size * k.toNat > (2 ^ 63 - 1) / 8:=by
  have:(sizeLine:Nat)≤(2 ^ 63 - 1) / 8:=by decide
  trivial
 have hfit:¬ (!Builtin.List.listFitsIndex k)=true:=by
  rw[fitsIndex_both h1 h2]
  exact Bool.false_ne_true
 have hlong:¬ Builtin.List.listTooLong (its.toArray.size * k.toNat)=true:=by
  rw[notLongL hlen]
  exact Bool.false_ne_true
 have hnew:List.foldl (fun x1 x2=>x1++x2) #[] (List.replicate (if its.toArray.isEmpty=true then 0 else k.toNat) its.toArray)=(List.replicate k.toNat its).flatten.toArray:=by
  have f0:∀ m:Nat,List.foldl (fun x1 x2=>x1++x2) #[] (List.replicate m its.toArray)=(List.replicate m its).flatten.toArray:=fun m=>by
   have:=zid its m []
   rw[List.nil_append] at this
   exact this
  rw[f0]
  cases its with
  | nil=>simp
  | cons a r'=>rw[if_neg (by simp)]
 refine wpAny_binaryOp_repeat_ref (T:="list") (U:="int") (by decide) ⟨_,e,rfl⟩ (fun s'=>typeIs_int s' k t) noFill_list_mul F.fills_int_mul F.slot_int_rmul repeat_list F.slot_int_index.lookup
  (call_meets F.slot_int_rmul (typeIs_int s k t) F.entry_int_rmul (F.args_int_rmul_2 _ _) (int___rmul___int_list k t l its.toArray n)
   ⟨e,rfl,⟨_,e,rfl⟩,call_meets F.slot_list_mul ⟨_,e,rfl⟩ F.entry_list_mul (F.args_list_mul_2 _ _) (AutoListH.list___mul___list_int_3 l its.toArray n k t hfit hcap hlong) ⟨e,?_⟩⟩)
 rw[hnew]
 exact⟨.ref _,_,I.lnew (t':=s.toks) (r.rep k.toNat) (by rw[zp0,Nat.mul_comm];exact hz),rfl,q _ I.fresh⟩
end
section
variable {prog:Program} {w:World} {A:Around} {E:Value->Shared->Prop} {s:Shared}
end
section
variable {X:Cx}
end
end L2
namespace Att
open PySem PySem.W PySem.Calls PyProof.Rows
theorem ze9 {P:Params} {h:Heap}:∀ (ns:List Int) (vs:List Value),WellAll P h vs (ns.map WData.int)->IntsAre vs ns:=by
 intro ns
 induction ns with
 | nil =>
  intro vs w
  rw[List.map_nil] at w
  cases w
  exact .nil
 | cons n ns ih =>
  intro vs w
  rw[List.map_cons] at w
  cases w with
  | cons a b =>
   cases a
   exact .cons _ _ (ih _ b)
theorem zl0 {l:OpenLaw} {n:Nat} (hn:l.most=some n) {P:Params} {h:Heap} {args:List WData} {vals:List Value}
  (hpre:l.row.toRowW.claim.pre args=true) (hwl:WellAll P h vals args) :
  ∃ a vs ns,vals=[Value.ref a]∧args=[WData.list (ns.map WData.int)]∧h.get? a=some { cls:=.type "list",data:=.seq vs.toArray }∧IntsAre vs ns∧ns.length≤n:=by
 have hsh:WShape.hasAll [] args [.list .int]=true:=(pre_splitW hpre).1
 have hc:l.pre.holds [] { args:=args }=true:=(pre_splitW hpre).2
 obtain⟨d,r,rfl,h1,h2⟩:=hasAllW_cons hsh
 obtain rfl:=hasAllW_nil h2
 obtain⟨xs,rfl,h3⟩:=hasW_list h1
 obtain⟨ns,rfl⟩:=items_int h3
 have hlen:ns.length≤n:=by
  unfold OpenLaw.pre at hc
  have h4:(WTm.not (.lt (.lit (.int (n:Int))) (.len (.arg 0)))).holds [] { args:=[.list (ns.map .int)] }=true:=by
   have h4:=(holds_andW hc).1
   rw[hn] at h4
   exact h4
  have h5:=condW_of h4 (w_not (w_lt w_lit (w_len_list (w_arg rfl))))
  rw[List.length_map] at h5
  refine Nat.le_of_not_lt fun q=>?_
  have q':(n:Int) < ((ns.length:Nat):Int):=by trivial
  first
   | (rw[decide_eq_true q'] at h5;exact absurd h5 (by decide))
   | (simp at h5;trivial)
 cases hwl with
 | cons w1 w2 =>
  cases w2
  cases w1 with
  | list ho hall=>exact⟨_,_,ns,rfl,rfl,ho,ze9 ns _ hall,hlen⟩
theorem zl9 (l:OpenLaw) (args:List WData):l.row.toRowW.claim.post args (.bool true) args=true :=
 postW_of (r:=l.row.toRowW) (X:=(true == true))
  (show WShape.has [] (.bool true) .bool=true by first | rfl | decide | simp [WShape.has,WShape.arms,WShape.armsAll])
  (show (WTm.eq .res (.lit (.bool true))).value [] { args:=args,res:=some (.bool true),after:=args }=some (.bool (true == true)) from w_eq_bool (w_res rfl) w_lit) rfl
theorem attach_call {l:OpenLaw} {n:Nat} {q:Program} {loose:List Str} {XP:(Str->Option Value)->Heap->Prop} {YP:World->Heap->Prop} {d:DefRec}
  (hn:l.most=some n) (hdf:d.params.defaults=[])
  (call:∀ (w:World) (s₀ s₁:Shared) (mg mb:Str->Option Value) (fa:Addr) (o:Obj) (pm cd doc:Value) (a:Addr) (vs:List Value) (ns:List Int),
   Ground q loose [] XP w s₀ mg mb s₁.heap->YP w s₁.heap ->
   s₁.heap.get? fa=some o->o.data=.func (docDef d.name d.params d.body d.scope pm cd doc)->s₁.heap.CodeRec cd d.name->mg d.name=some (.ref fa) ->
   s₁.heap.get? a=some { cls:=.type "list",data:=.seq vs.toArray }->IntsAre vs ns->ns.length≤n->s₁.gens=#[] ->
   codeAny (model l.prog w) callerA (.call (.ref fa) ⟨[.ref a],[]⟩) (fun r s'=>r=.ok (.ret (.bool true))∧OldK s₁.heap s'.heap∧s'.os=s₁.os∧AllBare s'.gens) s₁) :
  WalkO q loose XP YP l.row.toRowW d [] (fun f vs=>PySem.call f vs):=by
 intro w s₀ s₁ mg mb G Y fa o pm cd doc dV kV ho hd hcd hD hmg hg args vals as hpre hlay hrd hwl hlo
 obtain rfl:dV=.none:=Dflts.none hD hdf
 obtain rfl:kV=.none:=Dflts.noKw hD
 obtain⟨a,vs,ns,rfl,rfl,hobj,hints,hlen⟩:=zl0 hn hpre hwl
 refine enter_call (codeAny_mono (call w s₀ s₁ mg mb fa o pm cd doc a vs ns G Y ho (fd_plain hd) hcd hmg hobj hints hlen hg) fun r s' hq=>?_)
 obtain⟨rfl,h2,h3,h4⟩:=hq
 exact⟨.inl ⟨.bool true,.bool true,[],rfl,fun _=>rfl,.bool true,zl9 l _,fun _=>⟨List.Pairwise.nil,fun _ hm=>(nomatch hm)⟩⟩,h2,h3,h4⟩
section
variable {prog:Program} {w:World} {A:Around} {E:Value->Shared->Prop} {s:Shared} {K:Frag}
end
end Att
namespace L2
open PySem PySem.Spec PyProof.Rows
theorem zhi:∀ {vs:List Value} {ns:List Int},IntsAre vs ns->Vals (ns.map V.int) vs
 | _,_,.nil=>.nil
 | _,_,.cons n t h=>.cons ⟨t,rfl⟩ (zhi h)
def Only (H:Hp):Prop:=∀ b,H b=none∨∃ o xs,H b=some (.frz o (.lst xs))
theorem zog {P:Program} {w:World} {K:PySem.W.Frag} {mg mb:Str->Option Value} {CX:CXT} {k:Nat} {fa a:Addr} {fd:FuncData} {x:Str} {sp:Sp} {s₁:Shared} {vs:List Value} {ns:List Int}
  (KX:K.In s₁.heap) (hns:s₁.heap.Ns mainGlobals mg) (hb:s₁.heap.Ns builtinsNs mb) (hbb:∀ x:Str,x≠"__name__"->mb x=bootBuiltins x) (hlim:s₁.heap.NoLimit) (hg:s₁.gens=#[])
  (ha:s₁.heap.get? a=some { cls:=.type "list",data:=.seq vs.toArray }) (hi:IntsAre vs ns) (hl:ns.length≤sizeLine) (hr:Room k callerA)
  (F:∀ base:Heap,K.In base->base.Ns mainGlobals mg->FnOk P w K mg base CX k fa fd [x] sp) (hbind:∀ (s:Shared) (u:Value),BindsTo s fd ⟨[u],[]⟩ [(x,u)])
  (hsp:∀ H:Hp,Only H->SqL K H a (ns.map V.int)->sp [.ref a] H (fun v _=>v=.bl true) fun _ _ _=>False)
  (hCX:∀ H e s',CX [] H s₁ (fun _ _ _=>False) e s'->False) :
  codeAny (model P w) callerA (.call (.ref fa) ⟨[.ref a],[]⟩) (fun r s'=>r=.ok (.ret (.bool true))∧OldK s₁.heap s'.heap∧s'.os=s₁.os∧AllBare s'.gens) s₁:=by
 have rv:=zhi hi
 have lenV:=hi.length
  -- from an abstract heap in which nothing but the script may be tracked
 have core : ∀ H : Hp, Only H → SqL K H a (ns.map V.int) → HOk P w H s₁.heap → (∀ b, H b ≠ none → b = a) → (H a ≠ none → K.lookup a = none) →
     codeAny (model P w) callerA (.call (.ref fa) ⟨[.ref a],[]⟩) (fun r s'=>r=.ok (.ret (.bool true))∧OldK s₁.heap s'.heap∧s'.os=s₁.os∧AllBare s'.gens) s₁:=by
  intro H hO hS hok hA hK
  have base_of:∀ {b:Addr} {o:Obj},s₁.heap.get? b=some o->H b=none->(hidT s₁.heap H).get? b=some o:=fun e n=>zok e n
  have noA:∀ {b:Addr} {o:Obj} {es:Array DictEntry} {ep:Nat},s₁.heap.get? b=some o->o.data=.dict es ep->H b=none:=fun {b o es ep} e d=>by
   cases q:H b with
   | none=>rfl
   | some u =>
    have e':b=a:=hA b (by rw[q];simp)
    subst e'
    rw[ha] at e;cases e
    have d':Data.seq vs.toArray _=Data.dict es ep:=d
    cases d'
  have nsK:∀ {b:Addr} {m:Str->Option Value},s₁.heap.Ns b m->(hidT s₁.heap H).Ns b m:=fun {b m} ⟨o,es,ep,e,d,r⟩=>⟨o,es,ep,base_of e (noA e d),d,r⟩
  have hKb:K.In (hidT s₁.heap H):=fun b o e=>base_of (KX b o e) (by
   cases q:H b with
   | none=>rfl
   | some u =>
    have e':b=a:=hA b (by rw[q];simp)
    subst e'
    rw[hK (by rw[q];simp)] at e;cases e)
  have hM:Mod K mg (hidT s₁.heap H):=⟨hKb,nsK hns,⟨mb,nsK hb,hbb⟩,let ⟨mc,h1,h2⟩:=hlim;⟨mc,nsK h1,h2⟩⟩
  have e0:Env0 P w K mg (hidT s₁.heap H) callerA [] s₁ H:=⟨rfl,hM,fun b o e=>zpz e,Nat.le_of_eq (zmz _ _),trivial,fun b hb=>absurd (show b ∈ ([]:List Addr) from hb) (by simp),hok,.of_eq hg⟩
  refine codeAny_mono ((F _ hKb (nsK hns)).run callerA [] s₁ H ⟨[.ref a],[]⟩ [.ref a] [.ref a] _ _ hr e0 (hbind s₁ (.ref a)) (.cons rfl .nil) (hsp H hO hS)) fun r s' h=>?_
  cases r with
  | error e=>exact (hCX H e s' h).elim
  | ok fl =>
   cases fl with
   | next=>exact False.elim h
   | brk=>exact False.elim h
   | cont=>exact False.elim h
   | ret u =>
    obtain⟨v,H',os,bare,un,hok',r',q⟩:=h
    have q':v=.bl true:=q
    subst q'
    obtain rfl:u=Value.bool true:=r'
    refine⟨rfl,OldK.of_keep fun b o e=>?_,os,bare⟩
    cases q:H b with
    | none=>exact un.keep b o e q (by intro z;exact absurd (show b ∈ ([]:List Addr) from z) (by simp)) (by simp)
    | some u =>
     rcases hO b with z | ⟨ob,xs,z⟩
     ·rw[q] at z;cases z
     ·have z2:=un.frzs b ob _ z
      obtain⟨e1,_⟩:=hok b _ z
      obtain⟨e2,_⟩:=hok' b _ z2
      rw[e] at e1;cases e1
      exact e2
 cases hk:K.lookup a with
 | some o =>
    -- the script is one of the module's own objects
  have e:=KX a o hk
  rw[ha] at e
  cases e
  refine core (fun _=>none) (fun _=>.inl rfl) (.inr ⟨_,vs.toArray,_,hk,rfl,rfl,rfl,by rw[List.size_toArray,lenV];exact hl,by simpa using rv⟩) (fun b u z=>by have z':(none:Option HO)=some u:=z;cases z') (fun b z=>absurd rfl z) fun z=>absurd rfl z
 | none =>
  refine core (fun b=>if b=a then some (.frz { cls:=.type "list",data:=.seq vs.toArray } (.lst (ns.map V.int))) else none) (fun b=>?_) (.inl (.inr ⟨{ cls:=.type "list",data:=.seq vs.toArray },if_pos rfl⟩)) (fun b u z=>?_) (fun b z=>?_) fun _=>hk
  ·by_cases hb:b=a
   ·exact .inr ⟨_,_,if_pos hb⟩
   ·exact .inl (if_neg hb)
  ·by_cases hb:b=a
   ·have z':=(if_pos hb).symm.trans z
    cases z'
    subst hb
    exact⟨ha,by rw[List.length_map];exact hl,vs,_,rv,ha⟩
   ·have z':=(if_neg hb).symm.trans z
    cases z'
  ·by_cases hb:b=a
   ·exact hb
   ·exact absurd (if_neg hb) z
end L2
namespace L2
open PySem PySem.Spec PyProof.Rows
theorem zpg {l:PySem.W.OpenLaw} {n k:Nat} {q:Program} {loose:List Str} {XP:(Str->Option Value)->Heap->Prop} {YP:World->Heap->Prop} {d:DefRec} {K:Params->PySem.W.Frag} {CX:World->CXT} {sp:World->Sp} {x:Str}
  (hn:l.most=some n) (hn2:n≤sizeLine) (hdf:d.params.defaults=[]) (hr:Room k callerA)
  (hY:∀ (w:World) (h:Heap),YP w h->(K w.params).In h)
  (F:∀ (w:World) (mg:Str->Option Value) (fa:Addr) (h:Heap),(K w.params).In h->h.Ns mainGlobals mg->mg d.name=some (.ref fa) ->
   ∃ fd:FuncData,(∀ (s:Shared) (u:Value),BindsTo s fd ⟨[u],[]⟩ [(x,u)]) ∧
    ∀ base:Heap,(K w.params).In base->base.Ns mainGlobals mg->FnOk l.prog w (K w.params) mg base (CX w) k fa fd [x] (sp w))
  (hsp:∀ (w:World) (H:Hp) (a:Addr) (ns:List Int),ns.length≤n->Only H->SqL (K w.params) H a (ns.map V.int)->sp w [.ref a] H (fun v _=>v=.bl true) fun _ _ _=>False)
  (hCX:∀ (w:World) (H:Hp) (s:Shared) (e:Value) (s':Shared),CX w [] H s (fun _ _ _=>False) e s'->False) :
  PySem.W.WalkO q loose XP YP l.row.toRowW d [] (fun f vs=>PySem.call f vs):=by
 refine Att.attach_call hn hdf fun w s₀ s₁ mg mb fa o pm cd doc a vs ns G Y ho hd hcd hmg hobj hints hlen hg=>?_
 have KX:=hY w _ Y
 obtain⟨fd,hb,hF⟩:=F w mg fa _ KX G.T.g hmg
 exact zog KX G.T.g G.T.b G.T.builtins G.T.nolimit hg hobj hints (Nat.le_trans hlen hn2) hr hF hb (fun H hO hS=>hsp w H a ns hlen hO hS) fun H e s'=>hCX w H s₁ e s'
end L2
namespace L2
open PySem PySem.Spec PyProof.Rows
def defArgs (s:Stmt):Arguments:=match s with
 | .FunctionDef _ a _ _ _ _ _ _ _ _=>a
 | _=>{ posonlyargs:=[],args:=[],vararg:=none,kwonlyargs:=[],kw_defaults:=[],kwarg:=none,defaults:=[] }
def defBody (s:Stmt):List Stmt:=match s with
 | .FunctionDef _ _ b _ _ _ _ _ _ _=>b
 | _=>[]
def defScope (s:Stmt):Scope:=match s with
 | .FunctionDef _ _ _ _ _ _ sc _ _ _=>sc
 | _=>{ kind:=.function,names:=[],isGenerator:=false,isCoroutine:=false }
abbrev CX0:CXT:=fun _ _ _ _ _ _=>False
abbrev E0:XK:=fun _ _ _=>False
theorem pass0 {X:Cx}:Passes CX0 X E0:=fun _ _ _ _ _ _ _ h=>h.elim
structure Fun (K:PySem.W.Frag) (x qual:Str) (st:Stmt) (f:Addr) (fd:FuncData):Prop where
 ex:∃ (oc:Value) (od:Option Addr) (kV doc pm:Value) (an:Option Addr) (cdv ct:Value) (osl:Array (Option Value)),
  fd=PySem.W.fnOf x qual (defArgs st) (defBody st) (defScope st) .none kV doc pm an cdv ct∧K.lookup f=some ⟨oc,od,.func fd,osl⟩∧PySem.W.codeIn K cdv qual=true
 kp:PySem.W.keepIn K (.ref f)=true
section
variable {P:Program} {w:World} {K:PySem.W.Frag} {mg:Str->Option Value} {base:Heap}
theorem Fun.ok {x qual:Str} {st:Stmt} {f:Addr} {fd:FuncData} {N ps:List Str} {k:Nat} {sp:Sp} (F:Fun K x qual st f fd) (S:FnScope N ps (defScope st)) (len:∀ vs H Q E,sp vs H Q E->vs.length=ps.length)
  (hbody:∀ (cdv:Value) (A:Around) (outer:List Env) (s:Shared) (H:Hp) (vs:List V) (Q:VK) (E:XK),Room k (A.deeper (envOfC qual (defScope st) s.heap.objs.size f cdv))->sp vs H Q E ->
   ∃ t,PSs (cxOf CX0 P w K mg base N qual (defScope st) f cdv A outer s H E).nox (defBody st) t∧t { nx:=fun _ H'=>Q .non H',rt:=Q } (start N vs) H):FnOk P w K mg base CX0 (k + 1) f fd ps sp:=by
 obtain⟨oc,od,kV,doc,pm,an,cdv,ct,osl,rfl,lk,hcd⟩:=F.ex
 refine zri lk hcd S len fun A outer s H vs Q E hr hsp=>?_
 obtain⟨t,h,q⟩:=hbody cdv A outer s H vs Q E hr hsp
 exact⟨t,h.nox,q⟩
theorem Fun.binds {x qual:Str} {st:Stmt} {f:Addr} {fd:FuncData} {ps:List Str} (F:Fun K x qual st f fd)
  (h:∀ (kV doc pm:Value) (an:Option Addr) (cdv ct:Value) (us:List Value),us.length=ps.length->bindArgs (PySem.W.fnOf x qual (defArgs st) (defBody st) (defScope st) .none kV doc pm an cdv ct) ⟨us,[]⟩=pure (ps.zip us)):Binds K fd ps []:=by
 obtain⟨oc,od,kV,doc,pm,an,cdv,ct,osl,rfl,lk,hcd⟩:=F.ex
 exact .all (h kV doc pm an cdv ct)
theorem zo7 {x qual:Str} {st:Stmt} {f:Addr} {oc:Value} {od an:Option Addr} {osl:Array (Option Value)} {kV doc pm cdv ct:Value} (l:K.lookup f=some ⟨oc,od,.func (PySem.W.fnOf x qual (defArgs st) (defBody st) (defScope st) .none kV doc pm an cdv ct),osl⟩)
  (c:PySem.W.codeIn K cdv qual=true) (k:PySem.W.keepIn K (.ref f)=true):Fun K x qual st f (PySem.W.fnOf x qual (defArgs st) (defBody st) (defScope st) .none kV doc pm an cdv ct):=⟨⟨oc,od,kV,doc,pm,an,cdv,ct,osl,rfl,l,c⟩,k⟩
end
section
variable {X:Cx}
theorem pv (i:Nat) {x:Str} {pos:Pos} (hN:X.N[i]?=some x:=by rfl) (hv:Vis X.env.scope x:=by first | exact Or.inl rfl | exact Or.inr (Or.inl rfl) | exact Or.inr (Or.inr rfl)) (hd:(x == ("__debug__":Str))=false:=by decide)
  (hcd:(x == ("__classdict__":Str))=false:=by decide):PE X (.Name x pos) (tVar i):=zqx hN hv hd hcd
end
theorem iteF {A B:Prop} (h:B):if false=true then A else B:=by
 rw[if_neg Bool.false_ne_true]
 exact h
theorem iteT {A B:Prop} (h:A):if true=true then A else B:=by
 rw[if_pos rfl]
 exact h
theorem ite2 {c A B:Prop} [Decidable c] (h1:c->A) (h2:¬ c->B):if c then A else B:=by
 by_cases h:c
 ·rw[if_pos h]
  exact h1 h
 ·rw[if_neg h]
  exact h2 h
theorem iteNS {c A B:Prop} [Decidable c] (hc:c) (h:B):if (!decide c)=true then A else B:=by
 rw[decide_eq_true hc]
 exact iteF h
def Same (H H':Hp):Prop:=∀ b o,H b=some o->H' b=some o
theorem Same.refl (H:Hp):Same H H:=fun _ _ h=>h
theorem Same.trans {H H1 H2:Hp} (a:Same H H1) (b:Same H1 H2):Same H H2:=fun c o h=>b c o (a c o h)
theorem Same.free {H H':Hp} (e:Same H H') {l:Addr} (h:H' l=Option.none):H l=Option.none:=by
 cases q:H l with
 | none=>rfl
 | some o =>
  rw[e l o q] at h
  cases h
theorem Same.seq {K:PySem.W.Frag} {H H':Hp} {a:Addr} {xs:List V} (e:Same H H') (h:SqL K H a xs):SqL K H' a xs:=by
 rcases h with (h | ⟨o,h⟩) | h
 ·exact .inl (.inl (e _ _ h))
 ·exact .inl (.inr ⟨o,e _ _ h⟩)
 ·exact .inr h
end L2
namespace L2
open PySem PySem.Spec PyProof.Rows
section
variable {κ:Type} [DecidableEq κ]
def valV (kvs:List (κ × V)) (k:κ):Option V:=(kvs.find? fun kv=>decide (kv.1=k)).map (·.2)
def putK (kvs:List (κ × V)) (k:κ) (v:V):List (κ × V) :=
 if (kvs.any fun kv=>decide (kv.1=k))=true then kvs.map (fun kv=>if kv.1=k then (kv.1,v) else kv) else kvs++[(k,v)]
def dropK (kvs:List (κ × V)) (k:κ):List (κ × V):=kvs.filter fun kv=>decide (kv.1≠k)
theorem zbo {p:κ × V} {r:List (κ × V)} {k:κ} (e:p.1=k):valV (p::r) k=some p.2:=by simp [valV,List.find?_cons,e]
theorem zbp {p:κ × V} {r:List (κ × V)} {k:κ} (e:¬ p.1=k):valV (p::r) k=valV r k:=by simp [valV,List.find?_cons,e]
theorem zej (k:κ):∀ kvs:List (κ × V),(kvs.any fun kv=>decide (kv.1=k))=(valV kvs k).isSome
 | []=>rfl
 | p::r=>by
  rw[List.any_cons]
  by_cases e:p.1=k
  ·simp only [zbo e,decide_eq_true e,Bool.true_or,Option.isSome_some]
  ·rw[zbp e,decide_eq_false e,Bool.false_or];exact zej k r
theorem zj8 (k j:κ) (y:V):∀ kvs:List (κ × V),valV (kvs.map fun kv=>if kv.1=k then (kv.1,y) else kv) j=(valV kvs j).map fun x=>if j=k then y else x
 | []=>rfl
 | p::r=>by
  have ih:=zj8 k j y r
  rw[List.map_cons]
  by_cases h:p.1=k
  ·rw[if_pos h]
   by_cases e:p.1=j
   ·rw[zbo (p:=(p.1,y)) e,zbo e,Option.map_some,if_pos (e.symm.trans h)]
   ·rw[zbp (p:=(p.1,y)) e,zbp e,ih]
  ·rw[if_neg h]
   by_cases e:p.1=j
   ·rw[zbo (p:=p) e,zbo e,Option.map_some,if_neg (fun z=>h (e.trans z))]
   ·rw[zbp (p:=p) e,zbp e,ih]
theorem zhj (k j:κ) (y:V):∀ kvs:List (κ × V),valV kvs k=none->valV (kvs++[(k,y)]) j=if j=k then some y else valV kvs j
 | [],_=>by
  by_cases e:k=j
  ·rw[if_pos e.symm];exact zbo (p:=(k,y)) e
  ·rw[if_neg (fun z=>e z.symm)];exact zbp (p:=(k,y)) e
 | p::r,hn=>by
  rw[List.cons_append]
  have hk:¬ p.1=k:=fun z=>by rw[zbo z] at hn;cases hn
  rw[zbp hk] at hn
  have ih:=zhj k j y r hn
  by_cases e:p.1=j
  ·rw[zbo e,zbo e,if_neg (fun z=>hk (e.trans z))]
  ·rw[zbp e,zbp e,ih]
theorem zj7 (kvs:List (κ × V)) (k j:κ) (y:V):valV (putK kvs k y) j=if j=k then some y else valV kvs j:=by
 unfold putK
 by_cases a:(kvs.any fun kv=>decide (kv.1=k))=true
 ·rw[if_pos a,zj8]
  rw[zej] at a
  by_cases e:j=k
  ·obtain⟨x,hx⟩:=Option.isSome_iff_exists.mp a
   rw[if_pos e,e,hx,Option.map_some,if_pos rfl]
  ·rw[if_neg e]
   cases valV kvs j with
   | none=>rfl
   | some x=>rw[Option.map_some,if_neg e]
 ·rw[if_neg a]
  refine zhj k j y kvs ?_
  rw[zej] at a
  cases q:valV kvs k with
  | none=>rfl
  | some x=>rw[q] at a;exact (a rfl).elim
theorem zco (kvs:List (κ × V)) (k:κ) (v:V):(putK kvs k v).length≤kvs.length + 1:=by
 unfold putK
 split
 ·rw[List.length_map];trivial
 ·rw[List.length_append,List.length_cons,List.length_nil];trivial
theorem RelO.isSome_eq {o:Option V} {u:Option Value} (r:RelO o u):o.isSome=u.isSome:=by
 cases o with
 | none=>cases u with
  | none=>rfl
  | some _=>exact (show False from r).elim
 | some _=>cases u with
  | none=>exact (show False from r).elim
  | some _=>rfl
theorem KV.val {kvs:List (κ × V)} {vs:List (κ × Value)} (r:KV kvs vs) (k:κ):RelO (valV kvs k) (valueAt vs k):=by
 unfold KV at r
 induction r with
 | nil=>exact True.intro
 | @cons p q ps qs h t ih =>
  obtain⟨h1,h2⟩:=h
  by_cases e:p.1=k
  ·have e':q.1=k:=h1.symm.trans e
   have b:valueAt (q::qs) k=some q.2:=by simp [valueAt,List.find?_cons,e']
   rw[zbo e,b];exact h2
  ·have e':¬ q.1=k:=fun z=>e (h1.trans z)
   have b:valueAt (q::qs) k=valueAt qs k:=by simp [valueAt,List.find?_cons,e']
   rw[zbp e,b];exact ih
theorem KV.any {kvs:List (κ × V)} {vs:List (κ × Value)} (r:KV kvs vs) (k:κ):(kvs.any fun kv=>decide (kv.1=k))=vs.any fun kv=>decide (kv.1=k):=by
 unfold KV at r
 induction r with
 | nil=>rfl
 | cons h t ih=>rw[List.any_cons,List.any_cons,ih,h.1]
theorem KV.repl {kvs:List (κ × V)} {vs:List (κ × Value)} (r:KV kvs vs) (k:κ) {y:V} {u:Value} (ry:RelV y u) :
  KV (kvs.map fun kv=>if kv.1=k then (kv.1,y) else kv) (vs.map fun kv=>if kv.1=k then (kv.1,u) else kv):=by
 unfold KV at r ⊢
 induction r with
 | nil=>exact .nil
 | @cons p q ps qs h t ih =>
  rw[List.map_cons,List.map_cons]
  refine .cons ?_ ih
  obtain⟨h1,h2⟩:=h
  by_cases e:p.1=k
  ·rw[if_pos e,if_pos (h1.symm.trans e)];exact⟨h1,ry⟩
  ·rw[if_neg e,if_neg (fun z=>e (h1.trans z))];exact⟨h1,h2⟩
theorem KV.put {kvs:List (κ × V)} {vs:List (κ × Value)} (r:KV kvs vs) (k:κ) {y:V} {u:Value} (ry:RelV y u):KV (putK kvs k y) (stored vs k u):=by
 unfold putK stored
 rw[r.any k]
 by_cases e:(vs.any fun kv=>decide (kv.1=k))=true
 ·rw[if_pos e,if_pos e];exact r.repl k ry
 ·rw[if_neg e,if_neg e];exact Paired.snoc r ⟨rfl,ry⟩
theorem KV.length {kvs:List (κ × V)} {vs:List (κ × Value)} (r:KV kvs vs):kvs.length=vs.length:=Paired.length r
end
theorem zoh {P:Program} {w:World} {k:Key} {u:Value} (r:RelV (kV k) u):(mixKind P w).is k u=true:=by
 cases k with
 | inl i=>obtain⟨t,e⟩:=(show ∃ t,u=Value.int i t from r);subst e;exact zjp P w i t
 | inr x=>obtain⟨t,e⟩:=(show ∃ t,u=Value.str x t from r);subst e;exact zjo P w x t
theorem zib {P:Program} {w:World}:∀ {ks:List Key} {us:List Value},Vals (ks.map kV) us->ItemsAre (mixKind P w) ks us
 | [],_,r=>by rw[List.map_nil] at r;cases r;exact .nil
 | k::ks,_,r=>by
  rw[List.map_cons] at r
  cases r with
  | cons h t=>exact .cons (zoh h) (zib t)
abbrev KT (H:Hp):List (List Key × V)->List (List Key × Addr × Value)->Prop:=Paired fun p q=>p.1=q.1∧H q.2.1=some (.tup (p.1.map kV))∧RelV p.2 q.2.2
theorem KT.val {H:Hp} {kvs:List (List Key × V)} {xs:List (List Key × Addr × Value)} (r:KT H kvs xs) (k:List Key):RelO (valV kvs k) ((atKey xs k).map (·.2)):=by
 induction r with
 | nil=>exact True.intro
 | @cons p q ps qs h t ih =>
  obtain⟨h1,_,h2⟩:=h
  by_cases e:p.1=k
  ·have e':q.1=k:=h1.symm.trans e
   have b:atKey (q::qs) k=some q.2:=by simp [atKey,List.find?_cons,e']
   rw[zbo e,b];exact h2
  ·have e':¬ q.1=k:=fun z=>e (h1.trans z)
   have b:atKey (q::qs) k=atKey qs k:=by simp [atKey,List.find?_cons,e']
   rw[zbp e,b];exact ih
theorem KT.repl {H:Hp} {kvs:List (List Key × V)} {xs:List (List Key × Addr × Value)} (r:KT H kvs xs) (k:List Key) {y:V} {u:Value} (ry:RelV y u) :
  KT H (kvs.map fun kv=>if kv.1=k then (kv.1,y) else kv) (xs.map (putAt k u)):=by
 induction r with
 | nil=>exact .nil
 | @cons p q ps qs h t ih =>
  rw[List.map_cons,List.map_cons]
  refine .cons ?_ ih
  obtain⟨h1,h2,h3⟩:=h
  unfold putAt
  by_cases e:p.1=k
  ·rw[if_pos e,if_pos (h1.symm.trans e)];exact⟨h1,h2,ry⟩
  ·rw[if_neg e,if_neg (fun z=>e (h1.trans z))];exact⟨h1,h2,h3⟩
theorem KT.put {H:Hp} {kvs:List (List Key × V)} {xs:List (List Key × Addr × Value)} (r:KT H kvs xs) (k:List Key) {b:Addr} {y:V} {u:Value} (hb:H b=some (.tup (k.map kV))) (ry:RelV y u) :
  KT H (putK kvs k y) (storedH xs k b u):=by
 have e:(kvs.any fun kv=>decide (kv.1=k))=(atKey xs k).isSome:=by
  rw[zej,(r.val k).isSome_eq,Option.isSome_map]
 unfold putK storedH
 rw[e]
 by_cases q:(atKey xs k).isSome=true
 ·rw[if_pos q,if_pos q];exact r.repl k ry
 ·rw[if_neg q,if_neg q];exact Paired.snoc r ⟨rfl,hb,ry⟩
theorem KT.keeps {H H':Hp} {kvs:List (List Key × V)} {xs:List (List Key × Addr × Value)} (r:KT H kvs xs) (ht:∀ b ys,H b=some (.tup ys)->H' b=some (.tup ys)):KT H' kvs xs :=
 Paired.mapP r fun _ _ z=>⟨z.1,ht _ _ z.2.1,z.2.2⟩
section
variable {P:Program} {w:World} {H:Hp} {h:Heap} {a:Addr}
theorem zqt {u:HO} (ok:HOk P w H h) (e:Rd H a u):ObjOk P w H h a u:=e.ok ok
theorem zot {kvs:List (Key × V)} (ok:HOk P w H h) (e:Rd H a (.dK kvs)):kvs.length≤sizeLine∧(a == sysModules)=false∧∃ vs,KV kvs vs∧h.DictOf (mixKind P w) a vs :=
 show ObjOk P w H h a (.dK kvs) from zqt ok e
theorem zrk {kvs:List (Key × V)} (ok:HOk P w H h) (e:H a=some (.dK kvs)):kvs.length≤sizeLine∧(a == sysModules)=false∧∃ vs,KV kvs vs∧h.DictOf (mixKind P w) a vs:=zot ok (.inl e)
theorem zkj {ks:List Key} (ok:HOk P w H h) (e:H a=some (.tup (ks.map kV))):(tupleKind (mixKind P w)).is h ks a:=by
 obtain⟨_,its,r,o,h1,h2,⟨n,h3⟩,_⟩:=(show ObjOk P w H h a (.tup (ks.map kV)) from ok a _ e)
 exact⟨o,its.toArray,n,h1,h2,h3,by simpa using zib r⟩
theorem zoq {kvs:List (List Key × V)} (ok:HOk P w H h) (e:Rd H a (.dT kvs)):kvs.length≤sizeLine∧(a == sysModules)=false ∧
  ∃ xs,KT H kvs xs∧h.DictOfH (tupleKind (mixKind P w)) a xs:=by
 obtain⟨z,y,xs,r,o,es,ep,h1,h2,h3,h4,h5⟩:=(show ObjOk P w H h a (.dT kvs) from zqt ok e)
 refine⟨z,y,xs,r,o,es,ep,h1,h2,h3,h4,fun x hx=>?_,h5⟩
 have all:∀ {l:List (List Key × V)} {m:List (List Key × Addr × Value)},KT H l m->∀ x ∈ m,(tupleKind (mixKind P w)).is h x.1 x.2.1:=by
  intro l m q
  induction q with
  | nil=>intro x hx;exact nomatch hx
  | @cons p q ps qs hq t ih =>
   intro x hx
   rcases List.mem_cons.mp hx with e | hx
   ·subst e
    exact zkj ok (by rw[← hq.1];exact hq.2.1)
   ·exact ih x hx
 exact all r x hx
theorem zrj {kvs:List (List Key × V)} (ok:HOk P w H h) (e:H a=some (.dT kvs)):kvs.length≤sizeLine∧(a == sysModules)=false ∧
  ∃ xs,KT H kvs xs∧h.DictOfH (tupleKind (mixKind P w)) a xs:=zoq ok (.inl e)
end
def DGet (H:Hp) (a:Addr) (y:V) (r:Option V):Prop :=
 (∃ kvs k,Rd H a (.dK kvs)∧y=kV k∧r=valV kvs k)∨∃ kvs k b,Rd H a (.dT kvs)∧y=.ref b∧H b=some (.tup (k.map kV))∧r=valV kvs k
def DPut (H:Hp) (a:Addr) (y v:V) (H':Hp):Prop :=
 (∃ kvs k,H a=some (.dK kvs)∧y=kV k∧kvs.length < sizeLine∧H'=upd H a (.dK (putK kvs k v))) ∨
 ∃ kvs k b,H a=some (.dT kvs)∧y=.ref b∧H b=some (.tup (k.map kV))∧kvs.length < sizeLine∧H'=upd H a (.dT (putK kvs k v))
theorem DGet.t {H:Hp} {a b:Addr} {kvs:List (List Key × V)} {k:List Key} (e:H a=some (.dT kvs)) (eb:H b=some (.tup (k.map kV))):DGet H a (.ref b) (valV kvs k):=.inr ⟨kvs,k,b,.inl e,rfl,eb,rfl⟩
theorem DPut.t {H:Hp} {a b:Addr} {kvs:List (List Key × V)} {k:List Key} {v:V} (e:H a=some (.dT kvs)) (eb:H b=some (.tup (k.map kV))) (hl:kvs.length < sizeLine) :
  DPut H a (.ref b) v (upd H a (.dT (putK kvs k v))):=.inr ⟨kvs,k,b,e,rfl,eb,hl,rfl⟩
section
variable {X:Cx} {pins:List (Addr × Obj)} {σ:St} {H:Hp} {s:Shared} {a:Addr} {y v:V} {u r:Value} {o:Option V} {A:Around} {E:Value->Shared->Prop}
theorem Inv.big (I:Inv X pins σ H s):sysModules < s.heap.objs.size:=by
 have h:mainGlobals < s.heap.objs.size:=(I.mod.glob.keeps I.bk).lt
 exact Nat.lt_trans (by decide) h
theorem zm7 {Q:Value->Shared->Prop} (hu:A.units + 1 < cLine) (I:Inv X pins σ H s) (g:DGet H a y (some v)) (ry:RelV y u) (h:∀ w' s',Inv X pins σ H s'->RelV v w'->Q w' s') :
  wpAny (model X.prog X.w) A (getItem (.ref a) u) Q E s:=by
 rcases g with ⟨kvs,k,e,ey,l⟩ | ⟨kvs,k,b,e,ey,eb,l⟩
 ·subst ey
  obtain⟨z,hd,vs,rel,dd⟩:=zot I.hok e
  obtain⟨w',hw,rw'⟩:=RelO.some_of (v:=v) (o:=valueAt vs k) (by rw[l];exact rel.val k)
  exact wpAny_getItem_of (zoh ry) dd.mapOf hw (h w' _ (I.tok _) rw')
 ·subst ey
  cases (show u=Value.ref b from ry)
  obtain⟨z,hd,xs,rel,dd⟩:=zoq I.hok e
  obtain⟨w',hw,rw'⟩:=RelO.some_of (v:=v) (o:=(atKey xs k).map (·.2)) (by rw[l];exact rel.val k)
  obtain⟨p,hp,hp2⟩:=Option.map_eq_some_iff.mp hw
  refine wpAny_getItem_heap (tupleKind_room_in1 hu) (zkj I.hok eb) dd hp ?_
  rw[hp2]
  exact h w' _ (I.tok _) rw'
theorem zqb {Q:Value->Shared->Prop} (hu:A.units + 1 < cLine) (I:Inv X pins σ H s) (g:DGet H a y o) (ry:RelV y u) (h:∀ s',Inv X pins σ H s'->Q (.bool (!o.isSome)) s') :
  wpAny (model X.prog X.w) A (compareOp .NotIn u (.ref a)) Q E s:=by
 rcases g with ⟨kvs,k,e,ey,l⟩ | ⟨kvs,k,b,e,ey,eb,l⟩
 ·subst ey
  obtain⟨z,hd,vs,rel,dd⟩:=zot I.hok e
  refine wpAny_notIn_of (zoh ry) hd dd.mapOf ?_
  rw[← (rel.val k).isSome_eq,← l]
  exact h _ (I.tok _)
 ·subst ey
  cases (show u=Value.ref b from ry)
  obtain⟨z,hd,xs,rel,dd⟩:=zoq I.hok e
  refine wpAny_notIn_heap (tupleKind_room_in1 hu) (zkj I.hok eb) hd dd ?_
  have q:=(rel.val k).isSome_eq
  rw[Option.isSome_map] at q
  rw[← q,← l]
  exact h _ (I.tok _)
theorem zm5 {h':Heap} {t':Nat} {ob:HO} (I:Inv X pins σ H s) (mu:Mut (H a)) (hs:Heap.SameBut a s.heap h') (he:∃ q,h'.get? a=some q) (new:ObjOk X.prog X.w (upd H a ob) h' a ob) :
  Inv X pins σ (upd H a ob) { s with heap:=h',toks:=t' } :=
 I.write (x:=a) (e:=a) mu (.inl rfl) (fun b q hb z=>(hs.2 b hb).trans z) he new
theorem zrb {P:Program} {w:World} {H':Hp} {h':Heap} {kvs:List (Key × V)} {vs:List (Key × Value)} (z:kvs.length≤sizeLine) (hd:(a == sysModules)=false) (rel:KV kvs vs) (dd:h'.DictOf (mixKind P w) a vs) :
  ObjOk P w H' h' a (.dK kvs):=⟨z,hd,vs,rel,dd⟩
theorem zm6 {H':Hp} {Q:Unit->Shared->Prop} (hu:A.units + 1 < cLine) (I:Inv X pins σ H s) (g:DPut H a y v H') (ry:RelV y u) (rv:RelV v r) (h:∀ s',Inv X pins σ H' s'->Q () s') :
  wpAny (model X.prog X.w) A (setItem (.ref a) u r) Q E s:=by
 rcases g with ⟨kvs,k,e,ey,l,eH⟩ | ⟨kvs,k,b,e,ey,eb,l,eH⟩
 ·subst ey eH
  obtain⟨z,hd,vs,rel,dd⟩:=zrk I.hok e
  have hz:vs.length≤sizeLine:=by rw[← rel.length];exact z
  have hl:(putK kvs k v).length≤sizeLine:=by have:=zco kvs k v;trivial
  refine wpAny_setItem_pairs (hsz:=hz) (zoh ry) dd fun h' dd' hs=>h _ ?_
  have he:∃ q,h'.get? a=some q:=let ⟨q,_,_,hq,_⟩:=dd';⟨q,hq⟩
  exact zm5 I (by rw[e];exact True.intro) hs he (zrb hl hd (rel.put k rv) dd')
 ·subst ey eH
  cases (show u=Value.ref b from ry)
  obtain⟨z,hd,xs,rel,dd⟩:=zrj I.hok e
  have hz:xs.length≤sizeLine:=by rw[← Paired.length rel];exact z
  have hl:(putK kvs k v).length≤sizeLine:=by have:=zco kvs k v;trivial
  refine wpAny_setItem_heap (hsz:=hz) (tupleKind_room_in1 hu) (zkj I.hok eb) dd fun h' dd' hs=>h _ ?_
  obtain⟨q,es,ep,hq,h2,h3,h4,_,h5⟩:=dd'
  refine zm5 I (by rw[e];exact True.intro) hs ⟨q,hq⟩ ⟨hl,hd,_,(rel.put k eb rv).keeps fun c ys ec=>?_,q,es,ep,hq,h2,h3,h4,h5⟩
  rw[zat (zrh ec e (fun z=>nomatch z))]
  exact ec
end
section
variable {X:Cx} {pins:List (Addr × Obj)} {σ:St} {H:Hp} {s:Shared} {a:Addr} {kvs:List (Key × V)} {k:Key} {u:Value} {A:Around} {E:Value->Shared->Prop}
end
def NoSl (i:Expr):Prop:=∀ ov iv,subscripted i false ov iv=operate [ov,iv] (getItem ov iv)
theorem zpn {prog:Program} {w:World} {A:Around} {E:Value->Shared->Prop} {s:Shared} {env:Env} {value slice:Expr} {pos:Pos} {T id:String} {Q:Value->Shared->Prop}
  (hl:typeLookup (.type T) "__getitem__"=pure (some (.builtin id))) (hs:NoSl slice)
  (h:wpAny (model prog w) A (eval value env) (fun o s₁=>wpAny (model prog w) A (eval slice env) (fun i s₂=>s₂.TypeIs o T∧wpAny (model prog w) A (getItem o i) Q E s₂) E s₁) E s) :
  wpAny (model prog w) A (eval (.Subscript value slice pos) env) Q E s:=by
 refine Subscript_ (wpAny_mono h (fun o s₁ h₁=>wpAny_mono h₁ (fun i s₂ h₂=>?_) fun _ _ x=>x) fun _ _ x=>x)
 obtain⟨hT,h₂⟩:=h₂
 unfold subscriptTail
 refine wpAny_bind ?_
 rw[getitemInPython_of_ne hT.not_modules]
 refine wpAny_bind (wpAny_specialOf hT hl ?_)
 have fin:wpAny (model prog w) A (subscripted slice false o i) (fun r s₃=>wpAny (model prog w) A (letTemporaryGo value o r >>= fun _=>pure r) Q E s₃) E s₂:=by
  rw[hs o i]
  exact wpAny_operating (wpAny_mono h₂ (fun r s₃ h₃=>wpAny_bind (wpAny_letTemporaryGo (wpAny_pure h₃))) fun _ _ x=>x)
 first
  | exact wpAny_pure (wpAny_bind fin)
  | exact wpAny_bind (wpAny_pure (wpAny_bind fin))
  | exact wpAny_bind fin
theorem zjt {X:Cx} {pins:List (Addr × Obj)} {σ:St} {H:Hp} {s:Shared} {a:Addr} {y:V} {o:Option V} (I:Inv X pins σ H s) (g:DGet H a y o):s.TypeIs (.ref a) "dict":=by
 rcases g with ⟨kvs,k,e,_,_⟩ | ⟨kvs,k,b,e,_,_,_⟩
 ·obtain⟨_,_,vs,_,dd⟩:=zot I.hok e
  exact dd.typeIs
 ·obtain⟨_,_,xs,_,dd⟩:=zoq I.hok e
  exact dd.typeIs
def tDGet (td ty:TE):TE:=fun σ H Q=>td σ H fun x H1=>ty σ H1 fun y H2=>∃ a v,x=.ref a∧DGet H2 a y (some v)∧Q v H2
def tDNotIn (ty td:TE):TE:=fun σ H Q=>ty σ H fun y H1=>td σ H1 fun x H2=>∃ a o,x=.ref a∧DGet H2 a y o∧Q (.bl (!o.isSome)) H2
def sDPut (td ty tv:TE):TS:=fun D σ H=>tv σ H fun v H1=>td σ H1 fun x H2=>ty σ H2 fun y H3=>∃ a H4,x=.ref a∧DPut H3 a y v H4∧D.nx σ H4
section
variable {X:Cx} {o i e value:Expr} {pos pos' tpos:Pos} {td ty tv:TE}
theorem zpw (hu:X.A.units + 1 < cLine) (ho:PE X o td) (hi:PE X i ty) (hs:NoSl i):PE X (.Subscript o i pos) (tDGet td ty):=by
 intro pins s σ H Q I h
 refine zpn PySem.F.slot_dict_getitem.lookup hs (thn (ho pins s σ H _ I h) fun u s1 ⟨x,H1,I1,rx,q1⟩=>thn (hi pins s1 σ H1 _ I1 q1) fun iv s2 ⟨y,H2,I2,ry,a,v,ex,g,q2⟩=>?_)
 subst ex
 obtain rfl:u=Value.ref a:=rx
 exact⟨zjt I2 g,zm7 hu I2 g ry fun w' s3 I3 rw'=>⟨v,H2,I3,rw',q2⟩⟩
theorem zmb (hu:X.A.units + 1 < cLine) (hi:PE X i ty) (ho:PE X o td):PC X .NotIn i o (tDNotIn ty td):=by
 intro pins s σ H Q I h
 refine thn (hi pins s σ H _ I h) fun iv s1 ⟨y,H1,I1,ry,q1⟩=>thn (ho pins s1 σ H1 _ I1 q1) fun u s2 ⟨x,H2,I2,rx,a,ov,ex,g,q2⟩=>?_
 subst ex
 obtain rfl:u=Value.ref a:=rx
 exact zqb hu I2 g ry fun s3 I3=>⟨.bl (!ov.isSome),H2,I3,rfl,q2⟩
theorem zl7 (hu:X.A.units + 1 < cLine) (ho:PE X o td) (hi:PE X i ty) (hv:PE X value tv) (hs:swapsWith value (some (.Subscript o i pos')) pos.line X.env=pure false) :
  PS X (.Assign [.Subscript o i pos'] value pos) (sDPut td ty tv):=by
 intro pins s σ H D I h
 refine wpAny_Assign_Subscript (thn (hv pins s σ H _ I h) fun r s1 ⟨v,H1,I1,rv,q1⟩=>thn (ho pins s1 σ H1 _ I1 q1) fun u s2 ⟨x,H2,I2,rx,q2⟩=>thn (hi pins s2 σ H2 _ I2 q2) fun iv s3 ⟨y,H3,I3,ry,a,H4,ex,g,q3⟩=>?_) hs
 subst ex
 obtain rfl:u=Value.ref a:=rx
 exact zm6 hu I3 g ry rv fun s4 I4=>⟨σ,H4,I4,q3⟩
end
theorem zor {P:Program} {w:World} {H:Hp} (h:Heap) (hb:sysModules < h.objs.size):ObjOk P w H (h.push { cls:=.type "dict",data:=.dict #[] }) h.objs.size (.dT []) :=
 ⟨Nat.zero_le _,beq_eq_false_iff_ne.mpr (Ne.symm (Nat.ne_of_lt hb)),[],.nil,_,#[],0,Heap.get?_push_size _ rfl,⟨rfl,rfl,rfl⟩,rfl,rfl,List.nodup_nil⟩
def tDNewT:TE:=fun _ H Q=>∀ p,H p=none->Q (.ref p) (upd H p (.dT []))
section
variable {X:Cx} {pos:Pos}
theorem zob:PE X (.Dict [] [] pos) tDNewT:=fun pins s σ H Q I h =>
 wpAny_Dict_empty ⟨.ref s.heap.objs.size,_,I.laid (a:=s.heap.objs.size) (o:=.dT []) (t':=s.toks) (fun _ _ q=>Heap.get?_push_of_some _ q) (Nat.le_refl _) (zor s.heap I.big),rfl,h _ (I.hok.fresh (Nat.le_refl _))⟩
end
end L2
set_option maxHeartbeats 4000000
namespace Srt
open PySem PySem.W PyProof.Rows
section
variable {N:Nat} {r:Nat->Int} {cmp:Nat->Nat->(Bool->Shared->Prop)->Shared->Prop} {s:Shared}
def ky (r:Nat->Int) (p:Array Nat) (m:Nat):Int:=r (p.getD m 0)
def Up (r:Nat->Int) (p:Array Nat) (n:Nat):Prop:=∀ i j,i≤j->j < n->ky r p i≤ky r p j
def Dn (r:Nat->Int) (p:Array Nat) (n:Nat):Prop:=∀ i j,i≤j->j < n->ky r p j≤ky r p i
def Ask (N:Nat) (r:Nat->Int) (cmp:Nat->Nat->(Bool->Shared->Prop)->Shared->Prop) (s:Shared):Prop :=
 ∀ i j C,i < N->j < N->C (decide (r i < r j)) s->cmp i j C s
def Gd (N:Nat) (p:Array Nat):Prop:=p.Perm (List.toArray (List.range N))
theorem Gd.sz {p:Array Nat} (g:Gd N p):p.size=N:=by
 have:=g.size_eq
 simpa using this
theorem Gd.lt {p:Array Nat} (g:Gd N p) (h:0 < N) (m:Nat):p.getD m 0 < N:=by
 by_cases hm:m < p.size
 ·have e:p.getD m 0=p[m]:=by simp [Array.getD,hm]
  rw[e]
  have h1:p[m] ∈ p:=Array.getElem_mem hm
  have h2:p[m] ∈ List.toArray (List.range N):=g.mem_iff.mp h1
  simpa using h2
 ·have e:p.getD m 0=0:=by simp [Array.getD,hm]
  trivial
theorem zmr {p q:Array Nat} {i j:Nat} (h:p[i]?=q[j]?):ky r p i=ky r q j:=by
 have e:∀ (a:Array Nat) (k:Nat),a.getD k 0=(a[k]?).getD 0:=fun a k=>by
  by_cases hk:k < a.size <;> simp [Array.getD,hk]
 unfold ky
 rw[e,e,h]
theorem zmq {p:Array Nat} {i j:Nat} (hj:j≤p.size) (k:Nat):ky r (kas_rev p i j) k=if i≤k∧k < j then ky r p (i + j - 1 - k) else ky r p k:=by
 have e:=getElem?_mirror_all (i:=i) hj k
 by_cases h:i≤k∧k < j
 ·rw[if_pos h] at e ⊢
  exact zmr e
 ·rw[if_neg h] at e ⊢
  exact zmr e
theorem zq4 {p:Array Nat} {k d:Nat} (hs:k < p.size) (hd:d≤k) (m:Nat) :
  ky r (bubble p k d) m=if m=k - d then ky r p k else if k - d < m∧m≤k then ky r p (m - 1) else ky r p m:=by
 have e:=getElem?_bubble hs d hd m
 by_cases h1:m=k - d
 ·rw[if_pos h1] at e ⊢
  exact zmr e
 ·rw[if_neg h1] at e ⊢
  by_cases h2:k - d < m∧m≤k
  ·rw[if_pos h2] at e ⊢
   exact zmr e
  ·rw[if_neg h2] at e ⊢
   exact zmr e
theorem Gd.rev {p:Array Nat} (g:Gd N p) (i j:Nat):Gd N (kas_rev p i j):=(mirror_perm p i j _).trans g
theorem Gd.bub {p:Array Nat} (g:Gd N p) (i j:Nat):Gd N (bubble p i j):=(bubble_perm p i j).trans g
theorem znp (h:Ask N r cmp s) (hN:0 < N) {p:Array Nat} (g:Gd N p) {Q:Nat->Shared->Prop}:∀ f n,1≤n->Up r p n ->
  (∀ m,n≤m->m≤n + f->Up r p m->(m < n + f->ky r p m < ky r p (m - 1))->Q m s)->(kas_asc p f n).kasWp cmp Q s
 | 0,n,_,hu,q=>q n (Nat.le_refl _) (Nat.le_refl _) hu (fun z=>absurd z (Nat.lt_irrefl _))
 | f + 1,n,h1,hu,q=>by
  refine h _ _ _ (g.lt hN _) (g.lt hN _) ?_
  by_cases c:r (p.getD n 0) < r (p.getD (n - 1) 0)
  ·rw[decide_eq_true c]
   exact q n (Nat.le_refl _) (by trivial) hu (fun _=>c)
  ·rw[decide_eq_false c]
   refine znp h hN g f (n + 1) (by trivial) (fun i j hij hj=>?_) (fun m a b u d=>q m (by trivial) (by trivial) u (fun z=>d (by trivial)))
   have c':ky r p (n - 1)≤ky r p n:=by unfold ky;trivial
   by_cases e:j=n
   ·subst e
    by_cases e2:i=j
    ·subst e2;exact Int.le_refl _
    ·exact Int.le_trans (hu i (j - 1) (by trivial) (by trivial)) c'
   ·exact hu i j hij (by trivial)
theorem ze7 {p:Array Nat} {i j:Nat} (hj:j≤p.size) (v:Int) (he:∀ k,i≤k->k < j->ky r p k=v) (k:Nat):ky r (kas_rev p i j) k=ky r p k:=by
 rw[zmq hj]
 split
 ·rename_i c
  rw[he _ (by trivial) (by trivial),he k c.1 c.2]
 ·rfl
theorem zg0 (h:Ask N r cmp s) (hN:0 < N) {Q:Array Nat × Nat × Nat->Shared->Prop}:∀ f p n q,Gd N p->1≤n->n + f≤N->Dn r p n->q + 1≤n->(∀ i,n - (q + 1)≤i->i < n->ky r p i=ky r p (n - 1)) ->
  (∀ p' n' q',Gd N p'->n≤n'->n'≤n + f->Dn r p' n'->q' + 1≤n'->(∀ i,n' - (q' + 1)≤i->i < n'->ky r p' i=ky r p' (n' - 1))->Q (p',n',q') s)->(kas_desc f p n q).kasWp cmp Q s
 | 0,p,n,q,g,_,_,hd,hq,he,z=>z p n q g (Nat.le_refl _) (Nat.le_refl _) hd hq he
 | f + 1,p,n,q,g,h1,hf,hd,hq,he,z=>by
  refine h _ _ _ (g.lt hN _) (g.lt hN _) ?_
  by_cases c:r (p.getD n 0) < r (p.getD (n - 1) 0)
  ·rw[decide_eq_true c]
   have c':ky r p n < ky r p (n - 1):=c
   have dn:∀ {p':Array Nat},(∀ k,ky r p' k=ky r p k)->Dn r p' (n + 1):=fun e i j hij hj=>by
    rw[e,e]
    by_cases ej:j=n
    ·subst ej
     by_cases ei:i=j
     ·subst ei;exact Int.le_refl _
     ·exact Int.le_trans (Int.le_of_lt c') (hd i (j - 1) (by trivial) (by trivial))
    ·exact hd i j hij (by trivial)
   show KasT.kasWp cmp (if q > 0 then kas_desc f (kas_rev p (n - (q + 1)) n) (n + 1) 0 else kas_desc f p (n + 1) 0) Q s
   by_cases hq0:q > 0
   ·rw[if_pos hq0]
    have e:=ze7 (r:=r) (p:=p) (i:=n - (q + 1)) (j:=n) (by rw[g.sz];trivial) (ky r p (n - 1)) he
    exact zg0 h hN f _ (n + 1) 0 (g.rev _ _) (by trivial) (by trivial) (dn e) (by trivial) (fun i a b=>by congr 1;trivial)
     (fun p' n' q' g' a b d e1 e2=>z p' n' q' g' (by trivial) (by trivial) d e1 e2)
   ·rw[if_neg hq0]
    exact zg0 h hN f _ (n + 1) 0 g (by trivial) (by trivial) (dn fun _=>rfl) (by trivial) (fun i a b=>by congr 1;trivial)
     (fun p' n' q' g' a b d e1 e2=>z p' n' q' g' (by trivial) (by trivial) d e1 e2)
  ·rw[decide_eq_false c]
   refine h _ _ _ (g.lt hN _) (g.lt hN _) ?_
   by_cases d:r (p.getD (n - 1) 0) < r (p.getD n 0)
   ·rw[decide_eq_true d]
    exact z p n q g (Nat.le_refl _) (by trivial) hd hq he
   ·rw[decide_eq_false d]
    have e:ky r p n=ky r p (n - 1):=by unfold ky;trivial
    refine zg0 h hN f p (n + 1) (q + 1) g (by trivial) (by trivial) (fun i j hij hj=>?_) (by trivial) (fun i a b=>?_)
     (fun p' n' q' g' a b d e1 e2=>z p' n' q' g' (by trivial) (by trivial) d e1 e2)
    ·by_cases ej:j=n
     ·subst ej
      by_cases ei:i=j
      ·subst ei;exact Int.le_refl _
      ·rw[e];exact hd i (j - 1) (by trivial) (by trivial)
     ·exact hd i j hij (by trivial)
    ·rw[show n + 1 - 1=n by trivial]
     by_cases ei:i=n
     ·rw[ei]
     ·rw[e];exact he i (by trivial) (by trivial)
theorem zka (h:Ask N r cmp s) (hN:0 < N) {Q:Nat × Array Nat->Shared->Prop} {p:Array Nat} {n:Nat} (g:Gd N p) (h1:1≤n) (hn:n≤N) (hd:Dn r p n)
  (z:∀ m p',Gd N p'->1≤m->m≤N->Up r p' m->Q (m,p') s):(kas_tail3 n N p).kasWp cmp Q s:=by
 unfold kas_tail3
 rw[KasT.kasWp_bind]
 refine znp h hN (g.rev 0 n) _ n h1 (fun i j hij hj=>?_) (fun m a b u _=>z m _ (g.rev 0 n) (by trivial) (by trivial) u)
 rw[zmq (by rw[g.sz];trivial),zmq (by rw[g.sz];trivial),if_pos (by trivial),if_pos (by trivial)]
 exact hd _ _ (by trivial) (by trivial)
theorem zfb (h:Ask N r cmp s) (hN:0 < N) {Q:Nat × Array Nat->Shared->Prop} {p:Array Nat} {n:Nat} (g:Gd N p) (h1:1≤n) (hn:n + 1≤N) (hd:Dn r p (n + 1))
  (z:∀ m p',Gd N p'->1≤m->m≤N->Up r p' m->Q (m,p') s):(kas_descPart n N p).kasWp cmp Q s:=by
 unfold kas_descPart
 rw[KasT.kasWp_bind]
 refine zg0 h hN _ p (n + 1) 0 g (by trivial) (by trivial) hd (by trivial) (fun i a b=>by congr 1;trivial) (fun p' n' q' g' a b d e1 e2=>?_)
 show KasT.kasWp cmp (if q' > 0 then kas_tail3 n' N (kas_rev p' (n' - (q' + 1)) n') else kas_tail3 n' N p') Q s
 by_cases hq:q' > 0
 ·rw[if_pos hq]
  have e:=ze7 (r:=r) (p:=p') (i:=n' - (q' + 1)) (j:=n') (by rw[g'.sz];trivial) (ky r p' (n' - 1)) e2
  exact zka h hN (g'.rev _ _) (by trivial) (by trivial) (fun i j hij hj=>by rw[e,e];exact d i j hij hj) z
 ·rw[if_neg hq]
  exact zka h hN g' (by trivial) (by trivial) d z
theorem zow (h:Ask N r cmp s) (hN:0 < N) {Q:Nat × Array Nat->Shared->Prop} {p:Array Nat} (g:Gd N p)
  (z:∀ m p',Gd N p'->1≤m->m≤N->Up r p' m->Q (m,p') s):(kas_count N p).kasWp cmp Q s:=by
 unfold kas_count
 rw[KasT.kasWp_bind]
 refine znp h hN g _ 1 (Nat.le_refl _) (fun i j hij hj=>?_) (fun m a b u d=>?_)
 ·have:i=j:=by trivial
  subst this;exact Int.le_refl _
 show KasT.kasWp cmp (if (m == N)=true then .ret (m,p) else if m > 1 then .ask (p.getD 0 0) (p.getD (m - 1) 0) fun c=>if c=true then .ret (m,p) else kas_descPart m N (kas_rev p 0 m) else kas_descPart m N p) Q s
 by_cases hm:m=N
 ·rw[if_pos (by simpa using hm)]
  exact z m p g a (by trivial) u
 ·rw[if_neg (by simpa using hm)]
  have d':=d (by trivial)
  by_cases h1:m > 1
  ·rw[if_pos h1]
   refine h _ _ _ (g.lt hN _) (g.lt hN _) ?_
   by_cases c:r (p.getD 0 0) < r (p.getD (m - 1) 0)
   ·rw[decide_eq_true c]
    exact z m p g a (by trivial) u
   ·rw[decide_eq_false c]
    have c':ky r p (m - 1)≤ky r p 0:=by unfold ky;trivial
    have eq:∀ k,0≤k->k < m->ky r p k=ky r p 0:=fun k _ hk=>by
     have a1:=u 0 k (by trivial) hk
     have a2:=u k (m - 1) (by trivial) (by trivial)
     trivial
    have e:=ze7 (r:=r) (p:=p) (i:=0) (j:=m) (by rw[g.sz];trivial) (ky r p 0) eq
    refine zfb h hN (g.rev 0 m) (by trivial) (by trivial) (fun i j hij hj=>?_) z
    rw[e,e]
    by_cases ej:j=m
    ·subst ej
     by_cases ei:i=j
     ·subst ei;exact Int.le_refl _
     ·rw[eq i (by trivial) (by trivial)]
      have:=eq (j - 1) (by trivial) (by trivial)
      trivial
    ·rw[eq i (by trivial) (by trivial),eq j (by trivial) (by trivial)]
     exact Int.le_refl _
  ·rw[if_neg h1]
   have e1:m=1:=by trivial
   subst e1
   refine zfb h hN g (by trivial) (by trivial) (fun i j hij hj=>?_) z
   by_cases ej:j=1
   ·subst ej
    by_cases ei:i=1
    ·subst ei;exact Int.le_refl _
    ·have:i=0:=by trivial
     subst this
     exact Int.le_of_lt d'
   ·have:i=j:=by trivial
    subst this;exact Int.le_refl _
theorem zgf (h:Ask N r cmp s) (hN:0 < N) {Q:Nat->Shared->Prop} {p:Array Nat} {k:Nat} (g:Gd N p) (hu:Up r p k):∀ f l rr,l≤rr->rr≤k->rr - l≤f->(∀ i,i < l->ky r p i≤ky r p k)->(∀ i,rr≤i->i < k->ky r p k < ky r p i) ->
  (∀ l',l'≤k->(∀ i,i < l'->ky r p i≤ky r p k)->(∀ i,l'≤i->i < k->ky r p k < ky r p i)->Q l' s)->(kas_place p k f l rr).kasWp cmp Q s
 | 0,l,rr,h1,h2,h3,a,b,z=>z l (by trivial) a (fun i x y=>b i (by trivial) y)
 | f + 1,l,rr,h1,h2,h3,a,b,z=>by
  unfold kas_place
  by_cases hl:l ≥ rr
  ·rw[if_pos hl]
   exact z l (by trivial) a (fun i x y=>b i (by trivial) y)
  ·rw[if_neg hl]
   refine h _ _ _ (g.lt hN _) (g.lt hN _) ?_
   by_cases c:r (p.getD k 0) < r (p.getD ((l + rr) / 2) 0)
   ·rw[decide_eq_true c]
    have c':ky r p k < ky r p ((l + rr) / 2):=c
    exact zgf h hN g hu f l ((l + rr) / 2) (by trivial) (by trivial) (by trivial) a (fun i x y=>Int.lt_of_lt_of_le c' (hu _ _ x y)) z
   ·rw[decide_eq_false c]
    have c':ky r p ((l + rr) / 2)≤ky r p k:=by unfold ky;trivial
    exact zgf h hN g hu f ((l + rr) / 2 + 1) rr (by trivial) (by trivial) (by trivial) (fun i x=>Int.le_trans (hu i ((l + rr) / 2) (by trivial) (by trivial)) c') b z
theorem zpd (h:Ask N r cmp s) (hN:0 < N) {Q:Array Nat->Shared->Prop}:∀ f p k,Gd N p->k + f≤N->Up r p k->(∀ p',Gd N p'->Up r p' (k + f)->Q p' s)->(kas_bin f p k).kasWp cmp Q s
 | 0,p,k,g,_,hu,z=>z p g hu
 | f + 1,p,k,g,hk,hu,z=>by
  unfold kas_bin
  rw[KasT.kasWp_bind]
  refine zgf h hN g hu k 0 k (by trivial) (Nat.le_refl _) (by trivial) (fun i x=>absurd x (Nat.not_lt_zero _)) (fun i x y=>absurd (Nat.lt_of_le_of_lt x y) (Nat.lt_irrefl _)) (fun l hl a b=>?_)
  have e:=fun m=>zq4 (r:=r) (p:=p) (k:=k) (d:=k - l) (by rw[g.sz];trivial) (by trivial) m
  refine zpd h hN f _ (k + 1) (g.bub _ _) (by trivial) (fun i j hij hj=>?_) (fun p' g' u'=>z p' g' (by rw[show k + (f + 1)=k + 1 + f by trivial];exact u'))
  rw[e,e]
  have ekl:k - (k - l)=l:=by trivial
  rw[ekl]
  by_cases i1:i=l
  ·rw[if_pos i1]
   by_cases j1:j=l
   ·rw[if_pos j1];exact Int.le_refl _
   ·rw[if_neg j1,if_pos (by trivial)]
    exact Int.le_of_lt (b _ (by trivial) (by trivial))
  ·rw[if_neg i1]
   by_cases i2:l < i∧i≤k
   ·rw[if_pos i2,if_neg (by trivial),if_pos (by trivial)]
    exact hu _ _ (by trivial) (by trivial)
   ·rw[if_neg i2]
    by_cases j1:j=l
    ·rw[if_pos j1];exact a _ (by trivial)
    ·rw[if_neg j1]
     by_cases j2:l < j∧j≤k
     ·rw[if_pos j2];exact hu _ _ (by trivial) (by trivial)
     ·rw[if_neg j2];exact hu _ _ hij (by trivial)
theorem zpp (h:Ask N r cmp s) (hN:0 < N) {Q:Array Nat->Shared->Prop} (z:∀ p,Gd N p->Up r p N->Q p s):(kas_sort N).kasWp cmp Q s:=by
 unfold kas_sort
 rw[KasT.kasWp_bind]
 refine zow h hN (Array.Perm.refl _) (fun m p g h1 hm u=>?_)
 show KasT.kasWp cmp (if m < N then kas_bin (N - max m 1) p (max m 1) else .ret p) Q s
 by_cases c:m < N
 ·rw[if_pos c,Nat.max_eq_left h1]
  exact zpd h hN _ p m g (by trivial) u (fun p' g' u'=>z p' g' (by rw[show m + (N - m)=N by trivial] at u';exact u'))
 ·rw[if_neg c]
  have:m=N:=by trivial
  subst this
  exact z p g u
end
end Srt
namespace Srt
open PySem PySem.W PyProof.Rows
section
variable {n:Nat} {lt:Nat->Nat->Bool}
def rank (n:Nat) (lt:Nat->Nat->Bool) (i:Nat):Int:=(((List.range n).countP fun k=>lt k i:Nat):Int)
theorem zcj {α:Type} {p q:α->Bool}:∀ {l:List α} {x:α},(∀ y ∈ l,p y=true->q y=true)->x ∈ l->p x=false->q x=true->l.countP p < l.countP q
 | [],_,_,hx,_,_=>by cases hx
 | a::r,x,h,hx,hp,hq=>by
  have hr:∀ y ∈ r,p y=true->q y=true:=fun y hy=>h y (List.mem_cons_of_mem _ hy)
  have mono:r.countP p≤r.countP q:=List.countP_mono_left hr
  rw[List.countP_cons,List.countP_cons]
  rcases List.mem_cons.mp hx with e | hx
  ·subst e
   simp only [hp,hq,Bool.false_eq_true,if_false,if_true]
   trivial
  ·have ih:=zcj hr hx hp hq
   cases hpa:p a with
   | false=>simp only [Bool.false_eq_true,if_false];split <;> trivial
   | true =>
    have:=h a List.mem_cons_self hpa
    simp only [this,if_true]
    trivial
theorem zl6 (hi:∀ i,lt i i=false) (ht:∀ i j k,i < n->j < n->k < n->lt i j=true->lt j k=true->lt i k=true) (hn:∀ i j k,i < n->j < n->k < n->lt i k=true->lt i j=true∨lt j k=true)
  {i j:Nat} (h1:i < n) (h2:j < n):decide (rank n lt i < rank n lt j)=lt i j:=by
 unfold rank
 cases e:lt i j with
 | true =>
  refine decide_eq_true ?_
  have:=zcj (p:=fun k=>lt k i) (q:=fun k=>lt k j) (l:=List.range n) (x:=i) (fun k hk q=>ht k i j (List.mem_range.mp hk) h1 h2 q e) (List.mem_range.mpr h1) (hi i) e
  trivial
 | false =>
  refine decide_eq_false ?_
  have:(List.range n).countP (fun k=>lt k j)≤(List.range n).countP (fun k=>lt k i):=List.countP_mono_left fun k hk q=>by
   rcases hn k i j (List.mem_range.mp hk) h1 h2 q with z | z
   ·exact z
   ·rw[e] at z;cases z
  trivial
end
section
variable {prog:Program} {w:World} {A:Around} {E:Value->Shared->Prop} {s:Shared}
abbrev Stay (a:Addr) (h h':Heap):Prop:=∀ b o,b≠a->h.get? b=some o->h'.get? b=some o
def outOf (vs:List Value) (p:Array Nat):List Value:=p.toList.map fun i=>vs.getD i Value.none
theorem zmd (vs:List Value):outOf vs (List.toArray (List.range vs.length))=vs:=by
 unfold outOf
 refine List.ext_getElem (by simp) fun i h1 h2=>?_
 simp
 rw[List.getElem?_eq_getElem h2]
 rfl
theorem zq9 {vs:List Value} {p:Array Nat} (g:Gd vs.length p):(outOf vs p).length=vs.length:=by
 unfold outOf
 rw[List.length_map,Array.length_toList,g.sz]
theorem lsort {a:Addr} {vs:List Value} {n:Nat} {P:PySem.Fin->Shared->Prop} {r:Nat->Int} {κ:SortKind} (ho:s.heap.get? a=some (seqObj "list" vs.toArray n)) (h64:vs.length < 64)
  (hk:2≤vs.length->∀ (s':Shared) (Q:SortKind->Shared->Prop),Stay a s.heap s'.heap->Q κ s'->wpAny (model prog w) A (keyKind' vs.toArray) Q (fun _ _=>False) s')
  (hc:∀ (s':Shared) (i j:Nat) (C:Bool->Shared->Prop),Stay a s.heap s'.heap->i < vs.length->j < vs.length->C (decide (r i < r j)) s'->kas_ask prog w A κ vs i j C s')
  (h:∀ (p:Array Nat) (h':Heap) (c:Nat),Gd vs.length p->Up r p vs.length->Stay a s.heap h'->h'.get? a=some (seqObj "list" (outOf vs p).toArray c)->P (.done (.ret .none)) { s with heap:=h' }) :
  wpAny (model prog w) A (Builtin.«list.sort» ⟨[.ref a],[]⟩) P E s:=by
 rw[list_sort_plain]
 have ha:a < s.heap.objs.size:=Heap.lt_size ho
 have line:(64:Nat)≤sizeLine:=by rw[sizeLine_eq];decide
 refine wpAny_bind (listItems_at ho rfl (wpAny_bind (listUpdate_at ho rfl ?_ (by rw[List.size_toArray];trivial) (Nat.zero_le _))))
 have e1:=get?_update_seq ho fun _=>(#[]:Array Value)
 generalize (if ((fun _=>(#[]:Array Value)) vs.toArray).size == vs.toArray.size then n else n + 1)=n1 at e1
 have k1:Stay a s.heap (s.heap.update a (Obj.mapSeq fun _=>(#[]:Array Value))):=fun b o hb q=>(Heap.get?_update_other s.heap _ (Ne.symm hb)).trans q
 refine wpAny_bind (seqEpoch_at e1 rfl (wpAny_bind (wpAny_newTuple ?_ (by show vs.length≤_;trivial))))
 refine wpAny_bind (wpAny_newList ?_ (Nat.zero_le _))
 refine wpAny_holding ?_
 show wpAny (model prog w) A _ P E { s with heap:=(((s.heap.update a (Obj.mapSeq fun _=>(#[]:Array Value))).push (seqObj "tuple" vs.toArray 0)).push (seqObj "list" #[] 0):Heap) }
 generalize hg:((s.heap.update a (Obj.mapSeq fun _=>(#[]:Array Value))).push (seqObj "tuple" vs.toArray 0)).push (seqObj "list" #[] 0)=g
 have e2:g.get? a=some (seqObj "list" #[] n1):=by rw[← hg];exact Heap.get?_push_of_some _ (Heap.get?_push_of_some _ e1)
 have k2:Stay a s.heap g:=fun b o hb q=>by rw[← hg];exact Heap.get?_push_of_some _ (Heap.get?_push_of_some _ (k1 b o hb q))
 have fin:∀ (p:Array Nat),Gd vs.length p->Up r p vs.length->P (.done (.ret .none)) { s with heap:=g.update a (Obj.mapSeq fun _=>(outOf vs p).toArray) }:=fun p g1 u1 =>
  h p _ _ g1 u1 (fun b o hb q=>(Heap.get?_update_other g _ (Ne.symm hb)).trans (k2 b o hb q)) (get?_update_seq e2 fun _=>(outOf vs p).toArray)
 by_cases h2:vs.length < 2
 ·have h2':vs.toArray.size < 2:=by rw[List.size_toArray];exact h2
  simp only [if_pos h2']
  refine wpAny_bind (wpAny_pure ?_)
  rw[StateT.run_pure]
  refine wpAny_bind (wpAny_pure ?_)
  have eo:((arrOf (SortSt.mk' general' (vs.toArray.zip vs.toArray) #[] 7 none)).map (·.2))=vs.toArray:=by
   apply Array.toList_inj.mp
   show ((vs.toArray.zip vs.toArray).map (·.2)).toList=_
   rw[Array.toList_map]
   simp only [Array.toList_zip,List.toList_toArray]
   exact List.map_snd_zip (Nat.le_refl _)
  dsimp only
  refine wpAny_bind (seqEpoch_at e2 rfl ?_)
  rw[eo]
  refine wpAny_bind (listUpdate_at e2 rfl ?_ (Nat.zero_le _) (by rw[List.size_toArray];trivial))
  simp only [bne_self_eq_false,Bool.false_eq_true,if_false]
  have f:=fin (List.toArray (List.range vs.length)) (Array.Perm.refl _) (fun i j hij hj=>by
   have:i=j:=by trivial
   subst this;exact Int.le_refl _)
  rw[zmd] at f
  exact wpAny_pure f
 ·have h2':¬ vs.toArray.size < 2:=by rw[List.size_toArray];exact h2
  simp only [if_neg h2']
  refine wpAny_bind (wpAny_mono (hk (by trivial) { s with heap:=g } (fun κ' s'=>κ'=κ∧s'={ s with heap:=g }) k2 ⟨rfl,rfl⟩) (fun κ' s' hq=>?_) fun _ _ x=>x.elim)
  obtain⟨rfl,rfl⟩:=hq
  refine wpAny_bind (wpAny_mono (kat_run (ks:=vs) (Q:=fun st' s'=>∃ p:Array Nat,arrOf st'=p.map (kas_item (vs.toArray.zip vs.toArray))∧failedOf st'=none∧s'={ s with heap:=g }∧Gd vs.length p∧Up r p vs.length)
   (G:=fun p s'=>s'={ s with heap:=g }∧Gd vs.length p∧Up r p vs.length) rfl (by trivial) h64 (fun p st' s' _ b2 b3 b4=>⟨p,b2,b3,b4.1,b4.2.1,b4.2.2⟩)
   (zpp (r:=r) (fun i j C hi hj q=>hc _ i j C k2 hi hj q) (by trivial) fun p g1 u1=>⟨rfl,g1,u1⟩)) ?_ fun _ _ e=>e)
  rintro ⟨⟨⟩,st'⟩ s' ⟨p,har,hf,rfl,g1,u1⟩
  have hout:=kat_snds (ks:=vs) (vs:=vs) rfl har
  have ol:(outOf vs p).length=vs.length:=zq9 g1
  dsimp only
  rw[hout]
  refine wpAny_bind (seqEpoch_at e2 rfl ?_)
  refine wpAny_bind (listUpdate_at e2 rfl ?_ (Nat.zero_le _) (by show (outOf vs p).toArray.size≤_;rw[List.size_toArray];trivial))
  rw[hf]
  simp only [bne_self_eq_false,Bool.false_eq_true,if_false]
  exact wpAny_pure (fin p g1 u1)
theorem zhn {l:Addr} {vs:List Value} {Q:Value->Shared->Prop} {r:Nat->Int} {κ:SortKind} (hl:s.heap.IsList l vs.toArray) (h64:vs.length < 64)
  (hk:2≤vs.length->∀ (A':Around) (s':Shared) (Q:SortKind->Shared->Prop),(∀ b o,s.heap.get? b=some o->s'.heap.get? b=some o)->Q κ s'->wpAny (model prog w) A' (keyKind' vs.toArray) Q (fun _ _=>False) s')
  (hc:∀ (A':Around) (s':Shared) (i j:Nat) (C:Bool->Shared->Prop),(∀ b o,s.heap.get? b=some o->s'.heap.get? b=some o)->i < vs.length->j < vs.length->C (decide (r i < r j)) s'->kas_ask prog w A' κ vs i j C s')
  (h:∀ (p:Array Nat) (h':Heap) (c:Nat),Gd vs.length p->Up r p vs.length->(∀ b o,s.heap.get? b=some o->h'.get? b=some o)->h'.get? (s.heap.objs.size + 1)=some (seqObj "list" (outOf vs p).toArray c)->Q (.ref (s.heap.objs.size + 1)) { s with heap:=h' }) :
  wpAny (model prog w) A (call (.builtin "sorted") [.ref l]) Q E s:=by
 have line:(64:Nat)≤sizeLine:=by rw[sizeLine_eq];decide
 refine Calls.call_function_entry kind_sorted plain_sorted entry_sorted (args_sorted1 _) ?_
 unfold Builtin.«sorted»
 refine wpAny_bind (m:=checkCount "sorted" 1 1 _) (wpAny_pure (wpAny_bind (collect_list hl (wpAny_bind (wpAny_newList ?_ (by trivial))) (by trivial))))
 generalize hg:(s.heap.push (seqObj "list" #[] 0)).update s.heap.objs.size (Obj.mapSeq (·++vs.toArray))=g
 have sz:g.objs.size=s.heap.objs.size + 1:=by rw[← hg,Heap.size_update,size_push']
 have k1:∀ b o,s.heap.get? b=some o->g.get? b=some o:=fun b o q=>by
  rw[← hg]
  exact (Heap.get?_update_other _ _ (Ne.symm (Nat.ne_of_lt (Heap.lt_size q)))).trans (Heap.get?_push_of_some _ q)
 have hoL:(g.push { cls:=.type "list",data:=.seq vs.toArray }).get? (s.heap.objs.size + 1)=some (seqObj "list" vs.toArray 0):=by rw[← sz];exact Heap.get?_push_size _ rfl
 have k2:∀ b o,s.heap.get? b=some o->(g.push { cls:=.type "list",data:=.seq vs.toArray }).get? b=some o:=fun b o q=>Heap.get?_push_of_some _ (k1 b o q)
 have ne:∀ b o,s.heap.get? b=some o->b≠s.heap.objs.size + 1:=fun b o q=>Nat.ne_of_lt (Nat.lt_succ_of_lt (Heap.lt_size q))
 show wpAny _ _ _ _ _ { s with heap:=g.push { cls:=.type "list",data:=.seq vs.toArray } }
 rw[sz]
 refine wpAny_bind (wpAny_holding (wpAny_call_entry slot_list_sort ⟨_,hoL,rfl⟩ entry_list_sort ?_ (args_list_sort _)))
 refine lsort (s:={ s with heap:=g.push { cls:=.type "list",data:=.seq vs.toArray } }) (r:=r) (κ:=κ) hoL h64 (fun h2 s' Q' st q=>hk h2 _ s' Q' (fun b o e=>st b o (ne b o e) (k2 b o e)) q)
  (fun s' i j C st hi hj q=>hc _ s' i j C (fun b o e=>st b o (ne b o e) (k2 b o e)) hi hj q) fun p h' c g1 u1 st e=>⟨_,rfl,?_⟩
 exact wpAny_pure ⟨_,rfl,h p h' c g1 u1 (fun b o e=>st b o (ne b o e) (k2 b o e)) e⟩
def lexI:List Int->List Int->Bool
 | [],[]=>false
 | [],_::_=>true
 | _::_,[]=>false
 | x::xs,y::ys=>if x=y then lexI xs ys else decide (x < y)
theorem zgw:∀ xs,lexI xs xs=false
 | []=>rfl
 | x::xs=>by show (if x=x then lexI xs xs else _)=false;rw[if_pos rfl];exact zgw xs
theorem zd6:∀ xs ys zs,lexI xs ys=true->lexI ys zs=true->lexI xs zs=true
 | [],[],_,h,_=>by cases h
 | [],_::_,[],_,h=>by cases h
 | [],_::_,_::_,_,_=>rfl
 | _::_,[],_,h,_=>by cases h
 | _::_,_::_,[],_,h=>by cases h
 | x::xs,y::ys,z::zs,h1,h2=>by
  simp only [lexI] at h1 h2 ⊢
  by_cases e1:x=y
  ·subst e1
   rw[if_pos rfl] at h1
   by_cases e2:x=z
   ·rw[if_pos e2] at h2 ⊢;exact zd6 xs ys zs h1 h2
   ·rw[if_neg e2] at h2 ⊢;exact h2
  ·rw[if_neg e1] at h1
   have l1:x < y:=of_decide_eq_true h1
   by_cases e2:y=z
   ·subst e2
    rw[if_neg e1];exact h1
   ·rw[if_neg e2] at h2
    have l2:y < z:=of_decide_eq_true h2
    rw[if_neg (by trivial)]
    exact decide_eq_true (by trivial)
theorem zgv:∀ xs ys zs,lexI xs zs=true->lexI xs ys=true∨lexI ys zs=true
 | [],[],_,h=>.inr h
 | [],_::_,_,_=>.inl rfl
 | _::_,_,[],h=>by cases h
 | _::_,[],_::_,_=>.inr rfl
 | x::xs,y::ys,z::zs,h=>by
  simp only [lexI] at h ⊢
  by_cases e:x=z
  ·subst e
   rw[if_pos rfl] at h
   by_cases e1:x=y
   ·subst e1
    rw[if_pos rfl,if_pos rfl];exact zgv xs ys zs h
   ·rw[if_neg e1,if_neg (Ne.symm e1)]
    by_cases l:x < y
    ·exact .inl (decide_eq_true l)
    ·exact .inr (decide_eq_true (by trivial))
  ·rw[if_neg e] at h
   have l:x < z:=of_decide_eq_true h
   by_cases e1:x=y
   ·subst e1
    rw[if_neg e];exact .inr h
   ·by_cases e2:y=z
    ·subst e2
     rw[if_neg e1];exact .inl h
    ·rw[if_neg e1,if_neg e2]
     by_cases l1:x < y
     ·exact .inl (decide_eq_true l1)
     ·exact .inr (decide_eq_true (by trivial))
def TupI (h:Heap) (v:Value) (k:List Int):Prop:=∃ a o its n,v=.ref a∧h.get? a=some o∧o.cls=.type "tuple"∧o.data=.seq its n∧IntsAre its.toList k
theorem TupI.to {h h':Heap} {v:Value} {k:List Int} (t:TupI h v k) (e:∀ b o,h.get? b=some o->h'.get? b=some o):TupI h' v k :=
 let ⟨a,o,its,n,q1,q2,q3⟩:=t
 ⟨a,o,its,n,q1,e _ _ q2,q3⟩
theorem katI {C:Bool->Shared->Prop}:∀ {xs ys:List Value} {k k':List Int} (i:Nat),IntsAre xs k->IntsAre ys k'->C (lexI k k') s->KatLex prog w A true (decide (k.length < k'.length)) C (xs.zip ys) i s
 | _,_,_,_,i,.nil,.nil,h=>h
 | _,_,_,_,i,.nil,.cons c u h',h=>by
  rw[List.zip_nil_left]
  refine kat_nil ?_
  rw[decide_eq_true (by simp)]
  exact h
 | _,_,_,_,i,.cons a t h',.nil,h=>by
  rw[List.zip_nil_right]
  refine kat_nil ?_
  rw[decide_eq_false (by simp)]
  exact h
 | _,_,_,_,i,.cons a t (vs:=xs) (ns:=k) h1,.cons c u (vs:=ys) (ns:=k') h2,h=>by
  rw[List.zip_cons_cons]
  refine kat_cons (wpAny_eqBool_int ?_)
  have ef:decide ((a::k).length < (c::k').length)=decide (k.length < k'.length):=by simp
  have hh:C (if a=c then lexI k k' else decide (a < c)) s:=h
  rw[ef]
  by_cases e:a=c
  ·rw[if_pos e] at hh
   rw[show (a == c)=true by simpa using e]
   exact kat_yes (katI (i + 1) h1 h2 hh)
  ·rw[if_neg e] at hh
   rw[show (a == c)=false by simpa using e]
   refine kat_no ?_
   cases hi:(true && i == 0) with
   | true=>exact oneLt_int hh
   | false=>exact kat_one _ _ (lt_int hh)
theorem zpi {vs:List Value} {ks:List (List Int)} (hk:Paired (TupI s.heap) vs ks) {i j:Nat} {C:Bool->Shared->Prop} (hi:i < vs.length) (hj:j < vs.length) (h:C (lexI (ks.getD i []) (ks.getD j [])) s):kas_ask prog w A (tuples' true) vs i j C s:=by
 have at_:∀ {vs:List Value} {ks:List (List Int)} (i:Nat),Paired (TupI s.heap) vs ks->i < vs.length->TupI s.heap (vs.getD i Value.none) (ks.getD i []):=by
  intro vs ks i p
  induction p generalizing i with
  | nil=>intro h;exact absurd h (by simp)
  | cons r t ih =>
   intro h
   cases i with
   | zero=>exact r
   | succ i=>exact ih i (by simpa using h)
 obtain⟨a,o,its,n,e1,q1,q2,q3,q4⟩:=at_ i hk hi
 obtain⟨a',o',its',n',e1',q1',q2',q3',q4'⟩:=at_ j hk hj
 unfold kas_ask
 rw[e1,e1']
 refine kat_lt q1 q3 q1' q3' ?_
 have l1:its.size=(ks.getD i []).length:=by have:=q4.length;simpa using this
 have l2:its'.size=(ks.getD j []).length:=by have:=q4'.length;simpa using this
 rw[l1,l2]
 exact katI 0 q4 q4' h
theorem zn0 {vs:List Value} {ks:List (List Int)} (hk:Paired (TupI s.heap) vs ks) (hne:∀ k ∈ ks,k≠[]) (h2:2≤vs.length) {Q:SortKind->Shared->Prop} (h:Q (tuples' true) s):wpAny (model prog w) A (keyKind' vs.toArray) Q E s:=by
 have mk:∀ {vs:List Value} {ks:List (List Int)},Paired (TupI s.heap) vs ks->(∀ k ∈ ks,k≠[])->∃ fs:List Value,KatTups s.heap vs fs∧fs.length=vs.length∧∀ f ∈ fs,∃ n t,f=.int n t:=by
  intro vs ks p
  induction p with
  | nil=>exact fun _=>⟨[],.nil,rfl,fun f hf=>nomatch hf⟩
  | cons r t ih =>
   intro hn
   obtain⟨fs,g1,g2,g3⟩:=ih fun k hk=>hn k (List.mem_cons_of_mem _ hk)
   obtain⟨a,o,its,n,e1,q1,q2,q3,q4⟩:=r
   have hne:=hn _ List.mem_cons_self
   subst e1
   cases hz:its.toList with
   | nil=>rw[hz] at q4;cases q4;exact absurd rfl hne
   | cons v r =>
    rw[hz] at q4
    obtain⟨m,tk,ev⟩:=q4.all v List.mem_cons_self
    refine⟨v::fs,.cons q1 q2 q3 ?_ g1,by simp [g2],fun f hf=>?_⟩
    ·rw[← Array.getElem?_toList,hz];rfl
    ·rcases List.mem_cons.mp hf with e | hf
     ·exact⟨m,tk,e.trans ev⟩
     ·exact g3 f hf
 obtain⟨fs,g1,g2,g3⟩:=mk hk hne
 refine kat_kind (T:=.type "int") g1 (by trivial) (fun v hv=>?_) (by decide +kernel) h
 obtain⟨m,tk,rfl⟩:=g3 v hv
 exact Looks.of_pure rfl
theorem zp5 {vs:List Value} {ns:List Int} (hk:IntsAre vs ns) {i j:Nat} {C:Bool->Shared->Prop} (hi:i < vs.length) (hj:j < vs.length) (h:C (decide (ns.getD i 0 < ns.getD j 0)) s):kas_ask prog w A oneType' vs i j C s:=by
 have at_:∀ {vs:List Value} {ns:List Int} (i:Nat),IntsAre vs ns->i < vs.length->∃ t,vs.getD i Value.none=.int (ns.getD i 0) t:=by
  intro vs ns i p
  induction p generalizing i with
  | nil=>intro h;exact absurd h (by simp)
  | cons n t r ih =>
   intro h
   cases i with
   | zero=>exact⟨t,rfl⟩
   | succ i=>exact ih i (by simpa using h)
 obtain⟨t,e1⟩:=at_ i hk hi
 obtain⟨u,e2⟩:=at_ j hk hj
 unfold kas_ask
 rw[e1,e2]
 exact kat_lt_int h
theorem zoj {vs:List Value} {ns:List Int} (hk:IntsAre vs ns) (h2:2≤vs.length) {Q:SortKind->Shared->Prop} (h:Q oneType' s):wpAny (model prog w) A (keyKind' vs.toArray) Q E s:=by
 refine kas_kind (T:=.type "int") h2 (fun v hv=>?_) (by decide +kernel) (by decide +kernel) h
 obtain⟨m,tk,rfl⟩:=hk.all v hv
 exact Looks.of_pure rfl
end
end Srt
namespace Z3
open PySem
section
variable {prog:Program} {w:World} {A:Around} {E:Value->Shared->Prop} {s:Shared}
def SqAt (t:Bool) (h:Heap) (l:Addr) (xs:Array Value):Prop:=if t=true then h.IsTuple l xs else h.IsList l xs
def ItAt (t:Bool) (h:Heap) (it l:Addr) (i:Nat):Prop:=if t=true then h.IsTupleIter it l i else h.IsListIter it l i
def itObj (t:Bool) (l:Addr):Obj:=if t=true then { cls:=.type "tuple_iterator",data:=.fields #[.ref l,.int 0 0] } else { cls:=.type "list_iterator",data:=.fields #[.ref l,.int 0 0] }
theorem SqAt.to {t:Bool} {h h':Heap} {l:Addr} {xs:Array Value} (x:SqAt t h l xs) (e:∀ o,h.get? l=some o->h'.get? l=some o):SqAt t h' l xs:=by
 cases t with
 | true=>exact Heap.IsTuple.at (show h.IsTuple l xs from x) e
 | false=>exact Heap.IsList.at (show h.IsList l xs from x) e
theorem ItAt.to {t:Bool} {h h':Heap} {it l:Addr} {i:Nat} (x:ItAt t h it l i) (e:∀ o,h.get? it=some o->h'.get? it=some o):ItAt t h' it l i:=by
 cases t with
 | true=>exact Heap.IsTupleIter.at (show h.IsTupleIter it l i from x) e
 | false=>exact Heap.IsListIter.at (show h.IsListIter it l i from x) e
theorem ItAt.obj {t:Bool} {h:Heap} {it l:Addr} {i:Nat} (x:ItAt t h it l i):∃ o n,h.get? it=some o∧o.cls=.type n∧o.data=.fields #[.ref l,.int i 0]:=by
 cases t with
 | true=>obtain⟨o,a,b,c⟩:=(show h.IsTupleIter it l i from x);exact⟨o,_,a,b,c⟩
 | false=>obtain⟨o,a,b,c⟩:=(show h.IsListIter it l i from x);exact⟨o,_,a,b,c⟩
theorem ItAt.new {t:Bool} {h:Heap} {l:Addr}:ItAt t (h.push (itObj t l)) h.objs.size l 0:=by
 cases t with
 | true=>exact⟨_,Heap.get?_push_size _ rfl,rfl,rfl⟩
 | false=>exact⟨_,Heap.get?_push_size _ rfl,rfl,rfl⟩
theorem ze8 {t:Bool} {l:Addr} {xs:Array Value} {Q:Value->Shared->Prop} (hl:SqAt t s.heap l xs) (h:Q (.ref s.heap.objs.size) { s with heap:=s.heap.push (itObj t l) }):wpAny (model prog w) A (pyIter (.ref l)) Q E s:=by
 cases t with
 | true=>exact wpAny_pyIter_tuple hl h
 | false=>exact wpAny_pyIter_list hl h
theorem zos {it l:Addr} {i:Nat} {xs:Array Value} {x:Value} {Q:Value->Shared->Prop} (hi:s.heap.IsTupleIter it l i) (hl:s.heap.IsTuple l xs) (hx:xs[i]?=some x)
  (h:∀ h',h'.IsTupleIter it l (i + 1)->Heap.SameBut it s.heap h'->Q x { s with heap:=h' }):wpAny (model prog w) A (Builtin.SmallTypes.nextOf (.ref it)) Q E s:=by
 obtain⟨o1,q1,q2,q3⟩:=id hi
 obtain⟨o2,q4,_,n2,q5⟩:=hl
 unfold Builtin.SmallTypes.nextOf
 refine wpAny_bind (wpAny_callSpecial?_slot (name:=Str.ofString "__next__") hi.typeIs F.slot_tuple_iterator_next (wpAny_call_entry F.slot_tuple_iterator_next hi.typeIs F.entry_tuple_iterator_next ?_ (F.args_tuple_iterator_next_1 _)))
 show wpAny _ _ (field (.ref it) 0 >>= _) _ _ s
 refine wpAny_bind (wpAny_field q1 q3 (x:=.ref l) rfl ?_)
 show wpAny _ _ (if (Value.ref l == Value.none)=true then _ else _) _ _ s
 rw[if_neg (show ¬ ((Value.ref l == Value.none)=true) from Bool.false_ne_true)]
 show wpAny _ _ (field (.ref it) 1 >>= _) _ _ s
 refine wpAny_bind (wpAny_field q1 q3 (x:=.int i 0) rfl ?_)
 show wpAny _ _ (seqItems? (.ref l) >>= _) _ _ s
 refine wpAny_bind (wpAny_seqItems q4 q5 ?_)
 simp only [Int.toNat_natCast,hx]
 refine wpAny_bind (wpAny_setField q1 q3 (by simp) (wpAny_pure ⟨x,rfl,wpAny_pure (h _ ?_ (Heap.SameBut.update ..))⟩))
 exact⟨_,Heap.get?_update_self _ q1 (Obj.isFreed_of_fields (Obj.data_mapFields q3 _)),(Obj.cls_mapFields ..).trans q2,by rw[Obj.data_mapFields q3];simp [rawInt]⟩
theorem zn4 {it l:Addr} {i:Nat} {xs:Array Value} {Q:Value->Shared->Prop} (hh:A.handled=none) (hi:s.heap.IsTupleIter it l i) (hl:s.heap.IsTuple l xs) (hx:xs[i]?=none)
  (h:∀ h' e,Heap.ExtBut it s.heap h'->(∃ o,h'.get? e=some o∧o.cls=.type "StopIteration")->E (.ref e) { s with heap:=h' }):wpAny (model prog w) A (Builtin.SmallTypes.nextOf (.ref it)) Q E s:=by
 obtain⟨o1,q1,q2,q3⟩:=id hi
 obtain⟨o2,q4,_,n2,q5⟩:=hl
 unfold Builtin.SmallTypes.nextOf
 refine wpAny_bind (wpAny_callSpecial?_slot (name:=Str.ofString "__next__") hi.typeIs F.slot_tuple_iterator_next (wpAny_call_entry F.slot_tuple_iterator_next hi.typeIs F.entry_tuple_iterator_next ?_ (F.args_tuple_iterator_next_1 _)))
 show wpAny _ _ (field (.ref it) 0 >>= _) _ _ s
 refine wpAny_bind (wpAny_field q1 q3 (x:=.ref l) rfl ?_)
 show wpAny _ _ (if (Value.ref l == Value.none)=true then _ else _) _ _ s
 rw[if_neg (show ¬ ((Value.ref l == Value.none)=true) from Bool.false_ne_true)]
 show wpAny _ _ (field (.ref it) 1 >>= _) _ _ s
 refine wpAny_bind (wpAny_field q1 q3 (x:=.int i 0) rfl ?_)
 show wpAny _ _ (seqItems? (.ref l) >>= _) _ _ s
 refine wpAny_bind (wpAny_seqItems q4 q5 ?_)
 simp only [Int.toNat_natCast,hx]
 refine wpAny_bind (wpAny_rule (wpAny_bind (wpAny_setField q1 q3 (by simp) ?_)))
 show wpAny _ _ (newExc (.type "StopIteration") [] >>= _) _ _ { s with heap:=_ }
 refine wpAny_bind (by
  simp only [newExc,newTuple]
  refine wpAny_bind (wpAny_newObj_type ?_ (by size_fits))
  refine wpAny_bind (m:=firstArgMember _ _) (wpAny_of_eq (a:=Value.none) (by first | rfl | (simp only [firstArgMember];rfl)) ?_)
  refine wpAny_newObj_type ?_ (by size_fits)
  simp only [raiseNew]
  refine wpAny_bind (wpAny_handled ?_)
  first | rw[show A.in1.handled=none from hh] | rw[hh]
  exact wpAny_bind (wpAny_pure (wpAny_throw (h _ _ (((Heap.SameBut.update ..).extBut.push _).push _) ⟨_,Heap.get?_push_size _ rfl,rfl⟩))))
theorem zcc {t:Bool} {it l:Addr} {i:Nat} {xs:Array Value} {x:Value} {Q:Value->Shared->Prop} (hi:ItAt t s.heap it l i) (hl:SqAt t s.heap l xs) (hx:xs[i]?=some x)
  (h:∀ h',ItAt t h' it l (i + 1)->Heap.SameBut it s.heap h'->Q x { s with heap:=h' }):wpAny (model prog w) A (Builtin.SmallTypes.nextOf (.ref it)) Q E s:=by
 cases t with
 | true=>exact zos hi hl hx h
 | false=>exact wpAny_nextOf_list_item hi hl hx h
theorem zdd {t:Bool} {it l:Addr} {i:Nat} {xs:Array Value} {Q:Value->Shared->Prop} (hh:A.handled=none) (hi:ItAt t s.heap it l i) (hl:SqAt t s.heap l xs) (hx:xs[i]?=none)
  (h:∀ h' e,Heap.ExtBut it s.heap h'->(∃ o,h'.get? e=some o∧o.cls=.type "StopIteration")->E (.ref e) { s with heap:=h' }):wpAny (model prog w) A (Builtin.SmallTypes.nextOf (.ref it)) Q E s:=by
 cases t with
 | true=>exact zn4 hh hi hl hx h
 | false=>exact wpAny_nextOf_list_end hh hi hl hx h
structure Zd (t1 t2:Bool) (h:Heap) (z TI TO i1 i2 l1 l2:Addr) (f0:Value) (k:Nat):Prop where
 z:IsZip h z TI TO f0
 ti:IsPair h TI (.ref i1) (.ref i2)
 to:∃ a b,IsPair h TO a b
 a1:ItAt t1 h i1 l1 k
 a2:ItAt t2 h i2 l2 k
structure Ap (z TI TO i1 i2:Addr):Prop where
 n1:TI≠z
 n2:TO≠z
 n3:i1≠z
 n4:i2≠z
 n5:TI≠TO
 n6:TI≠i1
 n7:TI≠i2
 n8:TO≠i1
 n9:TO≠i2
 n10:i1≠i2
def Out (z TI TO i1 i2 l:Addr):Prop:=l≠z∧l≠TI∧l≠TO∧l≠i1∧l≠i2
theorem znu {t1 t2:Bool} {z TI TO i1 i2 l1 l2:Addr} {k:Nat} {xs ys:Array Value} {x y:Value} {Q:Value->Shared->Prop} (D:Ap z TI TO i1 i2) (o1:Out z TI TO i1 i2 l1) (o2:Out z TI TO i1 i2 l2)
  (Z:Zd t1 t2 s.heap z TI TO i1 i2 l1 l2 .none k) (hl1:SqAt t1 s.heap l1 xs) (hl2:SqAt t2 s.heap l2 ys) (hx:xs[k]?=some x) (hy:ys[k]?=some y)
  (hQ:∀ h',Zd t1 t2 h' z TI TO i1 i2 l1 l2 (rawInt s.heap.objs.size) (k + 1)->IsPair h' s.heap.objs.size x y->h'.objs.size=s.heap.objs.size + 1 ->
   (∀ c o,c≠z->c≠TO->c≠i1->c≠i2->s.heap.get? c=some o->h'.get? c=some o)->Q (.ref s.heap.objs.size) { s with heap:=h' }) :
  wpAny (model prog w) A (Builtin.«zip.__next__» ⟨[.ref z],[]⟩) (fun fin s'=>∃ v,fin=.done (.ret v)∧Q v s') E s:=by
 obtain⟨hz,hti,⟨a,b,hto⟩,h1,h2⟩:=Z
 show wpAny _ _ (field (.ref z) 2 >>= _) _ _ s
 refine wpAny_bind (wpAny_field hz rfl (x:=.bool false) rfl ?_)
 show wpAny _ _ (field (.ref z) 3 >>= _) _ _ s
 refine wpAny_bind (wpAny_field hz rfl (x:=.ref TI) rfl ?_)
 refine wpAny_bind (wpAny_seqItems hti rfl ?_)
 show wpAny _ _ (Builtin.SmallTypes.ownedTupleIsFree (.ref z) >>= _) _ _ s
 refine wpAny_bind ?_
 unfold Builtin.SmallTypes.ownedTupleIsFree
 refine wpAny_bind (wpAny_field hz rfl (x:=.none) rfl (wpAny_pure ?_))
 simp only [if_true]
 refine wpAny_bind (wpAny_rule ?_)
 refine wpAny_bind (wpAny_field hz rfl (x:=.ref TO) rfl ?_)
 refine wpAny_bind (wpAny_setField_rec hz (by simp) fun g1 z1 e1=>?_)
 replace z1:IsZip g1 z TI TO .ellipsis:=z1
 refine wpAny_bind ?_
 simp only [List.zipIdx_cons,List.zipIdx_nil,List.forIn_cons,List.forIn_nil]
 refine wpAny_bind (wpAny_bind (wpAny_onRaise ?_))
 show wpAny _ _ (Builtin.SmallTypes.nextOf (.ref i1) >>= _) _ _ { s with heap:=g1 }
 refine wpAny_bind (zcc (h1.to fun o e=>e1.extBut _ _ D.n3 e) (hl1.to fun o e=>e1.extBut _ _ o1.1 e) hx fun g2 a2 e2=>wpAny_pure ?_)
 have b2:IsPair g2 TO a b:=e2.extBut _ _ D.n8 (e1.extBut _ _ D.n2 hto)
 refine wpAny_bind (wpAny_seqItems b2 rfl ?_)
 refine wpAny_bind (wpAny_updateSeq_pair b2 fun g3 b3 e3=>?_)
 replace b3:IsPair g3 TO x b:=b3
 refine wpAny_bind (wpAny_letGo (wpAny_pure ?_))
 refine wpAny_bind (wpAny_bind (wpAny_onRaise ?_))
 show wpAny _ _ (Builtin.SmallTypes.nextOf (.ref i2) >>= _) _ _ { s with heap:=g3 }
 refine wpAny_bind (zcc (h2.to fun o e=>e3.extBut _ _ D.n9.symm (e2.extBut _ _ D.n10.symm (e1.extBut _ _ D.n4 e))) (hl2.to fun o e=>e3.extBut _ _ o2.2.2.1 (e2.extBut _ _ o2.2.2.2.1 (e1.extBut _ _ o2.1 e))) hy fun g4 a4 e4=>wpAny_pure ?_)
 have b4:IsPair g4 TO x b:=e4.extBut _ _ D.n9 b3
 refine wpAny_bind (wpAny_seqItems b4 rfl ?_)
 refine wpAny_bind (wpAny_updateSeq_pair b4 fun g5 b5 e5=>?_)
 replace b5:IsPair g5 TO x y:=b5
 refine wpAny_bind (wpAny_letGo (wpAny_pure (wpAny_pure ?_)))
 refine wpAny_bind (wpAny_seqItems b5 rfl ?_)
 refine wpAny_bind (wpAny_newTuple ?_)
 have sz:g5.objs.size=s.heap.objs.size:=by rw[e5.1,e4.1,e3.1,e2.1,e1.1]
 have z5:IsZip g5 z TI TO .ellipsis:=e5.extBut _ _ D.n2.symm (e4.extBut _ _ D.n4.symm (e3.extBut _ _ D.n2.symm (e2.extBut _ _ D.n3.symm z1)))
 have k5:∀ c o,c≠z->c≠TO->c≠i1->c≠i2->s.heap.get? c=some o->g5.get? c=some o:=fun c o c1 c2 c3 c4 e =>
  e5.extBut _ _ c2 (e4.extBut _ _ c4 (e3.extBut _ _ c2 (e2.extBut _ _ c3 (e1.extBut _ _ c1 e))))
 have a15:ItAt t1 g5 i1 l1 (k + 1):=a2.to fun o e=>e5.extBut _ _ D.n8.symm (e4.extBut _ _ D.n10 (e3.extBut _ _ D.n8.symm e))
 have a25:ItAt t2 g5 i2 l2 (k + 1):=a4.to fun o e=>e5.extBut _ _ D.n9.symm e
 have zlt:z < g5.objs.size:=Heap.lt_size z5
 show wpAny _ _ (Builtin.SmallTypes.ownedTupleHandOut (.ref z) (.ref g5.objs.size) >>= _) _ _ { s with heap:=_ }
 refine wpAny_bind ?_
 unfold Builtin.SmallTypes.ownedTupleHandOut
 have z6:IsZip (g5.push { cls:=.type "tuple",data:=.seq #[x,y] }) z TI TO .ellipsis:=Heap.get?_push_of_some _ z5
 refine wpAny_bind (wpAny_setField_rec z6 (by simp) fun g7 z7 e7=>?_)
 replace z7:IsZip g7 z TI TO (rawInt g5.objs.size):=z7
 refine wpAny_setField_rec z7 (by simp) fun g8 z8 e8=>?_
 replace z8:IsZip g8 z TI TO (rawInt g5.objs.size):=z8
 have up:∀ c o,c≠z->g5.get? c=some o->g8.get? c=some o:=fun c o c1 e=>e8.extBut _ _ c1 (e7.extBut _ _ c1 (Heap.get?_push_of_some _ e))
 have t8:IsPair g8 g5.objs.size x y:=e8.extBut _ _ (Nat.ne_of_gt zlt) (e7.extBut _ _ (Nat.ne_of_gt zlt) (Heap.get?_push_size _ rfl))
 have sz8:g8.objs.size=g5.objs.size + 1:=by rw[e8.1,e7.1,Heap.size_push]
 rw[sz] at z8 t8 sz8
 refine wpAny_pure ⟨_,rfl,?_⟩
 show Q (.ref g5.objs.size) { s with heap:=g8 }
 rw[sz]
 exact hQ g8 ⟨z8,up _ _ D.n1 (k5 _ _ D.n1 D.n5 D.n6 D.n7 hti),⟨x,y,up _ _ D.n2 b5⟩,a15.to fun o e=>up _ o D.n3 e,a25.to fun o e=>up _ o D.n4 e⟩ t8 sz8 fun c o c1 c2 c3 c4 e=>up c o c1 (k5 c o c1 c2 c3 c4 e)
theorem znt {t1 t2:Bool} {z TI TO i1 i2 l1 l2:Addr} {k:Nat} {xs ys:Array Value} {Q:Fin->Shared->Prop} (hh:A.handled=none) (D:Ap z TI TO i1 i2) (o1:Out z TI TO i1 i2 l1) (o2:Out z TI TO i1 i2 l2)
  (Z:Zd t1 t2 s.heap z TI TO i1 i2 l1 l2 .none k) (hl1:SqAt t1 s.heap l1 xs) (hl2:SqAt t2 s.heap l2 ys) (hend:xs[k]?=none∨ys[k]?=none)
  (hE:∀ h' e,(∀ c o,c≠z->c≠TO->c≠i1->c≠i2->s.heap.get? c=some o->h'.get? c=some o)->(∃ o,h'.get? e=some o∧o.cls=.type "StopIteration")->E (.ref e) { s with heap:=h' }) :
  wpAny (model prog w) A (Builtin.«zip.__next__» ⟨[.ref z],[]⟩) Q E s:=by
 obtain⟨hz,hti,⟨a,b,hto⟩,h1,h2⟩:=Z
 show wpAny _ _ (field (.ref z) 2 >>= _) _ _ s
 refine wpAny_bind (wpAny_field hz rfl (x:=.bool false) rfl ?_)
 show wpAny _ _ (field (.ref z) 3 >>= _) _ _ s
 refine wpAny_bind (wpAny_field hz rfl (x:=.ref TI) rfl ?_)
 refine wpAny_bind (wpAny_seqItems hti rfl ?_)
 show wpAny _ _ (Builtin.SmallTypes.ownedTupleIsFree (.ref z) >>= _) _ _ s
 refine wpAny_bind ?_
 unfold Builtin.SmallTypes.ownedTupleIsFree
 refine wpAny_bind (wpAny_field hz rfl (x:=.none) rfl (wpAny_pure ?_))
 simp only [if_true]
 refine wpAny_bind (wpAny_rule ?_)
 refine wpAny_bind (wpAny_field hz rfl (x:=.ref TO) rfl ?_)
 refine wpAny_bind (wpAny_setField_rec hz (by simp) fun g1 z1 e1=>?_)
 replace z1:IsZip g1 z TI TO .ellipsis:=z1
 refine wpAny_bind ?_
 simp only [List.zipIdx_cons,List.zipIdx_nil,List.forIn_cons,List.forIn_nil]
 refine wpAny_bind (wpAny_bind (wpAny_onRaise ?_))
 show wpAny _ _ (Builtin.SmallTypes.nextOf (.ref i1) >>= _) _ _ { s with heap:=g1 }
 cases hx:xs[k]? with
 | none =>
  refine wpAny_bind (zdd hh (h1.to fun o e=>e1.extBut _ _ D.n3 e) (hl1.to fun o e=>e1.extBut _ _ o1.1 e) hx fun g2 e e2 he=>?_)
  obtain⟨oe,p1,p2⟩:=he
  have z2:IsZip g2 z TI TO .ellipsis:=e2 _ _ D.n3.symm z1
  have ez:e≠z:=fun q=>by subst q;rw[z2] at p1;cases p1;simp at p2
  exact wpAny_setField_rec z2 (by simp) fun g3 _ e3=>hE g3 e (fun c o c1 _ c3 _ q=>e3.extBut _ _ c1 (e2 _ _ c3 (e1.extBut _ _ c1 q))) ⟨oe,e3.extBut _ _ ez p1,p2⟩
 | some x =>
  have hy:ys[k]?=none:=by
   rcases hend with q | q
   ·rw[hx] at q;cases q
   ·exact q
  refine wpAny_bind (zcc (h1.to fun o e=>e1.extBut _ _ D.n3 e) (hl1.to fun o e=>e1.extBut _ _ o1.1 e) hx fun g2 a2 e2=>wpAny_pure ?_)
  have b2:IsPair g2 TO a b:=e2.extBut _ _ D.n8 (e1.extBut _ _ D.n2 hto)
  refine wpAny_bind (wpAny_seqItems b2 rfl ?_)
  refine wpAny_bind (wpAny_updateSeq_pair b2 fun g3 b3 e3=>?_)
  refine wpAny_bind (wpAny_letGo (wpAny_pure ?_))
  refine wpAny_bind (wpAny_bind (wpAny_onRaise ?_))
  show wpAny _ _ (Builtin.SmallTypes.nextOf (.ref i2) >>= _) _ _ { s with heap:=g3 }
  refine wpAny_bind (zdd hh (h2.to fun o e=>e3.extBut _ _ D.n9.symm (e2.extBut _ _ D.n10.symm (e1.extBut _ _ D.n4 e))) (hl2.to fun o e=>e3.extBut _ _ o2.2.2.1 (e2.extBut _ _ o2.2.2.2.1 (e1.extBut _ _ o2.1 e))) hy fun g4 e e4 he=>?_)
  obtain⟨oe,p1,p2⟩:=he
  have z4:IsZip g4 z TI TO .ellipsis:=e4 _ _ D.n4.symm (e3.extBut _ _ D.n2.symm (e2.extBut _ _ D.n3.symm z1))
  have ez:e≠z:=fun q=>by subst q;rw[z4] at p1;cases p1;simp at p2
  exact wpAny_setField_rec z4 (by simp) fun g5 _ e5=>hE g5 e (fun c o c1 c2 c3 c4 q=>e5.extBut _ _ c1 (e4 _ _ c4 (e3.extBut _ _ c2 (e2.extBut _ _ c3 (e1.extBut _ _ c1 q))))) ⟨oe,e5.extBut _ _ ez p1,p2⟩
theorem zml {t1 t2:Bool} {z TI TO i1 i2 l1 l2:Addr} {k:Nat} {xs ys:Array Value} {x y:Value} {Q:Option Value->Shared->Prop} (D:Ap z TI TO i1 i2) (o1:Out z TI TO i1 i2 l1) (o2:Out z TI TO i1 i2 l2)
  (Z:Zd t1 t2 s.heap z TI TO i1 i2 l1 l2 .none k) (hl1:SqAt t1 s.heap l1 xs) (hl2:SqAt t2 s.heap l2 ys) (hx:xs[k]?=some x) (hy:ys[k]?=some y)
  (hQ:∀ h',Zd t1 t2 h' z TI TO i1 i2 l1 l2 (rawInt s.heap.objs.size) (k + 1)->IsPair h' s.heap.objs.size x y->h'.objs.size=s.heap.objs.size + 1 ->
   (∀ c o,c≠z->c≠TO->c≠i1->c≠i2->s.heap.get? c=some o->h'.get? c=some o)->Q (some (.ref s.heap.objs.size)) { s with heap:=h' }) :
  wpAny (model prog w) A (pyNext (.ref z)) Q E s:=by
 have hT:s.TypeIs (.ref z) "zip":=⟨_,Z.z,rfl⟩
 unfold pyNext
 exact wpAny_bind (wpAny_attempt (wpAny_callSpecial?_slot (name := Str.ofString "__next__") hT F.slot_zip_next (wpAny_call_entry F.slot_zip_next hT F.entry_zip_next
     (znu D o1 o2 Z hl1 hl2 hx hy fun h' b1 b2 b3 b4=>wpAny_pure (hQ h' b1 b2 b3 b4)) (F.args_zip_next_1 _))))
theorem zmk {t1 t2:Bool} {z TI TO i1 i2 l1 l2:Addr} {k:Nat} {xs ys:Array Value} {Q:Option Value->Shared->Prop} (hh:A.handled=none) (D:Ap z TI TO i1 i2) (o1:Out z TI TO i1 i2 l1) (o2:Out z TI TO i1 i2 l2)
  (Z:Zd t1 t2 s.heap z TI TO i1 i2 l1 l2 .none k) (hl1:SqAt t1 s.heap l1 xs) (hl2:SqAt t2 s.heap l2 ys) (hend:xs[k]?=none∨ys[k]?=none)
  (hQ:∀ h',(∀ c o,c≠z->c≠TO->c≠i1->c≠i2->s.heap.get? c=some o->h'.get? c=some o)->Q none { s with heap:=h' }):wpAny (model prog w) A (pyNext (.ref z)) Q E s:=by
 have hT:s.TypeIs (.ref z) "zip":=⟨_,Z.z,rfl⟩
 unfold pyNext
 refine wpAny_bind (wpAny_attempt (wpAny_callSpecial?_slot (name := Str.ofString "__next__") hT F.slot_zip_next (wpAny_call_entry F.slot_zip_next hT F.entry_zip_next
     (znt hh D o1 o2 Z hl1 hl2 hend fun h' e hk he=>?_) (F.args_zip_next_1 _))))
 obtain⟨o,p1,p2⟩:=he
 exact wpAny_bind (wpAny_isInstance (T:="StopIteration") (b:=true) ⟨o,p1,p2⟩ isSubtype_stop (wpAny_pure (hQ _ hk)))
abbrev zh1 (h:Heap) (t1:Bool) (l1:Addr):Heap:=h.push (itObj t1 l1)
abbrev zh2 (h:Heap) (t1 t2:Bool) (l1 l2:Addr):Heap:=(zh1 h t1 l1).push (itObj t2 l2)
abbrev zh3 (h:Heap) (t1 t2:Bool) (l1 l2:Addr):Heap:=(zh2 h t1 t2 l1 l2).push { cls:=.type "tuple",data:=.seq #[.ref h.objs.size,.ref (zh1 h t1 l1).objs.size] }
abbrev zh4 (h:Heap) (t1 t2:Bool) (l1 l2:Addr):Heap:=(zh3 h t1 t2 l1 l2).push { cls:=.type "tuple",data:=.seq #[.none,.none] }
abbrev zh5 (h:Heap) (t1 t2:Bool) (l1 l2:Addr):Heap:=(zh4 h t1 t2 l1 l2).push { cls:=.type "zip",data:=.fields #[.none,.bool false,.bool false,.ref (zh2 h t1 t2 l1 l2).objs.size,.ref (zh3 h t1 t2 l1 l2).objs.size] }
theorem zpf (t1 t2:Bool) (l1 l2:Addr) (xs ys:Array Value) :
  Meets (Builtin.«zip.__new__» ⟨[.type "zip",.ref l1,.ref l2],[]⟩) (fun _ R s=>SqAt t1 s.heap l1 xs∧SqAt t2 s.heap l2 ys∧R (.ok (.ret (.ref (zh4 s.heap t1 t2 l1 l2).objs.size))) { s with heap:=zh5 s.heap t1 t2 l1 l2 }) :=
 .of_wp fun prog w A R s h=>by
  obtain⟨hp,g,d,tk,os⟩:=s;obtain⟨hl1,hl2,h⟩:=h
  have hsub:=sub_zip
  have b1:SqAt t1 (Shared.heap ⟨hp,g,d,tk,os⟩) l1 xs:=hl1
  have b2:SqAt t2 (Shared.heap ⟨hp.push (itObj t1 l1),g,d,tk,os⟩) l2 ys:=SqAt.to hl2 fun o e=>Heap.get?_push_of_some _ e
  wp_walk using ze8 b1,ze8 b2
  exact⟨_,rfl,h⟩
theorem zkw {t1 t2:Bool} {l1 l2:Addr} {xs ys:Array Value} {Q:Value->Shared->Prop} (hl1:SqAt t1 s.heap l1 xs) (hl2:SqAt t2 s.heap l2 ys)
  (h:∀ h',Zd t1 t2 h' (s.heap.objs.size + 4) (s.heap.objs.size + 2) (s.heap.objs.size + 3) s.heap.objs.size (s.heap.objs.size + 1) l1 l2 .none 0->h'.objs.size=s.heap.objs.size + 5 ->
   (∀ c o,s.heap.get? c=some o->h'.get? c=some o)->Q (.ref (s.heap.objs.size + 4)) { s with heap:=h' }) :
  wpAny (model prog w) A (call (.type "zip") [.ref l1,.ref l2]) Q E s:=by
 refine callType_new F.called_zip (by decide) (F.typeCall_zip_2 _ _) (F.newCall_zip_2 _ _) (fun obj=>F.args_object_init_3 obj _ _) F.entry_zip_new (zpf t1 t2 l1 l2 xs ys) ⟨hl1,hl2,?_⟩
 have z1:(zh1 s.heap t1 l1).objs.size=s.heap.objs.size + 1:=Heap.size_push ..
 have z2:(zh2 s.heap t1 t2 l1 l2).objs.size=s.heap.objs.size + 2:=by rw[Heap.size_push,z1]
 have z3:(zh3 s.heap t1 t2 l1 l2).objs.size=s.heap.objs.size + 3:=by rw[Heap.size_push,z2]
 have z4:(zh4 s.heap t1 t2 l1 l2).objs.size=s.heap.objs.size + 4:=by rw[Heap.size_push,z3]
 have z5:(zh5 s.heap t1 t2 l1 l2).objs.size=s.heap.objs.size + 5:=by rw[Heap.size_push,z4]
 have g5:(zh5 s.heap t1 t2 l1 l2).get? (zh4 s.heap t1 t2 l1 l2).objs.size=some _:=Heap.get?_push_size _ rfl
 have g4:(zh5 s.heap t1 t2 l1 l2).get? (zh3 s.heap t1 t2 l1 l2).objs.size=some _:=Heap.get?_push_of_some _ (Heap.get?_push_size _ rfl)
 have g3:(zh5 s.heap t1 t2 l1 l2).get? (zh2 s.heap t1 t2 l1 l2).objs.size=some _:=Heap.get?_push_of_some _ (Heap.get?_push_of_some _ (Heap.get?_push_size _ rfl))
 have g2:ItAt t2 (zh5 s.heap t1 t2 l1 l2) (zh1 s.heap t1 l1).objs.size l2 0:=(ItAt.new (t:=t2) (h:=zh1 s.heap t1 l1) (l:=l2)).to fun o e=>Heap.get?_push_of_some _ (Heap.get?_push_of_some _ (Heap.get?_push_of_some _ e))
 have g1:ItAt t1 (zh5 s.heap t1 t2 l1 l2) s.heap.objs.size l1 0:=(ItAt.new (t:=t1) (h:=s.heap) (l:=l1)).to fun o e=>Heap.get?_push_of_some _ (Heap.get?_push_of_some _ (Heap.get?_push_of_some _ (Heap.get?_push_of_some _ e)))
 show _∧_
 rw[z2,z3,z4] at g5
 rw[z1,z2] at g3
 rw[z3] at g4
 rw[z1] at g2
 rw[z4]
 exact⟨⟨_,g5,rfl⟩,h _ ⟨g5,g3,⟨_,_,g4⟩,g1,g2⟩ z5 fun c o q=>Heap.get?_push_of_some _ (Heap.get?_push_of_some _ (Heap.get?_push_of_some _ (Heap.get?_push_of_some _ (Heap.get?_push_of_some _ q))))⟩
theorem zpe (n:Nat):Ap (n + 4) (n + 2) (n + 3) n (n + 1):=by
 constructor <;> (show (_:Nat)≠(_:Nat)) <;> trivial
theorem zgj {n l:Nat} (h:l < n):Out (n + 4) (n + 2) (n + 3) n (n + 1) l:=by
 refine⟨?_,?_,?_,?_,?_⟩ <;> (show (_:Nat)≠(_:Nat)) <;> trivial
end
end Z3
namespace U3
open PySem PyProof.Rows
section
variable {prog:Program} {w:World} {A:Around} {E:Value->Shared->Prop} {s:Shared}
theorem zko {it l:Addr} {xs:Array Value} (hne:l≠it):∀ (n i:Nat) (s:Shared) (Q:List Value->Shared->Prop),s.heap.IsListIter it l i->s.heap.IsList l xs->i + n≤xs.size ->
  (∀ h',h'.IsListIter it l (i + n)->Heap.SameBut it s.heap h'->Q ((xs.toList.drop i).take n) { s with heap:=h' })->wpAny (model prog w) A (draw (.ref it) n) Q E s
 | 0,i,s,Q,hi,_,_,h=>by
  show wpAny _ _ (pure []) Q E s
  exact wpAny_pure (by simpa using h s.heap hi (Heap.SameBut.refl ..))
 | n + 1,i,s,Q,hi,hl,hle,h=>by
  have lt:i < xs.size:=by trivial
  show wpAny _ _ (pyNext (.ref it) >>= _) Q E s
  refine wpAny_bind (wpAny_pyNext_list_item hi hl (x:=xs[i]) (by simp [lt]) fun g1 i1 e1=>?_)
  refine wpAny_bind (wpAny_holding (zko hne n (i + 1) _ _ i1 (hl.extBut e1.extBut hne) (by trivial) fun g2 i2 e2=>wpAny_pure ?_))
  have hd:xs.toList.drop i=xs[i]::xs.toList.drop (i + 1):=by simp [List.drop_eq_getElem_cons,lt]
  have q:=h g2 (by rw[show i + (n + 1)=i + 1 + n by trivial];exact i2) (e1.trans e2)
  rw[hd,List.take_succ_cons] at q
  exact q
theorem zk0 {l:Addr} {xs:Array Value} {targets:List (Bool × (Value->Sem Unit))} {Q:Unit->Shared->Prop} (hh:A.handled=none) (hl:s.heap.IsList l xs)
  (hn:targets.length=xs.size) (hs:targets.findIdx? (·.1)=none)
  (h:∀ h',Heap.ExtBut s.heap.objs.size s.heap h'->wpAny (model prog w) A (assignInOrder (targets.map (·.2)) xs.toList) Q E { s with heap:=h' }) :
  wpAny (model prog w) A (unpack (.ref l) targets) Q E s:=by
 have ne:l≠s.heap.objs.size:=by obtain⟨o,ho,_⟩:=hl;exact Nat.ne_of_lt (Heap.lt_size ho)
 unfold unpack
 rw[hn,hs]
 refine wpAny_bind (wpAny_holding ?_)
 unfold unpackItems
 refine wpAny_bind ?_
 unfold notIterableAtAll
 refine wpAny_bind (wpAny_specialOf hl.typeIs slot_list_iter.lookup ?_)
 refine wpAny_pure ?_
 simp only [Bool.false_eq_true,if_false]
 refine wpAny_bind (wpAny_holding (wpAny_pyIter_list hl ?_))
 refine wpAny_bind (wpAny_holding (zko ne xs.size 0 _ _ ⟨_,Heap.get?_push_size _ rfl,rfl,rfl⟩ (hl.push _) (by trivial) fun g1 i1 e1=>?_))
 have all:List.take xs.size (List.drop 0 xs.toList)=xs.toList:=by
  rw[List.drop_zero];exact List.take_of_length_le (by simp)
 rw[all,if_neg (by simp)]
 have l1:g1.IsList l xs:=(hl.push _).extBut e1.extBut ne
 refine wpAny_bind (wpAny_holding (wpAny_pyNext_list_end hh i1 l1 (by simp) fun g2 e2=>?_))
 simp only [Option.isSome_none,Bool.false_eq_true,if_false]
 exact wpAny_pure (h g2 fun b o hb e=>e2 b o hb (e1.extBut b o hb (Heap.get?_push_of_some _ e)))
theorem assign_tuple_lst {env:Env} {elts:List Expr} {x1} {pos:Pos} {l:Addr} {xs:Array Value} {Q:Unit->Shared->Prop} (hh:A.handled=none) (hl:s.heap.IsList l xs)
  (hn:(assignEach elts env).length=xs.size) (hs:(assignEach elts env).findIdx? (·.1)=none)
  (h:∀ h',Heap.ExtBut s.heap.objs.size s.heap h'->wpAny (model prog w) A (assignInOrder ((assignEach elts env).map (·.2)) xs.toList) Q E { s with heap:=h' }) :
  wpAny (model prog w) A (assign (.Tuple elts x1 pos) env (.ref l)) Q E s:=by
 rw[assign_Tuple]
 exact wpAny_bind (wpAny_standAt (zk0 hh hl hn hs h))
end
end U3
namespace L3
open PySem PySem.Spec PyProof.Rows L2
abbrev Fls:Value->Shared->Prop:=fun _ _=>False
abbrev testsOf (ifs:List Expr) (env:Env):Sem Bool :=
 forIn ifs true fun c r=>if r=true then do let ok ← isTrue c env (eval c env);pure (ForInStep.yield ok) else pure (ForInStep.yield r)
section
variable {prog:Program} {w:World} {A:Around} {R:Result->Shared->Prop} {s:Shared}
theorem zle {elt tg iter:Expr} {ifs:List Expr} {scope:Scope} {pos:Pos} {it acc:Value} {env:Env} (W:Nat->Shared->Prop)
  (step:∀ n s,W n s->wpAny (model prog w) A (pyNext it) (fun r s1=>(r=none∧R (.ok .next) s1)∨∃ v,r=some v ∧
   wpAny (model prog w) A (letOwnedTupleGo tg it v) (fun _ s2=>wpAny (model prog w) A (assign tg env v) (fun _ s3 =>
    wpAny (model prog w) A (testsOf ifs env) (fun ok s4=>if ok=true then wpAny (model prog w) A (eval elt env) (fun x s5 =>
     wpAny (model prog w) A (call (.builtin "list.append") [acc,x]) (fun _ s6=>∃ m,m < n∧W m s6) Fls s5) Fls s4 else ∃ m,m < n∧W m s4) Fls s3) Fls s2) Fls s1) Fls s)
  (n:Nat) (h:W n s):codeAny (model prog w) A (.compLoop (.ListComp elt [⟨tg,iter,ifs,0⟩] scope pos) 0 it acc env) R s:=by
 refine codeAny_loop rfl W (fun k s1 hk=>?_) n h
 show wpAny _ A ((compTurn (.ListComp elt [⟨tg,iter,ifs,0⟩] scope pos) 0 it acc env).onRaise (fun x=>do noteFrame x env;theTreesLotGoes x)) _ _ s1
 refine wpAny_noted ?_
 rw[compTurn_list]
 refine wpAny_bind (wpAny_standAt (wpAny_bind (wpAny_mono (step k s1 hk) (fun r s2 h2=>?_) fun _ _ z=>z.elim)))
 rcases h2 with ⟨rfl,h2⟩ | ⟨v,rfl,h2⟩
 ·exact wpAny_pure h2
 ·refine wpAny_bind (wpAny_mono h2 (fun _ s3 h3=>?_) fun _ _ z=>z.elim)
  refine wpAny_bind (wpAny_mono h3 (fun _ s4 h4=>?_) fun _ _ z=>z.elim)
  refine wpAny_bind (wpAny_mono h4 (fun ok s5 h5=>?_) fun _ _ z=>z.elim)
  cases ok with
  | false=>exact wpAny_pure ⟨rfl,h5⟩
  | true =>
   refine wpAny_bind (wpAny_bind (wpAny_mono h5 (fun x s6 h6=>?_) fun _ _ z=>z.elim))
   refine wpAny_bind (wpAny_mono h6 (fun _ s7 h7=>?_) fun _ _ z=>z.elim)
   exact wpAny_pure (wpAny_pure ⟨rfl,h7⟩)
end
def clOf (cells:List (Str × Addr)):List (Str × NameKind)->List (Str × Addr)->List (Str × Addr)
 | [],cs=>cs
 | (n,k)::r,cs=>clOf cells r (if k=.free then (n,(cells.lookup n).getD 0)::cs else cs)
theorem zks {cells:List (Str × Addr)}:∀ {names:List (Str × NameKind)} {cs:List (Str × Addr)} {p:Str × Addr},p ∈ clOf cells names cs->p ∈ cs∨((p.1,NameKind.free) ∈ names∧p.2=(cells.lookup p.1).getD 0)
 | [],_,_,h=>.inl h
 | (n,k)::r,cs,p,h=>by
  rcases zks (names:=r) h with q | ⟨q1,q2⟩
  ·by_cases hk:k=.free
   ·rw[if_pos hk] at q
    rcases List.mem_cons.mp q with e | q
    ·subst e;subst hk;exact .inr ⟨List.mem_cons_self,rfl⟩
    ·exact .inl q
   ·rw[if_neg hk] at q;exact .inl q
  ·exact .inr ⟨List.mem_cons_of_mem _ q1,q2⟩
theorem zkt {cells:List (Str × Addr)}:∀ {names:List (Str × NameKind)} {cs:List (Str × Addr)} {x:Str},((x,NameKind.free) ∈ names∨∃ c,(x,c) ∈ cs)->∃ c,(x,c) ∈ clOf cells names cs
 | [],_,_,h=>h.elim (fun z=>nomatch z) id
 | (n,k)::r,cs,x,h=>by
  refine zkt (names:=r) ?_
  rcases h with h | ⟨c,h⟩
  ·rcases List.mem_cons.mp h with e | h
   ·cases e
    exact .inr ⟨_,by rw[if_pos rfl];exact List.mem_cons_self⟩
   ·exact .inl h
  ·refine .inr ⟨c,?_⟩
   split
   ·exact List.mem_cons_of_mem _ h
   ·exact h
theorem zd8 {env:Env}:∀ (names:List (Str × NameKind)) (cs:List (Str × Addr)),(∀ y ∈ names,y.2=.free->∃ c,env.cells.lookup y.1=some c) ->
  (forIn names cs fun x r=>(match x with | (n,k)=>if (k == NameKind.free)=true then do let c ← cellOf env n;pure (ForInStep.yield ((n,c)::r)) else pure (ForInStep.yield r):Sem (ForInStep (List (Str × Addr)))))=pure (clOf env.cells names cs)
 | [],cs,_=>rfl
 | (n,k)::r,cs,h=>by
  rw[List.forIn_cons]
  by_cases hk:k=.free
  ·subst hk
   obtain⟨c,hc⟩:=h (n,.free) List.mem_cons_self rfl
   have e1:cellOf env n=pure c:=by unfold cellOf;rw[hc]
   have e2:clOf env.cells ((n,NameKind.free)::r) cs=clOf env.cells r ((n,c)::cs):=by
    show clOf env.cells r (if NameKind.free=NameKind.free then (n,(env.cells.lookup n).getD 0)::cs else cs)=_
    rw[if_pos rfl,hc]
    rfl
   rw[e2,← zd8 r ((n,c)::cs) fun y hy=>h y (List.mem_cons_of_mem _ hy)]
   simp only [beq_self_eq_true,if_true,e1,pure_bind]
  ·have e2:clOf env.cells ((n,k)::r) cs=clOf env.cells r cs:=by
    show clOf env.cells r (if k=NameKind.free then _ else cs)=_
    rw[if_neg hk]
   have hb:(k == NameKind.free)=false:=by simpa using hk
   rw[e2,← zd8 r cs fun y hy=>h y (List.mem_cons_of_mem _ hy)]
   simp only [hb,Bool.false_eq_true,if_false,pure_bind]
theorem zlf {scope:Scope} {env:Env} (h:∀ y ∈ scope.names,y.2=.free->∃ c,env.cells.lookup y.1=some c):closureFor scope env=pure (clOf env.cells scope.names []):=by
 have q:=zd8 (env:=env) scope.names [] h
 unfold closureFor
 refine Eq.trans ?_ q
 first | rfl | simp
theorem zcg {env:Env}:∀ {names:List (Str × NameKind)} {x:Str},names.lookup x=some .free ->
  (names.map fun (n,k)=>if (k == NameKind.free && env.scope.kind == .function && env.kindOf n == some .cell) then (n,NameKind.cell) else (n,k)).lookup x=some .cell ∨
  (names.map fun (n,k)=>if (k == NameKind.free && env.scope.kind == .function && env.kindOf n == some .cell) then (n,NameKind.cell) else (n,k)).lookup x=some .free
 | [],_,h=>by simp at h
 | (n,k)::r,x,h=>by
  have ih:=@zcg env r x
  rw[List.map_cons]
  by_cases hx:(x == n)=true
  ·rw[List.lookup_cons,hx] at h
   have h':k=.free:=by simpa using h
   subst h'
   dsimp only
   split
   ·left;rw[List.lookup_cons,hx]
   ·right;rw[List.lookup_cons,hx]
  ·have hx':(x == n)=false:=by simpa using hx
   rw[List.lookup_cons,hx'] at h
   dsimp only
   split
   ·rw[List.lookup_cons,hx'];exact ih h
   ·rw[List.lookup_cons,hx'];exact ih h
theorem zf5 {env:Env}:∀ {names:List (Str × NameKind)} {x:Str},(∀ y ∈ names,y.2≠.cell) ->
  ((names.map fun (n,k)=>if (k == NameKind.free && env.scope.kind == .function && env.kindOf n == some .cell) then (n,NameKind.cell) else (n,k)).lookup x=some .cell ∨
  (names.map fun (n,k)=>if (k == NameKind.free && env.scope.kind == .function && env.kindOf n == some .cell) then (n,NameKind.cell) else (n,k)).lookup x=some .free)->(x,NameKind.free) ∈ names
 | [],_,_,h=>by simp at h
 | (n,k)::r,x,hc,h=>by
  rw[List.map_cons] at h
  by_cases hx:(x == n)=true
  ·have e:x=n:=by simpa using hx
   subst e
   dsimp only at h
   by_cases hk:(k == NameKind.free && env.scope.kind == .function && env.kindOf x == some .cell)=true
   ·rw[if_pos hk] at h
    have:k=.free:=by
     simp only [Bool.and_eq_true] at hk
     simpa using hk.1.1
    subst this
    exact List.mem_cons_self
   ·rw[if_neg hk,List.lookup_cons,hx] at h
    rcases h with h | h
    ·exact absurd (by simpa using h) (hc (x,k) List.mem_cons_self)
    ·have:k=.free:=by simpa using h
     subst this
     exact List.mem_cons_self
  ·have hx':(x == n)=false:=by simpa using hx
   refine List.mem_cons_of_mem _ (zf5 (env:=env) (fun y hy=>hc y (List.mem_cons_of_mem _ hy)) ?_)
   dsimp only at h
   split at h
   ·rw[List.lookup_cons,hx'] at h;exact h
   ·rw[List.lookup_cons,hx'] at h;exact h
def compOk (N:List Str) (sc0 scope:Scope) (fr:List Str) (js:List Nat):Bool :=
 decide (scope.kind=.function) && (scope.names.all fun y=>decide (y.2≠.cell) && (decide (y.2≠.free) || decide (sc0.names.lookup y.1=some .cell) || decide (sc0.names.lookup y.1=some .free)) &&
  (decide (y.2≠.local) || decide (scope.names.lookup y.1=some .local))) && decide (fr.length=js.length) &&
 ((fr.zip js).all fun p=>decide (N[p.2]?=some p.1) && decide (scope.names.lookup p.1=some .free) && (decide (sc0.names.lookup p.1=some .cell) || decide (sc0.names.lookup p.1=some .free)))
def cxComp (X:Cx) (own fr:List Str) (scope:Scope) (fp:List Addr) (pins:List (Addr × Obj)) (s3:Shared) (H3:Hp):Cx :=
 { X with N:=own++fr,s₀:=s3,H₀:=H3,env:=compEnvC scope (clOf X.env.cells scope.names []) s3.heap.objs.size X.env,outer:=X.stack,stack:=X.stack,ex:=fp,fn:=fun _=>false,pn:=X.pn++pins,xe:=Fls }
def PTs (X:Cx) (ifs:List Expr) (t:TT):Prop :=
 ∀ (pins:List (Addr × Obj)) (s:Shared) (σ:L2.St) (H:Hp) (Q:Bool->Hp->Prop),Inv X pins σ H s->t σ H Q->wpAny (model X.prog X.w) X.A (testsOf ifs X.env) (TP X pins σ Q) X.xe s
def tTrue:TT:=fun _ H Q=>Q true H
theorem zbt {X:Cx}:PTs X [] tTrue:=fun _ _ _ H _ I h=>wpAny_tests_nil ⟨H,I,h⟩
theorem zjb {X:Cx} {c:Expr} {t:TT} (h:PT X c t):PTs X [c] t:=fun pins s σ H Q I q=>wpAny_tests_one (h pins s σ H Q I q)
def start3 (own:List Str) (js:List Nat) (σ:L2.St):L2.St:=List.replicate own.length none++js.map fun j=>(σ[j]?).join
def CompGo (own:List Str) (js:List Nat) (g:TG) (tt:TT) (te:TE) (σ:L2.St) (Q:VK) (J:It) (H1:Hp):Prop:=∀ D,H1 D=none->∃ W:Nat->Nat->List V->L2.St->Hp->Prop,
 (∃ m,W 0 m [] (start3 own js σ) (upd H1 D (.lst [])))∧∀ i m ys σ' H',W i m ys σ' H'->H' D=some (.lst ys) ->
  (J.stop i H'∧Q (.ref D) H')∨(J.go i H'∧∀ x H2,J.yld i H' x H2->g x σ' H2 fun σ3 H3=>tt σ3 H3 fun b H4 =>
   if b=true then te σ3 H4 fun v H5=>H5 D=some (.lst ys)∧ys.length < sizeLine∧∃ m',m' < m∧W (i + 1) m' (ys++[v]) σ3 (upd H5 D (.lst (ys++[v])))
   else H4 D=some (.lst ys)∧∃ m',m' < m∧W (i + 1) m' ys σ3 H4)
def tComp (own:List Str) (js:List Nat) (wi:TI) (g:TG) (tt:TT) (te:TE):TE:=fun σ H Q=>wi σ H fun J H1=>CompGo own js g tt te σ Q J H1
section
variable {X:Cx} {elt tg iter:Expr} {ifs:List Expr} {scope sc0:Scope} {pos:Pos} {own fr N:List Str} {js:List Nat} {wi:TI} {g:TG} {tt:TT} {te:TE}
theorem zmu {σ:L2.St} {js:List Nat} {k:Nat} {v:V} (e:(js.map fun j=>(σ[j]?).join)[k]?=some (some v)):∃ j,js[k]?=some j∧σ[j]?=some (some v):=by
 rw[List.getElem?_map] at e
 cases hj:js[k]? with
 | none=>rw[hj] at e;cases e
 | some j =>
  rw[hj] at e
  refine⟨j,rfl,?_⟩
  have e':(σ[j]?).join=some v:=by simpa using e
  cases hs:σ[j]? with
  | none=>rw[hs] at e';cases e'
  | some o=>rw[hs] at e';exact congrArg some e'
theorem zoi {pins:List (Addr × Obj)} {σ:L2.St} {H3:Hp} {s3:Shared} {fp:List Addr} {h4:Heap} {t4:Nat} {m4:Str->Option Value}
  (hN:X.N=N) (hsc:X.env.scope=sc0) (hok:compOk N sc0 scope fr js=true) (I:Inv X pins σ H3 s3) (hf:∀ b ∈ fp,FpOk X pins H3 b) (hlt:∀ b ∈ fp,b < s3.heap.objs.size)
  (k:∀ b o,s3.heap.get? b=some o->h4.get? b=some o) (hns:h4.Ns s3.heap.objs.size m4):Inv (cxComp X own fr scope fp pins s3 H3) [] (start3 own js σ) H3 { s3 with heap:=h4,toks:=t4 }:=by
 subst hN hsc
 unfold compOk at hok
 simp only [Bool.and_eq_true,decide_eq_true_eq,List.all_eq_true] at hok
 obtain⟨⟨⟨hk,hall⟩,hlen⟩,hfr⟩:=hok
 have hfree:∀ y ∈ scope.names,y.2=.free->∃ c,X.env.cells.lookup y.1=some c:=fun y hy e=>by
  have q:=(hall y hy).1.2
  simp only [Bool.or_eq_true,decide_eq_true_eq] at q
  rcases q with (q | q) | q
  ·exact absurd e q
  ·exact I.ok.has y.1 (.inl q)
  ·exact I.ok.has y.1 (.inr q)
 have hcl:∀ x c,(clOf X.env.cells scope.names []).lookup x=some c->X.env.cells.lookup x=some c:=fun x c e=>by
  rcases zks (PySem.mem_of_lookup e) with z | ⟨z1,z2⟩
  ·exact absurd z (by simp)
  ·obtain⟨c',hc'⟩:=hfree _ z1 rfl
   have hc'':X.env.cells.lookup x=some c':=hc'
   have z2':c=(X.env.cells.lookup x).getD 0:=z2
   rw[hc''] at z2' ⊢
   simp at z2'
   rw[z2']
 have hasC:∀ x,(x,NameKind.free) ∈ scope.names->∃ c,(clOf X.env.cells scope.names []).lookup x=some c:=fun x hx=>by
  obtain⟨c,hc⟩:=zkt (cells:=X.env.cells) (cs:=[]) (.inl hx)
  cases q:(clOf X.env.cells scope.names []).lookup x with
  | some c'=>exact⟨c',rfl⟩
  | none =>
   have:∀ (l:List (Str × Addr)),(x,c) ∈ l->l.lookup x≠none:=fun l=>by
    induction l with
    | nil=>intro z;cases z
    | cons p r ih =>
     intro z
     obtain⟨p1,p2⟩:=p
     rw[List.lookup_cons]
     rcases List.mem_cons.mp z with z | z
     ·cases z
      simp
     ·split
      ·simp
      ·exact ih z
   exact absurd q (this _ hc)
 have hcell:∀ y ∈ scope.names,y.2≠.cell:=fun y hy=>(hall y hy).1.1
 have sz:X.base.objs.size≤s3.heap.objs.size:=Nat.le_trans I.ok.bsz I.sz
 refine⟨⟨I.ok.mod,hk,I.ok.glob,I.ok.blt,Nat.le_refl _,fun x y c e1 e2=>I.ok.inj x y c (hcl x c e1) (hcl y c e2),fun x hx=>hasC x (zf5 hcell hx),fun x c z=>absurd z (by simp [cxComp]),
  I.ok.hd,I.ok.frames,.inl rfl,fun b hb=>⟨Nat.ne_of_lt (hlt b hb),fun x c e=>(hf b hb).2.2.2.2.1 x c (hcl x c e)⟩,I.bs,sz,fun b o e hb=>?_,fun b hb z=>?_,I.stack,I.stkFree⟩,
  rfl,I.bare,Un.kept k,⟨m4,hns,fun i x v e1 e2 e3=>?_⟩,fun x c e=>?_,I.hok.fresh (Nat.le_refl _),fun x c e=>I.freeC x c (hcl x c e),fun p hp=>?_,I.hok.kept k,?_⟩
 ·obtain⟨_,_,_,f3,_⟩:=hf b hb
  rcases f3 with f3 | f3
  ·exact I.ok.noex b o e f3
  ·exact absurd (Nat.lt_of_lt_of_le (Heap.lt_size e) (Nat.le_trans I.ok.bsz f3)) (Nat.lt_irrefl _)
 ·obtain⟨_,f1,f2,_⟩:=hf b hb
  rcases List.mem_cons.mp (I.stkSub b z) with z | z
  ·exact f1 z
  ·exact f2 z
 ·have e2':(List.replicate own.length (none:Option V)++js.map fun j=>(σ[j]?).join)[i]?=some (some v):=e2
  have e1':(own++fr)[i]?=some x:=e1
  by_cases hi:i < own.length
  ·rw[List.getElem?_append_left (by simpa using hi),List.getElem?_replicate,if_pos hi] at e2'
   cases e2'
  ·rw[List.getElem?_append_right (by simpa using hi),List.length_replicate] at e2'
   rw[List.getElem?_append_right (by trivial)] at e1'
   obtain⟨j,hj,hv⟩:=zmu e2'
   have hz:(fr.zip js)[i - own.length]?=some (x,j):=by
    rw[List.getElem?_zip_eq_some]
    exact⟨e1',hj⟩
   have q:=hfr _ (List.mem_of_getElem? hz)
   obtain⟨⟨q1,q2⟩,q3⟩:=q
   have q3'':X.env.scope.names.lookup x=some .cell∨X.env.scope.names.lookup x=some .free:=by simpa using q3
   have q3':X.env.kindOf x=some .cell∨X.env.kindOf x=some .free:=q3''
   obtain⟨m,hn,hl⟩:=I.loc
   obtain⟨u,r,l⟩:=hl j x v q1 hv (q3'.elim (fun z=>.inr (.inl z)) fun z=>.inr (.inr z))
   refine⟨u,r,.inr ⟨zcg q2,?_⟩⟩
   rcases l with ⟨z,_⟩ | ⟨_,c,hc,hcellv⟩
   ·rcases q3' with w | w <;> (rw[z] at w;cases w)
   ·obtain⟨c',hc'⟩:=hasC x (PySem.mem_of_lookup q2)
    have e:=hcl x c' hc'
    rw[hc] at e
    cases e
    obtain⟨o,ho,hd⟩:=hcellv
    exact⟨c,hc',o,k c o ho,hd⟩
 ·obtain⟨v,o,ho,hd⟩:=I.cell x c (hcl x c e)
  exact⟨v,o,k c o ho,hd⟩
 ·have hp':p ∈ X.pn++pins:=by
   have:p ∈ (X.pn++pins)++([]:List (Addr × Obj)):=hp
   simpa using this
  obtain⟨a,b,c,d,f⟩:=I.pin p hp'
  refine⟨k _ _ a,b,Nat.ne_of_lt (Heap.lt_size a),fun z=>?_,f⟩
  rcases List.mem_cons.mp (I.stkSub p.1 z) with z | z
  ·exact c z
  ·exact d z
 ·show (List.replicate own.length (none:Option V)++js.map fun j=>(σ[j]?).join).length=(own++fr).length
  simp [hlen]
theorem znd {pins:List (Addr × Obj)} {s:Shared} {σ:L2.St} {H:Hp} {Q:VK} {use:Option (Value->Sem Unit)} {Qo:Value->Shared->Prop} {cpos:Pos}
  (hc:X.calm=true) (hi:PI X tg iter wi) (hg:∀ fp pins s3 H3,PG (cxComp X own fr scope fp pins s3 H3) tg g) (ht:∀ fp pins s3 H3,PTs (cxComp X own fr scope fp pins s3 H3) ifs tt)
  (he:∀ fp pins s3 H3,PE (cxComp X own fr scope fp pins s3 H3) elt te) (hok:compOk N sc0 scope fr js=true) (hN:X.N=N) (hsc:X.env.scope=sc0)
  (hs:∀ x,foldedSetIterable iter X.env x=pure x) (I:Inv X pins σ H s) (h:tComp own js wi g tt te σ H Q)
  (fin:∀ (C D:Addr) (s6:Shared) (H6:Hp) (m6:Str->Option Value),Inv X pins σ H6 s6->FpOk X pins H6 C->s6.heap.Ns C m6->Q (.ref D) H6->compPost (model X.prog X.w) X.A X.xe use Qo (.ref D) C (.ok .next) s6) :
  wpAny (model X.prog X.w) X.A (comprehension (.ListComp elt [⟨tg,iter,ifs,0⟩] scope pos) scope X.env cpos (newList []) false (eval iter X.env) use) Qo X.xe s:=by
 have hok':=hok
 unfold compOk at hok'
 simp only [Bool.and_eq_true,decide_eq_true_eq,List.all_eq_true] at hok'
 obtain⟨⟨⟨hk,hall⟩,hlen⟩,hfr⟩:=hok'
 have hcell:∀ y ∈ scope.names,y.2≠.cell:=fun y hy=>(hall y hy).1.1
 have hloc:∀ y ∈ scope.names,y.2=.local->scope.names.lookup y.1=some .local:=fun y hy e=>by
  have q:=(hall y hy).2
  simp only [Bool.or_eq_true,decide_eq_true_eq] at q
  rcases q with q | q
  ·exact absurd e q
  ·exact q
 have hfree:∀ y ∈ scope.names,y.2=.free->∃ c,X.env.cells.lookup y.1=some c:=fun y hy e=>by
  have q:=(hall y hy).1.2
  simp only [Bool.or_eq_true,decide_eq_true_eq] at q
  rw[← hsc] at q
  rcases q with (q | q) | q
  ·exact absurd e q
  ·exact I.ok.has y.1 (.inl q)
  ·exact I.ok.has y.1 (.inr q)
 refine wpAny_comprehension_free (use:=use) rfl hs (zlf hfree) hk hloc (thn (hi pins s σ H _ I h) fun v s1 h1=>thn h1 fun itv s2 h2=>?_)
 obtain⟨it,fp,tn,J,H2,e,I2,T,st2,f2,rd⟩:=h2
 subst e
 have hD2:H2 s2.heap.objs.size=none:=I2.fresh
 obtain⟨W,⟨m0,w0⟩,turn⟩:=rd s2.heap.objs.size hD2
  -- the new list
 refine wpAny_newList ?_ (Nat.zero_le _)
 have I3:Inv X pins σ (upd H2 s2.heap.objs.size (.lst [])) { s2 with heap:=s2.heap.push { cls:=.type "list",data:=.seq ([]:List Value).toArray } }:=I2.lnew (t':=s2.toks) .nil (Nat.zero_le _)
 generalize hs3:({ s2 with heap:=s2.heap.push { cls:=.type "list",data:=.seq ([]:List Value).toArray } }:Shared)=s3 at I3
 generalize hD:s2.heap.objs.size=D at *
 have fpl:∀ b ∈ fp,b < D:=fun b hb=>by
  obtain⟨o,ho,_⟩:=T.obj _ _ st2 b hb
  rw[← hD];exact Heap.lt_size ho
 have k23:∀ b o,s2.heap.get? b=some o->s3.heap.get? b=some o:=fun b o e=>by rw[← hs3];exact Heap.get?_push_of_some _ e
 have hD3:s3.heap.objs.size=D + 1:=by rw[← hs3,← hD];exact Heap.size_push ..
 have f3:∀ b ∈ fp,FpOk X pins (upd H2 D (.lst [])) b:=fun b hb=>by
  obtain⟨f0,f⟩:=f2 b hb
  exact⟨by rw[zat (Nat.ne_of_lt (fpl b hb))];exact f0,f⟩
 refine wpAny_newFunctionEnv hcell (by intro y hy;simp at hy) (fun h4 hns4 hsb4=>?_) hk
 have k34:∀ b o,s3.heap.get? b=some o->h4.get? b=some o:=fun b o e=>hsb4.extBut b o (Nat.ne_of_lt (Heap.lt_size e)) (Heap.get?_push_of_some _ e)
 have I4:=zoi (own:=own) (t4:=s3.toks + ([]:List (Str × Value)).length) hN hsc hok I3 f3 (fun b hb=>Nat.lt_of_lt_of_le (fpl b hb) (by rw[hD3];exact Nat.le_succ _)) k34 hns4
 have tn4:tn 0 h4:=T.keep 0 s2.heap h4 st2 fun b hb o e=>k34 b o (k23 b o e)
 have I4o:=I4.ok
 have fpS:∀ {H'':Hp},(∀ b ∈ fp,H'' b=none)->∀ b ∈ fp,FpOk (cxComp X own fr scope fp pins s3 (upd H2 D (.lst []))) [] H'' b:=fun hn b hb =>
  ⟨hn b hb,(I4o.exf b hb).1,I4o.exfs b hb,.inl hb,(I4o.exf b hb).2,fun p hp=>(f2 b hb).2.2.2.2.2 p (by
   have:p ∈ (X.pn++pins)++([]:List (Addr × Obj)):=hp
   simpa using this)⟩
 have loop : codeAny (model X.prog X.w) X.A (.compLoop (.ListComp elt [⟨tg, iter, ifs, 0⟩] scope pos) 0 (.ref it) (.ref D) (compEnvC scope (clOf X.env.cells scope.names []) s3.heap.objs.size X.env))
     (compPost (model X.prog X.w) X.A X.xe use Qo (.ref D) s3.heap.objs.size) { s3 with heap:=h4,toks:=s3.toks + ([]:List (Str × Value)).length }:=by
  refine zle (fun n s'=>∃ i ys σ' H',Inv (cxComp X own fr scope fp pins s3 (upd H2 D (.lst []))) [] σ' H' s'∧tn i s'.heap∧(∀ b ∈ fp,H' b=none)∧H' D=some (.lst ys)∧W i n ys σ' H')
   ?step m0 ⟨0,[],_,_,I4,tn4,fun b hb=>(f3 b hb).1,zak,w0⟩
  rintro n s5 ⟨i,ys,σ5,H5,I5,tn5,fr5,d5,w5⟩
  rcases turn i n ys σ5 H5 w5 d5 with ⟨stop,q⟩ | ⟨go,stp⟩
  ·refine thn (T.done (cxComp X own fr scope fp pins s3 (upd H2 D (.lst []))) rfl rfl rfl hc i [] s5 σ5 H5 Fls I5 (fpS fr5) tn5 stop) fun r s6 ⟨hr,I6⟩=>.inl ⟨hr,?_⟩
   obtain⟨m6,hn6,_⟩:=id I6.loc
   have u1:Un (frs X.stack) fp H2 H5 s2.heap s6.heap:=(Un.laid k23 (Nat.le_of_eq hD) hD2).trans I6.base
   have fC:H5 s3.heap.objs.size=none:=I6.free
   have IX:Inv X pins σ H5 s6:=I2.call' (s':=s6) (ch:=fp) (by
    have:=I6.os
    rw[← hs3] at this
    exact this) u1 I6.hok I6.bare fun b hb=>by
     obtain⟨_,g1,_,g3,g4,g5⟩:=f2 b hb
     exact⟨g3,g1,g4,g5⟩
   exact fin s3.heap.objs.size D s6 H5 m6 IX (I2.fpOk (by rw[hD3,hD];exact Nat.le_succ _) fC) hn6 q
  ·refine thn (T.item (cxComp X own fr scope fp pins s3 (upd H2 D (.lst []))) rfl rfl rfl hc i [] s5 σ5 H5 Fls I5 (fpS fr5) tn5 go) fun r s6 ⟨u,hr,h6⟩=>.inr ⟨u,hr,thn h6 fun _ s7 ⟨x,H7,I7,r7,y7,tn7,fr7⟩=>?_⟩
   have I7':=I7.pinned (fpS fr7) (T.obj _ _ tn7)
   refine thn (hg fp pins s3 (upd H2 D (.lst [])) _ s7 σ5 H7 x u _ I7' r7 (stp x H7 y7)) fun _ s8 ⟨σ8,H8,I8,q8⟩=>?_
   refine thn (ht fp pins s3 (upd H2 D (.lst [])) _ s8 σ8 H8 _ I8 q8) fun ok s9 ⟨H9,I9,q9⟩=>?_
   have back:∀ {σ':L2.St} {H':Hp} {s':Shared},Inv (cxComp X own fr scope fp pins s3 (upd H2 D (.lst []))) ([]++pinsAt fp s7.heap) σ' H' s'->tn (i + 1) s'.heap∧∀ b ∈ fp,H' b=none:=fun {σ' H' s'} J=>by
    refine⟨T.keep _ _ _ tn7 fun b hb o e=>(J.pin (b,o) (List.mem_append_right _ (List.mem_append_right _ (zc2 hb e)))).1,fun b hb=>?_⟩
    obtain⟨o,e,_⟩:=T.obj _ _ tn7 b hb
    exact (J.pin (b,o) (List.mem_append_right _ (List.mem_append_right _ (zc2 hb e)))).2.1
   cases ok with
   | false =>
    rw[if_neg Bool.false_ne_true] at q9
    obtain⟨d9,m',hm,w9⟩:=q9
    rw[if_neg Bool.false_ne_true]
    exact⟨m',hm,i + 1,ys,σ8,H9,I9.unpinned,(back I9).1,(back I9).2,d9,w9⟩
   | true =>
    rw[if_pos rfl] at q9 ⊢
    refine thn (he fp pins s3 (upd H2 D (.lst [])) _ s9 σ8 H9 _ I9 q9) fun xv s10 ⟨v,H10,I10,r10,d10,len,m',hm,w10⟩=>?_
    refine thn (zdr (X:=cxComp X own fr scope fp pins s3 (upd H2 D (.lst []))) _ s10 σ8 H10 (.ref D) [v] (.ref D) [xv] (fun _ H'=>H'=upd H10 D (.lst (ys++[v]))) I10 rfl (.cons r10 .nil) ⟨D,ys,v,rfl,rfl,d10,len,rfl⟩) fun _ s11 ⟨_,H11,I11,_,e11⟩=>?_
    subst e11
    exact⟨m',hm,i + 1,ys++[v],σ8,_,I11.unpinned,(back I11).1,(back I11).2,zak,w10⟩
 exact codeAny_compStart_list loop (T.self X.A 0 _ _ _ tn4 loop)
theorem zbl (hc:X.calm=true) (hi:PI X tg iter wi) (hg:∀ fp pins s3 H3,PG (cxComp X own fr scope fp pins s3 H3) tg g) (ht:∀ fp pins s3 H3,PTs (cxComp X own fr scope fp pins s3 H3) ifs tt)
  (he:∀ fp pins s3 H3,PE (cxComp X own fr scope fp pins s3 H3) elt te) (hok:compOk N sc0 scope fr js=true:=by decide +kernel) (hN:X.N=N:=by rfl) (hsc:X.env.scope=sc0:=by rfl)
  (hs:∀ x,foldedSetIterable iter X.env x=pure x:=by intro _;rfl):PE X (.ListComp elt [⟨tg,iter,ifs,0⟩] scope pos) (tComp own js wi g tt te):=by
 intro pins s σ H Q I h
 rw[eval_ListComp]
 refine znd hc hi hg ht he hok hN hsc hs I h fun C D s6 H6 m6 I6 f6 n6 q6=>⟨m6,n6,fun h7 sb=>⟨.ref D,H6,?_,rfl,q6⟩⟩
 obtain⟨f0,f1,_,f3,f4,f5⟩:=f6
 exact I6.turned (it:=C) (t':=s6.toks) (fun b o hb e=>sb.extBut b o hb e) f0 f1 f3 f4 f5
end
end L3
namespace L3
open PySem PySem.Spec PyProof.Rows L2
section
variable {X:Cx} {pins:List (Addr × Obj)} {σ:L2.St} {H H':Hp} {s:Shared} {h':Heap} {ch:List Addr} {t':Nat}
theorem turnsTo (I:Inv X pins σ H s) (hf:∀ b ∈ ch,FpOk X pins H b) (k:∀ b o,b ∉ ch->s.heap.get? b=some o->h'.get? b=some o) (hH:∀ b u,H b=some u->H' b=some u)
  (hfree:∀ b o,s.heap.get? b=some o->H b=none->H' b=none) (hok:HOk X.prog X.w H' h'):Inv X pins σ H' { s with heap:=h',toks:=t' }:=by
 refine I.step (g':=s.gens) (d':=s.drawn) (ch:=ch) (fun b hb=>?_) (fun b o _ _ hc e _=>k b o hc e) (fun b o _ _ hc e _=>⟨o.slots,k b o hc e⟩) (fun b o _ e n=>hfree b o e n) (fun b o hc e=>⟨o,k b o hc e⟩)
  (fun b xs e=>hH _ _ e) (fun b o u e=>hH _ _ e) (fun b ps e=>⟨#[],by rw[hH _ _ e];simp⟩) (fun m hm=>?_) hok I.bare
 ·obtain⟨_,f1,_,f3,f4,f5⟩:=hf b hb
  exact⟨f3,f1,f4,f5⟩
 ·obtain⟨o,es,ep,ho,r⟩:=hm
  exact⟨o,es,ep,k _ o (fun z=>(hf _ z).2.1 rfl) ho,r⟩
theorem turns (I:Inv X pins σ H s) (hf:∀ b ∈ ch,FpOk X pins H b) (k:∀ b o,b ∉ ch->s.heap.get? b=some o->h'.get? b=some o):Inv X pins σ H { s with heap:=h',toks:=t' }:=by
 refine turnsTo I hf k (fun _ _ e=>e) (fun _ _ _ n=>n) fun b u e=>?_
 refine (I.hok b u e).stay (fun c v hc q=>k c v (fun z=>?_) q) (fun _ q=>q) fun _ _ q=>q
 have n:=(hf c z).1
 rcases hc with rfl | hc
 ·rw[n] at e;cases e
 ·rw[n] at hc;cases hc
theorem turnsTup {xs:List V} {its:List Value} {T:Addr} (I:Inv X pins σ H s) (hf:∀ b ∈ ch,FpOk X pins H b) (k:∀ b o,b ∉ ch->s.heap.get? b=some o->h'.get? b=some o) (hT:s.heap.objs.size≤T)
  (hz:xs.length≤sizeLine) (hv:Vals xs its) (ht:TupN h' T its.toArray):Inv X pins σ (upd H T (.tup xs)) { s with heap:=h',toks:=t' }:=by
 have fr:H T=none:=I.hok.fresh hT
 have ne:∀ b u,H b=some u->b≠T:=fun b u e=>zaq e fr
 refine turnsTo I hf k (fun b u e=>by rw[zat (ne b u e)];exact e) (fun b o e n=>by rw[zat (Nat.ne_of_lt (Nat.lt_of_lt_of_le (Heap.lt_size e) hT))];exact n) fun b u e=>?_
 by_cases hb:b=T
 ·subst hb
  rw[zak] at e
  cases e
  exact⟨hz,its,hv,ht⟩
 ·rw[zat hb] at e
  refine (I.hok b u e).stay (fun c v hc q=>k c v (fun z=>?_) q) (fun c q=>by rw[zat (ne c _ q)];exact q) fun c ys q=>by rw[zat (ne c _ q)];exact q
  have n:=(hf c z).1
  rcases hc with rfl | hc
  ·rw[n] at e;cases e
  ·rw[n] at hc;cases hc
end
def SqX (t:Bool) (K:PySem.W.Frag) (H:Hp) (a:Addr) (xs:List V):Prop:=if t=true then SqT K H a xs else SqL K H a xs
section
variable {X:Cx} {pins:List (Addr × Obj)} {σ:L2.St} {H:Hp} {s:Shared} {a:Addr} {xs ys:List V} {t:Bool}
theorem seqX (I:Inv X pins σ H s) (h:SqX t X.K H a xs):∃ its:List Value,Vals xs its∧Z3.SqAt t s.heap a its.toArray∧xs.length≤sizeLine:=by
 cases t with
 | true=>obtain⟨its,r,p,z⟩:=I.tuple (show SqT X.K H a xs from h);exact⟨its,r,p,z⟩
 | false=>obtain⟨its,r,p,z⟩:=I.list (show SqL X.K H a xs from h);exact⟨its,r,p.isList,z⟩
theorem zdm (I:Inv X pins σ H s) (h:SqX t X.K H a xs) (h':SqX t X.K H a ys):xs=ys:=by
 cases t with
 | true=>exact I.tuple_inj h h'
 | false=>exact I.list_inj h h'
end
def Itz (t1 t2:Bool) (K:PySem.W.Frag) (l1 l2:Addr):It :=
 ⟨fun i H=>∃ xs ys x y,SqX t1 K H l1 xs∧SqX t2 K H l2 ys∧xs[i]?=some x∧ys[i]?=some y,
  fun i H v H'=>∃ T x y,H T=none∧v=.ref T∧H'=upd H T (.tup [x,y])∧(∀ xs,SqX t1 K H l1 xs->xs[i]?=some x)∧(∀ ys,SqX t2 K H l2 ys->ys[i]?=some y),
  fun i H=>∃ xs ys,SqX t1 K H l1 xs∧SqX t2 K H l2 ys∧(xs.length≤i∨ys.length≤i)⟩
theorem zny {P:Program} {w:World} {K:PySem.W.Frag} {elts:List Expr} {kk:Nat} {pos:Pos} {t1 t2:Bool} {z TI TO i1 i2 l1 l2:Addr} (D:Z3.Ap z TI TO i1 i2) (o1:Z3.Out z TI TO i1 i2 l1) (o2:Z3.Out z TI TO i1 i2 l2) :
  Turn P w K (.Tuple elts kk pos) (Itz t1 t2 K l1 l2) [z,TI,TO,i1,i2] z (fun i h=>Z3.Zd t1 t2 h z TI TO i1 i2 l1 l2 .none i) where
 mem:=by simp
 obj:=fun i h st b hb=>by
  obtain⟨q1,q2,⟨_,_,q3⟩,q4,q5⟩:=st
  obtain⟨o4,n4,e4,_,d4⟩:=q4.obj
  obtain⟨o5,n5,e5,_,d5⟩:=q5.obj
  simp only [List.mem_cons,List.not_mem_nil,or_false] at hb
  rcases hb with rfl | rfl | rfl | rfl | rfl
  ·exact⟨_,q1,fun v q=>by cases q⟩
  ·exact⟨_,q2,fun v q=>by cases q⟩
  ·exact⟨_,q3,fun v q=>by cases q⟩
  ·exact⟨_,e4,fun v q=>by rw[d4] at q;cases q⟩
  ·exact⟨_,e5,fun v q=>by rw[d5] at q;cases q⟩
 keep:=fun i h h' st k=>by
  obtain⟨q1,q2,⟨a,b,q3⟩,q4,q5⟩:=st
  exact⟨k z (by simp) _ q1,k TI (by simp) _ q2,⟨a,b,k TO (by simp) _ q3⟩,q4.to fun o e=>k i1 (by simp) o e,q5.to fun o e=>k i2 (by simp) o e⟩
 item:=by
  intro X hP hw hK hc i pins s σ H E I hf st hg
  subst hP hw hK
  obtain⟨xs,ys,x,y,q1,q2,hx,hy⟩:=hg
  obtain⟨its1,r1,p1,z1⟩:=seqX I q1
  obtain⟨its2,r2,p2,z2⟩:=seqX I q2
  obtain⟨u1,hu1,ru1⟩:=r1.get hx
  obtain⟨u2,hu2,ru2⟩:=r2.get hy
  have hf4:∀ b ∈ [z,TO,i1,i2],FpOk X pins H b:=fun b hb=>hf b (by
   simp only [List.mem_cons,List.not_mem_nil,or_false] at hb ⊢
   rcases hb with rfl | rfl | rfl | rfl <;> simp)
  refine Z3.zml D o1 o2 st p1 p2 (x:=u1) (y:=u2) (by simpa using hu1) (by simpa using hu2) fun h' zd tp sz kp=>?_
  have I1 : Inv X pins σ (upd H s.heap.objs.size (.tup [x, y])) { s with heap := h', toks := s.toks } := turnsTup (ch := [z, TO, i1, i2]) (its := [u1, u2]) I hf4 (fun b o hb e => by
      simp only [List.mem_cons,List.not_mem_nil,or_false,not_or] at hb
      exact kp b o hb.1 hb.2.1 hb.2.2.1 hb.2.2.2 e) (Nat.le_refl _) (by show 2≤sizeLine;rw[sizeLine_eq];decide) (.cons ru1 (.cons ru2 .nil)) ⟨_,tp,rfl,⟨_,rfl⟩,rfl⟩
  have fr:H s.heap.objs.size=none:=I.fresh
  have zne:∀ b ∈ [z,TI,TO,i1,i2],b≠s.heap.objs.size:=fun b hb e=>by
   have key:∃ o,s.heap.get? b=some o:=by
    obtain⟨q1,q2,⟨_,_,q3⟩,q4,q5⟩:=st
    obtain⟨o4,n4,e4,_,d4⟩:=q4.obj
    obtain⟨o5,n5,e5,_,d5⟩:=q5.obj
    simp only [List.mem_cons,List.not_mem_nil,or_false] at hb
    rcases hb with rfl | rfl | rfl | rfl | rfl
    ·exact⟨_,q1⟩
    ·exact⟨_,q2⟩
    ·exact⟨_,q3⟩
    ·exact⟨_,e4⟩
    ·exact⟨_,e5⟩
   obtain⟨o,ho⟩:=key
   exact absurd (Heap.lt_size ho) (by rw[e];exact Nat.lt_irrefl _)
  refine⟨_,rfl,wpAny_letOwnedTupleGo_zip zd.z fun h2 zd2 sb=>?_⟩
  obtain⟨f0,f1,f2,f3,f4,f5⟩:=hf z (by simp)
  have I2:Inv X pins σ (upd H s.heap.objs.size (.tup [x,y])) { s with heap:=h2,toks:=s.toks }:=Inv.turned (s:={ s with heap:=h',toks:=s.toks }) (it:=z) (t':=s.toks) I1 (fun b o hb e=>sb.extBut b o hb e) (by rw[zat (zne z (by simp))];exact f0) f1 f3 f4 f5
  refine⟨.ref s.heap.objs.size,_,I2,rfl,⟨_,x,y,fr,rfl,rfl,fun zs hz=>by rw[zdm I hz q1];exact hx,fun zs hz=>by rw[zdm I hz q2];exact hy⟩,?_,fun b hb=>by rw[zat (zne b hb)];exact (hf b hb).1⟩
  obtain⟨_,w2,⟨a3,b3,w3⟩,w4,w5⟩:=zd
  exact⟨zd2,sb.extBut _ _ D.n1 w2,⟨a3,b3,sb.extBut _ _ D.n2 w3⟩,w4.to fun o e=>sb.extBut _ _ D.n3 e,w5.to fun o e=>sb.extBut _ _ D.n4 e⟩
 done:=by
  intro X hP hw hK hc i pins s σ H E I hf st hg
  subst hP hw hK
  obtain⟨xs,ys,q1,q2,hx⟩:=hg
  obtain⟨its1,r1,p1,z1⟩:=seqX I q1
  obtain⟨its2,r2,p2,z2⟩:=seqX I q2
  have l1:=r1.length
  have l2:=r2.length
  have hf4:∀ b ∈ [z,TO,i1,i2],FpOk X pins H b:=fun b hb=>hf b (by
   simp only [List.mem_cons,List.not_mem_nil,or_false] at hb ⊢
   rcases hb with rfl | rfl | rfl | rfl <;> simp)
  refine Z3.zmk (I.ok.hd hc) D o1 o2 st p1 p2 (hx.elim (fun q=>.inl (by simp;trivial)) fun q=>.inr (by simp;trivial)) fun h' kp=>⟨rfl,?_⟩
  exact turns (ch:=[z,TO,i1,i2]) (t':=s.toks) I hf4 fun b o hb e=>by
   simp only [List.mem_cons,List.not_mem_nil,or_false,not_or] at hb
   exact kp b o hb.1 hb.2.1 hb.2.2.1 hb.2.2.2 e
 self:=fun _ _ _ _ _ st h=>wpAny_pyIter_zip st.z h
def iZip (t1 t2:Bool) (K:PySem.W.Frag) (ta:TA):TI:=fun σ H R=>ta σ H fun vs H1=>∃ l1 l2,vs=[.ref l1,.ref l2]∧(∃ xs,SqX t1 K H1 l1 xs)∧(∃ ys,SqX t2 K H1 l2 ys)∧R (Itz t1 t2 K l1 l2) H1
theorem zkg {X:Cx} {elts:List Expr} {kk:Nat} {pos':Pos} (t1 t2:Bool) {a b:Expr} {ta:TA} {p pos:Pos} (hg:Gl X "zip") (hm:X.mg "zip"=none) (ha:PA X [a,b] ta)
  (hs:starEach [a,b] X.env=[(false,eval a X.env),(false,eval b X.env)]:=by rfl) (hs2:starEach [b] X.env=[(false,eval b X.env)]:=by rfl) :
  PI X (.Tuple elts kk pos') (.Call (.Name "zip" p) [a,b] [] pos) (iZip t1 t2 X.K ta):=by
 intro pins s σ H R I h
 refine Call_ (ze6 I hg hm boot_zip (PyProof.Rows.callWith_type1 (thn (ha pos pins s σ H _ I h) fun us s1 ⟨vs,H1,I1,r1,q1⟩=>?_) (by rw[hs,hs2]) (by rw[hs2];rfl)))
 obtain⟨l1,l2,e,⟨xs,qx⟩,⟨ys,qy⟩,q⟩:=q1
 subst e
 cases r1 with
 | cons r rr =>
  cases rr with
  | cons r' rr =>
   cases rr
   cases r
   cases r'
   obtain⟨its1,r1,p1,z1⟩:=seqX I1 qx
   obtain⟨its2,r2,p2,z2⟩:=seqX I1 qy
   have lt:∀ {t:Bool} {l:Addr} {xs:Array Value},Z3.SqAt t s1.heap l xs->l < s1.heap.objs.size:=fun {t l xs} q=>by
    cases t with
    | true=>obtain⟨o,e,_⟩:=(show s1.heap.IsTuple l xs from q);exact Heap.lt_size e
    | false=>obtain⟨o,e,_⟩:=(show s1.heap.IsList l xs from q);exact Heap.lt_size e
   refine Z3.zkw p1 p2 fun h' zd sz kp=>wpAny_pyIter_zip zd.z ?_
   have I2:Inv X pins σ H1 { s1 with heap:=h',toks:=s1.toks }:=I1.kept (t':=s1.toks) kp
   refine⟨s1.heap.objs.size + 4,[s1.heap.objs.size + 4,s1.heap.objs.size + 2,s1.heap.objs.size + 3,s1.heap.objs.size,s1.heap.objs.size + 1],_,_,H1,rfl,I2,zny (Z3.zpe _) (Z3.zgj (lt p1)) (Z3.zgj (lt p2)),zd,fun b hb=>?_,q⟩
   have hb':s1.heap.objs.size≤b:=by
    simp only [List.mem_cons,List.not_mem_nil,or_false] at hb
    rcases hb with rfl | rfl | rfl | rfl | rfl
    ·exact Nat.le_add_right _ _
    ·exact Nat.le_add_right _ _
    ·exact Nat.le_add_right _ _
    ·exact Nat.le_refl _
    ·exact Nat.le_add_right _ _
   exact I1.fpOk hb' (I1.hok.fresh hb')
section
variable {X:Cx} {pos:Pos}
inductive gLst_i (K:PySem.W.Frag) (n:Nat) (t:TGs) (v:V) (σ:L2.St) (H:Hp) (Q:L2.St->Hp->Prop):Prop
 | mk:∀ a xs,(v=.ref a)->(SqL K H a xs)->(xs.length=n)->(t xs σ H Q)->gLst_i K n t v σ H Q
def gLst (K:PySem.W.Frag) (n:Nat) (t:TGs):TG:=fun v σ H Q=>gLst_i K n t v σ H Q
theorem zqw {es:List Expr} {k:Nat} {t:TGs} {n:Nat} (hc:X.calm=true) (h:PGs X es t) (hn:(assignEach es X.env).length=n:=by rfl) (hst:(assignEach es X.env).findIdx? (·.1)=none:=by rfl):PG X (.Tuple es k pos) (gLst X.K n t):=by
 intro pins s σ H v u Q I r hw
 obtain⟨a,xs,e1,hq,hl,hw⟩:=hw
 subst e1
 cases r
 obtain⟨its,rv,ht,hz⟩:=I.list hq
 refine U3.assign_tuple_lst (I.ok.hd hc) ht.isList (by simp [hn,← hl,rv.length]) hst fun h' hx=>?_
 have I1:Inv X pins σ H { s with heap:=h' }:=I.kept (t':=s.toks) fun b o e=>hx b o (Nat.ne_of_lt (Heap.lt_size e)) e
 exact h pins _ σ H xs _ Q I1 (by simpa using rv) hw
theorem zn2 {prog:Program} {w:World} {A:Around} {bs:List Bool} {its:List Value} (r:Vals (bs.map V.bl) its):TruthOf prog w A (fun i v=>its.toArray[i]?=some v) (fun i=>bs.getD i true):=by
 intro i v s Q E hP hq
 have hP':its[i]?=some v:=by simpa using hP
 have hl:=r.length
 have hi:i < its.length:=(List.getElem?_eq_some_iff.mp hP').1
 have hb:i < bs.length:=by rw[List.length_map] at hl;trivial
 obtain⟨u,hu,ru⟩:=r.get (i:=i) (x:=V.bl bs[i]) (by rw[List.getElem?_map,List.getElem?_eq_getElem hb];rfl)
 rw[hP'] at hu
 cases hu
 have e:v=Value.bool bs[i]:=ru
 subst e
 have e2:bs.getD i true=bs[i]:=by simp [List.getD,hb]
 have hq':Q (bs.getD i true) s:=hq
 rw[e2] at hq'
 exact wpAny_truthy_bool hq'
theorem zns (bs:List Bool):((List.range bs.length).all fun i=>bs.getD i true)=bs.all id:=by
 rw[Bool.eq_iff_iff,List.all_eq_true,List.all_eq_true]
 constructor
 ·intro h b hb
  obtain⟨i,hi,e⟩:=List.getElem_of_mem hb
  have:=h i (List.mem_range.mpr hi)
  rw[← e]
  simpa [List.getD,hi] using this
 ·intro h i hi
  have hi':=List.mem_range.mp hi
  have:=h bs[i] (List.getElem_mem hi')
  simpa [List.getD,hi'] using this
inductive call_all_i (K:PySem.W.Frag) (xs:List V) (H:Hp) (Q:VK):Prop
 | mk:∀ (p:Addr) (bs:List Bool),(xs=[.ref p])->(SqL K H p (bs.map V.bl))->(Q (.bl (bs.all id)) H)->call_all_i K xs H Q
theorem zc7 (hh:X.calm=true):CallR X (.builtin "all") (call_all_i X.K):=by
 intro pins s σ H xs us Q I r h
 obtain⟨p,bs,rfl,hq,q⟩:=h
 obtain⟨u,rfl,rx⟩:=vals1 r
 cases rx
 obtain⟨its,rv,pl,hz⟩:=I.list hq
 have hl:=rv.length
 have lt:p≠s.heap.objs.size:=by obtain⟨o,e,_⟩:=pl.isList;exact Nat.ne_of_lt (Heap.lt_size e)
 refine call_all_walk (wpAny_pyIter_list pl.isList ?_)
 have W:=Walks.list (prog:=X.prog) (w:=X.w) (A:=X.A.in1) (show X.A.in1.handled=none from I.ok.hd hh) s.heap.objs.size p lt its.toArray
 refine⟨s.heap.objs.size,_,_,_,_,_,_,rfl,W,⟨⟨_,Heap.get?_push_size _ rfl,rfl,rfl⟩,pl.isList.push _⟩,zn2 rv,fun h' tk hk=>?_⟩
 refine⟨.bl (bs.all id),H,I.kept (t':=tk) fun b o e=>hk b o (fun z=>?_) (Heap.get?_push_of_some _ e),?_,q⟩
 ·have:b=s.heap.objs.size:=by simpa using z
  exact absurd (Heap.lt_size e) (by rw[this];exact Nat.lt_irrefl _)
 ·show Value.bool _=Value.bool _
  have e1:its.toArray.size=bs.length:=by rw[List.size_toArray,← hl,List.length_map]
  rw[e1,zns]
inductive call_isi_i (K:PySem.W.Frag) (n:String) (xs:List V) (H:Hp) (Q:VK):Prop
 | mk:∀ x t b,(xs=[x,.ty n])->(TyOf K H x t)->(PySem.W.kitOne K t (.type n)=some b)->(Q (.bl b) H)->call_isi_i K n xs H Q
theorem zc6 {n:String}:CallR X (.builtin "isinstance") (call_isi_i X.K n):=by
 intro pins s σ H xs us Q I r h
 obtain⟨x,t,b,rfl,ty,e,q⟩:=h
 obtain⟨u,c,rfl,ru,rc⟩:=r.two
 cases rc
 exact zmv I ru ty e fun tk=>⟨.bl b,H,I.tok tk,rfl,q⟩
variable {a b c d:Expr} {ta tb tc td:TE}
end
end L3
namespace L3
open PySem PySem.Spec PyProof.Rows L2
mutual
def Is (K:PySem.W.Frag) (H:Hp):PyData->V->Prop
 | .none,v=>v=.non
 | .bool b,v=>v=.bl b
 | .int i,v=>v=.int i
 | .str x,v=>v=.str x
 | .tuple ds,v=>∃ p vs,v=.ref p∧H p=some (.tup vs)∧IsAll K H ds vs
 | .list ds,v=>∃ p vs,v=.ref p∧H p=some (.lst vs)∧IsAll K H ds vs
 | .dict kvs,v=>kvs=[]∧∃ p,v=.ref p∧H p=some (.dK [])
def IsAll (K:PySem.W.Frag) (H:Hp):List PyData->List V->Prop
 | [],vs=>vs=[]
 | d::ds,vs=>∃ v r,vs=v::r∧Is K H d v∧IsAll K H ds r
end
section
variable {K:PySem.W.Frag} {H H':Hp}
mutual
theorem Is.same (e:Same H H'):∀ (d:PyData) {v:V},Is K H d v->Is K H' d v
 | .none,_,h=>h
 | .bool _,_,h=>h
 | .int _,_,h=>h
 | .str _,_,h=>h
 | .tuple ds,_,h=>let ⟨p,vs,q1,q2,q3⟩:=h;⟨p,vs,q1,e _ _ q2,IsAll.same e ds q3⟩
 | .list ds,_,h=>let ⟨p,vs,q1,q2,q3⟩:=h;⟨p,vs,q1,e _ _ q2,IsAll.same e ds q3⟩
 | .dict kvs,_,h=>let ⟨q0,p,q1,q2⟩:=h;⟨q0,p,q1,e _ _ q2⟩
theorem IsAll.same (e:Same H H'):∀ (ds:List PyData) {vs:List V},IsAll K H ds vs->IsAll K H' ds vs
 | [],_,h=>h
 | d::ds,_,h=>let ⟨v,r,q1,q2,q3⟩:=h;⟨v,r,q1,Is.same e d q2,IsAll.same e ds q3⟩
end
theorem IsAll.length:∀ {ds:List PyData} {vs:List V},IsAll K H ds vs->vs.length=ds.length
 | [],_,h=>by rw[show _=[] from h];rfl
 | d::ds,_,⟨v,r,q1,q2,q3⟩=>by rw[q1,List.length_cons,List.length_cons,IsAll.length q3]
theorem IsAll.get':∀ {ds:List PyData} {vs:List V} {i:Nat} {v:V},IsAll K H ds vs->vs[i]?=some v->∃ d,ds[i]?=some d∧Is K H d v
 | [],_,i,v,h,e=>by rw[show _=[] from h] at e;simp at e
 | d::ds,_,0,v,⟨u,r,q1,q2,q3⟩,e=>by
  subst q1
  have e':u=v:=by simpa using e
  subst e';exact⟨d,rfl,q2⟩
 | d::ds,_,i + 1,v,⟨u,r,q1,q2,q3⟩,e=>by
  subst q1
  obtain⟨d',h1,h2⟩:=IsAll.get' (i:=i) q3 (by simpa using e)
  exact⟨d',by simpa using h1,h2⟩
theorem IsAll.of:∀ {ds:List PyData} {vs:List V},vs.length=ds.length->(∀ (i:Nat) (d:PyData) (v:V),ds[i]?=some d->vs[i]?=some v->Is K H d v)->IsAll K H ds vs
 | [],[],_,_=>rfl
 | [],_::_,h,_=>by simp at h
 | _::_,[],h,_=>by simp at h
 | d::ds,v::vs,h,q=>⟨v,vs,rfl,q 0 d v rfl rfl,IsAll.of (by simpa using h) fun i d' v' h1 h2=>q (i + 1) d' v' (by simpa using h1) (by simpa using h2)⟩
theorem IsAll.ints (ns:List Int):IsAll K H (ns.map .int) (ns.map V.int):=by
 refine IsAll.of (by simp) fun i d v h1 h2=>?_
 rw[List.getElem?_map] at h1 h2
 cases e:ns[i]? with
 | none=>rw[e] at h1;cases h1
 | some n=>rw[e] at h1 h2;cases h1;cases h2;exact rfl
theorem IsAll.of_ints:∀ {ns:List Int} {vs:List V},IsAll K H (ns.map .int) vs->vs=ns.map V.int
 | [],_,h=>h
 | n::ns,_,⟨v,r,q1,q2,q3⟩=>by
  have e:v=.int n:=q2
  rw[q1,e,IsAll.of_ints q3];rfl
end
section
variable {X:Cx} {pins:List (Addr × Obj)} {σ:L2.St} {H:Hp} {s:Shared}
mutual
theorem zc0 (I:Inv X pins σ H s):∀ (d:PyData) {v:V} {u:Value},Is X.K H d v->RelV v u->∃ as,Reads s.heap u d as
 | .none,_,_,h,r=>by
  have e:_=V.non:=h
  subst e;cases r;exact⟨_,.none⟩
 | .bool b,_,_,h,r=>by
  have e:_=V.bl b:=h
  subst e;cases r;exact⟨_,.bool b⟩
 | .int i,_,_,h,r=>by
  have e:_=V.int i:=h
  subst e;obtain⟨t,rfl⟩:=r;exact⟨_,.int i t⟩
 | .str x,_,_,h,r=>by
  have e:_=V.str x:=h
  subst e;obtain⟨t,rfl⟩:=r;exact⟨_,.str x t⟩
 | .tuple ds,_,_,h,r=>by
  obtain⟨p,vs,rfl,q2,q3⟩:=(show ∃ p vs,_=V.ref p∧H p=some (.tup vs)∧IsAll X.K H ds vs from h)
  cases r
  obtain⟨its,rv,⟨o,e1,e2,n,e3⟩,_⟩:=I.tuple (SqT.of q2)
  obtain⟨as,ra⟩:=zde I ds q3 rv
  exact⟨_,.tuple e1 e2 e3 (by simpa using ra)⟩
 | .list ds,_,_,h,r=>by
  obtain⟨p,vs,rfl,q2,q3⟩:=(show ∃ p vs,_=V.ref p∧H p=some (.lst vs)∧IsAll X.K H ds vs from h)
  cases r
  obtain⟨its,rv,⟨o,n,e1,e2,_,e3⟩,_⟩:=I.list (SqL.of q2)
  obtain⟨as,ra⟩:=zde I ds q3 rv
  exact⟨_,.list e1 e2 e3 (by simpa using ra)⟩
 | .dict kvs,_,_,h,r=>by
  obtain⟨e0,p,rfl,q2⟩:=(show kvs=[]∧∃ p,_=V.ref p∧H p=some (.dK []) from h)
  subst e0
  cases r
  obtain⟨_,_,vs,kv,o,es,ep,g1,g2,g3,_,g4,_⟩:=(show ObjOk X.prog X.w H s.heap p (.dK []) from I.hok p _ q2)
  cases kv
  have e1:es.toList=[]:=by cases h:es.toList with
   | nil=>rfl
   | cons x r=>rw[h] at g4;cases g4
  exact⟨_,.dict g1 g2.1 g3 (by rw[e1];exact .nil) (by rw[e1];exact .nil)⟩
theorem zde (I:Inv X pins σ H s):∀ (ds:List PyData) {vs:List V} {us:List Value},IsAll X.K H ds vs->Vals vs us->∃ as,ReadsAll s.heap us ds as
 | [],_,_,h,r=>by
  have e:_=[]:=h
  subst e;cases r;exact⟨_,.nil⟩
 | d::ds,_,_,h,r=>by
  obtain⟨v,vr,rfl,q2,q3⟩:=(show ∃ v r,_=v::r∧Is X.K H d v∧IsAll X.K H ds r from h)
  cases r with
  | cons r1 r2 =>
   obtain⟨as,a1⟩:=zc0 I d q2 r1
   obtain⟨bs,a2⟩:=zde I ds q3 r2
   exact⟨_,.cons a1 a2⟩
end
inductive op_eqD_i (K:PySem.W.Frag) (uu:Nat) (x:V) (y:V) (H:Hp) (Q:VK):Prop
 | mk:∀ da db,(Is K H da x)->(Is K H db y)->(da.canLay0=true)->(db.canLay0=true)->(uu + min da.depth db.depth < cLine)->(Q (.bl (PyData.eqv da db)) H)->op_eqD_i K uu x y H Q
theorem zmh:OpR X (compareOp .Eq) (op_eqD_i X.K X.A.units):=by
 intro pins s σ H x y v u Q I rx ry h
 obtain⟨da,db,h1,h2,c1,c2,hu,q⟩:=h
 obtain⟨as,ra⟩:=zc0 I da h1 rx
 obtain⟨bs,rb⟩:=zc0 I db h2 ry
 exact SeqAt.compareEq_reads ra rb c1 c2 hu (za5 I q rfl)
inductive op_neD_i (K:PySem.W.Frag) (uu:Nat) (x:V) (y:V) (H:Hp) (Q:VK):Prop
 | mk:∀ da db,(Is K H da x)->(Is K H db y)->(da.canLay0=true)->(db.canLay0=true)->(uu + min da.depth db.depth < cLine)->(Q (.bl (!PyData.eqv da db)) H)->op_neD_i K uu x y H Q
theorem zq0:OpR X (compareOp .NotEq) (op_neD_i X.K X.A.units):=by
 intro pins s σ H x y v u Q I rx ry h
 obtain⟨da,db,h1,h2,c1,c2,hu,q⟩:=h
 obtain⟨as,ra⟩:=zc0 I da h1 rx
 obtain⟨bs,rb⟩:=zc0 I db h2 ry
 exact SeqAt.compareNe_reads ra rb c1 c2 hu (za5 I q rfl)
theorem zol {ys:List V} {its:List Value} (r:Vals ys its) {i:Nat} (hi:i < ys.length):RelV (ys.getD i .non) (its.getD i .none):=by
 have hl:=r.length
 obtain⟨u,hu,ru⟩:=r.get (i:=i) (x:=ys[i]) (List.getElem?_eq_getElem hi)
 have e1:ys.getD i .non=ys[i]:=by simp [List.getD,hi]
 have e2:its.getD i .none=u:=by simp [List.getD,hu]
 rw[e1,e2];exact ru
theorem zgb {ys:List V} {its:List Value} (r:Vals ys its):∀ (l:List Nat),(∀ i ∈ l,i < ys.length)->Vals (l.map fun i=>ys.getD i .non) (l.map fun i=>its.getD i Value.none)
 | [],_=>.nil
 | i::l,h=>.cons (zol r (h i List.mem_cons_self)) (zgb r l fun j hj=>h j (List.mem_cons_of_mem _ hj))
theorem zkl {n:Nat} {p:Array Nat} (g:Srt.Gd n p):∀ i ∈ p.toList,i < n:=fun i hi=>by
 have:=g.mem_iff.mp (Array.mem_toList_iff.mp hi)
 simpa using this
theorem zm0 {α:Type} {n:Nat} {p:Array Nat} (g:Srt.Gd n p) (f:Nat->α):(p.toList.map f).Perm ((List.range n).map f):=by
 have h:=Array.perm_iff_toList_perm.mp g
 exact (by simpa using h:p.toList.Perm (List.range n)).map f
theorem zlq {n:Nat} {p:Array Nat} {r:Nat->Int} {R:Nat->Nat->Prop} (g:Srt.Gd n p) (u:Srt.Up r p n) (h:∀ i j,i < n->j < n->r i≤r j->R i j):p.toList.Pairwise R:=by
 rw[List.pairwise_iff_getElem]
 intro i j hi hj hij
 have sz:=g.sz
 have hi':i < p.size:=by simpa using hi
 have hj':j < p.size:=by simpa using hj
 have q:=u i j (Nat.le_of_lt hij) (by trivial)
 have e:∀ k (hk:k < p.size),p.getD k 0=p[k]:=fun k hk=>by simp [Array.getD,hk]
 unfold Srt.ky at q
 rw[e i hi',e j hj'] at q
 have m:∀ k (hk:k < p.size),p[k] < n:=fun k hk=>zkl g _ (by simp)
 have:=h p[i] p[j] (m i hi') (m j hj') q
 simpa using this
theorem zb0 {α:Type} (l:List α) (d:α):(List.range l.length).map (fun i=>l.getD i d)=l:=by
 refine List.ext_getElem (by simp) fun i h1 h2=>?_
 simp [List.getD,h2]
inductive call_sortedI_i (K:PySem.W.Frag) (xs:List V) (H:Hp) (Q:VK):Prop
 | mk:∀ p ns,(xs=[.ref p])->(SqL K H p (ns.map V.int))->(ns.length < 64)->(∀ ms:List Int,ms.Perm ns->ms.Pairwise (·≤·)->∀ l,H l=none->Q (.ref l) (upd H l (.lst (ms.map V.int))))->call_sortedI_i K xs H Q
theorem zig:CallR X (.builtin "sorted") (call_sortedI_i X.K):=by
 intro pins s σ H xs us Q I r h
 obtain⟨p,ns,rfl,hq,h64,q⟩:=h
 obtain⟨u,rfl,rx⟩:=vals1 r
 cases rx
 obtain⟨its,rv,pl,hz⟩:=I.list hq
 have hl:=rv.length
 rw[List.length_map] at hl
 have hI:IntsAre its ns:=zb2 rv
 have line:(64:Nat)≤sizeLine:=by rw[sizeLine_eq];decide
 refine Srt.zhn (r:=fun i=>ns.getD i 0) (κ:=oneType') pl.isList (by trivial) (fun h2 A' s' Q' _ q'=>Srt.zoj hI h2 q') (fun A' s' i j C _ hi hj q'=>Srt.zp5 hI hi hj q') fun pp h' c g u kp e=>?_
 have g':Srt.Gd ns.length pp:=by rw[hl];exact g
 have u':Srt.Up (fun i=>ns.getD i 0) pp ns.length:=by rw[hl];exact u
 have pm:(pp.toList.map fun i=>ns.getD i 0).Perm ns:=by
  have:=zm0 g' fun i=>ns.getD i 0
  rw[zb0] at this
  exact this
 have pw:(pp.toList.map fun i=>ns.getD i 0).Pairwise (·≤·):=by
  rw[List.pairwise_map]
  exact zlq g' u' fun i j _ _ z=>z
 have fr:H (s.heap.objs.size + 1)=none:=I.hok.fresh (Nat.le_succ _)
 have ev:((pp.toList.map fun i=>ns.getD i 0).map V.int)=pp.toList.map fun i=>(ns.map V.int).getD i .non:=by
  rw[List.map_map]
  refine List.map_congr_left fun i hi=>?_
  have:=zkl g' i hi
  simp [List.getD,this]
 refine⟨.ref (s.heap.objs.size + 1),_,I.laid (a:=s.heap.objs.size + 1) (o:=.lst ((pp.toList.map fun i=>ns.getD i 0).map V.int)) (t':=s.toks) kp (Nat.le_succ _) ⟨?_,Srt.outOf its pp,c,?_,e⟩,rfl,q _ pm pw _ fr⟩
 ·have:=pm.length_eq
  rw[List.length_map,this];trivial
 ·rw[ev]
  exact zgb rv pp.toList fun i hi=>by rw[List.length_map];exact zkl g' i hi
inductive call_sortedT_i (K:PySem.W.Frag) (xs:List V) (H:Hp) (Q:VK):Prop
 | mk:∀ p ys ks,(xs=[.ref p])->(SqL K H p ys)->(ys.length < 64)->(Paired (fun (y:V) (k:List Int)=>∃ a,y=.ref a∧SqT K H a (k.map V.int)) ys ks)->((∀ k ∈ ks,k≠[]))->(∀ qs:List (V × List Int),qs.Perm (ys.zip ks)->qs.Pairwise (fun a b=>Srt.lexI b.2 a.2=false)->∀ l,H l=none->Q (.ref l) (upd H l (.lst (qs.map (·.1)))))->call_sortedT_i K xs H Q
theorem zif:CallR X (.builtin "sorted") (call_sortedT_i X.K):=by
 intro pins s σ H xs us Q I r h
 obtain⟨p,ys,ks,rfl,hq,h64,hp,hne,q⟩:=h
 obtain⟨u,rfl,rx⟩:=vals1 r
 cases rx
 obtain⟨its,rv,pl,hz⟩:=I.list hq
 have hl:=rv.length
 have hlk:ys.length=ks.length:=Paired.length hp
 have line:(64:Nat)≤sizeLine:=by rw[sizeLine_eq];decide
 have hT:∀ {ys:List V} {ks:List (List Int)} {its:List Value},Paired (fun (y:V) (k:List Int)=>∃ a,y=.ref a∧SqT X.K H a (k.map V.int)) ys ks->Vals ys its->Paired (Srt.TupI s.heap) its ks:=by
  intro ys ks its hp
  induction hp generalizing its with
  | nil=>intro rv;cases rv;exact .nil
  | cons r t ih =>
   intro rv
   cases rv with
   | cons r1 r2 =>
    refine .cons ?_ (ih r2)
    obtain⟨a,rfl,qa⟩:=r
    cases r1
    obtain⟨its',rv',⟨o,e1,e2,n,e3⟩,_⟩:=I.tuple qa
    exact⟨a,o,its'.toArray,n,rfl,e1,e2,e3,by simpa using zb2 rv'⟩
 have tp:=hT hp rv
 have mono:∀ {h':Heap},(∀ b o,s.heap.get? b=some o->h'.get? b=some o)->Paired (Srt.TupI h') its ks:=fun k=>Paired.mapP tp fun v k' z=>z.to k
 refine Srt.zhn (r:=Srt.rank its.length fun i j=>Srt.lexI (ks.getD i []) (ks.getD j [])) (κ:=tuples' true) pl.isList (by trivial) (fun h2 A' s' Q' k q'=>Srt.zn0 (mono k) hne h2 q')
  (fun A' s' i j C k hi hj q'=>Srt.zpi (mono k) hi hj (by rw[Srt.zl6 (lt:=fun i j=>Srt.lexI (ks.getD i []) (ks.getD j [])) (fun i=>Srt.zgw _) (fun _ _ _ _ _ _=>Srt.zd6 _ _ _) (fun _ _ _ _ _ _=>Srt.zgv _ _ _) hi hj] at q';exact q')) fun pp h' c g u kp e=>?_
 have fr:H (s.heap.objs.size + 1)=none:=I.hok.fresh (Nat.le_succ _)
 have pm:(pp.toList.map fun i=>(ys.getD i .non,ks.getD i [])).Perm (ys.zip ks):=by
  have h1:=zm0 g fun i=>(ys.getD i V.non,ks.getD i [])
  have e1:(List.range its.length).map (fun i=>(ys.getD i V.non,ks.getD i []))=ys.zip ks:=by
   refine List.ext_getElem (by simp;trivial) fun i h1 h2=>?_
   have hi:i < its.length:=by simpa using h1
   have a1:i < ys.length:=by trivial
   have a2:i < ks.length:=by trivial
   simp [List.getD,a1,a2]
  rw[e1] at h1
  exact h1
 have pw:(pp.toList.map fun i=>(ys.getD i V.non,ks.getD i [])).Pairwise (fun a b=>Srt.lexI b.2 a.2=false):=by
  rw[List.pairwise_map]
  refine zlq g u fun i j hi hj z=>?_
  have w:=Srt.zl6 (n:=its.length) (lt:=fun i j=>Srt.lexI (ks.getD i []) (ks.getD j [])) (fun i=>Srt.zgw _) (fun _ _ _ _ _ _=>Srt.zd6 _ _ _) (fun _ _ _ _ _ _=>Srt.zgv _ _ _) hj hi
  rw[decide_eq_false (by trivial)] at w
  exact w.symm
 have ev:(pp.toList.map fun i=>(ys.getD i V.non,ks.getD i [])).map (·.1)=pp.toList.map fun i=>ys.getD i V.non:=by
  rw[List.map_map];rfl
 refine⟨.ref (s.heap.objs.size + 1),_,I.laid (a:=s.heap.objs.size + 1) (o:=.lst ((pp.toList.map fun i=>(ys.getD i V.non,ks.getD i [])).map (·.1))) (t':=s.toks) kp (Nat.le_succ _) ⟨?_,Srt.outOf its pp,c,?_,e⟩,rfl,q _ pm pw _ fr⟩
 ·have:=pm.length_eq
  rw[List.length_map,this,List.length_zip];trivial
 ·rw[ev]
  exact zgb rv pp.toList fun i hi=>by have:=zkl g i hi;trivial
end
end L3
namespace L3
open PySem PySem.Spec PyProof.Rows L2
def Ok (P:Program) (w:World) (K:PySem.W.Frag) (mg:Str->Option Value) (base:Heap) (k:Nat) (x:Str) (ps:List Str) (sp:Sp):Prop :=
 ∃ (f:Addr) (fd:FuncData),FnOk P w K mg base CX0 k f fd ps sp∧Binds K fd ps []∧PySem.W.keepIn K (.ref f)=true∧mg x=some (.ref f)
def DefOk (K:PySem.W.Frag) (mg:Str->Option Value) (x:Str) (st:Stmt) (ps:List Str):Prop :=
 ∃ (f:Addr) (fd:FuncData),Fun K x x st f fd∧Binds K fd ps []∧mg x=some (.ref f)
section
variable {P:Program} {w:World} {K:PySem.W.Frag} {mg:Str->Option Value} {base:Heap} {x:Str} {ps N:List Str} {sp sp':Sp} {k:Nat} {st:Stmt}
theorem Ok.mono {j:Nat} (O:Ok P w K mg base j x ps sp) (h:j≤k):Ok P w K mg base k x ps sp:=let ⟨f,fd,F,r⟩:=O;⟨f,fd,F.mono h,r⟩
theorem Ok.imp (O:Ok P w K mg base k x ps sp) (h:∀ vs H Q E,sp' vs H Q E->sp vs H Q E):Ok P w K mg base k x ps sp':=let ⟨f,fd,F,r⟩:=O;⟨f,fd,F.imp h,r⟩
theorem za2 (D:DefOk K mg x st ps) (S:FnScope N ps (defScope st)) (len:∀ vs H Q E,sp vs H Q E->vs.length=ps.length)
  (hbody:∀ (f:Addr) (cdv:Value) (A:Around) (outer:List Env) (s:Shared) (H:Hp) (vs:List V) (Q:VK) (E:XK),Room k (A.deeper (envOfC x (defScope st) s.heap.objs.size f cdv))->sp vs H Q E ->
   ∃ t,PSs (cxOf CX0 P w K mg base N x (defScope st) f cdv A outer s H E).nox (defBody st) t∧t { nx:=fun _ H'=>Q .non H',rt:=Q } (start N vs) H):Ok P w K mg base (k + 1) x ps sp:=by
 obtain⟨f,fd,F,b,m⟩:=D
 exact⟨f,fd,F.ok S len (fun cdv A outer s H vs Q E hr h=>hbody f cdv A outer s H vs Q E hr h),b,F.kp,m⟩
theorem zae {X:Cx} {p pos:Pos} {e:Expr} {es:List Expr} {t:TA} (O:Ok X.prog X.w X.K X.mg X.base k x ps sp) (hr:Room k X.A) (hg:Gl X x) (ha:PA X (e::es) t)
  (hdb:(x == ("__debug__":Str))=false:=by decide) (he:starEach (e::es) X.env=(false,eval e X.env)::starEach es X.env:=by rfl) (hpl:(backTo pos (starEach es X.env)).any (·.1)=false:=by rfl) :
  PE X (.Call (.Name x p) (e::es) [] pos) (tCall sp [] E0 t):=by
 obtain⟨f,fd,F,b,kp,m⟩:=O
 exact zpx F hr hg m kp b .nil pass0 ha hdb he hpl
end
structure Bi (mg:Str->Option Value):Prop where
 z_len:mg "len"=none
 z_range:mg "range"=none
 z_zip:mg "zip"=none
 z_all:mg "all"=none
 z_sorted:mg "sorted"=none
 z_isinstance:mg "isinstance"=none
 z_min:mg "min"=none
 z_max:mg "max"=none
 z_tuple:mg "tuple"=none
 z_list:mg "list"=none
 z_int:mg "int"=none
 z_bool:mg "bool"=none
 z_str:mg "str"=none
 z_enumerate:mg "enumerate"=none
 z_sum:mg "sum"=none
 z_abs:mg "abs"=none
 z_set:mg "set"=none
 z_reversed:mg "reversed"=none
 z_any:mg "any"=none
 z_repr:mg "repr"=none
def But (p:Addr) (H H':Hp):Prop:=∀ b o,b≠p->H b=some o->H' b=some o
section
variable {K:PySem.W.Frag} {H H1 H2:Hp} {p a:Addr} {o:HO} {xs ys:List V}
theorem But.refl:But p H H:=fun _ _ _ h=>h
theorem But.trans (a:But p H H1) (b:But p H1 H2):But p H H2:=fun c o n h=>b c o n (a c o n h)
theorem But.upd:But p H (upd H p o):=fun b u n h=>by rw[zat n];exact h
theorem Same.but (h:Same H H1):But p H H1:=fun b o _ q=>h b o q
theorem But.new (h:H a=none):But p H (L2.upd H a o):=fun b u _ q=>by rw[zat (zaq q h)];exact q
theorem zav (h:H a=none):Same H (upd H a o):=fun b u q=>by rw[zat (zaq q h)];exact q
end
mutual
def tupD:PyData->Bool
 | .none | .bool _ | .int _ | .str _=>true
 | .tuple ds=>tupAll ds
 | .list _ | .dict _=>false
def tupAll:List PyData->Bool
 | []=>true
 | d::ds=>tupD d && tupAll ds
end
mutual
theorem Is.but {K:PySem.W.Frag} {H H':Hp} {p:Addr} {xs:List V} (e:But p H H') (hp:H p=some (.lst xs)):∀ (d:PyData) {v:V},tupD d=true->Is K H d v->Is K H' d v
 | .none,_,_,h=>h
 | .bool _,_,_,h=>h
 | .int _,_,_,h=>h
 | .str _,_,_,h=>h
 | .tuple ds,_,t,h=>let ⟨q,vs,q1,q2,q3⟩:=h;⟨q,vs,q1,e _ _ (fun z=>by subst z;rw[hp] at q2;cases q2) q2,IsAll.but e hp ds t q3⟩
 | .list ds,_,t,h=>by cases t
 | .dict _,_,t,h=>by cases t
theorem IsAll.but {K:PySem.W.Frag} {H H':Hp} {p:Addr} {xs:List V} (e:But p H H') (hp:H p=some (.lst xs)):∀ (ds:List PyData) {vs:List V},tupAll ds=true->IsAll K H ds vs->IsAll K H' ds vs
 | [],_,_,h=>h
 | d::ds,_,t,h=>by
  have t':(tupD d && tupAll ds)=true:=t
  rw[Bool.and_eq_true] at t'
  obtain⟨v,r,q1,q2,q3⟩:=h
  exact⟨v,r,q1,Is.but e hp d t'.1 q2,IsAll.but e hp ds t'.2 q3⟩
end
def Pot (H:Hp) (p:Addr):Prop:=∃ a b:Int,H p=some (.lst [.int a,.int b])∧0≤a∧0≤b∧b < 2147483647
theorem Pot.lst {H:Hp} {p:Addr} (h:Pot H p):∃ xs,H p=some (.lst xs):=let ⟨a,b,e,_⟩:=h;⟨_,e⟩
inductive spPot_i (K:PySem.W.Frag) (vs:List V) (H:Hp) (Q:VK):Prop
 | mk:∀ a k (ns:List Int),(vs=[.ref a,.int k])->(SqL K H a (ns.map V.int))->(0≤k)->(k≤100)->(∀ l H',Same H H'->H l=none->Pot H' l->Q (.ref l) H')->spPot_i K vs H Q
def spPot (K:PySem.W.Frag):Sp:=fun vs H Q _=>spPot_i K vs H Q
inductive spTake_i  (vs:List V) (H:Hp) (Q:VK):Prop
 | mk:∀ p m,(vs=[.ref p,.int m])->(Pot H p)->(0 < m)->(m < 1073741824)->(∀ r H',0≤r->r < m->But p H H'->Pot H' p->Q (.int r) H')->spTake_i vs H Q
def spTake :Sp:=fun vs H Q _=>spTake_i vs H Q
inductive spLength_i  (vs:List V) (H:Hp) (Q:VK):Prop
 | mk:∀ p y,(vs=[.ref p,.int y])->(Pot H p)->(0≤y)->(y < 5)->(∀ r H',1≤r->r≤10 ^ 18->But p H H'->Pot H' p->Q (.int r) H')->spLength_i vs H Q
def spLength :Sp:=fun vs H Q _=>spLength_i vs H Q
inductive spTied_i  (vs:List V) (H:Hp) (Q:VK):Prop
 | mk:∀ p n y a b,(vs=[.ref p,.int n,.int y,.int a,.int b])->(Pot H p)->(∀ k H',But p H H'->Pot H' p->Q (.bl k) H')->spTied_i vs H Q
def spTied :Sp:=fun vs H Q _=>spTied_i vs H Q
inductive spOrder_i  (vs:List V) (H:Hp) (Q:VK):Prop
 | mk:∀ p m,(vs=[.ref p,.int m])->(Pot H p)->(0≤m)->(m≤1000)->(∀ l H' (ms:List Int),But p H H'->Pot H' p->H l=none->l≠p->H' l=some (.lst (ms.map V.int))->ms.Perm ((List.range m.toNat).map fun i:Nat=>(i:Int))->Q (.ref l) H')->spOrder_i vs H Q
def spOrder :Sp:=fun vs H Q _=>spOrder_i vs H Q
abbrev Tie:=Int × Int × Int
def tieI (t:Tie):List Int:=[t.1,t.2.1,t.2.2]
def tieD (t:Tie):PyData:=.tuple ((tieI t).map .int)
def webD (n:Int) (ties:List Tie):PyData:=.tuple [.int n,.tuple (ties.map tieD)]
def endLt (s t:Tie):Prop:=s.1 < t.1∨(s.1=t.1∧s.2.1 < t.2.1)
structure WebOk (n:Int) (ties:List Tie):Prop where
 n1:1≤n
 n24:n≤24
 rise:ties.Pairwise endLt
 few:ties.length≤60
 tie:∀ t ∈ ties,0≤t.1∧t.1 < t.2.1∧t.2.1 < n∧1≤t.2.2∧t.2.2≤10 ^ 18
inductive spWeb_i (K:PySem.W.Frag) (vs:List V) (H:Hp) (Q:VK):Prop
 | mk:∀ p m,(vs=[.ref p,.int m])->(Pot H p)->(1≤m)->(m≤24)->(∀ v H' n ties,But p H H'->Pot H' p->WebOk n ties->n≤m->Is K H' (webD n ties) v->Q v H')->spWeb_i K vs H Q
def spWeb (K:PySem.W.Frag):Sp:=fun vs H Q _=>spWeb_i K vs H Q
end L3
namespace L3
structure Grown (n:Nat) (ms:List Int) (b a:Nat) (ties:List Tie):Prop where
 few:ties.length≤60
 ok:∀ t ∈ ties,0≤t.1∧t.1 < t.2.1∧t.2.1 < (n:Int)∧1≤t.2.2∧t.2.2≤10 ^ 18
 of:∀ t ∈ ties,∃ a' b':Nat,a' < b'∧b' < n∧(b' < b∨(b'=b∧a' < a))∧((t.1=ms.getD a' 0∧t.2.1=ms.getD b' 0)∨(t.1=ms.getD b' 0∧t.2.1=ms.getD a' 0))
 nd:ties.Pairwise fun s t=>¬ (s.1=t.1∧s.2.1=t.2.1)
theorem Grown.start {n:Nat} {ms:List Int}:Grown n ms 0 0 []:=⟨Nat.zero_le _,(fun t h=>by cases h),(fun t h=>by cases h),List.Pairwise.nil⟩
theorem Grown.down {n:Nat} {ms:List Int} {b:Nat} {ties:List Tie} (g:Grown n ms b b ties):Grown n ms (b + 1) 0 ties :=
 ⟨g.few,g.ok,fun t h=>by
  obtain⟨a',b',h1,h2,h3,h4⟩:=g.of t h
  exact⟨a',b',h1,h2,.inl (by trivial),h4⟩,g.nd⟩
theorem Grown.skip {n:Nat} {ms:List Int} {b a:Nat} {ties:List Tie} (g:Grown n ms b a ties):Grown n ms b (a + 1) ties :=
 ⟨g.few,g.ok,fun t h=>by
  obtain⟨a',b',h1,h2,h3,h4⟩:=g.of t h
  exact⟨a',b',h1,h2,by trivial,h4⟩,g.nd⟩
structure Perm0 (n:Nat) (ms:List Int):Prop where
 len:ms.length=n
 lo:∀ i,i < n->0≤ms.getD i 0∧ms.getD i 0 < (n:Int)
 inj:∀ i j,i < n->j < n->ms.getD i 0=ms.getD j 0->i=j
theorem Perm0.of {n:Nat} {ms:List Int} (h:ms.Perm ((List.range n).map fun i:Nat=>(i:Int))):Perm0 n ms:=by
 have hl:ms.length=n:=by simpa using h.length_eq
 have nd:ms.Nodup:=(h.nodup_iff).mpr (by
  rw[List.Nodup,List.pairwise_map]
  exact (List.nodup_range (n:=n)).imp fun h z=>h (by trivial))
 refine⟨hl,fun i hi=>?_,fun i j hi hj e=>?_⟩
 ·have e:ms.getD i 0=ms[i]:=by simp [List.getD,show i < ms.length by trivial]
  have m:ms[i]'(by trivial) ∈ (List.range n).map fun i:Nat=>(i:Int):=h.mem_iff.mp (List.getElem_mem _)
  rw[e]
  obtain⟨k,hk,ek⟩:=List.mem_map.mp m
  have:=List.mem_range.mp hk
  trivial
 ·have e1:ms.getD i 0=ms[i]:=by simp [List.getD,show i < ms.length by trivial]
  have e2:ms.getD j 0=ms[j]:=by simp [List.getD,show j < ms.length by trivial]
  rw[e1,e2] at e
  exact (List.getElem_inj nd).mp e
theorem Grown.add {n:Nat} {ms:List Int} {b a:Nat} {ties:List Tie} {x y l:Int} (g:Grown n ms b a ties) (pm:Perm0 n ms) (ha:a < b) (hb:b < n) (hf:ties.length < 60) (hl:1≤l) (hl2:l≤10 ^ 18)
  (hxy:(x=ms.getD a 0∧y=ms.getD b 0)∨(x=ms.getD b 0∧y=ms.getD a 0)) (hle:x≤y):Grown n ms b (a + 1) (ties++[(x,y,l)]):=by
 have han:=Nat.lt_trans ha hb
 have la:=pm.lo a han
 have lb:=pm.lo b hb
 have ne:ms.getD a 0≠ms.getD b 0:=fun e=>Nat.ne_of_lt ha (pm.inj a b han hb e)
 refine⟨by rw[List.length_append,List.length_singleton];exact hf,fun t ht=>?_,fun t ht=>?_,?_⟩
 ·rcases List.mem_append.mp ht with h | h
  ·exact g.ok t h
  ·have e:t=(x,y,l):=List.mem_singleton.mp h
   subst e
   refine⟨?_,?_,?_,hl,hl2⟩
   ·show 0≤x
    rcases hxy with ⟨q1,q2⟩ | ⟨q1,q2⟩
    ·rw[q1];exact la.1
    ·rw[q1];exact lb.1
   ·show x < y
    refine Int.lt_iff_le_and_ne.mpr ⟨hle,fun z=>?_⟩
    rcases hxy with ⟨q1,q2⟩ | ⟨q1,q2⟩
    ·exact ne (q1.symm.trans (z.trans q2))
    ·exact ne (q2.symm.trans (z.symm.trans q1))
   ·show y < (n:Int)
    rcases hxy with ⟨q1,q2⟩ | ⟨q1,q2⟩
    ·rw[q2];exact lb.2
    ·rw[q2];exact la.2
 ·rcases List.mem_append.mp ht with h | h
  ·obtain⟨a',b',h1,h2,h3,h4⟩:=g.of t h
   exact⟨a',b',h1,h2,h3.imp id fun z=>⟨z.1,Nat.lt_succ_of_lt z.2⟩,h4⟩
  ·have e:t=(x,y,l):=List.mem_singleton.mp h
   subst e
   exact⟨a,b,ha,hb,.inr ⟨rfl,Nat.lt_succ_self _⟩,hxy⟩
 ·rw[List.pairwise_append]
  refine⟨g.nd,List.pairwise_singleton _ _,fun t ht u hu=>?_⟩
  have e:u=(x,y,l):=List.mem_singleton.mp hu
  subst e
  rintro ⟨e1,e2⟩
  obtain⟨a',b',h1,h2,h3,h4⟩:=g.of t ht
  have e1':t.1=x:=e1
  have e2':t.2.1=y:=e2
  have h1n:=Nat.lt_trans h1 h2
  have fin:a'=a->b'=b->False:=fun ea eb=>h3.elim (fun z=>Nat.ne_of_lt z eb) fun z=>Nat.ne_of_lt z.2 ea
  have fin2:a'=b->b'=a->False:=fun ea eb=>Nat.lt_asymm ha (by rw[← ea,← eb];exact h1)
  rcases h4 with ⟨p1,p2⟩ | ⟨p1,p2⟩ <;> rcases hxy with ⟨q1,q2⟩ | ⟨q1,q2⟩
  ·exact fin (pm.inj a' a h1n han (p1.symm.trans (e1'.trans q1))) (pm.inj b' b h2 hb (p2.symm.trans (e2'.trans q2)))
  ·exact fin2 (pm.inj a' b h1n hb (p1.symm.trans (e1'.trans q1))) (pm.inj b' a h2 han (p2.symm.trans (e2'.trans q2)))
  ·exact fin2 (pm.inj a' b h1n hb (p2.symm.trans (e2'.trans q2))) (pm.inj b' a h2 han (p1.symm.trans (e1'.trans q1)))
  ·exact fin (pm.inj a' a h1n han (p2.symm.trans (e2'.trans q2))) (pm.inj b' b h2 hb (p1.symm.trans (e1'.trans q1)))
theorem zpr {ts:List Tie} (h:ts.Pairwise fun a b=>Srt.lexI (tieI b) (tieI a)=false) (nd:ts.Pairwise fun s t=>¬ (s.1=t.1∧s.2.1=t.2.1)):ts.Pairwise endLt:=by
 refine (h.and nd).imp fun {a b} hab=>?_
 obtain⟨h1,h2⟩:=hab
 obtain⟨a1,a2,a3⟩:=a
 obtain⟨b1,b2,b3⟩:=b
 simp only [tieI,Srt.lexI] at h1
 show a1 < b1∨(a1=b1∧a2 < b2)
 have h2':¬ (a1=b1∧a2=b2):=h2
 by_cases e1:b1=a1
 ·rw[if_pos e1] at h1
  by_cases e2:b2=a2
  ·exact absurd ⟨e1.symm,e2.symm⟩ h2'
  ·rw[if_neg e2] at h1
   have:=of_decide_eq_false h1
   exact .inr ⟨e1.symm,by trivial⟩
 ·rw[if_neg e1] at h1
  have:=of_decide_eq_false h1
  exact .inl (by trivial)
end L3
namespace L3
open PySem PySem.Spec PyProof.Rows L2
section
variable {X:Cx} {pos:Pos}
inductive op_isnotB_i  (x:V) (y:V) (H:Hp) (Q:VK):Prop
 | mk:∀ i j,(x=.bl i)->(y=.bl j)->(Q (.bl (!(i == j))) H)->op_isnotB_i x y H Q
theorem zmf:OpR X (compareOp .IsNot) (op_isnotB_i):=by
 intro pins s σ H x y v u Q I rx ry h
 obtain⟨i,j,rfl,rfl,q⟩:=h
 cases rx
 cases ry
 exact isnot_bool (za5 I q rfl)
theorem zme:OpR X (binaryOp .Mult) (rI (fun i j=>IntMulOk i j) fun i j=>.int (i * j)):=opI fun _ _ _ _ _ _ _ hc q=>mul_int q hc
theorem mulB:IntMulOk ((10:Int) ^ (60:Int).toNat) ((10:Int) ^ (60:Int).toNat):=IntMulOk.of_bits (by decide +kernel) (by decide +kernel)
theorem mulB2:IntMulOk ((10:Int) ^ (60:Int).toNat * (10:Int) ^ (60:Int).toNat) ((10:Int) ^ (60:Int).toNat):=IntMulOk.of_bits (by decide +kernel) (by decide +kernel)
theorem posB:(0:Int) < (10:Int) ^ (60:Int).toNat * (10:Int) ^ (60:Int).toNat * (10:Int) ^ (60:Int).toNat:=by decide +kernel
inductive call_range_i  (xs:List V) (H:Hp) (Q:VK):Prop
 | mk:∀ (j:Int),(xs=[.int j])->(∀ p,H p=none->Q (.ref p) (upd H p (.rng 0 j)))->call_range_i xs H Q
theorem zga:CallR X (.type "range") (call_range_i):=by
 intro pins s σ H xs us Q I r h
 obtain⟨j,rfl,q⟩:=h
 obtain⟨u,rfl,t,rfl⟩:=vals1 r
 refine call_range_1 ⟨.ref s.heap.objs.size,_,I.laid (a:=s.heap.objs.size) (o:=.rng 0 j) (fun b o e=>Heap.get?_push_of_some _ e) (Nat.le_refl _) ⟨_,_,_,Heap.get?_push_size _ rfl⟩,rfl,q _ I.fresh⟩
inductive call_list_rng_i  (xs:List V) (H:Hp) (Q:VK):Prop
 | mk:∀ (p:Addr) (j:Int),(xs=[.ref p])->(H p=some (.rng 0 j))->(0≤j)->(j≤1000)->(∀ l,H l=none->Q (.ref l) (upd H l (.lst ((List.range j.toNat).map fun i:Nat=>V.int (i:Int)))))->call_list_rng_i xs H Q
theorem zg5 (hh:X.calm=true):CallR X (.type "list") (call_list_rng_i):=by
 intro pins s σ H xs us Q I r h
 obtain⟨p,j,rfl,hp,hj0,hj,q⟩:=h
 obtain⟨u,rfl,rx⟩:=vals1 r
 cases rx
 obtain⟨t,u,v,e⟩:=(show ObjOk X.prog X.w H s.heap p (.rng 0 j) from I.hok p _ hp)
 refine call_list_range (n:=j.toNat) (I.ok.hd hh) (show IsRange s.heap p 0 j 1 t u v from e) (small_one (by trivial) (by trivial) (by trivial) (by trivial)) (by rw[rangeSize_one];split <;> trivial) (by trivial) fun h' tk acc c hk hS hacc=>?_
 refine⟨.ref s.heap.objs.size,_,I.laid (a:=s.heap.objs.size) (o:=.lst ((List.range j.toNat).map fun i:Nat=>V.int (i:Int))) (t':=tk) hk (Nat.le_refl _) ⟨?_,acc.toList,c,?_,by simpa using hS⟩,rfl,q _ I.fresh⟩
 ·rw[List.length_map,List.length_range,sizeLine_eq];trivial
 ·have go:∀ (n:Nat) (l:List Value),l.length=n->(∀ (k:Nat) (v:Value),l[k]?=some v->∃ t,v=Value.int (0 + (k:Int) * 1) t)->Vals ((List.range n).map fun i:Nat=>V.int (i:Int)) l:=by
   intro n l hl hv
   have gen:∀ (l:List Value) (o:Nat),(∀ (k:Nat) (v:Value),l[k]?=some v->∃ t,v=Value.int ((o + k:Nat):Int) t)->Vals ((List.range' o l.length).map fun i:Nat=>V.int (i:Int)) l:=by
    intro l
    induction l with
    | nil=>intro o _;exact .nil
    | cons x r ih =>
     intro o h
     rw[List.length_cons,List.range'_succ,List.map_cons]
     obtain⟨t,ht⟩:=h 0 x rfl
     refine .cons ⟨t,by simpa using ht⟩ (ih (o + 1) fun k v hk=>?_)
     obtain⟨t,ht⟩:=h (k + 1) v (by simpa using hk)
     exact⟨t,by rw[ht];congr 1;trivial⟩
   have:=gen l 0 fun k v hk=>by
    obtain⟨t,ht⟩:=hv k v hk
    exact⟨t,by rw[ht];congr 1;trivial⟩
   rw[hl] at this
   rw[List.range_eq_range']
   exact this
  refine go _ _ (by simpa using hacc.1) fun k v hk=>hacc.2 k v (by simpa using hk)
end
theorem zf7 {α:Type}:∀ (l:List α) (k:Nat) (h:k < l.length),(l[k]::l.eraseIdx k).Perm l
 | [],k,h=>absurd h (Nat.not_lt_zero _)
 | a::l,0,_=>List.Perm.refl _
 | a::l,k + 1,h=>by
  have h':k < l.length:=by simpa using h
  show (l[k]::a::l.eraseIdx k).Perm (a::l)
  exact (List.Perm.swap a l[k] _).trans ((zf7 l k h').cons a)
theorem zh7 {α β:Type} (f:α->β):∀ (l:List α) (k:Nat),(l.eraseIdx k).map f=(l.map f).eraseIdx k
 | [],_=>rfl
 | _::_,0=>rfl
 | a::l,k + 1=>by
  show f a::(l.eraseIdx k).map f=f a::(l.map f).eraseIdx k
  rw[zh7 f l k]
end L3
namespace L3
open PySem PySem.Spec PyProof.Rows L2
def TieL (H:Hp) (ys:List V) (ts:List Tie):Prop:=Paired (fun (y:V) (t:Tie)=>∃ a,y=.ref a∧H a=some (.tup ((tieI t).map V.int))) ys ts
theorem TieL.keep {H H':Hp} {ys:List V} {ts:List Tie} (h:TieL H ys ts) (k:∀ a xs,H a=some (.tup xs)->H' a=some (.tup xs)):TieL H' ys ts :=
 Paired.mapP h fun y t ⟨a,e1,e2⟩=>⟨a,e1,k _ _ e2⟩
theorem TieL.snoc {H:Hp} {ys:List V} {ts:List Tie} {a:Addr} {t:Tie} (h:TieL H ys ts) (e:H a=some (.tup ((tieI t).map V.int))):TieL H (ys++[.ref a]) (ts++[t]):=Paired.snoc h ⟨a,rfl,e⟩
theorem zf4 {α β γ:Type} {F:β->γ->Prop} (f:α->β) (g:α->γ):∀ {l:List α},(∀ x ∈ l,F (f x) (g x))->Paired F (l.map f) (l.map g)
 | [],_=>.nil
 | x::l,h=>.cons (h x List.mem_cons_self) (zf4 f g fun y hy=>h y (List.mem_cons_of_mem _ hy))
theorem zf3 {α β γ:Type} {F:α->β->Prop} {f:β->γ}:∀ {l:List α} {r:List β},Paired F l r->∀ q ∈ l.zip (r.map f),∃ b,q.2=f b∧F q.1 b
 | _,_,.nil,q,h=>by cases h
 | _,_,.cons (a:=a) (b:=b) x t,q,h=>by
  rw[List.map_cons,List.zip_cons_cons] at h
  rcases List.mem_cons.mp h with e | h
  ·subst e;exact⟨b,rfl,x⟩
  ·exact zf3 t q h
theorem zer {F:V->Tie->Prop} {G:V->List Int->Prop} (h:∀ y t,F y t->G y (tieI t)):∀ {ys:List V} {ts:List Tie},Paired F ys ts->Paired G ys (ts.map tieI)
 | _,_,.nil=>.nil
 | _,_,.cons x t=>.cons (h _ _ x) (zer h t)
def tieOf:List Int->Tie
 | [a,b,c]=>(a,b,c)
 | _=>(0,0,0)
theorem zpm (t:Tie):tieOf (tieI t)=t:=rfl
theorem zpl {H:Hp} {ys:List V} {ts:List Tie} (h:TieL H ys ts) {qs:List (V × List Int)} (p:qs.Perm (ys.zip (ts.map tieI))) (w:qs.Pairwise fun a b=>Srt.lexI b.2 a.2=false) :
  ∃ ts':List Tie,ts'.Perm ts∧TieL H (qs.map (·.1)) ts'∧ts'.Pairwise fun a b=>Srt.lexI (tieI b) (tieI a)=false:=by
 have mem:∀ q ∈ qs,∃ t,q.2=tieI t∧∃ a,q.1=.ref a∧H a=some (.tup ((tieI t).map V.int)):=fun q hq=>zf3 h q (p.mem_iff.mp hq)
 have back:∀ q ∈ qs,tieI (tieOf q.2)=q.2:=fun q hq=>by
  obtain⟨t,e,_⟩:=mem q hq
  rw[e];rfl
 refine⟨qs.map fun q=>tieOf q.2,?_,zf4 _ _ fun q hq=>?_,?_⟩
 ·have e1:(qs.map fun q=>tieOf q.2).Perm ((ys.zip (ts.map tieI)).map fun q=>tieOf q.2):=p.map _
  have e2:(ys.zip (ts.map tieI)).map (fun q=>tieOf q.2)=ts:=by
   have l:ys.length=(ts.map tieI).length:=by rw[List.length_map];exact Paired.length h
   have:(ys.zip (ts.map tieI)).map (fun q=>tieOf q.2)=((ys.zip (ts.map tieI)).map (·.2)).map tieOf:=by rw[List.map_map];rfl
   rw[this,List.map_snd_zip (Nat.le_of_eq l.symm),List.map_map]
   exact (List.map_congr_left fun t _=>zpm t).trans (List.map_id _)
  rw[e2] at e1
  exact e1
 ·obtain⟨t,e,a,ea,eh⟩:=mem q hq
  refine⟨a,ea,?_⟩
  rw[back q hq,e];exact eh
 ·rw[List.pairwise_map]
  refine w.imp_of_mem fun {a b} ha hb z=>?_
  rw[back a ha,back b hb];exact z
theorem TieL.is {K:PySem.W.Frag} {H:Hp}:∀ {ys:List V} {ts:List Tie},TieL H ys ts->IsAll K H (ts.map tieD) ys
 | _,_,.nil=>rfl
 | _,_,.cons (a:=y) (b:=t) ⟨a,e1,e2⟩ r=>⟨_,_,rfl,⟨a,_,e1,e2,IsAll.ints _⟩,TieL.is r⟩
theorem zk1 {x y:Int} {ms:List Int} (p:ms.Perm [x,y]) (w:ms.Pairwise (·≤·)):∃ a b,ms=[a,b]∧a≤b∧((a=x∧b=y)∨(a=y∧b=x)):=by
 have hl:=p.length_eq
 match ms,hl,p,w with
 | [a,b],_,p,w =>
  refine⟨a,b,rfl,by simpa using w,?_⟩
  have ha:a ∈ [x,y]:=p.mem_iff.mp (by simp)
  rcases List.mem_cons.mp ha with e | e
  ·subst e
   have:=(List.perm_cons a).mp p
   have e2:b=y:=by simpa using List.perm_singleton.mp this
   exact .inl ⟨rfl,e2⟩
  ·have e':a=y:=by simpa using e
   subst e'
   have p2:[a,b].Perm [a,x]:=p.trans (List.Perm.swap a x [])
   have:=(List.perm_cons a).mp p2
   have e2:b=x:=by simpa using List.perm_singleton.mp this
   exact .inr ⟨rfl,e2⟩
end L3
namespace L3
open PySem PySem.Spec PyProof.Rows L2
def TupKeep (H H':Hp):Prop:=∀ a xs,H a=some (.tup xs)->H' a=some (.tup xs)
section
variable {J:It} {g:TG} {te:TE} {own:List Str} {js:List Nat} {σ:L2.St} {H1:Hp} {Q:VK}
theorem zg3 (n:Nat) (Sg:L2.St->Prop) (R:Nat->V->Hp->Prop) (hn:n≤1000) (h0:Sg (start3 own js σ)) (mono:∀ i v H H',TupKeep H H'->R i v H->R i v H')
  (go:∀ i H',i < n->Same H1 H'->J.go i H') (stop:∀ H',Same H1 H'->J.stop n H')
  (step:∀ i x σ' H' H2,i < n->Same H1 H'->J.yld i H' x H2->Sg σ'->∀ C:L2.St->V->Hp->Prop,(∀ σ3 v H5,Sg σ3->Same H' H5->R i v H5->C σ3 v H5)->g x σ' H2 fun σ3 H3=>te σ3 H3 fun v H5=>C σ3 v H5)
  (fin:∀ D ys H',H1 D=none->Same H1 H'->H' D=some (.lst ys)->ys.length=n->(∀ i v,ys[i]?=some v->R i v H')->Q (.ref D) H'):CompGo own js g tTrue te σ Q J H1:=by
 intro D hD
 refine⟨fun i m ys σ' H'=>m=n - i∧i≤n∧Sg σ'∧Same H1 H'∧ys.length=i∧∀ j v,ys[j]?=some v->R j v H',⟨n,rfl,Nat.zero_le _,h0,zav hD,rfl,fun j v e=>by simp at e⟩,?_⟩
 rintro i m ys σ' H' ⟨rfl,hi,sg,sm,hl,hr⟩ hd
 by_cases hlt:i < n
 ·refine .inr ⟨go i H' hlt sm,fun x H2 hy=>?_⟩
  refine step i x σ' H' H2 hlt sm hy sg (fun σ3 v H5=>H5 D=some (.lst ys)∧ys.length < sizeLine∧∃ m',m' < n - i∧(m'=n - (i + 1)∧i + 1≤n∧Sg σ3∧Same H1 (upd H5 D (.lst (ys++[v])))∧(ys++[v]).length=i + 1∧∀ j u,(ys++[v])[j]?=some u->R j u (upd H5 D (.lst (ys++[v]))))) fun σ3 v H5 sg3 s5 r5=>?_
  have hd5:=s5 _ _ hd
  refine⟨hd5,Nat.lt_of_le_of_lt (by trivial:ys.length≤1000) (by decide),n - (i + 1),by trivial,rfl,hlt,sg3,fun b o e=>?_,by rw[List.length_append,List.length_singleton,hl],fun j u e=>?_⟩
  ·rw[zat (zaq e hD)];exact s5 _ _ (sm _ _ e)
  ·have tk5:TupKeep H5 (upd H5 D (.lst (ys++[v]))):=fun a xs e=>by rw[zat (fun z=>by rw[z,hd5] at e;cases e)];exact e
   by_cases hj:j < ys.length
   ·rw[List.getElem?_append_left hj] at e
    exact mono _ _ _ _ tk5 (mono _ _ _ _ (fun a xs z=>s5 _ _ z) (hr j u e))
   ·rw[List.getElem?_append_right (by trivial)] at e
    have ej:j=ys.length:=by
     have:=(List.getElem?_eq_some_iff.mp e).1
     simp at this;trivial
    subst ej
    have eu:v=u:=by simpa using e
    subst eu
    rw[hl]
    exact mono _ _ _ _ tk5 r5
 ·have e:i=n:=by trivial
  subst e
  exact .inl ⟨stop H' sm,fin D ys H' hD sm hd hl hr⟩
theorem zem {K:PySem.W.Frag} {a:Addr} {xs:List V} (hx:H1 a=some (.tup xs)) (Sg:L2.St->Prop) (R:Nat->V->Hp->Prop) (hn:xs.length≤1000) (h0:Sg (start3 own js σ)) (mono:∀ i v H H',TupKeep H H'->R i v H->R i v H')
  (step:∀ i x σ' H',xs[i]?=some x->Same H1 H'->Sg σ'->∀ C:L2.St->V->Hp->Prop,(∀ σ3 v H5,Sg σ3->Same H' H5->R i v H5->C σ3 v H5)->g x σ' H' fun σ3 H3=>te σ3 H3 fun v H5=>C σ3 v H5)
  (fin:∀ D ys H',H1 D=none->Same H1 H'->H' D=some (.lst ys)->ys.length=xs.length->(∀ i v,ys[i]?=some v->R i v H')->Q (.ref D) H'):CompGo own js g tTrue te σ Q (Itt K a) H1:=by
 refine zg3 xs.length Sg R hn h0 mono (fun i H' hi s=>⟨xs,xs[i],SqT.of (s _ _ hx),by simp [hi]⟩) (fun H' s=>⟨xs,SqT.of (s _ _ hx),Nat.le_refl _⟩) (fun i x σ' H' H2 hi s hy sg C hC=>?_) fin
 obtain⟨rfl,hy⟩:=hy
 exact step i x σ' _ (hy xs (SqT.of (s _ _ hx))) s sg C hC
theorem zdv {K:PySem.W.Frag} {a:Addr} {xs:List V} (hx:H1 a=some (.lst xs)) (Sg:L2.St->Prop) (R:Nat->V->Hp->Prop) (hn:xs.length≤1000) (h0:Sg (start3 own js σ)) (mono:∀ i v H H',TupKeep H H'->R i v H->R i v H')
  (step:∀ i x σ' H',xs[i]?=some x->Same H1 H'->Sg σ'->∀ C:L2.St->V->Hp->Prop,(∀ σ3 v H5,Sg σ3->Same H' H5->R i v H5->C σ3 v H5)->g x σ' H' fun σ3 H3=>te σ3 H3 fun v H5=>C σ3 v H5)
  (fin:∀ D ys H',H1 D=none->Same H1 H'->H' D=some (.lst ys)->ys.length=xs.length->(∀ i v,ys[i]?=some v->R i v H')->Q (.ref D) H'):CompGo own js g tTrue te σ Q (Itl K a) H1:=by
 refine zg3 xs.length Sg R hn h0 mono (fun i H' hi s=>⟨xs,xs[i],SqL.of (s _ _ hx),by simp [hi]⟩) (fun H' s=>⟨xs,SqL.of (s _ _ hx),Nat.le_refl _⟩) (fun i x σ' H' H2 hi s hy sg C hC=>?_) fin
 obtain⟨rfl,hy⟩:=hy
 exact step i x σ' _ (hy xs (SqL.of (s _ _ hx))) s sg C hC
theorem SqX.of {t:Bool} {K:PySem.W.Frag} {H:Hp} {a:Addr} {xs:List V} (h:H a=some (if t=true then .tup xs else .lst xs)):SqX t K H a xs:=by
 cases t with
 | true=>exact SqT.of h
 | false=>exact SqL.of h
theorem zg2 {t1 t2:Bool} {K:PySem.W.Frag} {a b:Addr} {xs zs:List V} (hx:H1 a=some (if t1=true then .tup xs else .lst xs)) (hz:H1 b=some (if t2=true then .tup zs else .lst zs)) (Sg:L2.St->Prop) (R:Nat->V->Hp->Prop) (hn:xs.length≤1000)
  (h0:Sg (start3 own js σ)) (mono:∀ i v H H',TupKeep H H'->R i v H->R i v H')
  (step:∀ i x z T σ' H',xs[i]?=some x->zs[i]?=some z->Same H1 H'->H' T=none->Sg σ'->∀ C:L2.St->V->Hp->Prop,(∀ σ3 v H5,Sg σ3->Same H' H5->R i v H5->C σ3 v H5)->g (.ref T) σ' (upd H' T (.tup [x,z])) fun σ3 H3=>te σ3 H3 fun v H5=>C σ3 v H5)
  (fin:∀ D ys H',H1 D=none->Same H1 H'->H' D=some (.lst ys)->ys.length=min xs.length zs.length->(∀ i v,ys[i]?=some v->R i v H')->Q (.ref D) H'):CompGo own js g tTrue te σ Q (Itz t1 t2 K a b) H1:=by
 have s1:∀ H',Same H1 H'->SqX t1 K H' a xs:=fun H' s=>SqX.of (s _ _ hx)
 have s2:∀ H',Same H1 H'->SqX t2 K H' b zs:=fun H' s=>SqX.of (s _ _ hz)
 refine zg3 (min xs.length zs.length) Sg R (by trivial) h0 mono (fun i H' hi s=>⟨xs,zs,xs[i]'(by trivial),zs[i]'(by trivial),s1 H' s,s2 H' s,by simp [show i < xs.length by trivial],by simp [show i < zs.length by trivial]⟩)
  (fun H' s=>⟨xs,zs,s1 H' s,s2 H' s,by trivial⟩) (fun i x σ' H' H2 hi s hy sg C hC=>?_) fin
 obtain⟨T,x1,z1,hT,rfl,rfl,e1,e2⟩:=hy
 exact step i x1 z1 T σ' H' (e1 _ (s1 H' s)) (e2 _ (s2 H' s)) s hT sg C hC
end
theorem zc8 {f:Nat->Bool} {n:Nat} {ys:List V} (hl:ys.length=n) (h:∀ (i:Nat) (v:V),ys[i]?=some v->v=V.bl (f i)):ys=((List.range n).map f).map V.bl:=by
 refine List.ext_getElem? fun i=>?_
 by_cases hi:i < n
 ·obtain⟨v,hv⟩:∃ v,ys[i]?=some v:=⟨ys[i],List.getElem?_eq_getElem (by trivial)⟩
  rw[hv,h i v hv]
  simp [hi]
 ·rw[List.getElem?_eq_none (by trivial),List.getElem?_eq_none (by simp;trivial)]
def tyD:PyData->String
 | .none=>"NoneType"
 | .bool _=>"bool"
 | .int _=>"int"
 | .str _=>"str"
 | .tuple _=>"tuple"
 | .list _=>"list"
 | .dict _=>"dict"
theorem zqk {K:PySem.W.Frag} {H:Hp}:∀ {d:PyData} {v:V},Is K H d v->TyOf K H v (.type (tyD d))
 | .none,_,h=>by rw[show _=V.non from h];exact .non
 | .bool b,_,h=>by rw[show _=V.bl b from h];exact .bl b
 | .int i,_,h=>by rw[show _=V.int i from h];exact .int i
 | .str x,_,h=>by rw[show _=V.str x from h];exact .str x
 | .tuple _,_,⟨p,vs,e,h,_⟩=>by rw[e];exact .tup h
 | .list _,_,⟨p,vs,e,h,_⟩=>by rw[e];exact .lst h
 | .dict _,_,⟨_,p,e,h⟩=>by rw[e];exact .dK h
def wholeB:PyData->Bool
 | .int _=>true
 | _=>false
def wholesB:PyData->Bool
 | .tuple ds=>ds.all wholeB
 | _=>false
def tieB (n:Int):PyData->Bool
 | .tuple [.int a,.int b,.int l]=>decide (0≤a) && decide (a < b) && decide (b < n) && decide (1≤l) && decide (l≤10 ^ 18)
 | _=>false
def few:PyData->Prop
 | .tuple ds=>ds.length≤1000
 | .list ds=>ds.length≤1000
 | _=>True
inductive spD1_i (K:PySem.W.Frag) (pre:PyData->Prop) (f:PyData->Bool) (vs:List V) (H:Hp) (Q:VK):Prop
 | mk:∀ d v,(vs=[v])->(Is K H d v)->(pre d)->(∀ H',Same H H'->Q (.bl (f d)) H')->spD1_i K pre f vs H Q
def spD1 (K:PySem.W.Frag) (pre:PyData->Prop) (f:PyData->Bool):Sp:=fun vs H Q _=>spD1_i K pre f vs H Q
end L3
namespace L3
open PySem PySem.Spec PyProof.Rows L2
section
variable {g:TG} {te:TE} {own:List Str} {js:List Nat} {σ:L2.St} {H1:Hp} {Q:VK}
end
def e2 (e:Int × Int):List Int:=[e.1,e.2]
def risingB (es:List (Int × Int)):Bool:=((List.range (min es.length (es.drop 1).length)).map fun i=>HT.lexLt (e2 (es.getD i (0,0))) (e2 ((es.drop 1).getD i (0,0)))).all id
def TwoL (H:Hp) (ys:List V) (es:List (Int × Int)):Prop:=Paired (fun (y:V) (e:Int × Int)=>∃ a,y=.ref a∧H a=some (.tup [.int e.1,.int e.2])) ys es
section
variable {g:TG} {te:TE} {own:List Str} {js:List Nat} {σ:L2.St} {H1:Hp} {Q:VK}
end
section
variable {X:Cx} {own fr:List Str} {scope:Scope} {fp:List Addr} {pins:List (Addr × Obj)} {s3:Shared} {H3:Hp} {pos:Pos}
theorem zje {es:List Expr} {k:Nat} {t:TGs} {n:Nat} (hc:X.calm=true) (h:PGs (cxComp X own fr scope fp pins s3 H3) es t)
  (hn:(assignEach es (cxComp X own fr scope fp pins s3 H3).env).length=n:=by rfl) (hst:(assignEach es (cxComp X own fr scope fp pins s3 H3).env).findIdx? (·.1)=none:=by rfl):PG (cxComp X own fr scope fp pins s3 H3) (.Tuple es k pos) (gTup X.K n t) :=
 zbk (X:=cxComp X own fr scope fp pins s3 H3) hc h hn hst
theorem zbr:IxR (cxComp X own fr scope fp pins s3 H3) (rIxT X.K):=zao (X:=cxComp X own fr scope fp pins s3 H3)
theorem zk7:OpR (cxComp X own fr scope fp pins s3 H3) (compareOp .In) (rIn X.K false):=zes (X:=cxComp X own fr scope fp pins s3 H3)
theorem zdp:OpR (cxComp X own fr scope fp pins s3 H3) (compareOp .NotIn) (rIn X.K true):=zb7 (X:=cxComp X own fr scope fp pins s3 H3)
end
end L3
namespace L3
open PySem PySem.Spec PyProof.Rows L2
def KeepOk (m:Nat) (ks:List Nat):Prop:=ks.Pairwise (· < ·)∧∀ k ∈ ks,k < m
def keepI (ks:List Nat):List Int:=ks.map fun k:Nat=>(k:Int)
def keepD (ks:List Nat):PyData:=.tuple ((keepI ks).map .int)
theorem KeepOk.len {m:Nat} {ks:List Nat} (h:KeepOk m ks):ks.length≤m:=by
 have go:∀ (ks:List Nat) (lo m:Nat),ks.Pairwise (· < ·)->(∀ k ∈ ks,lo≤k∧k < m)->ks.length + lo≤max m lo:=by
  intro ks
  induction ks with
  | nil=>intro lo m _ _;simp;trivial
  | cons k r ih =>
   intro lo m hp hb
   have h1:=hb k List.mem_cons_self
   have:=ih (k + 1) m (List.pairwise_cons.mp hp).2 fun j hj=>⟨(List.pairwise_cons.mp hp).1 j hj,(hb j (List.mem_cons_of_mem _ hj)).2⟩
   rw[List.length_cons]
   trivial
 have:=go ks 0 m h.1 fun k hk=>⟨Nat.zero_le _,h.2 k hk⟩
 trivial
inductive spKeep_i (K:PySem.W.Frag) (vs:List V) (H:Hp) (Q:VK):Prop
 | mk:∀ (p:Addr) (n:Int) (ts:List Tie) (v:V),(vs=[.ref p,v])->(Pot H p)->(Is K H (webD n ts) v)->(ts.length≤60)->(∀ v' H' ks,But p H H'->Pot H' p->KeepOk ts.length ks->Is K H' (keepD ks) v'->Q v' H')->spKeep_i K vs H Q
def spKeep (K:PySem.W.Frag):Sp:=fun vs H Q _=>spKeep_i K vs H Q
theorem zax {K:PySem.W.Frag} {H:Hp} {n:Int} {ts:List Tie} {v:V} (h:Is K H (webD n ts) v):∃ (p g:Addr) (ws:List V),v=.ref p∧H p=some (.tup [.int n,.ref g])∧H g=some (.tup ws)∧IsAll K H (ts.map tieD) ws∧ws.length=ts.length:=by
 obtain⟨p,vs,rfl,hp,v1,r1,rfl,e1,v2,r2,rfl,⟨g,ws,rfl,hg,hall⟩,e3⟩:=h
 have e1':v1=.int n:=e1
 have e3':r2=[]:=e3
 subst e1' e3'
 exact⟨p,g,ws,rfl,hp,hg,hall,by have:=hall.length;rw[List.length_map] at this;exact this⟩
end L3
namespace Z3
open PySem
section
variable {prog:Program} {w:World} {A:Around} {E:Value->Shared->Prop} {s:Shared}
theorem zoo (t:Bool) (l:Addr) (xs:Array Value) :
  Meets (Builtin.«enumerate.__new__» ⟨[.type "enumerate",.ref l],[]⟩) (fun _ R s=>SqAt t s.heap l xs ∧
   R (.ok (.ret (.ref (s.heap.push (itObj t l)).objs.size))) { s with heap:=(s.heap.push (itObj t l)).push { cls:=.type "enumerate",data:=.fields #[.none,.bool false,.ref s.heap.objs.size,rawInt 0,.none,.none] } }) :=
 .of_wp fun prog w A R s h=>by
  obtain⟨hp,g,d,tk,os⟩:=s;obtain⟨hl,h⟩:=h
  have hsub:=sub_enumerate
  have b1:SqAt t (Shared.heap ⟨hp,g,d,tk,os⟩) l xs:=hl
  obtain⟨o,ho⟩:∃ o,hp.get? l=some o:=by
   cases t with
   | true=>obtain⟨o,q,_⟩:=(show hp.IsTuple l xs from hl);exact⟨o,q⟩
   | false=>obtain⟨o,q,_⟩:=(show hp.IsList l xs from hl);exact⟨o,q⟩
  wp_walk using AutoSeq1.wpAny_loadPart' ho
  refine wpAny_stack_any fun st=>?_
  refine wpAny_pure ?_
  split
  ·rename_i c _ _ _ _ _
   rcases (c == Value.type "enumerate") with _ | _
   ·wp_walk using AutoSeq1.wpAny_loadPart' ho,ze8 b1
    exact⟨_,rfl,h⟩
   ·wp_walk using AutoSeq1.wpAny_loadPart' ho,ze8 b1
    exact⟨_,rfl,h⟩
  ·wp_walk using AutoSeq1.wpAny_loadPart' ho,ze8 b1
   exact⟨_,rfl,h⟩
theorem zni {t:Bool} {l:Addr} {xs:Array Value} {Q:Value->Shared->Prop} (hl:SqAt t s.heap l xs)
  (h:∀ h',IsEnum h' (s.heap.objs.size + 1) s.heap.objs.size ((0:Nat):Int) .none->ItAt t h' s.heap.objs.size l 0->h'.objs.size=s.heap.objs.size + 2->(∀ b o,s.heap.get? b=some o->h'.get? b=some o)->Q (.ref (s.heap.objs.size + 1)) { s with heap:=h' }) :
  wpAny (model prog w) A (call (.type "enumerate") [.ref l]) Q E s:=by
 refine callType_new F.called_enumerate (by decide) (F.typeCall_enumerate_1 _) (F.newCall_enumerate_1 _) (fun obj=>F.args_object_init_2 obj _) F.entry_enumerate_new (zoo t l xs) ⟨hl,?_⟩
 have z1:(s.heap.push (itObj t l)).objs.size=s.heap.objs.size + 1:=Heap.size_push ..
 have g1:ItAt t ((s.heap.push (itObj t l)).push { cls:=.type "enumerate",data:=.fields #[.none,.bool false,.ref s.heap.objs.size,rawInt 0,.none,.none] }) s.heap.objs.size l 0:=(ItAt.new (t:=t) (h:=s.heap) (l:=l)).to fun o e=>Heap.get?_push_of_some _ e
 have g2:((s.heap.push (itObj t l)).push { cls:=.type "enumerate",data:=.fields #[.none,.bool false,.ref s.heap.objs.size,rawInt 0,.none,.none] }).get? (s.heap.push (itObj t l)).objs.size=some _:=Heap.get?_push_size _ rfl
 show _∧_
 rw[z1] at g2 ⊢
 exact⟨⟨_,g2,rfl⟩,h _ g2 g1 (by rw[Heap.size_push,z1]) fun b o q=>Heap.get?_push_of_some _ (Heap.get?_push_of_some _ q)⟩
theorem zm1 {t:Bool} {e it l:Addr} {i:Nat} {xs:Array Value} {x old:Value} {Q:Value->Shared->Prop} (he:IsEnum s.heap e it i old) (hi:ItAt t s.heap it l i) (hl:SqAt t s.heap l xs) (hx:xs[i]?=some x) (ne:e≠it)
  (hQ:∀ h',IsEnumOut h' e it ((i:Int) + 1) x s.heap.objs.size->ItAt t h' it l (i + 1)->h'.get? s.heap.objs.size=some { cls:=.type "tuple",data:=.seq #[.int i s.toks,x] }->h'.objs.size=s.heap.objs.size + 1 ->
   (∀ b o,b≠e->b≠it->s.heap.get? b=some o->h'.get? b=some o)->Q (.ref s.heap.objs.size) { s with heap:=h',toks:=s.toks + 1 }) :
  wpAny (model prog w) A (Builtin.«enumerate.__next__» ⟨[.ref e],[]⟩) (fun fin s'=>∃ v,fin=.done (.ret v)∧Q v s') E s:=by
 obtain⟨hp,g,d,tk,os⟩:=s
 show wpAny _ _ (field (.ref e) 2 >>= _) _ _ _
 refine wpAny_bind (wpAny_field he rfl (x:=.ref it) rfl (wpAny_bind (zcc hi hl hx fun k1 i1 s1=>?_)))
 replace s1:Heap.SameBut it hp k1:=s1
 have q1:IsEnum k1 e it i old:=(s1.2 e ne).trans he
 show wpAny _ _ (field (.ref e) 3 >>= _) _ _ ⟨k1,g,d,tk,os⟩
 refine wpAny_bind (wpAny_field q1 rfl (x:=rawInt i) rfl ?_)
 show wpAny _ _ (field (.ref e) 4 >>= _) _ _ ⟨k1,g,d,tk,os⟩
 refine wpAny_bind (wpAny_field q1 rfl (x:=.none) rfl ?_)
 show wpAny _ _ (mkInt i >>= _) _ _ ⟨k1,g,d,tk,os⟩
 refine wpAny_bind (wpAny_mkInt ?_)
 show wpAny _ _ (setField (.ref e) 3 (rawInt ((i:Int) + 1)) >>= _) _ _ ⟨k1,g,d,tk + 1,os⟩
 refine wpAny_bind (wpAny_setField_rec q1 (by simp) fun k2 q2 s2=>?_)
 replace s2:Heap.SameBut e k1 k2:=s2
 replace q2:IsEnum k2 e it ((i:Int) + 1) old:=q2
 show wpAny _ _ (setField (.ref e) 4 .none >>= _) _ _ ⟨k2,g,d,tk + 1,os⟩
 refine wpAny_bind (wpAny_setField_rec q2 (by simp) fun k3 q3 s3=>?_)
 replace s3:Heap.SameBut e k2 k3:=s3
 replace q3:IsEnum k3 e it ((i:Int) + 1) old:=q3
 show wpAny _ _ (newTuple [.int i tk,x] >>= _) _ _ ⟨k3,g,d,tk + 1,os⟩
 refine wpAny_bind (wpAny_newTuple ?_)
 have q4:IsEnum (k3.push { cls:=.type "tuple",data:=.seq #[.int i tk,x] }) e it ((i:Int) + 1) old:=Heap.get?_push_of_some _ q3
 generalize hk4:k3.push { cls:=.type "tuple",data:=.seq #[.int i tk,x] }=k4 at q4
 have sz:k3.objs.size=hp.objs.size:=by rw[s3.1,s2.1,s1.1]
 have lt:e < hp.objs.size:=Heap.lt_size he
 have t4:k4.get? hp.objs.size=some { cls:=.type "tuple",data:=.seq #[.int i tk,x] }:=by rw[← hk4,← sz];exact Heap.get?_push_size _ rfl
 have z4:k4.objs.size=hp.objs.size + 1:=by rw[← hk4,Heap.size_push,sz]
 have up4:∀ b o,b≠e->b≠it->hp.get? b=some o->k4.get? b=some o:=fun b o n1 n2 q=>by
  rw[← hk4];exact Heap.get?_push_of_some _ (s3.extBut b o n1 (s2.extBut b o n1 (s1.extBut b o n2 q)))
 have i4:ItAt t k4 it l (i + 1):=i1.to fun o q=>by
  rw[← hk4];exact Heap.get?_push_of_some _ (s3.extBut _ _ ne.symm (s2.extBut _ _ ne.symm q))
 show wpAny _ _ (Builtin.SmallTypes.ownedTupleIsFree (.ref e) >>= _) _ _ ⟨k4,g,d,tk + 1,os⟩
 rw[sz]
 clear hk4 q3 s3 q2 s2 q1 s1 i1 sz k3 k2 k1
 refine wpAny_bind ?_
 unfold Builtin.SmallTypes.ownedTupleIsFree
 refine wpAny_bind (wpAny_field q4 rfl (x:=.none) rfl (wpAny_pure ?_))
 simp only [if_true]
 refine wpAny_bind (wpAny_rule (wpAny_bind (wpAny_field q4 rfl (x:=old) rfl (wpAny_bind (wpAny_setField_rec q4 (by simp) fun k5 q5 s5=>?_)))))
 replace s5:Heap.SameBut e k4 k5:=s5
 replace q5:IsEnum k5 e it ((i:Int) + 1) x:=q5
 show wpAny _ _ (Builtin.SmallTypes.ownedTupleHandOut (.ref e) (.ref hp.objs.size) >>= _) _ _ ⟨k5,g,d,tk + 1,os⟩
 refine wpAny_bind ?_
 unfold Builtin.SmallTypes.ownedTupleHandOut
 refine wpAny_bind (wpAny_setField_rec q5 (by simp) fun k6 q6 s6=>?_)
 replace s6:Heap.SameBut e k5 k6:=s6
 replace q6:IsEnumOut k6 e it ((i:Int) + 1) x hp.objs.size:=q6
 refine wpAny_setField_rec q6 (by simp) fun k7 q7 s7=>?_
 replace s7:Heap.SameBut e k6 k7:=s7
 replace q7:IsEnumOut k7 e it ((i:Int) + 1) x hp.objs.size:=q7
 have up:∀ b o,b≠e->k4.get? b=some o->k7.get? b=some o:=fun b o n q=>s7.extBut b o n (s6.extBut b o n (s5.extBut b o n q))
 exact wpAny_bind (wpAny_letGo (wpAny_pure ⟨_,rfl,hQ k7 q7 (i4.to fun o q=>up _ o ne.symm q) (up _ _ (Nat.ne_of_gt lt) t4) (by rw[s7.1,s6.1,s5.1,z4]) fun b o n1 n2 q=>up b o n1 (up4 b o n1 n2 q)⟩))
theorem zft {t:Bool} {e it l:Addr} {i:Nat} {xs:Array Value} {x old:Value} {Q:Option Value->Shared->Prop} (he:IsEnum s.heap e it i old) (hi:ItAt t s.heap it l i) (hl:SqAt t s.heap l xs) (hx:xs[i]?=some x) (ne:e≠it)
  (hQ:∀ h',IsEnumOut h' e it ((i:Int) + 1) x s.heap.objs.size->ItAt t h' it l (i + 1)->h'.get? s.heap.objs.size=some { cls:=.type "tuple",data:=.seq #[.int i s.toks,x] }->h'.objs.size=s.heap.objs.size + 1 ->
   (∀ b o,b≠e->b≠it->s.heap.get? b=some o->h'.get? b=some o)->Q (some (.ref s.heap.objs.size)) { s with heap:=h',toks:=s.toks + 1 }) :
  wpAny (model prog w) A (pyNext (.ref e)) Q E s:=by
 have ty:s.TypeIs (.ref e) "enumerate":=⟨_,he,rfl⟩
 unfold pyNext
 exact wpAny_bind (wpAny_attempt (wpAny_callSpecial?_slot (name := Str.ofString "__next__") ty F.slot_enumerate_next (wpAny_call_entry F.slot_enumerate_next ty F.entry_enumerate_next
     (zm1 he hi hl hx ne fun h' a b c d k=>wpAny_pure (hQ h' a b c d k)) (F.args_enumerate_next_1 _))))
theorem zfs {t:Bool} {e it l:Addr} {i:Nat} {xs:Array Value} {old:Value} {Q:Option Value->Shared->Prop} (hh:A.handled=none) (he:IsEnum s.heap e it i old) (hi:ItAt t s.heap it l i) (hl:SqAt t s.heap l xs) (hx:xs[i]?=none)
  (hQ:∀ h',Heap.ExtBut it s.heap h'->Q none { s with heap:=h' }):wpAny (model prog w) A (pyNext (.ref e)) Q E s:=by
 have ty:s.TypeIs (.ref e) "enumerate":=⟨_,he,rfl⟩
 unfold pyNext
 refine wpAny_bind (wpAny_attempt (wpAny_callSpecial?_slot (name:=Str.ofString "__next__") ty F.slot_enumerate_next (wpAny_call_entry F.slot_enumerate_next ty F.entry_enumerate_next ?_ (F.args_enumerate_next_1 _))))
 show wpAny _ _ (field (.ref e) 2 >>= _) _ _ _
 refine wpAny_bind (wpAny_field he rfl (x:=.ref it) rfl (wpAny_bind (zdd hh hi hl hx fun h' x k ⟨o,p1,p2⟩=>?_)))
 exact wpAny_bind (wpAny_isInstance (T:="StopIteration") (b:=true) ⟨o,p1,p2⟩ isSubtype_stop (wpAny_pure (hQ _ k)))
end
end Z3
namespace L3
open PySem PySem.Spec PyProof.Rows L2
def Itn (t:Bool) (K:PySem.W.Frag) (l:Addr):It :=
 ⟨fun i H=>∃ xs x,SqX t K H l xs∧xs[i]?=some x,
  fun i H v H'=>∃ T x,H T=none∧v=.ref T∧H'=upd H T (.tup [.int (i:Nat),x])∧(∀ xs,SqX t K H l xs->xs[i]?=some x),
  fun i H=>∃ xs,SqX t K H l xs∧xs.length≤i⟩
theorem zlv {P:Program} {w:World} {K:PySem.W.Frag} {elts:List Expr} {kk:Nat} {pos:Pos} {t:Bool} {e it l:Addr} (n1:e≠it) (n2:l≠e) (n3:l≠it) :
  Turn P w K (.Tuple elts kk pos) (Itn t K l) [e,it] e (fun i h=>(∃ old,IsEnum h e it (i:Int) old)∧Z3.ItAt t h it l i) where
 mem:=by simp
 obj:=fun i h st b hb=>by
  obtain⟨⟨old,q1⟩,q2⟩:=st
  obtain⟨o2,m2,e2,_,d2⟩:=q2.obj
  simp only [List.mem_cons,List.not_mem_nil,or_false] at hb
  rcases hb with rfl | rfl
  ·exact⟨_,q1,fun v q=>by cases q⟩
  ·exact⟨_,e2,fun v q=>by rw[d2] at q;cases q⟩
 keep:=fun i h h' st k=>by
  obtain⟨⟨old,q1⟩,q2⟩:=st
  exact⟨⟨old,k e (by simp) _ q1⟩,q2.to fun o z=>k it (by simp) o z⟩
 item:=by
  intro X hP hw hK hc i pins s σ H E I hf st hg
  subst hP hw hK
  obtain⟨xs,x,q1,hx⟩:=hg
  obtain⟨⟨old,en⟩,ia⟩:=st
  obtain⟨its1,r1,p1,z1⟩:=seqX I q1
  obtain⟨u1,hu1,ru1⟩:=r1.get hx
  refine Z3.zft en ia p1 (x:=u1) (by simpa using hu1) n1 fun h' eo ia' tp sz kp=>?_
  have I1 : Inv X pins σ (upd H s.heap.objs.size (.tup [.int (i : Nat), x])) { s with heap := h', toks := s.toks + 1 } := turnsTup (ch := [e, it]) (its := [.int i s.toks, u1]) I hf (fun b o hb z => by
      simp only [List.mem_cons,List.not_mem_nil,or_false,not_or] at hb
      exact kp b o hb.1 hb.2 z) (Nat.le_refl _) (by show 2≤sizeLine;rw[sizeLine_eq];decide) (.cons ⟨_,rfl⟩ (.cons ru1 .nil)) ⟨_,tp,rfl,⟨_,rfl⟩,rfl⟩
  have fr:H s.heap.objs.size=none:=I.fresh
  have elt:e < s.heap.objs.size:=Heap.lt_size en
  have ilt:it < s.heap.objs.size:=by obtain⟨o2,m2,e2,_⟩:=ia.obj;exact Heap.lt_size e2
  have zne:∀ b ∈ [e,it],b≠s.heap.objs.size:=fun b hb=>by
   simp only [List.mem_cons,List.not_mem_nil,or_false] at hb
   rcases hb with rfl | rfl
   ·exact Nat.ne_of_lt elt
   ·exact Nat.ne_of_lt ilt
  refine⟨_,rfl,wpAny_letOwnedTupleGo_enum eo fun h2 en2 sb=>?_⟩
  obtain⟨f0,f1,f2,f3,f4,f5⟩:=hf e (by simp)
  have I2:Inv X pins σ (upd H s.heap.objs.size (.tup [.int (i:Nat),x])) { s with heap:=h2,toks:=s.toks + 1 }:=Inv.turned (s:={ s with heap:=h',toks:=s.toks + 1 }) (it:=e) (t':=s.toks + 1) I1 (fun b o hb z=>sb.extBut b o hb z) (by rw[zat (zne e (by simp))];exact f0) f1 f3 f4 f5
  refine⟨.ref s.heap.objs.size,_,I2,rfl,⟨_,x,fr,rfl,rfl,fun zs hz=>by rw[zdm I hz q1];exact hx⟩,?_,fun b hb=>by rw[zat (zne b hb)];exact (hf b hb).1⟩
  exact⟨⟨_,by simpa using en2⟩,ia'.to fun o z=>sb.extBut _ _ n1.symm z⟩
 done:=by
  intro X hP hw hK hc i pins s σ H E I hf st hg
  subst hP hw hK
  obtain⟨xs,q1,hx⟩:=hg
  obtain⟨⟨old,en⟩,ia⟩:=st
  obtain⟨its1,r1,p1,z1⟩:=seqX I q1
  have l1:=r1.length
  refine Z3.zfs (I.ok.hd hc) en ia p1 (by simp;trivial) fun h' kp=>⟨rfl,?_⟩
  exact turns (ch:=[e,it]) (t':=s.toks) I hf fun b o hb z=>by
   simp only [List.mem_cons,List.not_mem_nil,or_false,not_or] at hb
   exact kp b o hb.2 z
 self:=fun _ _ _ _ _ st h=>by
  obtain⟨⟨old,en⟩,_⟩:=st
  exact wpAny_pyIter_enum en h
def iEnum (t:Bool) (K:PySem.W.Frag) (ta:TA):TI:=fun σ H R=>ta σ H fun vs H1=>∃ l,vs=[.ref l]∧(∃ xs,SqX t K H1 l xs)∧R (Itn t K l) H1
theorem zpu {X:Cx} {elts:List Expr} {kk:Nat} {pos':Pos} (t:Bool) {a:Expr} {ta:TA} {p pos:Pos} (hg:Gl X "enumerate") (hm:X.mg "enumerate"=none) (ha:PA X [a] ta)
  (hs:starEach [a] X.env=[(false,eval a X.env)]:=by rfl) (hs2:starEach [] X.env=[]:=by rfl) :
  PI X (.Tuple elts kk pos') (.Call (.Name "enumerate" p) [a] [] pos) (iEnum t X.K ta):=by
 intro pins s σ H R I h
 refine Call_ (ze6 I hg hm boot_enumerate (PyProof.Rows.callWith_type1 (thn (ha pos pins s σ H _ I h) fun us s1 ⟨vs,H1,I1,r1,q1⟩=>?_) (by rw[hs,hs2]) (by rw[hs2];rfl)))
 obtain⟨l,e,⟨xs,qx⟩,q⟩:=q1
 subst e
 obtain⟨u,rfl,rx⟩:=vals1 r1
 cases rx
 obtain⟨its1,r1,p1,z1⟩:=seqX I1 qx
 have lt:l < s1.heap.objs.size:=by
  cases t with
  | true=>obtain⟨o,e,_⟩:=(show s1.heap.IsTuple l _ from p1);exact Heap.lt_size e
  | false=>obtain⟨o,e,_⟩:=(show s1.heap.IsList l _ from p1);exact Heap.lt_size e
 refine Z3.zni p1 fun h' en ia sz kp=>wpAny_pyIter_enum en ?_
 have I2:Inv X pins σ H1 { s1 with heap:=h',toks:=s1.toks }:=I1.kept (t':=s1.toks) kp
 refine⟨s1.heap.objs.size + 1,[s1.heap.objs.size + 1,s1.heap.objs.size],_,_,H1,rfl,I2,zlv (Nat.succ_ne_self _) (Nat.ne_of_lt (Nat.lt_succ_of_lt lt)) (Nat.ne_of_lt lt),⟨⟨_,en⟩,ia⟩,fun b hb=>?_,q⟩
 have hb':s1.heap.objs.size≤b:=by
  simp only [List.mem_cons,List.not_mem_nil,or_false] at hb
  rcases hb with rfl | rfl
  ·exact Nat.le_succ _
  ·exact Nat.le_refl _
 exact I1.fpOk hb' (I1.hok.fresh hb')
end L3
namespace HT
open PySem PyProof.Rows
section
variable {prog:Program} {w:World} {A:Around} {E:Value->Shared->Prop} {s:Shared}
theorem zi7 {t:Addr} {items:Array Value} {Q:Bool->Shared->Prop} (ht:IsTup s.heap t items) (h:Q true s):wpAny (model prog w) A (Builtin.Tuple.tupleIsExact (.ref t)) Q E s:=by
 unfold Builtin.Tuple.tupleIsExact
 exact wpAny_bind (wpAny_typeOf ht.typeIs (wpAny_pure h))
theorem zdi {t sl:Addr} {items:Array Value} {vl vu:Value} {lo hi:Option Int} {Q:Value->Shared->Prop} (ht:IsTup s.heap t items) (hs:s.heap.IsSliceOf sl vl vu .none) (pl:IsPart vl lo) (pu:IsPart vu hi)
  (hw:sIx items.size 0 lo=0∧sIx items.size items.size hi=items.size) (h:Q (.ref t) s):wpAny (model prog w) A (getItem (.ref t) (.ref sl)) Q E s:=by
 obtain⟨os,hos,hcs,hds⟩:=id hs
 have ty:s.TypeIs (.ref sl) "slice":=⟨os,hos,hcs⟩
 unfold getItem
 try with_reducible refine wpAny_holding ?_
 first | refine wpAny_bind (wpAny_pure ?_) | skip
 refine wpAny_bind (wpAny_sequenceKey ht.typeIs (by decide) (wpAny_bind (wpAny_callSpecial?_slot (name:=Str.ofString "__getitem__") ht.typeIs PyProof.Rows.slot_tuple_getitem
  (wpAny_call_entry PyProof.Rows.slot_tuple_getitem ht.typeIs entry_tuple_getitem ?_ (args_tuple_getitem _ _)))))
 show wpAny _ _ (Builtin.Tuple.tupleItemsOf (.ref t) >>= _) _ _ s
 refine wpAny_bind (tupleItemsOf_ ht (wpAny_bind (wpAny_typeOf ty ?_)))
 rw[if_pos (by decide)]
 refine wpAny_bind (zcr hs pl pu ?_)
 have yes:(((sIx items.size 0 lo:Nat):Int) == 0 && (1:Int) == 1 && (sIx items.size items.size hi - sIx items.size 0 lo) == items.size)=true:=by
  rw[hw.1,hw.2];simp
 show wpAny _ _ (if (((sIx items.size 0 lo:Nat):Int) == 0 && (1:Int) == 1 && (sIx items.size items.size hi - sIx items.size 0 lo) == items.size)=true then _ else _) _ _ s
 rw[if_pos yes]
 refine wpAny_bind (zi7 ht ?_)
 rw[if_pos rfl]
 exact wpAny_bind (wpAny_rule (wpAny_bind (wpAny_pure (wpAny_pure ⟨_,rfl,wpAny_pure h⟩))))
theorem zep (xs:List Value):((List.range xs.length).filterMap fun (m:Nat)=>xs.toArray[((xs.length:Int) - 1 + (m:Int) * (-1)).toNat]?)=xs.reverse:=by
 refine List.ext_getElem? fun i=>?_
 have key:∀ (n:Nat),n≤xs.length->((List.range n).filterMap fun (m:Nat)=>xs.toArray[((xs.length:Int) - 1 + (m:Int) * (-1)).toNat]?)=xs.reverse.take n:=by
  intro n
  induction n with
  | zero=>intro _;simp
  | succ n ih =>
   intro hn
   rw[List.range_succ,List.filterMap_append,ih (by trivial),List.take_add_one]
   congr 1
   have e:((xs.length:Int) - 1 + (n:Int) * (-1)).toNat=xs.length - 1 - n:=by trivial
   have e2:xs.reverse[n]?=xs[xs.length - 1 - n]?:=List.getElem?_reverse (by trivial)
   have h1:xs.length - 1 - n < xs.length:=by trivial
   rw[List.filterMap_cons,e,e2]
   simp [h1]
 rw[key _ (Nat.le_refl _),List.take_of_length_le (by simp)]
theorem zk5 {sl:Addr} {t:Tok} {n:Nat} {Q:Int × Int × Nat->Shared->Prop} (hs:s.heap.IsSliceOf sl .none .none (.int (-1) t)) (h:Q ((n:Int) - 1,-1,n) s) :
  wpAny (model prog w) A (Builtin.Slice.sliceApplied (.ref sl) (pure (n:Int))) Q E s:=by
 obtain⟨os,hos,hcs,hds⟩:=id hs
 unfold Builtin.Slice.sliceApplied Builtin.Slice.sliceFields
 refine wpAny_bind (wpAny_bind (wpAny_field hos hds (x:=.none) rfl (wpAny_bind (wpAny_field hos hds (x:=.none) rfl (wpAny_bind (wpAny_field hos hds (x:=.int (-1) t) rfl (wpAny_pure ?_)))))))
 refine wpAny_bind (slicePart_int ?_)
 show wpAny _ _ (if ((-1:Int) == 0)=true then _ else _) _ _ s
 rw[if_neg (by decide)]
 refine wpAny_bind (slicePart_none (wpAny_bind (slicePart_none (wpAny_bind (wpAny_pure ?_)))))
 have e:Builtin.Slice.slicePlaces ((n:Int) - 1) (-1) (-1)=n:=by
  unfold Builtin.Slice.slicePlaces
  rw[if_neg (by decide)]
  split
  ·have:((n:Int) - 1 - -1 - 1) / (- -1) + 1=(n:Int):=by
    rw[show (- -1:Int)=1 by decide,Int.ediv_one];trivial
   rw[this];exact Int.toNat_natCast n
  ·have:n=0:=by trivial
   subst this;rfl
 show wpAny _ _ (pure ((n:Int) - 1,(-1:Int),Builtin.Slice.slicePlaces ((n:Int) - 1) (-1) (-1))) _ _ s
 rw[e]
 exact wpAny_pure h
theorem zca {t sl:Addr} {its:List Value} {u:Tok} {Q:Value->Shared->Prop} (ht:IsTup s.heap t its.toArray) (hs:s.heap.IsSliceOf sl .none .none (.int (-1) u))
  (h:Q (.ref s.heap.objs.size) { s with heap:=s.heap.push { cls:=.type "tuple",data:=.seq its.reverse.toArray } }) (hsz:its.length≤sizeLine):wpAny (model prog w) A (getItem (.ref t) (.ref sl)) Q E s:=by
 have fit:sizeOk (.seq its.reverse.toArray):=by
  show its.reverse.toArray.size≤sizeLine
  rw[List.size_toArray,List.length_reverse];exact hsz
 obtain⟨os,hos,hcs,hds⟩:=id hs
 have ty:s.TypeIs (.ref sl) "slice":=⟨os,hos,hcs⟩
 unfold getItem
 try with_reducible refine wpAny_holding ?_
 first | refine wpAny_bind (wpAny_pure ?_) | skip
 refine wpAny_bind (wpAny_sequenceKey ht.typeIs (by decide) (wpAny_bind (wpAny_callSpecial?_slot (name:=Str.ofString "__getitem__") ht.typeIs PyProof.Rows.slot_tuple_getitem
  (wpAny_call_entry PyProof.Rows.slot_tuple_getitem ht.typeIs entry_tuple_getitem ?_ (args_tuple_getitem _ _)))))
 show wpAny _ _ (Builtin.Tuple.tupleItemsOf (.ref t) >>= _) _ _ s
 refine wpAny_bind (tupleItemsOf_ ht (wpAny_bind (wpAny_typeOf ty ?_)))
 rw[if_pos (by decide)]
 have en:its.toArray.size=its.length:=List.size_toArray
 rw[en]
 refine wpAny_bind (zk5 hs ?_)
 show wpAny _ _ (if (((its.length:Int) - 1) == 0 && (-1:Int) == 1 && its.length == its.length)=true then _ else _) _ _ s
 rw[if_neg (by simp),zep]
 first
  | exact wpAny_bind (m:=Builtin.Tuple.tupleExact _) (wpAny_newObj_type (wpAny_pure ⟨_,rfl,wpAny_pure h⟩) fit)
  | exact wpAny_bind (m:=Builtin.Tuple.tupleExact _) (wpAny_newObj_type (wpAny_bind (wpAny_pure (wpAny_pure ⟨_,rfl,wpAny_pure h⟩))) fit)
  | exact wpAny_bind (wpAny_bind (m:=Builtin.Tuple.tupleExact _) (wpAny_newObj_type (wpAny_pure (wpAny_pure ⟨_,rfl,wpAny_pure h⟩)) fit))
  | exact wpAny_bind (wpAny_bind (m:=Builtin.Tuple.tupleExact _) (wpAny_newObj_type (wpAny_pure ⟨_,rfl,wpAny_pure h⟩) fit))
theorem zqf {t b:Addr} {ws:List Value} {Q:Value->Shared->Prop} (ht:IsTup s.heap t ([]:List Value).toArray) (hb:IsTup s.heap b ws.toArray) (h:Q (.ref b) s):wpAny (model prog w) A (binaryOp .Add (.ref t) (.ref b)) Q E s:=by
 obtain⟨⟨cls,dd,data,sl⟩,ho,hc,n,hd⟩:=id ht
 obtain⟨⟨cls2,dd2,data2,sl2⟩,ho2,hc2,n2,hd2⟩:=id hb
 simp only at hc hd hc2 hd2
 subst hc hd hc2 hd2
 exact concat_meets ⟨_,ho,rfl⟩ ⟨_,ho2,rfl⟩ noFill_tuple_add seq_tuple_add PySem.F.slot_tuple_add PySem.F.entry_tuple_add (PySem.F.args_tuple_add_2 _ _) (tuple_addW0 t b _ ws.toArray n n2 dd dd2 sl sl2 rfl) ⟨ho,ho2,h⟩
end
end HT
namespace L3
open PySem PySem.Spec PyProof.Rows L2
section
variable {X:Cx} {pins:List (Addr × Obj)} {σ:L2.St} {H:Hp} {s:Shared} {e:Expr} {te:TE} {pos p2:Pos}
theorem zou {xs:List V} {lo hi:Option Int} (h:HT.sIx xs.length 0 lo=0∧HT.sIx xs.length xs.length hi=xs.length):cutV xs lo hi=xs:=by
 unfold cutV
 rw[h.1,h.2]
 simp
inductive rSlA_i  (x:V) (lo:Option Int) (hi:Option Int) (H:Hp) (Q:VK):Prop
 | mk:∀ a xs,(x=.ref a)->(H a=some (.tup xs))->(∀ p H',Same H H'->H' p=some (.tup (cutV xs lo hi))->Q (.ref p) H')->rSlA_i x lo hi H Q
def rSlA :V->Option Int->Option Int->Hp->VK->Prop:=fun x lo hi H Q=>rSlA_i x lo hi H Q
theorem zbi:SlR X rSlA:=by
 intro pins s σ H x v vl vu lo hi sl Q I rx hs pl pu h
 obtain⟨a,xs,rfl,hx,q⟩:=h
 by_cases c:HT.sIx xs.length 0 lo=0∧HT.sIx xs.length xs.length hi=xs.length
 ·cases rx
  obtain⟨its,r,ht,hz⟩:=I.tuple (SqT.of hx)
  have hlen:its.toArray.size=xs.length:=by rw[List.size_toArray];exact r.length.symm
  refine⟨"tuple",_,PyProof.Rows.slot_tuple_getitem.lookup,ht.typeIs,HT.zdi ht hs pl pu (by rw[hlen];exact c) ⟨.ref a,H,I,rfl,q _ _ (Same.refl H) (by rw[zou c];exact hx)⟩⟩
 ·exact zqp (X:=X) pins s σ H (.ref a) v vl vu lo hi sl Q I rx hs pl pu ⟨a,xs,rfl,SqT.of hx,c,fun p hp=>q p _ (zav hp) zak⟩
inductive rCatA_i  (x:V) (y:V) (H:Hp) (Q:VK):Prop
 | mk:∀ a b xs ys,(x=.ref a)->(y=.ref b)->(H a=some (.tup xs))->(H b=some (.tup ys))->(xs.length + ys.length≤sizeLine)->(∀ p H',Same H H'->H' p=some (.tup (xs++ys))->Q (.ref p) H')->rCatA_i x y H Q
def rCatA :R2:=fun x y H Q=>rCatA_i x y H Q
theorem zbw:OpR X (binaryOp .Add) rCatA:=by
 intro pins s σ H x y v u Q I rx ry h
 obtain⟨a,b,xs,ys,rfl,rfl,ha,hb,hz,q⟩:=h
 by_cases c:xs=[]
 ·subst c
  cases rx
  cases ry
  obtain⟨its,r1,p1,_⟩:=I.tuple (SqT.of ha)
  obtain⟨its2,r2,p2,_⟩:=I.tuple (SqT.of hb)
  cases r1
  exact HT.zqf p1 p2 ⟨.ref b,H,I,rfl,q _ _ (Same.refl H) hb⟩
 ·refine zpy (X:=X) pins s σ H _ _ v u Q I rx ry ⟨a,b,xs,ys,rfl,rfl,SqT.of ha,SqT.of hb,c,hz,fun e=>q _ _ (Same.refl H) (by rw[e,List.append_nil];exact ha),fun _ p hp=>q p _ (zav hp) zak⟩
end
end L3
namespace L3
open PySem PySem.Spec PyProof.Rows L2
theorem iteB2 {b:Bool} {A B:Prop} (h1:b=true->B) (h2:b=false->A):if (!b)=true then A else B:=by
 cases b with
 | true=>exact h1 rfl
 | false=>exact h2 rfl
def numB (m:Nat):PyData->Bool
 | .int i=>decide (0≤i) && decide (i < (m:Int))
 | _=>false
def intOf:PyData->Int
 | .int i=>i
 | _=>0
def risI (ns:List Int):Bool:=((List.range (min ns.length (ns.drop 1).length)).map fun i=>decide (ns.getD i 0 < (ns.drop 1).getD i 0)).all id
def keepB (m:Nat):PyData->Bool
 | .tuple ds=>ds.all (numB m) && risI (ds.map intOf)
 | _=>false
inductive spNum_i (K:PySem.W.Frag) (vs:List V) (H:Hp) (Q:VK):Prop
 | mk:∀ (n:Int) (ts:List Tie) (d:PyData) (v u:V),(vs=[v,u])->(Is K H (webD n ts) v)->(Is K H d u)->(∀ H',Same H H'->Q (.bl (numB ts.length d)) H')->spNum_i K vs H Q
def spNum (K:PySem.W.Frag):Sp:=fun vs H Q _=>spNum_i K vs H Q
structure Pre (m:Nat) (ds:List PyData) (i:Nat) (a:Int):Prop where
 num:∀ d ∈ ds.take i,numB m d=true
 up:((ds.take i).map intOf).Pairwise (· < ·)
 top:∀ x ∈ (ds.take i).map intOf,x≤a
 at_:a=-1∨a ∈ (ds.take i).map intOf
theorem zeo {α:Type} {ds:List α} {i:Nat} {d:α} (e:ds[i]?=some d):ds.take (i + 1)=ds.take i++[d]:=by
 rw[List.take_add_one,e];rfl
def flatD:V->Bool
 | .non | .bl _ | .int _ | .str _=>true
 | _=>false
theorem Pot.same {H H':Hp} {p:Addr} (h:Pot H p) (s:Same H H'):Pot H' p:=let ⟨a,b,e,z⟩:=h;⟨a,b,s _ _ e,z⟩
theorem zch {ns:List Int}:∀ v ∈ ns.map V.int,flatD v=true:=fun v hv=>by
 obtain⟨n,_,rfl⟩:=List.mem_map.mp hv
 rfl
theorem zek:∀ ns:List Int,tupAll (ns.map .int)=true
 | []=>rfl
 | n::ns=>by show (tupD (.int n) && tupAll (ns.map .int))=true;rw[zek ns];rfl
theorem zj9:∀ ts:List Tie,tupAll (ts.map tieD)=true
 | []=>rfl
 | t::r=>by show (tupD (tieD t) && tupAll (r.map tieD))=true;rw[zj9 r];rfl
theorem zlw (n:Int) (ts:List Tie):tupD (webD n ts)=true:=by
 show (true && (tupAll (ts.map tieD) && true))=true
 rw[zj9 ts];rfl
theorem zn1 (ks:List Nat):tupD (keepD ks)=true:=zek _
end L3
namespace L3
end L3
namespace L3
open PySem PySem.Spec PyProof.Rows L2
end L3
namespace HT
open PySem PyProof.Rows
section
open PySem.SeqAt
open PySem.AutoSeq1 (wpAny_loadPart')
open PySem.MeetsSeq PySem.MeetsSeq2 PySem.MeetsSeq3
end
section
variable {prog:Program} {w:World} {A:Around} {E:Value->Shared->Prop} {s:Shared}
end
end HT
namespace L3
open PySem PySem.Spec PyProof.Rows L2
section
variable {X:Cx}
end
end L3
namespace L3
open PySem PySem.Spec PyProof.Rows L2
def wide:Nat->PyData->Prop
 | 0,_=>True
 | k + 1,.tuple ds=>ds.length≤1000∧∀ d ∈ ds,wide k d
 | k + 1,.list ds=>ds.length≤1000∧∀ d ∈ ds,wide k d
 | _ + 1,_=>True
def endsD:PyData->Int × Int
 | .tuple [.int a,.int b,.int _]=>(a,b)
 | _=>(0,0)
def tiesB (n:Int):PyData->Bool
 | .tuple ds=>decide (ds.length≤60) && ds.all (tieB n) && risingB (ds.map endsD)
 | _=>false
def Gd (H:Hp):Nat->V->Prop
 | 0,v=>flatD v=true
 | k + 1,v=>flatD v=true∨(∃ p vs,v=.ref p∧(H p=some (.tup vs)∨H p=some (.lst vs))∧vs.length≤1000∧∀ u ∈ vs,Gd H k u)∨(∃ p,v=.ref p∧H p=some (.dK []))
def lt2 (e f:Int × Int):Prop:=e.1 < f.1∨(e.1=f.1∧e.2 < f.2)
theorem zki (e f:Int × Int):HT.lexLt (e2 e) (e2 f)=true↔lt2 e f:=by
 show (if e.1=f.1 then (if e.2=f.2 then false else decide (e.2 < f.2)) else decide (e.1 < f.1))=true↔_
 unfold lt2
 by_cases h:e.1=f.1
 ·rw[if_pos h]
  by_cases h2:e.2=f.2
  ·rw[if_pos h2];simp;trivial
  ·rw[if_neg h2,decide_eq_true_eq];trivial
 ·rw[if_neg h,decide_eq_true_eq];trivial
structure PreT (n:Int) (ds:List PyData) (i:Nat) (a:Int × Int):Prop where
 tie:∀ d ∈ ds.take i,tieB n d=true
 up:((ds.take i).map endsD).Pairwise lt2
 top:∀ x ∈ (ds.take i).map endsD,x=a∨lt2 x a
 at_:a=(-1,-1)∨a ∈ (ds.take i).map endsD
end L3
namespace L3
open PySem PySem.Spec PyProof.Rows L2
section
variable {X:Cx} {es:List Expr} {t:TA} {pos:Pos}
def tTupG (t:TA):TE:=fun σ H Q=>t σ H fun xs H1=>xs.length≤1000∧∀ p H',Same H1 H'->H1 p=none->H' p=some (.tup xs)->Q (.ref p) H'
def tLstG (t:TA):TE:=fun σ H Q=>t σ H fun xs H1=>xs.length≤1000∧∀ p H',Same H1 H'->H1 p=none->H' p=some (.lst xs)->Q (.ref p) H'
theorem za0 {x1} (h:PA X es t):PE X (.Tuple es x1 pos) (tTupG t):=by
 intro pins s σ H Q I hq
 refine wpAny_Tuple_spliced (thn (h pos pins s σ H _ I hq) fun us s1 ⟨xs,J,I1,r,z,q⟩=>?_)
 have z':xs.length≤sizeLine:=Nat.le_trans z (by decide)
 have fr:J s1.heap.objs.size=none:=I1.hok.fresh (Nat.le_refl _)
 refine⟨by rw[← r.length];exact z',.ref s1.heap.objs.size,upd J s1.heap.objs.size (.tup xs),I1.laid (t':=s1.toks) (fun b u e=>Heap.get?_push_of_some _ e) (Nat.le_refl _) ⟨z',us,r,⟨_,Heap.get?_push_size _ rfl,rfl,⟨_,rfl⟩,rfl⟩⟩,rfl,q _ _ (zav fr) fr zak⟩
theorem za7 (h:PA X es t):PE X (.List es pos) (tLstG t):=by
 intro pins s σ H Q I hq
 refine wpAny_List_spliced (thn (h pos pins s σ H _ I hq) fun us s1 ⟨xs,J,I1,r,z,q⟩=>?_)
 have z':xs.length≤sizeLine:=Nat.le_trans z (by decide)
 have fr:J s1.heap.objs.size=none:=I1.hok.fresh (Nat.le_refl _)
 refine⟨by rw[← r.length];exact z',.ref s1.heap.objs.size,upd J s1.heap.objs.size (.lst xs),I1.laid (t':=s1.toks) (fun b u e=>Heap.get?_push_of_some _ e) (Nat.le_refl _) ⟨z',us,0,r,Heap.get?_push_size _ rfl⟩,rfl,q _ _ (zav fr) fr zak⟩
inductive rAppendG_i  (x:V) (vs:List V) (H:Hp) (Q:VK):Prop
 | mk:∀ l xs y,(x=.ref l)->(vs=[y])->(H l=some (.lst xs))->(xs.length < 1000)->(∀ H',But l H H'->H' l=some (.lst (xs++[y]))->Q .non H')->rAppendG_i x vs H Q
def rAppendG :V->List V->Hp->VK->Prop:=fun x vs H Q=>rAppendG_i x vs H Q
theorem zb1:MtM X "list.append" rAppendG:=by
 intro pins s σ H x vs v us Q I rx rv h
 obtain⟨l,xs,y,rfl,rfl,hH,hz,q⟩:=h
 exact zdr (X:=X) pins s σ H _ _ v us Q I rx rv ⟨l,xs,y,rfl,rfl,hH,Nat.lt_of_lt_of_le hz (by decide),q _ But.upd zak⟩
inductive call_listG_i  (xs:List V) (H:Hp) (Q:VK):Prop
 | mk:∀ p ys,(xs=[.ref p])->((H p=some (.lst ys)∨H p=some (.tup ys)))->(∀ l H',Same H H'->H l=none->H' l=some (.lst ys)->Q (.ref l) H')->call_listG_i xs H Q
theorem zlg:CallR X (.type "list") (call_listG_i):=by
 intro pins s σ H xs us Q I r h
 obtain⟨p,ys,rfl,hp,q⟩:=h
 exact zij (X:=X) pins s σ H _ us Q I r ⟨p,ys,rfl,hp.elim (fun e=>.inl (SqL.of e)) (fun e=>.inr (SqT.of e)),fun l hl=>q l _ (zav hl) hl zak⟩
end
def Sm (H:Hp) (t:Addr):Prop:=∃ vs:List V,(H t=some (.tup vs)∨H t=some (.lst vs))∧vs.length≤1000∧vs.all flatD=true
def GdF (H:Hp) (xs:List V):Prop:=∀ u ∈ xs,∃ t,u=.ref t∧Sm H t
def GdL (l:Addr) (H:Hp) (xs:List V):Prop:=∀ u ∈ xs,∃ t,u=.ref t∧t≠l∧Sm H t
theorem zmn {i:Int} (h0:-(10 ^ 19)≤i) (h1:i≤10 ^ 19):i.natAbs.log2 < 1920:=by
 by_cases c:i.natAbs=0
 ·rw[c];decide
 ·refine (Nat.log2_lt c).mpr (Nat.lt_of_le_of_lt (m:=10 ^ 19) (by trivial) (by decide +kernel))
section
variable {g:TG} {te:TE} {own:List Str} {js:List Nat} {σ:L2.St} {H1:Hp} {Q:VK}
end
inductive call_tupleG_i  (xs:List V) (H:Hp) (Q:VK):Prop
 | mk:∀ p ys,(xs=[.ref p])->(H p=some (.lst ys))->(∀ l H',Same H H'->H l=none->H' l=some (.tup ys)->Q (.ref l) H')->call_tupleG_i xs H Q
theorem zbg {X:Cx}:CallR X (.type "tuple") (call_tupleG_i):=by
 intro pins s σ H xs us Q I r h
 obtain⟨p,ys,rfl,hp,q⟩:=h
 exact zcp (X:=X) pins s σ H _ us Q I r ⟨p,ys,rfl,.inl ⟨SqL.of hp,fun l hl=>q l _ (zav hl) hl zak⟩⟩
def Row3 (H:Hp) (v:V):Prop:=∃ (t:Addr) (x y z:Int),v=.ref t∧H t=some (.tup [.int x,.int y,.int z])
section
variable {X:Cx}
end
end L3
namespace Far
inductive Walk (A:List (Nat × Nat × Int)) (s:Nat):Nat->Int->Prop
 | nil:Walk A s s 0
 | snoc {u v:Nat} {l x:Int}:Walk A s u x->(u,v,l) ∈ A->Walk A s v (x + l)
variable {A:List (Nat × Nat × Int)} {s:Nat}
def Pos (A:List (Nat × Nat × Int)):Prop:=∀ u v l,(u,v,l) ∈ A->1≤l
theorem Walk.nonneg (P:Pos A) {v:Nat} {x:Int} (h:Walk A s v x):0≤x:=by
 induction h with
 | nil=>exact Int.le_refl 0
 | snoc _ m ih=>have:=P _ _ _ m;trivial
def Dst (A:List (Nat × Nat × Int)) (s v:Nat) (o:Option Int):Prop:=(∀ y,o=some y->Walk A s v y)∧∀ L,Walk A s v L->∃ y,o=some y∧y≤L
theorem Dst.unique {v:Nat} {o p:Option Int} (h:Dst A s v o) (k:Dst A s v p):o=p:=by
 cases o with
 | none =>
  cases p with
  | none=>rfl
  | some y=>obtain⟨_,e,_⟩:=h.2 y (k.1 y rfl);cases e
 | some x =>
  obtain⟨y,rfl,hy⟩:=k.2 x (h.1 x rfl)
  obtain⟨z,e,hz⟩:=h.2 y (k.1 y rfl)
  cases e
  rw[show x=y by trivial]
theorem least {P:Nat->Prop}:∀ n,P n->∃ m,P m∧∀ k,P k->m≤k:=by
 intro n
 induction n using Nat.strongRecOn with
 | ind n ih =>
  intro h
  by_cases c:∃ k,k < n∧P k
  ·obtain⟨k,hk,pk⟩:=c;exact ih k hk pk
  ·exact⟨n,h,fun k pk=>by
    by_cases z:k < n
    ·exact absurd ⟨k,z,pk⟩ c
    ·trivial⟩
theorem zc4 (P:Pos A) (s v:Nat):∃ o,Dst A s v o:=by
 by_cases c:∃ x,Walk A s v x
 ·obtain⟨x,hx⟩:=c
  have nn:=hx.nonneg P
  obtain⟨m,hm,mn⟩:=least (P:=fun k=>Walk A s v (k:Int)) x.toNat (by rw[Int.toNat_of_nonneg nn];exact hx)
  refine⟨some m,fun y e=>by cases e;exact hm,fun L hL=>⟨m,rfl,?_⟩⟩
  have n2:=hL.nonneg P
  have:=mn L.toNat (by rw[Int.toNat_of_nonneg n2];exact hL)
  trivial
 ·exact⟨none,⟨fun y e=>(by cases e),fun L hL=>absurd ⟨L,hL⟩ c⟩⟩
theorem Walk.cons {u v:Nat} {l:Int} (m:(u,v,l) ∈ A) {w:Nat} {x:Int} (h:Walk A v w x):Walk A u w (x + l):=by
 induction h with
 | nil=>exact .snoc .nil m
 | snoc _ m' ih=>rw[Int.add_right_comm];exact .snoc ih m'
def Sym (A:List (Nat × Nat × Int)):Prop:=∀ u v l,(u,v,l) ∈ A->(v,u,l) ∈ A
theorem Walk.back (S:Sym A) {v:Nat} {x:Int} (h:Walk A s v x):Walk A v s x:=by
 induction h with
 | nil=>exact .nil
 | snoc _ m ih=>exact ih.cons (S _ _ _ m)
theorem Dst.back (S:Sym A) {v:Nat} {o:Option Int} (h:Dst A s v o):Dst A v s o:=⟨fun y e=>(h.1 y e).back S,fun L hL=>h.2 L (hL.back S)⟩
def lt2 (e f:Int × Int):Prop:=e.1 < f.1∨(e.1=f.1∧e.2 < f.2)
def get {α:Type} (cs:List (Option α)) (v:Nat):Option α:=cs.getD v none
theorem za3 {α:Type} {cs:List (Option α)} {v i:Nat} {x:Option α} (h:v < cs.length):get (cs.set v x) i=if i=v then x else get cs i:=by
 unfold get
 rw[List.getD_eq_getElem?_getD,List.getElem?_set,List.getD_eq_getElem?_getD]
 by_cases c:v=i
 ·subst c;simp [h]
 ·simp [c,Ne.symm c]
def ct {α:Type}:List (Option α)->Nat
 | []=>0
 | none::r=>ct r
 | some _::r=>ct r + 1
theorem zov {α:Type}:∀ cs:List (Option α),ct cs≤cs.length
 | []=>Nat.le_refl 0
 | none::r=>Nat.le_succ_of_le (zov r)
 | some _::r=>Nat.succ_le_succ (zov r)
theorem zkq {α:Type} {c:α}:∀ {cs:List (Option α)} {v:Nat},v < cs.length->ct (cs.set v (some c))=ct cs + (if (get cs v).isSome then 0 else 1)
 | none::r,0,_=>rfl
 | some _::r,0,_=>rfl
 | none::r,v + 1,h=>zkq (cs:=r) (v:=v) (by simpa using h)
 | some _::r,v + 1,h=>by
  have:=zkq (c:=c) (cs:=r) (v:=v) (by simpa using h)
  show ct (r.set v (some c)) + 1=ct r + 1 + _
  rw[this]
  show _=ct r + 1 + (if (get r v).isSome then 0 else 1)
  trivial
theorem zpc {α:Type}:∀ {cs:List (Option α)} {v:Nat} {c:α},get cs v=some c->1≤ct cs
 | [],v,c,h=>by cases h
 | some _::r,_,_,_=>Nat.succ_le_succ (Nat.zero_le _)
 | none::r,0,c,h=>by cases h
 | none::r,v + 1,c,h=>zpc (cs:=r) (v:=v) (c:=c) h
def WM:Int:=2 ^ 130
def mW:Option (Int × Int)->Nat
 | none=>(2 ^ 250)
 | some c=>(c.1 * WM + c.2).toNat
def mu:List (Option (Int × Int))->Nat
 | []=>0
 | c::r=>mW c + mu r
theorem zo5 {x:Option (Int × Int)}:∀ {cs:List (Option (Int × Int))} {v:Nat},v < cs.length->mW x < mW (get cs v)->mu (cs.set v x) < mu cs
 | c::r,0,_,h=>Nat.add_lt_add_right (k:=mu r) h
 | c::r,v + 1,hl,h=>Nat.add_lt_add_left (k:=mW c) (zo5 (cs:=r) (v:=v) (by simpa using hl) h)
structure Good (A:List (Nat × Nat × Int)) (n s:Nat) (cs:List (Option (Int × Int))):Prop where
 len:cs.length=n
 walk:∀ v c,get cs v=some c->Walk A s v c.1
 w0:∀ v c,get cs v=some c->0≤c.2∧c.2≤c.1 * 2 ^ 60
 top:∀ v c,get cs v=some c->c.1≤((ct cs:Nat) - 1:Int) * 10 ^ 18
 start:∃ c,get cs s=some c∧c.1≤0
theorem Good.step {n u v:Nat} {l w:Int} {cs:List (Option (Int × Int))} {c:Int × Int} (P:Pos A) (n24:n≤24) (g:Good A n s cs) (arc:(u,v,l) ∈ A) (l1:l≤10 ^ 18) (w0:0≤w) (w1:w≤2 ^ 60) (hv:v < n) (hu:get cs u=some c)
  (h:get cs v=none∨∃ c',get cs v=some c'∧lt2 (c.1 + l,c.2 + w) c'):Good A n s (cs.set v (some (c.1 + l,c.2 + w)))∧mu (cs.set v (some (c.1 + l,c.2 + w))) < mu cs:=by
 have hv':v < cs.length:=by rw[g.len];exact hv
 have l0:=P _ _ _ arc
 have wk:=Walk.snoc (g.walk _ _ hu) arc
 have c0:=(g.walk _ _ hu).nonneg P
 obtain⟨cw0,cw1⟩:=g.w0 _ _ hu
 have ct24:ct cs≤24:=by have:=zov cs;rw[g.len] at this;trivial
 have ctp:=zpc hu
 have es:=zkq (c:=(c.1 + l,c.2 + w)) hv'
 have topc:=g.top _ _ hu
 have wbound:c.2 + w≤(c.1 + l) * 2 ^ 60:=by rw[Int.add_mul];trivial
 have big:c.1 + l≤((ct (cs.set v (some (c.1 + l,c.2 + w))):Nat) - 1:Int) * 10 ^ 18:=by
  rw[es]
  rcases h with h | ⟨c',h,hlt⟩
  ·rw[h]
   show _≤(((ct cs + 1:Nat):Int) - 1) * 10 ^ 18
   trivial
  ·rw[h]
   show _≤(((ct cs + 0:Nat):Int) - 1) * 10 ^ 18
   have:=g.top _ _ h
   unfold lt2 at hlt
   simp only at hlt
   trivial
 have ctm:ct cs≤ct (cs.set v (some (c.1 + l,c.2 + w))):=by rw[es];exact Nat.le_add_right _ _
 refine⟨⟨by rw[List.length_set];exact g.len,fun v' d e=>?_,fun v' d e=>?_,fun v' d e=>?_,?_⟩,?_⟩
 ·rw[za3 hv'] at e
  split at e
  ·rename_i z;subst z;cases e;exact wk
  ·exact g.walk _ _ e
 ·rw[za3 hv'] at e
  split at e
  ·cases e;exact⟨by show 0≤c.2 + w;trivial,wbound⟩
  ·exact g.w0 _ _ e
 ·rw[za3 hv'] at e
  split at e
  ·cases e;exact big
  ·have:=g.top _ _ e
   trivial
 ·obtain⟨d,hd,hd0⟩:=g.start
  rw[za3 hv']
  split
  ·rename_i z;subst z
   refine⟨_,rfl,?_⟩
   rcases h with h | ⟨c',h,hlt⟩
   ·rw[h] at hd;cases hd
   ·rw[h] at hd;cases hd
    unfold lt2 at hlt
    simp only at hlt
    show c.1 + l≤0
    trivial
  ·exact⟨d,hd,hd0⟩
 ·refine zo5 hv' ?_
  have ctb:ct (cs.set v (some (c.1 + l,c.2 + w)))≤24:=by have:=zov (cs.set v (some (c.1 + l,c.2 + w)));rw[List.length_set,g.len] at this;trivial
  have x23:c.1 + l≤23 * 10 ^ 18:=by trivial
  have y23:c.2 + w≤23 * 10 ^ 18 * 2 ^ 60:=by trivial
  have WMe:WM=1361129467683753853853498429727072845824:=by decide
  rcases h with h | ⟨c',h,hlt⟩
  ·rw[h]
   show ((c.1 + l) * WM + (c.2 + w)).toNat < 2 ^ 250
   have:(c.1 + l) * WM + (c.2 + w) < 2 ^ 250:=by rw[WMe];trivial
   trivial
  ·rw[h]
   obtain⟨d0,d1⟩:=g.w0 _ _ h
   have t0:=(g.walk _ _ h).nonneg P
   have tt:=g.top _ _ h
   show ((c.1 + l) * WM + (c.2 + w)).toNat < (c'.1 * WM + c'.2).toNat
   unfold lt2 at hlt
   simp only at hlt
   have:(c.1 + l) * WM + (c.2 + w) < c'.1 * WM + c'.2:=by
    rw[WMe]
    rcases hlt with z | ⟨z,z'⟩
    ·trivial
    ·rw[z];trivial
   have p0:0≤(c.1 + l) * WM + (c.2 + w):=by rw[WMe];trivial
   trivial
def Stab (A:List (Nat × Nat × Int)) (cs:List (Option (Int × Int))):Prop:=∀ u v l c,(u,v,l) ∈ A->get cs u=some c->∃ c',get cs v=some c'∧c'.1≤c.1 + l
theorem Good.dst {n:Nat} {cs:List (Option (Int × Int))} (g:Good A n s cs) (st:Stab A cs) (v:Nat):Dst A s v ((get cs v).map (·.1)):=by
 refine⟨fun y e=>?_,fun L hL=>?_⟩
 ·cases h:get cs v with
  | none=>rw[h] at e;cases e
  | some c=>rw[h] at e;cases e;exact g.walk _ _ h
 ·have:∃ c,get cs v=some c∧c.1≤L:=by
   induction hL with
   | nil=>exact g.start
   | snoc _ m ih =>
    obtain⟨c,hc,hle⟩:=ih
    obtain⟨c',hc',hle'⟩:=st _ _ _ _ m hc
    exact⟨c',hc',by trivial⟩
  obtain⟨c,hc,hle⟩:=this
  exact⟨c.1,by rw[hc];rfl,hle⟩
structure Snd (A:List (Nat × Nat × Int)) (n s:Nat) (D:List (Option Int)):Prop where
 len:D.length=n
 walk:∀ v x,get D v=some x->Walk A s v x
 start:∃ x,get D s=some x∧x≤0
structure Rnd (A:List (Nat × Nat × Int)) (n s:Nat) (δ:Nat->Option Int) (D0:List (Option Int)) (B:(Nat × Nat × Int)->Prop) (D:List (Option Int)):Prop where
 snd:Snd A n s D
 keep:∀ v,get D0 v=δ v->get D v=δ v
 arc:∀ u v l x,B (u,v,l)->get D0 u=δ u->δ u=some x->∃ y,get D v=some y∧y≤x + l
section
variable {n:Nat} {δ:Nat->Option Int} {D0 D:List (Option Int)} {B:(Nat × Nat × Int)->Prop} {u v:Nat} {l:Int}
def plus (B:(Nat × Nat × Int)->Prop) (a:Nat × Nat × Int):(Nat × Nat × Int)->Prop:=fun b=>B b∨b=a
theorem Rnd.no (r:Rnd A n s δ D0 B D) (hu:get D u=none):Rnd A n s δ D0 (plus B (u,v,l)) D:=by
 refine⟨r.snd,r.keep,fun u' v' l' x b e1 e2=>?_⟩
 rcases b with b | b
 ·exact r.arc _ _ _ _ b e1 e2
 ·cases b
  have:=r.keep _ e1
  rw[hu,e2] at this;cases this
theorem Rnd.old (r:Rnd A n s δ D0 B D) {x' y:Int} (hu:get D u=some x') (hv:get D v=some y) (hy:y≤x' + l):Rnd A n s δ D0 (plus B (u,v,l)) D:=by
 refine⟨r.snd,r.keep,fun u' v' l' x b e1 e2=>?_⟩
 rcases b with b | b
 ·exact r.arc _ _ _ _ b e1 e2
 ·cases b
  have:=r.keep _ e1
  rw[hu,e2] at this;cases this
  exact⟨y,hv,hy⟩
theorem Rnd.put (dd:∀ v,Dst A s v (δ v)) (m:(u,v,l) ∈ A) (hn:v < n) (r:Rnd A n s δ D0 B D) {x':Int} (hu:get D u=some x') (hv:get D v=none∨∃ y,get D v=some y∧x' + l < y) (P:Pos A):Rnd A n s δ D0 (plus B (u,v,l)) (D.set v (some (x' + l))):=by
 have hl:v < D.length:=by rw[r.snd.len];exact hn
 have wk:=Walk.snoc (r.snd.walk _ _ hu) m
 obtain⟨d,hd,hdl⟩:=(dd v).2 _ wk
 have bad:get D0 v=δ v->False:=fun e=>by
  have e':=r.keep _ e
  rcases hv with hv | ⟨y,hv,hy⟩
  ·rw[hv,hd] at e';cases e'
  ·rw[hv,hd] at e';cases e';trivial
 refine⟨⟨by rw[List.length_set];exact r.snd.len,fun i x e=>?_,?_⟩,fun i e=>?_,fun u' v' l' x b e1 e2=>?_⟩
 ·rw[za3 hl] at e
  split at e
  ·rename_i z;subst z;cases e;exact wk
  ·exact r.snd.walk _ _ e
 ·rw[za3 hl]
  split
  ·rename_i z;subst z
   obtain⟨x,hx,hx0⟩:=r.snd.start
   rcases hv with hv | ⟨y,hv,hy⟩
   ·rw[hv] at hx;cases hx
   ·rw[hv] at hx;cases hx
    exact⟨_,rfl,by trivial⟩
  ·exact r.snd.start
 ·rw[za3 hl]
  split
  ·rename_i z;subst z;exact absurd e bad
  ·exact r.keep _ e
 ·rw[za3 hl]
  rcases b with b | b
  ·obtain⟨y',hy',hle⟩:=r.arc _ _ _ _ b e1 e2
   split
   ·rename_i z;subst z
    refine⟨_,rfl,?_⟩
    rcases hv with hv | ⟨y,hv,hy⟩
    ·rw[hv] at hy';cases hy'
    ·rw[hv] at hy';cases hy';trivial
   ·exact⟨y',hy',hle⟩
  ·cases b
   have:=r.keep _ e1
   rw[hu,e2] at this;cases this
   rw[if_pos rfl]
   exact⟨_,rfl,Int.le_refl _⟩
theorem Rnd.next (dd:∀ v,Dst A s v (δ v)) (P:Pos A) (inn:∀ u v l,(u,v,l) ∈ A->u < n∧v < n) (s0:Snd A n s D0) (r:Rnd A n s δ D0 B D) (all:∀ a ∈ A,B a):∀ (k:Nat) (v:Nat),v < n->get D0 v≠δ v->(∀ d,δ v=some d->d.toNat≤k)->∃ v,v < n∧get D0 v≠δ v∧get D v=δ v:=by
 intro k
 induction k using Nat.strongRecOn with
 | ind k ih =>
  intro v hv hne hk
  cases e:δ v with
  | none =>
   cases e2:get D0 v with
   | none=>exact absurd (e2.trans e.symm) hne
   | some x =>
    obtain⟨y,hy,_⟩:=(dd v).2 _ (s0.walk _ _ e2)
    rw[e] at hy;cases hy
  | some d =>
   have wk:=(dd v).1 _ e
   have hkd:=hk _ e
   cases hw:wk with
   | nil =>
    obtain⟨x,hx,hx0⟩:=s0.start
    have:=(s0.walk _ _ hx).nonneg P
    have:x=0:=by trivial
    subst this
    exact absurd (hx.trans e.symm) hne
   | @snoc u _ l x w m =>
    obtain⟨y,hy,hyx⟩:=(dd u).2 _ w
    obtain⟨d',hd',hle⟩:=(dd v).2 _ (Walk.snoc ((dd u).1 _ hy) m)
    rw[e] at hd';cases hd'
    have yx:y=x:=by trivial
    subst yx
    by_cases c:get D0 u=δ u
    ·obtain⟨y',hy',hle'⟩:=r.arc _ _ _ _ (all _ m) c hy
     obtain⟨d',hd',hle2⟩:=(dd v).2 _ (r.snd.walk _ _ hy')
     rw[e] at hd';cases hd'
     have:y'=y + l:=by trivial
     subst this
     exact⟨v,hv,hne,hy'.trans e.symm⟩
    ·have l1:=P _ _ _ m
     have y0:=((dd u).1 _ hy).nonneg P
     refine ih (k - 1) (by trivial) u (inn _ _ _ m).1 c fun d hd=>?_
     rw[hy] at hd;cases hd;trivial
end
theorem zcj {α:Type} {p q:α->Bool}:∀ {xs:List α},(∀ x ∈ xs,p x=true->q x=true)->(∃ x ∈ xs,q x=true∧p x=false)->xs.countP p < xs.countP q
 | [],_,⟨x,h,_⟩=>by cases h
 | a::r,h,⟨x,hx,e1,e2⟩=>by
  rw[List.countP_cons,List.countP_cons]
  have le:r.countP p≤r.countP q:=List.countP_mono_left fun x hx=>h x (List.mem_cons_of_mem _ hx)
  rcases List.mem_cons.mp hx with rfl | hx
  ·rw[e1,e2];simp;trivial
  ·have:=zcj (xs:=r) (fun x hx=>h x (List.mem_cons_of_mem _ hx)) ⟨x,hx,e1,e2⟩
   have:=h a List.mem_cons_self
   cases e:p a <;> cases e':q a <;> simp_all <;> trivial
def cnt (n:Nat) (δ:Nat->Option Int) (D:List (Option Int)):Nat:=(List.range n).countP fun v=>decide (get D v=δ v)
def Done (n:Nat) (δ:Nat->Option Int) (D:List (Option Int)) (k:Nat):Prop:=(∀ v,v < n->get D v=δ v)∨k + 1≤cnt n δ D
theorem Done.round {n:Nat} {δ:Nat->Option Int} {D0 D:List (Option Int)} {B:(Nat × Nat × Int)->Prop} {k:Nat} (dd:∀ v,Dst A s v (δ v)) (P:Pos A) (inn:∀ u v l,(u,v,l) ∈ A->u < n∧v < n) (s0:Snd A n s D0) (r:Rnd A n s δ D0 B D) (all:∀ a ∈ A,B a) (h:Done n δ D0 k):Done n δ D (k + 1):=by
 by_cases c:∀ v,v < n->get D0 v=δ v
 ·exact .inl fun v hv=>r.keep v (c v hv)
 ·rcases h with h | h
  ·exact absurd h c
  ·have ⟨v,z⟩:=Classical.not_forall.mp c
   have ⟨hv,hne⟩:=Classical.not_imp.mp z
   obtain⟨v',hv',n0,n1⟩:=r.next dd P inn s0 all ((δ v).getD 0).toNat v hv hne fun d e=>by rw[e];exact Nat.le_refl _
   refine .inr (Nat.lt_of_le_of_lt h (zcj (fun x _ e=>?_) ⟨v',List.mem_range.mpr hv',decide_eq_true n1,decide_eq_false n0⟩))
   exact decide_eq_true (r.keep x (of_decide_eq_true e))
theorem Done.first {n:Nat} {δ:Nat->Option Int} {D:List (Option Int)} {v:Nat} (hv:v < n) (h:get D v=δ v):Done n δ D 0:=by
 refine .inr ?_
 exact List.countP_pos_iff.mpr ⟨v,List.mem_range.mpr hv,decide_eq_true h⟩
theorem Done.all {n:Nat} {δ:Nat->Option Int} {D:List (Option Int)} (h:Done n δ D n):∀ v,v < n->get D v=δ v:=by
 rcases h with h | h
 ·exact h
 ·have:cnt n δ D≤n:=by
   have:=List.countP_le_length (p:=fun v=>decide (get D v=δ v)) (l:=List.range n)
   rw[List.length_range] at this;exact this
  trivial
def PSt (c0:List (Option (Int × Int))) (B:(Nat × Nat × Int)->Prop) (cs:List (Option (Int × Int))) (ag:Bool):Prop :=
 (ag=false∧cs=c0∧∀ u v l c,B (u,v,l)->get c0 u=some c->∃ c',get c0 v=some c'∧c'.1≤c.1 + l)∨(ag=true∧mu cs < mu c0)
section
variable {c0 cs:List (Option (Int × Int))} {B B':(Nat × Nat × Int)->Prop} {ag:Bool} {u v:Nat} {l w:Int}
end
theorem zdh {α:Type} (n v:Nat):get (List.replicate n (none:Option α)) v=none:=by
 unfold get
 rw[List.getD_eq_getElem?_getD,List.getElem?_replicate]
 split <;> rfl
theorem zpb {α:Type}:∀ n:Nat,ct (List.replicate n (none:Option α))=0
 | 0=>rfl
 | n + 1=>zpb n
theorem Good.first {n:Nat} (hs:s < n):Good A n s ((List.replicate n none).set s (some (0,0))):=by
 have hl:s < (List.replicate n (none:Option (Int × Int))).length:=by rw[List.length_replicate];exact hs
 have cases':∀ v c,get ((List.replicate n (none:Option (Int × Int))).set s (some (0,0))) v=some c->v=s∧c=(0,0):=fun v c e=>by
  rw[za3 hl,zdh] at e
  split at e
  ·rename_i z;cases e;exact⟨z,rfl⟩
  ·cases e
 refine⟨by rw[List.length_set,List.length_replicate],fun v c e=>?_,fun v c e=>?_,fun v c e=>?_,⟨(0,0),?_,Int.le_refl _⟩⟩
 ·obtain⟨rfl,rfl⟩:=cases' _ _ e;exact .nil
 ·obtain⟨rfl,rfl⟩:=cases' _ _ e;exact⟨Int.le_refl _,by decide⟩
 ·obtain⟨rfl,rfl⟩:=cases' _ _ e
  rw[zkq hl,zpb,zdh];decide
 ·rw[za3 hl,if_pos rfl]
theorem Snd.first {n:Nat} (hs:s < n):Snd A n s ((List.replicate n none).set s (some 0)):=by
 have hl:s < (List.replicate n (none:Option Int)).length:=by rw[List.length_replicate];exact hs
 refine⟨by rw[List.length_set,List.length_replicate],fun v c e=>?_,⟨0,?_,Int.le_refl _⟩⟩
 ·rw[za3 hl,zdh] at e
  split at e
  ·rename_i z;subst z;cases e;exact .nil
  ·cases e
 ·rw[za3 hl,if_pos rfl]
theorem Rnd.start {n:Nat} {δ:Nat->Option Int} {D:List (Option Int)} (h:Snd A n s D):Rnd A n s δ D (fun _=>False) D:=⟨h,fun _ e=>e,fun _ _ _ _ z=>z.elim⟩
theorem Rnd.less {n:Nat} {δ:Nat->Option Int} {D0 D:List (Option Int)} {B B':(Nat × Nat × Int)->Prop} (h:Rnd A n s δ D0 B D) (k:∀ a,B' a->B a):Rnd A n s δ D0 B' D:=⟨h.snd,h.keep,fun u v l x z=>h.arc u v l x (k _ z)⟩
theorem zk4 {n:Nat} {δ:Nat->Option Int} {D:List (Option Int)} (P:Pos A) (hs:s < n) (dd:∀ v,Dst A s v (δ v)) (h:Snd A n s D):Done n δ D 0:=by
 obtain⟨x,hx,hx0⟩:=h.start
 obtain⟨y,hy,hyl⟩:=(dd s).2 0 .nil
 have:=((dd s).1 _ hy).nonneg P
 have:=(h.walk _ _ hx).nonneg P
 exact Done.first hs (by rw[hx,hy,show x=y by trivial])
end Far
namespace L3
open PySem PySem.Spec PyProof.Rows L2
def tieAt (ts:List Tie) (k:Nat):Tie:=ts.getD k (0,0,0)
def arcs2 (t:Tie):List (Nat × Nat × Int):=[(t.1.toNat,t.2.1.toNat,t.2.2),(t.2.1.toNat,t.1.toNat,t.2.2)]
def arcs (ts:List Tie) (ks:List Nat):List (Nat × Nat × Int):=ks.flatMap fun k=>arcs2 (tieAt ts k)
theorem arcs_mem {ts:List Tie} {ks:List Nat} {a:Nat × Nat × Int}:a ∈ arcs ts ks↔∃ k,k ∈ ks∧a ∈ arcs2 (tieAt ts k):=by
 unfold arcs;rw[List.mem_flatMap]
theorem arcs2_mem {t:Tie} {a:Nat × Nat × Int}:a ∈ arcs2 t↔a=(t.1.toNat,t.2.1.toNat,t.2.2)∨a=(t.2.1.toNat,t.1.toNat,t.2.2):=by
 unfold arcs2;simp
theorem zay {ts:List Tie} {k:Nat} (h:k < ts.length):ts[k]?=some (tieAt ts k)∧tieAt ts k ∈ ts:=by
 have e:ts[k]?=some (tieAt ts k):=by unfold tieAt;rw[List.getD_eq_getElem?_getD,List.getElem?_eq_getElem h];rfl
 exact⟨e,List.mem_of_getElem? e⟩
section
variable {n:Int} {ts:List Tie} {ks:List Nat}
theorem zo0:Far.Sym (arcs ts ks):=fun u v l h=>by
 obtain⟨k,hk,h⟩:=arcs_mem.mp h
 refine arcs_mem.mpr ⟨k,hk,arcs2_mem.mpr ?_⟩
 rcases arcs2_mem.mp h with h | h <;> cases h
 ·exact .inr rfl
 ·exact .inl rfl
theorem zc9 (ok:WebOk n ts) (ko:KeepOk ts.length ks):Far.Pos (arcs ts ks):=fun u v l h=>by
 obtain⟨k,hk,h⟩:=arcs_mem.mp h
 have:=ok.tie _ (zay (ko.2 k hk)).2
 rcases arcs2_mem.mp h with h | h <;> cases h <;> trivial
theorem zj3 (ok:WebOk n ts) (ko:KeepOk ts.length ks):∀ u v l,(u,v,l) ∈ arcs ts ks->u < n.toNat∧v < n.toNat:=fun u v l h=>by
 obtain⟨k,hk,h⟩:=arcs_mem.mp h
 have:=ok.tie _ (zay (ko.2 k hk)).2
 rcases arcs2_mem.mp h with h | h <;> cases h <;> trivial
theorem znq {i k:Nat} (h:ks[i]?=some k) {a:Nat × Nat × Int} (m:a ∈ arcs ts (ks.take (i + 1))):a ∈ arcs ts (ks.take i)∨a ∈ arcs2 (tieAt ts k):=by
 obtain⟨j,hj,m⟩:=arcs_mem.mp m
 rw[zeo h] at hj
 rcases List.mem_append.mp hj with hj | hj
 ·exact .inl (arcs_mem.mpr ⟨j,hj,m⟩)
 ·rw[List.mem_singleton.mp hj] at m;exact .inr m
end
def CV (H:Hp) (v:V):Option (Int × Int)->Prop
 | none=>v=.non
 | some e=>∃ t,v=.ref t∧H t=some (.tup [.int e.1,.int e.2])
theorem CV.keep {H H':Hp} (k:TupKeep H H') {v:V}:∀ {o:Option (Int × Int)},CV H v o->CV H' v o
 | none,h=>h
 | some e,⟨t,h1,h2⟩=>⟨t,h1,k _ _ h2⟩
def CostL (H:Hp) (vs:List V) (cs:List (Option (Int × Int))):Prop:=vs.length=cs.length∧∀ i v,vs[i]?=some v->CV H v (Far.get cs i)
section
variable {H H' J J':Hp} {vs cvs avs ws:List V} {cs:List (Option (Int × Int))} {lw lc la t:Addr} {n k:Nat} {x y:Int}
theorem CostL.keep (h:CostL H vs cs) (k:TupKeep H H'):CostL H' vs cs:=⟨h.1,fun i v e=>(h.2 i v e).keep k⟩
theorem CostL.set {v:V} {c:Int × Int} (h:CostL H vs cs) (hk:k < vs.length) (hv:CV H v (some c)):CostL H (vs.set k v) (cs.set k (some c)):=by
 refine⟨by rw[List.length_set,List.length_set];exact h.1,fun i u e=>?_⟩
 rw[Far.za3 (by rw[← h.1];exact hk)]
 rw[List.getElem?_set] at e
 by_cases z:k=i
 ·subst z;rw[if_pos rfl,if_pos hk] at e;cases e;rw[if_pos rfl];exact hv
 ·rw[if_neg z] at e;rw[if_neg (Ne.symm z)];exact h.2 i u e
theorem CostL.first (n:Nat):CostL H (List.replicate n .non) (List.replicate n none):=by
 refine⟨by rw[List.length_replicate,List.length_replicate],fun i v e=>?_⟩
 rw[Far.zdh]
 rw[List.getElem?_replicate] at e
 split at e
 ·cases e;rfl
 ·cases e
theorem zhk {p:Addr} {xs:List V} {o:HO} (h:J p=some (.lst xs)):TupKeep J (upd J p o):=fun a ys e=>by
 rw[zat (fun z=>by rw[z,h] at e;cases e)];exact e
theorem zly (s:Same J J'):TupKeep J J':=fun a xs e=>s _ _ e
structure RH (H J:Hp) (lw lc la:Addr) (ws:List V) (n:Nat) (cs:List (Option (Int × Int))):Prop where
 same:Same H J
 fc:H lc=none
 fa:H la=none
 nwc:lw≠lc
 nwa:lw≠la
 nca:lc≠la
 wl:J lw=some (.lst ws)
 co:∃ cvs,J lc=some (.lst cvs)∧CostL J cvs cs
 ah:∃ avs,J la=some (.lst avs)∧avs.length=n
end
theorem zl3 {α:Type} (x:α):∀ k:Nat,(List.replicate k [x]).flatten=List.replicate k x
 | 0=>rfl
 | k + 1=>by rw[List.replicate_succ,List.flatten_cons,zl3 x k];rfl
def ov:Option Int->V
 | none=>.non
 | some x=>.int x
theorem zmc {D:List (Option Int)} {i:Nat} (h:i < D.length):(D.map ov)[i]?=some (ov (Far.get D i)):=by
 rw[List.getElem?_map,List.getElem?_eq_getElem h]
 unfold Far.get
 rw[List.getD_eq_getElem?_getD,List.getElem?_eq_getElem h];rfl
theorem zap {α:Type} {xs:List α} {i:Int} {x:α} (h0:0≤i) (h:xs[i.toNat]?=some x):atI xs i=some x:=by
 have hl:=(List.getElem?_eq_some_iff.mp h).1
 unfold atI ixN
 rw[if_pos h0,if_pos (by trivial)]
 exact h
theorem zcw {n:Nat} {i:Int} (h0:0≤i) (h:i < n):ixN n i=some i.toNat:=by
 unfold ixN;rw[if_pos h0,if_pos h]
inductive rRep1_i  (x:V) (y:V) (H:Hp) (Q:VK):Prop
 | mk:∀ l k z,(x=.ref l)->(y=.int k)->(H l=some (.lst [z]))->(0≤k)->(k≤1000)->(∀ p H',Same H H'->H p=none->H' p=some (.lst (List.replicate k.toNat z))->Q (.ref p) H')->rRep1_i x y H Q
def rRep1 :R2:=fun x y H Q=>rRep1_i x y H Q
theorem zjf {X:Cx}:OpR X (binaryOp .Mult) rRep1:=by
 intro pins s σ H x y v u Q I rx ry h
 obtain⟨l,k,z,rfl,rfl,hH,h1,h2,q⟩:=h
 refine zqz (X:=X) pins s σ H _ _ v u Q I rx ry ⟨l,k,_,rfl,rfl,hH,by trivial,by trivial,?_,fun p hp=>q p _ (zav hp) hp (by rw[zak,zl3])⟩
 exact Nat.le_trans (by show 1 * k.toNat≤1000;trivial) (by decide:1000≤sizeLine)
theorem za9 {K:PySem.W.Frag} {H:Hp}:∀ {ts:List Tie} {ws:List V} {k:Nat},IsAll K H (ts.map tieD) ws->k < ts.length->∃ a,ws[k]?=some (.ref a)∧H a=some (.tup [.int (tieAt ts k).1,.int (tieAt ts k).2.1,.int (tieAt ts k).2.2])
 | t::r,ws,0,h,_=>by
  obtain⟨v,vs,rfl,h1,_⟩:=h
  obtain⟨a,xs,rfl,ha,hx⟩:=h1
  have e:xs=(tieI t).map V.int:=IsAll.of_ints (ns:=tieI t) hx
  subst e
  exact⟨a,rfl,ha⟩
 | t::r,ws,k + 1,h,hk=>by
  obtain⟨v,vs,rfl,_,h2⟩:=h
  obtain⟨a,e,ha⟩:=za9 (ts:=r) (ws:=vs) (k:=k) h2 (by simpa using hk)
  exact⟨a,e,ha⟩
theorem zbh {K:PySem.W.Frag} {H:Hp} {ks:List Nat} {v:V} (h:Is K H (keepD ks) v):∃ p,v=.ref p∧H p=some (.tup ((keepI ks).map V.int)):=by
 obtain⟨p,vs,rfl,hp,hx⟩:=h
 have e:=IsAll.of_ints hx
 subst e
 exact⟨p,rfl,hp⟩
theorem zgx {ks:List Nat} {i:Nat} {x:V} (h:((keepI ks).map V.int)[i]?=some x):∃ k,ks[i]?=some k∧x=.int (k:Int):=by
 unfold keepI at h
 rw[List.map_map,List.getElem?_map] at h
 cases e:ks[i]? with
 | none=>rw[e] at h;cases h
 | some k=>rw[e] at h;cases h;exact⟨k,rfl,rfl⟩
theorem zna {H:Hp} {vs:List V} {cs:List (Option (Int × Int))} {i:Int} (h:CostL H vs cs) (h0:0≤i) (hi:i.toNat < cs.length):∃ v,atI vs i=some v∧CV H v (Far.get cs i.toNat):=by
 have hl:i.toNat < vs.length:=by rw[h.1];exact hi
 have e:vs[i.toNat]?=some vs[i.toNat]:=List.getElem?_eq_getElem hl
 exact⟨_,zap h0 e,h.2 _ _ e⟩
def pows (m:Nat):List V:=(List.range m).map fun i=>V.int (2 ^ i)
theorem zps {m i:Nat} (h:i < m):(pows m)[i]?=some (.int (2 ^ i)):=by unfold pows;rw[List.getElem?_map,List.getElem?_range h];rfl
theorem zl8 (m:Nat):pows (m + 1)=pows m++[.int (2 ^ m)]:=by unfold pows;rw[List.range_succ,List.map_append];rfl
theorem zqv {i:Nat} (h:i < 60):(0:Int)≤2 ^ i∧(2:Int) ^ i≤2 ^ 60:=by
 have e:((2 ^ i:Nat):Int)=(2:Int) ^ i:=by norm_cast
 have:2 ^ i≤2 ^ 60:=Nat.pow_le_pow_right (by decide) (by trivial)
 constructor
 ·rw[← e];exact Int.natCast_nonneg _
 ·rw[← e];exact_mod_cast this
inductive spWeights_i (K:PySem.W.Frag) (vs:List V) (H:Hp) (Q:VK):Prop
 | mk:∀ n ts v,(vs=[v])->(Is K H (webD n ts) v)->(ts.length≤60)->(∀ l H',Same H H'->H l=none->H' l=some (.lst (pows ts.length))->Q (.ref l) H')->spWeights_i K vs H Q
def spWeights (K:PySem.W.Frag):Sp:=fun vs H Q _=>spWeights_i K vs H Q
inductive spCost_i (K:PySem.W.Frag) (vs:List V) (H:Hp) (Q:VK):Prop
 | mk:∀ c x y l w,(vs=[.ref c,.int l,.int w])->(H c=some (.tup [.int x,.int y]))->(∀ t H',Same H H'->H' t=some (.tup [.int (x + l),.int (y + w)])->Q (.ref t) H')->spCost_i K vs H Q
def spCost (K:PySem.W.Frag):Sp:=fun vs H Q _=>spCost_i K vs H Q
def WK (K:PySem.W.Frag) (H:Hp) (n:Int) (ts:List Tie) (ks:List Nat) (wv kv:V):Prop:=Is K H (webD n ts) wv∧WebOk n ts∧Is K H (keepD ks) kv∧KeepOk ts.length ks
theorem WK.same {K:PySem.W.Frag} {H H':Hp} {n:Int} {ts:List Tie} {ks:List Nat} {wv kv:V} (h:WK K H n ts ks wv kv) (s:Same H H'):WK K H' n ts ks wv kv:=⟨Is.same s _ h.1,h.2.1,Is.same s _ h.2.2.1,h.2.2.2⟩
inductive spReached_i (K:PySem.W.Frag) (vs:List V) (H:Hp) (Q:VK):Prop
 | mk:∀ n ts ks wv kv r,(vs=[wv,kv,.int r])->(WK K H n ts ks wv kv)->(0≤r)->(r < n)->(∀ p lc la cvs avs cs H',Same H H'->H' p=some (.tup [.ref lc,.ref la])->H' lc=some (.lst cvs)->H' la=some (.lst avs)->CostL H' cvs cs->Far.Good (arcs ts ks) n.toNat r.toNat cs->Far.Stab (arcs ts ks) cs->Q (.ref p) H')->spReached_i K vs H Q
def spReached (K:PySem.W.Frag):Sp:=fun vs H Q _=>spReached_i K vs H Q
inductive spFars_i (K:PySem.W.Frag) (vs:List V) (H:Hp) (Q:VK):Prop
 | mk:∀ n ts ks wv kv r,(vs=[wv,kv,.int r])->(WK K H n ts ks wv kv)->(0≤r)->(r < n)->(∀ l D H',Same H H'->H l=none->H' l=some (.lst (D.map ov))->D.length=n.toNat->(∀ v,v < n.toNat->Far.Dst (arcs ts ks) r.toNat v (Far.get D v))->Q (.ref l) H')->spFars_i K vs H Q
def spFars (K:PySem.W.Frag):Sp:=fun vs H Q _=>spFars_i K vs H Q
end L3
namespace HT
open PySem PyProof.Rows
open Sem (wp)
section
variable {prog:Program} {w:World} {A:Around} {E:Value->Shared->Prop} {s:Shared}
end
end HT
namespace L3
open PySem PySem.Spec PyProof.Rows L2
def hAt (hs:List Int) (a:Int):Int:=hs.getD a.toNat 0
def absI (i:Int):Int:=if i < 0 then -i else i
def acrossI (ts:List Tie) (hs:List Int) (k:Nat):Int:=absI (hAt hs (tieAt ts k).1 - hAt hs (tieAt ts k).2.1)
def holdB (n:Int) (ts:List Tie) (ks:List Nat) (hs:List Int):Bool:=decide (hs.length=n.toNat) && ks.all fun k=>decide (acrossI ts hs k≤(tieAt ts k).2.2)
def capO (roof:Int):Option Int->Int
 | none=>roof
 | some x=>if roof < x then roof else x
theorem zf6 {hs:List Int} {a:Int} (h0:0≤a) (h:a.toNat < hs.length):atI (hs.map V.int) a=some (.int (hAt hs a)):=by
 refine zap h0 ?_
 rw[List.getElem?_map,List.getElem?_eq_getElem h]
 unfold hAt
 rw[List.getD_eq_getElem?_getD,List.getElem?_eq_getElem h];rfl
theorem zi6:∀ hs:List Int,wholesB (.tuple (hs.map .int))=true:=fun hs=>by
 show (hs.map PyData.int).all wholeB=true
 rw[List.all_map]
 exact List.all_eq_true.mpr fun _ _=>rfl
def IntT (H:Hp) (p:Addr) (hs:List Int):Prop:=H p=some (.tup (hs.map V.int))∧hs.length≤1000
theorem IntT.same {H H':Hp} {p:Addr} {hs:List Int} (h:IntT H p hs) (s:Same H H'):IntT H' p hs:=⟨s _ _ h.1,h.2⟩
theorem IntT.is {K:PySem.W.Frag} {H:Hp} {p:Addr} {hs:List Int} (h:IntT H p hs):Is K H (.tuple (hs.map .int)) (.ref p):=⟨p,_,rfl,h.1,IsAll.ints _⟩
def AllI (xs:List V):Prop:=∃ ns:List Int,xs=ns.map V.int
theorem zoy {n:Int} {ts:List Tie} {ks:List Nat} {D:List (Option Int)} {s:Nat} {roof:Int} (ok:WebOk n ts) (ko:KeepOk ts.length ks) (lD:D.length=n.toNat) (hD:∀ v,v < n.toNat->Far.Dst (arcs ts ks) s v (Far.get D v)):holdB n ts ks (D.map (capO roof))=true:=by
 unfold holdB
 rw[Bool.and_eq_true]
 refine⟨decide_eq_true (by rw[List.length_map];exact lD),List.all_eq_true.mpr fun k hk=>decide_eq_true ?_⟩
 have hin:=zj3 ok ko
 have tk:=ok.tie _ (zay (ko.2 k hk)).2
 have m1:((tieAt ts k).1.toNat,(tieAt ts k).2.1.toNat,(tieAt ts k).2.2) ∈ arcs ts ks:=arcs_mem.mpr ⟨k,hk,arcs2_mem.mpr (.inl rfl)⟩
 have m2:=zo0 _ _ _ m1
 have va:∀ a:Int,0≤a->a < n->hAt (D.map (capO roof)) a=capO roof (Far.get D a.toNat):=fun a h0 h1=>by
  unfold hAt Far.get
  rw[List.getD_eq_getElem?_getD,List.getElem?_map,List.getElem?_eq_getElem (by trivial),List.getD_eq_getElem?_getD,List.getElem?_eq_getElem (by trivial)]
  rfl
 have step:∀ u v l,(u,v,l) ∈ arcs ts ks->∀ x,Far.get D u=some x->∃ y,Far.get D v=some y∧y≤x + l:=fun u v l m x e=>(hD v (hin _ _ _ m).2).2 _ (.snoc ((hD u (hin _ _ _ m).1).1 x e) m)
 unfold acrossI
 rw[va _ (by trivial) (by trivial),va _ (by trivial) (by trivial)]
 cases e1:Far.get D (tieAt ts k).1.toNat with
 | none =>
  cases e2:Far.get D (tieAt ts k).2.1.toNat with
  | none=>show absI (roof - roof)≤_;unfold absI;split <;> trivial
  | some y=>obtain⟨z,hz,_⟩:=step _ _ _ m2 y e2;rw[e1] at hz;cases hz
 | some x =>
  obtain⟨y,e2,h2⟩:=step _ _ _ m1 x e1
  obtain⟨z,hz,h1⟩:=step _ _ _ m2 y e2
  rw[e1] at hz;cases hz
  rw[e2]
  show absI ((if roof < x then roof else x) - (if roof < y then roof else y))≤_
  unfold absI
  by_cases c1:roof < x
  ·rw[if_pos c1]
   by_cases c2:roof < y
   ·rw[if_pos c2];split <;> trivial
   ·rw[if_neg c2];split <;> trivial
  ·rw[if_neg c1]
   by_cases c2:roof < y
   ·rw[if_pos c2];split <;> trivial
   ·rw[if_neg c2];split <;> trivial
theorem zc3:∀ hs:List Int,PyData.canLayAll0 (hs.map .int)=true
 | []=>rfl
 | t::r=>by
  show (PyData.canLay0 (.int t) && PyData.canLayAll0 (r.map .int))=true
  rw[zc3 r]
  rfl
theorem zie:∀ hs:List Int,PyData.depthAll (hs.map .int)≤1
 | []=>Nat.zero_le _
 | t::r=>by
  show max (PyData.depth (.int t)) (PyData.depthAll (r.map .int))≤1
  have h1:=zie r
  have h2:PyData.depth (.int t)≤1:=Nat.le_trans (Nat.le_of_eq (by rfl:PyData.depth (.int t)=0)) (by decide)
  trivial
inductive spAcross_i (K:PySem.W.Frag) (vs:List V) (H:Hp) (Q:VK):Prop
 | mk:∀ (n:Int) (ts:List Tie) (wv:V) (k:Nat) (p:Addr) (hs:List Int),(vs=[wv,.int (k:Int),.ref p])->(Is K H (webD n ts) wv)->(WebOk n ts)->(k < ts.length)->(IntT H p hs)->(hs.length=n.toNat)->(Q (.int (acrossI ts hs k)) H)->spAcross_i K vs H Q
def spAcross (K:PySem.W.Frag):Sp:=fun vs H Q _=>spAcross_i K vs H Q
inductive spHold_i (K:PySem.W.Frag) (vs:List V) (H:Hp) (Q:VK):Prop
 | mk:∀ n ts ks wv kv p hs,(vs=[wv,kv,.ref p])->(WK K H n ts ks wv kv)->(IntT H p hs)->(∀ H',Same H H'->Q (.bl (holdB n ts ks hs)) H')->spHold_i K vs H Q
def spHold (K:PySem.W.Frag):Sp:=fun vs H Q _=>spHold_i K vs H Q
inductive spHFrom_i (K:PySem.W.Frag) (vs:List V) (H:Hp) (Q:VK):Prop
 | mk:∀ n ts ks wv kv a roof,(vs=[wv,kv,.int a,.int roof])->(WK K H n ts ks wv kv)->(0≤a)->(a < n)->(∀ (p:Addr) (D:List (Option Int)) (H':Hp),Same H H'->H' p=some (.tup ((D.map (capO roof)).map V.int))->D.length=n.toNat->(∀ v,v < n.toNat->Far.Dst (arcs ts ks) a.toNat v (Far.get D v))->Q (.ref p) H')->spHFrom_i K vs H Q
def spHFrom (K:PySem.W.Frag):Sp:=fun vs H Q _=>spHFrom_i K vs H Q
section
variable {g:TG} {te:TE} {own:List Str} {js:List Nat} {σ:L2.St} {H1:Hp} {Q:VK}
end
end L3
namespace L3
open PySem PySem.Spec PyProof.Rows L2
section
variable {J:It} {g:TG} {tt:TT} {te:TE} {own:List Str} {js:List Nat} {σ:L2.St} {H1:Hp} {Q:VK}
theorem zkr (n:Nat) (Sg:L2.St->Prop) (sel:Nat->Option V) (hn:n≤1000) (h0:Sg (start3 own js σ))
  (go:∀ i H',i < n->Same H1 H'->J.go i H') (stop:∀ H',Same H1 H'->J.stop n H')
  (step:∀ i x σ' H' H2,i < n->Same H1 H'->J.yld i H' x H2->Sg σ'->∀ (C:L2.St->V->Hp->Prop) (L:L2.St->Hp->Prop),(∀ σ3 v H5,Sg σ3->Same H' H5->sel i=some v->C σ3 v H5)->(∀ σ3 H5,Sg σ3->Same H' H5->sel i=none->L σ3 H5) ->
   g x σ' H2 fun σ3 H3=>tt σ3 H3 fun b H4=>if b=true then te σ3 H4 fun v H5=>C σ3 v H5 else L σ3 H4)
  (fin:∀ D H',H1 D=none->Same H1 H'->H' D=some (.lst ((List.range n).filterMap sel))->Q (.ref D) H'):CompGo own js g tt te σ Q J H1:=by
 intro D hD
 refine⟨fun i m ys σ' H'=>m=n - i∧i≤n∧Sg σ'∧Same H1 H'∧ys=(List.range i).filterMap sel,⟨n,rfl,Nat.zero_le _,h0,zav hD,rfl⟩,?_⟩
 rintro i m ys σ' H' ⟨rfl,hi,sg,sm,rfl⟩ hd
 have len:((List.range i).filterMap sel).length≤i:=by have:=List.length_filterMap_le sel (List.range i);rw[List.length_range] at this;exact this
 by_cases hlt:i < n
 ·refine .inr ⟨go i H' hlt sm,fun x H2 hy=>?_⟩
  refine step i x σ' H' H2 hlt sm hy sg
   (fun σ3 v H5=>H5 D=some (.lst ((List.range i).filterMap sel))∧((List.range i).filterMap sel).length < sizeLine∧∃ m',m' < n - i∧(m'=n - (i + 1)∧i + 1≤n∧Sg σ3∧Same H1 (upd H5 D (.lst ((List.range i).filterMap sel++[v])))∧(List.range i).filterMap sel++[v]=(List.range (i + 1)).filterMap sel))
   (fun σ3 H5=>H5 D=some (.lst ((List.range i).filterMap sel))∧∃ m',m' < n - i∧(m'=n - (i + 1)∧i + 1≤n∧Sg σ3∧Same H1 H5∧(List.range i).filterMap sel=(List.range (i + 1)).filterMap sel)) (fun σ3 v H5 sg3 s5 e=>?_) (fun σ3 H5 sg3 s5 e=>?_)
  ·refine⟨s5 _ _ hd,Nat.lt_of_le_of_lt (by trivial:((List.range i).filterMap sel).length≤1000) (by decide),n - (i + 1),by trivial,rfl,hlt,sg3,fun b o z=>?_,?_⟩
   ·rw[zat (zaq z hD)];exact s5 _ _ (sm _ _ z)
   ·rw[List.range_succ,List.filterMap_append];simp [e]
  ·refine⟨s5 _ _ hd,n - (i + 1),by trivial,rfl,hlt,sg3,sm.trans s5,?_⟩
   rw[List.range_succ,List.filterMap_append];simp [e]
 ·have e:i=n:=by trivial
  subst e
  exact .inl ⟨stop H' sm,fin D H' hD sm hd⟩
theorem znc {lo:Int} {n:Nat} (Sg:L2.St->Prop) (sel:Nat->Option V) (hn:n≤1000) (h0:Sg (start3 own js σ))
  (step:∀ i σ' H',i < n->Same H1 H'->Sg σ'->∀ (C:L2.St->V->Hp->Prop) (L:L2.St->Hp->Prop),(∀ σ3 v H5,Sg σ3->Same H' H5->sel i=some v->C σ3 v H5)->(∀ σ3 H5,Sg σ3->Same H' H5->sel i=none->L σ3 H5) ->
   g (.int (lo + i)) σ' H' fun σ3 H3=>tt σ3 H3 fun b H4=>if b=true then te σ3 H4 fun v H5=>C σ3 v H5 else L σ3 H4)
  (fin:∀ D H',H1 D=none->Same H1 H'->H' D=some (.lst ((List.range n).filterMap sel))->Q (.ref D) H'):CompGo own js g tt te σ Q (Itr lo n) H1:=by
 refine zkr n Sg sel hn h0 (fun i H' hi s=>hi) (fun H' s=>Nat.le_refl _) (fun i x σ' H' H2 hi s hy sg C L hC hL=>?_) fin
 obtain⟨rfl,rfl⟩:=hy
 exact step i σ' _ hi s sg C L hC hL
end
end L3
namespace Far
variable {A:List (Nat × Nat × Int)} {s:Nat}
def Con (A:List (Nat × Nat × Int)) (s v:Nat):Prop:=∃ x,Walk A s v x
noncomputable def rB (A:List (Nat × Nat × Int)) (s v:Nat):Bool:=@decide (Con A s v) (Classical.propDecidable _)
end Far
namespace L3
open PySem PySem.Spec PyProof.Rows L2
def natV (ns:List Nat):List V:=ns.map fun v:Nat=>V.int (v:Int)
theorem zbd (ns:List Nat):natV ns=(keepI ns).map V.int:=by unfold natV keepI;rw[List.map_map];rfl
theorem zel (p:Nat->Bool):∀ is:List Nat,is.filterMap (fun i=>if p i=true then some (V.int (i:Int)) else none)=natV (is.filter p)
 | []=>rfl
 | i::r=>by
  rw[List.filterMap_cons,List.filter_cons]
  cases e:p i with
  | true=>rw[if_pos rfl,if_pos rfl,zel p r];rfl
  | false=>rw[if_neg Bool.false_ne_true,if_neg Bool.false_ne_true,zel p r]
theorem zfa {a:Int} (h:0≤a) (ns:List Nat):inV (.int a) (natV ns)=decide (a.toNat ∈ ns):=by
 unfold inV natV
 rw[List.any_map,Bool.eq_iff_iff,List.any_eq_true,decide_eq_true_iff]
 constructor
 ·rintro ⟨v,hv,e⟩
  have e':((v:Int) == a)=true:=e
  have:(v:Int)=a:=by simpa using e'
  have e2:a.toNat=v:=by trivial
  rw[e2];exact hv
 ·intro m
  exact⟨_,m,show (((a.toNat:Nat):Int) == a)=true by rw[Int.toNat_of_nonneg h];simp⟩
theorem zdt (ns:List Nat):(natV ns).all flatV=true:=by
 unfold natV;rw[List.all_map];exact List.all_eq_true.mpr fun _ _=>rfl
end L3
namespace Srt
open PySem PySem.Spec PyProof.Rows PySem.W
section
variable {prog:Program} {w:World} {A:Around} {E:Value->Shared->Prop} {s:Shared}
end
end Srt
namespace HT
open PySem PyProof.Rows
section
variable {prog:Program} {w:World} {A:Around} {E:Value->Shared->Prop} {s:Shared}
theorem zjw {Q:List Value->Shared->Prop} {r:Addr} {a b c:Int} {t u v:Tok} {n:Nat} (hh:A.handled=none) (hr:IsRange s.heap r a b c t u v) (hsmall:Builtin.Range.small a b c=true)
  (hn:Builtin.Range.rangeSize a b c=n) (hlen:n≤2 ^ 24)
  (hQ:∀ h' tk acc',(∀ b o,s.heap.get? b=some o->h'.get? b=some o)->ItemsOf (fun i v=>∃ t,v=.int (a + i * c) t) acc' n->Q acc'.toList { s with heap:=h',toks:=tk }) :
  wpAny (model prog w) A (collect (.ref r)) Q E s:=by
 unfold collect
 refine wpAny_bind (wpAny_runValue (codeAny_builtin PySem.F.entry_proto_collect ?_))
 rw[Around.under_plainId PySem.F.plain_proto_collect _]
 show wpAny _ A.in1 (newList [] >>= fun l=>again (.builtin "list.__iadd__" ⟨[l,.ref r],[]⟩)) _ _ s
 refine wpAny_bind (wpAny_newObj_type ?_)
 refine wpAny_pure ⟨plainId_quiet PySem.F.plain_list_iadd _,codeAny_builtin PySem.F.entry_list_iadd ?_⟩
 rw[Around.under_plainId PySem.F.plain_list_iadd _]
 show wpAny _ A.in1 (Builtin.List.listExtendWith (.ref s.heap.objs.size) (.ref r) (.ref s.heap.objs.size)) _ _ _
 have hS:(s.heap.push { cls:=.type "list",data:=.seq ([]:List Value).toArray }).get? s.heap.objs.size=some { cls:=.type "list",data:=.seq #[] }:=Heap.get?_push_size _ rfl
 have fin' : ∀ (h' : Heap) (tk : Nat) (acc' : Array Value) (c' : Nat), (∀ b o, s.heap.get? b = some o → h'.get? b = some o) → h'.get? s.heap.objs.size = some { cls := .type "list", dict := none, data := .seq acc' c', slots := #[] } → ItemsOf (fun i v => ∃ t, v = .int (a + i * c) t) acc' n →
     wpAny (model prog w) A (load s.heap.objs.size >>= fun o=>match o.data with | .seq xs _=>pure xs.toList | _=>unsupported "internal:collect") Q E { s with heap:=h',toks:=tk }:=fun h' tk acc' c' hk hS' hacc=>wpAny_bind (wpAny_load hS' (wpAny_pure (hQ h' tk acc' hk hacc)))
 refine wpAny_mono (wpAny_extend_range (A:=A) (R:=fun r s'=>r=.ok (.ret (.ref s.heap.objs.size))∧∃ (h':Heap) (tk:Nat) (acc':Array Value) (c':Nat),s'={ s with heap:=h',toks:=tk }∧(∀ b o,s.heap.get? b=some o->h'.get? b=some o)∧h'.get? s.heap.objs.size=some { cls:=.type "list",dict:=none,data:=.seq acc' c',slots:=#[] }∧ItemsOf (fun i v=>∃ t,v=.int (a + i * c) t) acc' n)
  (s:={ s with heap:=s.heap.push { cls:=.type "list",data:=.seq ([]:List Value).toArray } }) hh (Heap.get?_push_of_some _ hr) hsmall hn hlen s.heap.objs.size (.ref s.heap.objs.size) 0 hS fun h' tk acc' c' hk hS' hacc=>⟨rfl,h',tk,acc',c',rfl,fun b o e=>hk b o (Nat.ne_of_lt (Heap.lt_size e)) (Heap.get?_push_of_some _ e),hS',hacc⟩) (fun fin s' h=>?_) (fun e s' h=>?_)
 ·cases fin with
  | done f =>
   obtain⟨e,h',tk,acc',c',rfl,h1,h2,h3⟩:=h
   cases e
   exact fin' h' tk acc' c' h1 h2 h3
  | again c'=>exact⟨h.1,codeAny_mono h.2 fun r s'' hr=>by obtain⟨rfl,h',tk,acc',c',rfl,h1,h2,h3⟩:=hr;exact fin' h' tk acc' c' h1 h2 h3⟩
 ·exact absurd h.1 (by simp)
end
theorem zdg (r:Addr) (a b c:Int) (t u v:Tok) (n:Nat) (hsmall:Builtin.Range.small a b c=true) (hn:Builtin.Range.rangeSize a b c=n) (hlen:n≤1000) :
  Meets (Builtin.«tuple.__new__» ⟨[.type "tuple",.ref r],[]⟩)
   (fun A R s=>A.handled=none∧IsRange s.heap r a b c t u v∧∀ (h':Heap) (tk:Nat) (acc':Array Value),(∀ b o',s.heap.get? b=some o'->h'.get? b=some o')->ItemsOf (fun i v=>∃ t,v=.int (a + i * c) t) acc' n->R (.ok (.ret (.ref h'.objs.size))) { s with heap:=h'.push { cls:=.type "tuple",data:=.seq acc' },toks:=tk }) :=
 .of_wp fun prog w A R s h=>by
  obtain⟨hp,g,d,tk,os⟩:=s;obtain⟨hh,hr,h⟩:=h
  have hsub:=sub_tuple_self
  have hinit:=init_tuple_lookup
  have hmh:=madeHere_tuple
  have hT:Shared.TypeIs ⟨hp,g,d,tk,os⟩ (.ref r) "range":=⟨_,hr,rfl⟩
  wp_walk using wpAny_typeOf hT,zjw (A:=A.in1) hh hr hsmall hn (Nat.le_trans hlen (by decide))
  intro h' tk' acc' hk hacc
  show wpAny _ _ (Builtin.Tuple.tupleExact acc'.toList.toArray >>= fun v=>ret v) _ _ _
  unfold Builtin.Tuple.tupleExact
  have sz:acc'.size=n:=hacc.1
  refine wpAny_bind (wpAny_newObj_type ?_ (by show acc'.toList.toArray.size≤sizeLine;rw[show acc'.toList.toArray=acc' by simp,sz,sizeLine_eq];trivial))
  refine wpAny_pure ⟨_,rfl,?_⟩
  have e:acc'.toList.toArray=acc':=by simp
  rw[e]
  exact h h' tk' acc' hk hacc
section
variable {prog:Program} {w:World} {A:Around} {E:Value->Shared->Prop} {s:Shared}
theorem zeg {Q:Value->Shared->Prop} {r:Addr} {a b c:Int} {t u v:Tok} {n:Nat} (hh:A.handled=none) (hr:IsRange s.heap r a b c t u v) (hsmall:Builtin.Range.small a b c=true)
  (hn:Builtin.Range.rangeSize a b c=n) (hlen:n≤1000)
  (hQ:∀ (h':Heap) (tk:Nat) (acc':Array Value),(∀ b o,s.heap.get? b=some o->h'.get? b=some o)->ItemsOf (fun i v=>∃ t,v=.int (a + i * c) t) acc' n->Q (.ref h'.objs.size) { s with heap:=h'.push { cls:=.type "tuple",data:=.seq acc' },toks:=tk }) :
  wpAny (model prog w) A (call (.type "tuple") [.ref r]) Q E s :=
 callType_new PySem.F.called_tuple (by decide) (PySem.F.typeCall_tuple_1 _) (PySem.F.newCall_tuple_1 _) (fun obj=>PySem.F.args_object_init_2 obj _) PySem.F.entry_tuple_new
  (zdg r a b c t u v n hsmall hn hlen) ⟨hh,hr,fun h' tk acc' hk hacc=>⟨⟨_,Heap.get?_push_size _ rfl,rfl⟩,hQ h' tk acc' hk hacc⟩⟩
end
end HT
namespace L3
open PySem PySem.Spec PyProof.Rows L2
section
variable {X:Cx}
inductive call_tuple_rng_i  (xs:List V) (H:Hp) (Q:VK):Prop
 | mk:∀ (p:Addr) (j:Int),(xs=[.ref p])->(H p=some (.rng 0 j))->(0≤j)->(j≤1000)->(∀ l H',Same H H'->H l=none->H' l=some (.tup (natV (List.range j.toNat)))->Q (.ref l) H')->call_tuple_rng_i xs H Q
theorem zfu (hh:X.calm=true):CallR X (.type "tuple") (call_tuple_rng_i):=by
 intro pins s σ H xs us Q I r h
 obtain⟨p,j,rfl,hp,hj0,hj,q⟩:=h
 obtain⟨u,rfl,rx⟩:=vals1 r
 cases rx
 obtain⟨t,u,v,e⟩:=(show ObjOk X.prog X.w H s.heap p (.rng 0 j) from I.hok p _ hp)
 refine HT.zeg (n:=j.toNat) (I.ok.hd hh) (show IsRange s.heap p 0 j 1 t u v from e) (small_one (by trivial) (by trivial) (by trivial) (by trivial)) (by rw[rangeSize_one];split <;> trivial) (by trivial) fun h' tk acc hk hacc=>?_
 have I1:Inv X pins σ H { s with heap:=h',toks:=tk }:=I.kept (t':=tk) hk
 have fr:H h'.objs.size=none:=I1.hok.fresh (Nat.le_refl _)
 refine⟨.ref h'.objs.size,upd H h'.objs.size (.tup (natV (List.range j.toNat))),I1.laid (t':=tk) (o:=.tup (natV (List.range j.toNat))) (fun b o e=>Heap.get?_push_of_some _ e) (Nat.le_refl _) ⟨?_,acc.toList,?_,(by rw[show acc.toList.toArray=acc by simp];exact⟨_,Heap.get?_push_size _ rfl,rfl,⟨_,rfl⟩,rfl⟩)⟩,rfl,q _ _ (zav fr) fr zak⟩
 ·unfold natV;rw[List.length_map,List.length_range,sizeLine_eq];trivial
 ·have go:∀ (n:Nat) (l:List Value),l.length=n->(∀ (k:Nat) (v:Value),l[k]?=some v->∃ t,v=Value.int (0 + (k:Int) * 1) t)->Vals ((List.range n).map fun i:Nat=>V.int (i:Int)) l:=by
   intro n l hl hv
   have gen:∀ (l:List Value) (o:Nat),(∀ (k:Nat) (v:Value),l[k]?=some v->∃ t,v=Value.int ((o + k:Nat):Int) t)->Vals ((List.range' o l.length).map fun i:Nat=>V.int (i:Int)) l:=by
    intro l
    induction l with
    | nil=>intro o _;exact .nil
    | cons x r ih =>
     intro o h
     rw[List.length_cons,List.range'_succ,List.map_cons]
     obtain⟨t,ht⟩:=h 0 x rfl
     refine .cons ⟨t,by simpa using ht⟩ (ih (o + 1) fun k v hk=>?_)
     obtain⟨t,ht⟩:=h (k + 1) v (by simpa using hk)
     exact⟨t,by rw[ht];congr 1;trivial⟩
   have:=gen l 0 fun k v hk=>by
    obtain⟨t,ht⟩:=hv k v hk
    exact⟨t,by rw[ht];congr 1;trivial⟩
   rw[hl,← List.range_eq_range'] at this
   exact this
  exact go j.toNat acc.toList (by rw[Array.length_toList];exact hacc.1) fun k v hv=>hacc.2 k v (by simpa using hv)
theorem zod:OpR X (binaryOp .FloorDiv) (rI (fun _ j=>0 < j∧j≤10 ^ 19) fun i j=>.int (i / j)):=opI fun i j _ _ _ _ _ hc q=>by
 have h1:(0:Int) < j:=hc.1
 have h2:j≤10 ^ 19:=hc.2
 exact floordiv_int (by trivial) (by rw[Int.fdiv_eq_ediv_of_nonneg i (by trivial)];exact q) (.inl (PyProof.noPylong_of_log2 (Nat.lt_trans (zmn (by trivial) h2) (by decide))))
end
section
variable {g:TG} {tt:TT} {te:TE} {own:List Str} {js:List Nat} {σ:L2.St} {H1:Hp} {Q:VK}
theorem znb {K:PySem.W.Frag} {a:Addr} {xs:List V} (hx:H1 a=some (.tup xs)) (Sg:L2.St->Prop) (sel:Nat->Option V) (hn:xs.length≤1000) (h0:Sg (start3 own js σ))
  (step:∀ i x σ' H',xs[i]?=some x->Same H1 H'->Sg σ'->∀ (C:L2.St->V->Hp->Prop) (L:L2.St->Hp->Prop),(∀ σ3 v H5,Sg σ3->Same H' H5->sel i=some v->C σ3 v H5)->(∀ σ3 H5,Sg σ3->Same H' H5->sel i=none->L σ3 H5) ->
   g x σ' H' fun σ3 H3=>tt σ3 H3 fun b H4=>if b=true then te σ3 H4 fun v H5=>C σ3 v H5 else L σ3 H4)
  (fin:∀ D H',H1 D=none->Same H1 H'->H' D=some (.lst ((List.range xs.length).filterMap sel))->Q (.ref D) H'):CompGo own js g tt te σ Q (Itt K a) H1:=by
 refine zkr xs.length Sg sel hn h0 (fun i H' hi s=>⟨xs,xs[i],SqT.of (s _ _ hx),by simp [hi]⟩) (fun H' s=>⟨xs,SqT.of (s _ _ hx),Nat.le_refl _⟩) (fun i x σ' H' H2 hi s hy sg C L hC hL=>?_) fin
 obtain⟨rfl,hy⟩:=hy
 exact step i x σ' _ (hy xs (SqT.of (s _ _ hx))) s sg C L hC hL
end
def outs (m:Nat) (ks:List Nat):List Nat:=(List.range m).filter fun k=>decide (k ∉ ks)
theorem outs_mem {m k:Nat} {ks:List Nat}:k ∈ outs m ks↔k < m∧k ∉ ks:=by unfold outs;rw[List.mem_filter,List.mem_range,decide_eq_true_iff]
theorem zc1 (m:Nat) (ks:List Nat):(outs m ks).length≤m:=by
 have:=List.length_filter_le (fun k=>decide (k ∉ ks)) (List.range m)
 rw[List.length_range] at this;exact this
noncomputable def gO (ts:List Tie) (ks:List Nat) (k:Nat):Option Int :=
 @dite (Option Int) (∃ o,Far.Dst (arcs ts ks) (tieAt ts k).1.toNat (tieAt ts k).2.1.toNat o) (Classical.propDecidable _) (fun h=>Classical.choose h) fun _=>none
theorem zp9 {ts:List Tie} {ks:List Nat} {k:Nat} {o:Option Int} (h:Far.Dst (arcs ts ks) (tieAt ts k).1.toNat (tieAt ts k).2.1.toNat o):gO ts ks k=o:=by
 unfold gO
 have ex:∃ o,Far.Dst (arcs ts ks) (tieAt ts k).1.toNat (tieAt ts k).2.1.toNat o:=⟨o,h⟩
 rw[dif_pos ex]
 exact Far.Dst.unique (Classical.choose_spec ex) h
inductive spWhole_i (K:PySem.W.Frag) (vs:List V) (H:Hp) (Q:VK):Prop
 | mk:∀ n ts v,(vs=[v])->(Is K H (webD n ts) v)->(ts.length≤60)->(∀ l H',Same H H'->H l=none->H' l=some (.tup (natV (List.range ts.length)))->Q (.ref l) H')->spWhole_i K vs H Q
def spWhole (K:PySem.W.Frag):Sp:=fun vs H Q _=>spWhole_i K vs H Q
inductive spOuts_i (K:PySem.W.Frag) (vs:List V) (H:Hp) (Q:VK):Prop
 | mk:∀ n ts ks wv kv,(vs=[wv,kv])->(WK K H n ts ks wv kv)->(∀ l H',Same H H'->H l=none->H' l=some (.lst (natV (outs ts.length ks)))->Q (.ref l) H')->spOuts_i K vs H Q
def spOuts (K:PySem.W.Frag):Sp:=fun vs H Q _=>spOuts_i K vs H Q
theorem zb9 {ns:List Nat} {i:Nat} {x:V} (h:(natV ns)[i]?=some x):∃ k,ns[i]?=some k∧x=.int (k:Int):=by
 rw[zbd] at h;exact zgx h
end L3
namespace Far
variable {A:List (Nat × Nat × Int)} {s:Nat}
structure Ahd (A:List (Nat × Nat × Int)) (s:Nat) (cs:List (Option (Int × Int))) (as:List (Option Nat)):Prop where
 len:as.length=cs.length
 root:get as s=none
 has:∀ v c,get cs v=some c->v≠s->get as v≠none
 arc:∀ v u,get as v=some u->∃ l cu cv,(u,v,l) ∈ A∧get cs u=some cu∧get cs v=some cv∧cu.1 + l≤cv.1
inductive Tr (A:List (Nat × Nat × Int)) (a:Nat):List Nat->Nat->Int->Prop
 | one:Tr A a [a] a 0
 | snoc {ws:List Nat} {u v:Nat} {x l:Int}:Tr A a ws u x->(u,v,l) ∈ A->Tr A a (ws++[v]) v (x + l)
def beyond (n:Nat) (cs:List (Option (Int × Int))) (d:Int):Nat:=(List.range n).countP fun v=>match get cs v with | none=>false | some c=>decide (d≤c.1)
theorem znk {n u:Nat} {cs:List (Option (Int × Int))} {cu:Int × Int} {d:Int} (hu:u < n) (e:get cs u=some cu) (h:cu.1 < d):beyond n cs d < beyond n cs cu.1:=by
 refine zcj (fun v _ hv=>?_) ⟨u,List.mem_range.mpr hu,?_,?_⟩
 ·cases e2:get cs v with
  | none=>rw[e2] at hv;cases hv
  | some c=>rw[e2] at hv;have:=of_decide_eq_true hv;exact decide_eq_true (by trivial)
 ·rw[e];exact decide_eq_true (Int.le_refl _)
 ·rw[e];exact decide_eq_false (by trivial)
theorem ziq (n:Nat) (cs:List (Option (Int × Int))) (d:Int):beyond n cs d≤n:=by
 have:=List.countP_le_length (p:=fun v=>match get cs v with | none=>false | some c=>decide (d≤c.1)) (l:=List.range n)
 rw[List.length_range] at this;exact this
theorem zlh {n u:Nat} {cs:List (Option (Int × Int))} {cu:Int × Int} (hu:u < n) (e:get cs u=some cu):1≤beyond n cs cu.1 :=
 List.countP_pos_iff.mpr ⟨u,List.mem_range.mpr hu,by rw[e];exact decide_eq_true (Int.le_refl _)⟩
end Far
namespace L3
open PySem PySem.Spec PyProof.Rows L2
theorem zhq (ns:List Int):∀ i,i≤ns.length->preSum (fun i=>ns.getD i 0) i=(ns.take i).sum
 | 0,_=>rfl
 | i + 1,h=>by
  have e:ns[i]?=some ns[i]:=List.getElem?_eq_getElem (by trivial)
  show preSum _ i + ns.getD i 0=_
  rw[zhq ns i (by trivial),zeo e,List.sum_append,List.getD_eq_getElem?_getD,e]
  simp
inductive call_sumA_i  (xs:List V) (H:Hp) (Q:VK):Prop
 | mk:∀ (p:Addr) (ns:List Int),(xs=[.ref p])->(H p=some (.lst (ns.map V.int)))->(Q (.int ns.sum) H)->call_sumA_i xs H Q
theorem znh {X:Cx} (hh:X.calm=true):CallR X (.builtin "sum") (call_sumA_i):=by
 intro pins s σ H xs us Q I r h
 obtain⟨p,ns,rfl,hq,q⟩:=h
 obtain⟨u,rfl,rx⟩:=vals1 r
 cases rx
 obtain⟨its,rv,pl,hz⟩:=I.list (SqL.of hq)
 have hl:=rv.length
 rw[List.length_map] at hl
 have hI:IntsAre its ns:=zb2 rv
 have lt:p≠s.heap.objs.size:=by obtain⟨o,e,_⟩:=pl.isList;exact Nat.ne_of_lt (Heap.lt_size e)
 refine call_sum_walkAnyS (wpAny_pyIter_list pl.isList ?_)
 have W:=(Walks.list (prog:=X.prog) (w:=X.w) (A:=X.A.in1) (show X.A.in1.handled=none from I.ok.hd hh) s.heap.objs.size p lt its.toArray).toS
 refine⟨s.heap.objs.size,_,_,_,_,_,_,(fun i=>ns.getD i 0),rfl,W,⟨⟨_,Heap.get?_push_size _ rfl,rfl,rfl⟩,pl.isList.push _⟩,fun b hb=>?_,fun i v hv=>?_,fun s' t' hm=>?_⟩
 ·obtain⟨o,e,_⟩:=pl.isList
  have hlt:p < s.heap.objs.size:=Heap.lt_size e
  show b < (s.heap.push _).objs.size
  rw[Heap.size_push]
  simp only [List.mem_cons,List.not_mem_nil,or_false] at hb
  rcases hb with z | z
  ·rw[z];exact Nat.lt_succ_self _
  ·rw[z];exact Nat.lt_succ_of_lt hlt
 ·exact IntsAre.int_at hI i v (by simpa using hv)
 ·rw[Moved.eq_with hm]
  refine⟨.int ns.sum,H,I.kept (t':=s'.toks) fun b o e=>hm.heap b o (fun z=>?_) (Heap.get?_push_of_some _ e),⟨t',?_⟩,q⟩
  ·have:b=s.heap.objs.size:=by simpa using z
   exact absurd (Heap.lt_size e) (by rw[this];exact Nat.lt_irrefl _)
  ·rw[show its.toArray.size=ns.length by rw[List.size_toArray,← hl],zhq ns _ (Nat.le_refl _),List.take_length]
def oa:Option Nat->V
 | none=>.non
 | some u=>.int (u:Int)
structure RA (H J:Hp) (lw lc la:Addr) (ws:List V) (cs:List (Option (Int × Int))) (as:List (Option Nat)):Prop where
 same:Same H J
 fc:H lc=none
 fa:H la=none
 nwc:lw≠lc
 nwa:lw≠la
 nca:lc≠la
 wl:J lw=some (.lst ws)
 co:∃ cvs,J lc=some (.lst cvs)∧CostL J cvs cs
 ah:J la=some (.lst (as.map oa))
section
variable {H H' J J':Hp} {vs cvs ws:List V} {cs:List (Option (Int × Int))} {as:List (Option Nat)} {lw lc la t:Addr} {k:Nat} {x y:Int}
theorem RA.step (h:RA H J lw lc la ws cs as) (s:Same J J'):RA H J' lw lc la ws cs as :=
 ⟨h.same.trans s,h.fc,h.fa,h.nwc,h.nwa,h.nca,s _ _ h.wl,let ⟨c,e,z⟩:=h.co;⟨c,s _ _ e,z.keep (zly s)⟩,s _ _ h.ah⟩
theorem RA.put (h:RA H J lw lc la ws cs as) (hc:J lc=some (.lst cvs)) (hk:k < cvs.length) (ht:J t=some (.tup [.int x,.int y])):RA H (upd J lc (.lst (cvs.set k (.ref t)))) lw lc la ws (cs.set k (some (x,y))) as:=by
 obtain⟨c,e,z⟩:=h.co
 rw[hc] at e;cases e
 refine⟨fun b o eb=>?_,h.fc,h.fa,h.nwc,h.nwa,h.nca,?_,⟨_,zak,CostL.set (z.keep (zhk hc)) hk ⟨t,rfl,zhk hc _ _ ht⟩⟩,?_⟩
 ·rw[zat (zaq eb h.fc)];exact h.same _ _ eb
 ·rw[zat h.nwc];exact h.wl
 ·rw[zat h.nca.symm];exact h.ah
theorem RA.mark {u:Nat} (h:RA H J lw lc la ws cs as):RA H (upd J la (.lst ((as.map oa).set k (.int (u:Int))))) lw lc la ws cs (as.set k (some u)):=by
 obtain⟨c,e,z⟩:=h.co
 refine⟨fun b o eb=>?_,h.fc,h.fa,h.nwc,h.nwa,h.nca,?_,⟨c,?_,z.keep (zhk h.ah)⟩,?_⟩
 ·rw[zat (zaq eb h.fa)];exact h.same _ _ eb
 ·rw[zat h.nwa];exact h.wl
 ·rw[zat h.nca];exact e
 ·rw[zak,List.map_set];rfl
end
theorem zrg {D:List (Option Nat)} {i:Nat} (h:i < D.length):(D.map oa)[i]?=some (oa (Far.get D i)):=by
 rw[List.getElem?_map,List.getElem?_eq_getElem h]
 unfold Far.get
 rw[List.getD_eq_getElem?_getD,List.getElem?_eq_getElem h];rfl
def WayV (H:Hp) (A:List (Nat × Nat × Int)) (a b:Nat) (v:V):Prop:=(v=.non∧Far.Dst A a b none)∨∃ t ws x,v=.ref t∧H t=some (.tup (natV ws))∧ws.length≤24∧Far.Tr A a ws b x∧Far.Dst A a b (some x)
def isTB (ts:List Tie) (u v:Nat) (k:Nat):Bool:=decide ((tieAt ts k).1=min (u:Int) v) && decide ((tieAt ts k).2.1=max (u:Int) v)
def tbN (ts:List Tie) (u v:Nat):Option Nat:=(List.range ts.length).find? (isTB ts u v)
theorem zqo {n:Int} {ts:List Tie} {ks:List Nat} (ok:WebOk n ts) (ko:KeepOk ts.length ks) {u v:Nat} {l:Int} (h:(u,v,l) ∈ arcs ts ks):∃ k,tbN ts u v=some k∧k < ts.length∧(tieAt ts k).2.2=l:=by
 obtain⟨k,hk,m⟩:=arcs_mem.mp h
 have hkl:=ko.2 k hk
 have tk:=ok.tie _ (zay hkl).2
 have isk:isTB ts u v k=true∧(tieAt ts k).2.2=l:=by
  unfold isTB
  rcases arcs2_mem.mp m with e | e
  ·have e1:u=(tieAt ts k).1.toNat:=congrArg (·.1) e
   have e2:v=(tieAt ts k).2.1.toNat:=congrArg (·.2.1) e
   have e3:l=(tieAt ts k).2.2:=congrArg (·.2.2) e
   have eu:(u:Int)=(tieAt ts k).1:=by rw[e1];exact Int.toNat_of_nonneg tk.1
   have ev:(v:Int)=(tieAt ts k).2.1:=by rw[e2];exact Int.toNat_of_nonneg (Int.le_of_lt (Int.lt_of_le_of_lt tk.1 tk.2.1))
   rw[eu,ev,Int.min_eq_left (Int.le_of_lt tk.2.1),Int.max_eq_right (Int.le_of_lt tk.2.1)]
   exact⟨by rw[decide_eq_true rfl,decide_eq_true rfl];rfl,e3.symm⟩
  ·have e1:u=(tieAt ts k).2.1.toNat:=congrArg (·.1) e
   have e2:v=(tieAt ts k).1.toNat:=congrArg (·.2.1) e
   have e3:l=(tieAt ts k).2.2:=congrArg (·.2.2) e
   have eu:(u:Int)=(tieAt ts k).2.1:=by rw[e1];exact Int.toNat_of_nonneg (Int.le_of_lt (Int.lt_of_le_of_lt tk.1 tk.2.1))
   have ev:(v:Int)=(tieAt ts k).1:=by rw[e2];exact Int.toNat_of_nonneg tk.1
   rw[eu,ev,Int.min_eq_right (Int.le_of_lt tk.2.1),Int.max_eq_left (Int.le_of_lt tk.2.1)]
   exact⟨by rw[decide_eq_true rfl,decide_eq_true rfl];rfl,e3.symm⟩
 cases e:tbN ts u v with
 | none =>
  have:=List.find?_eq_none.mp e k (List.mem_range.mpr hkl)
  exact absurd isk.1 this
 | some k' =>
  have p:=List.find?_some e
  have hk':k' < ts.length:=List.mem_range.mp (List.mem_of_find?_eq_some e)
  refine⟨k',rfl,hk',?_⟩
  have same:k'=k:=by
   have q1:=p
   have q2:=isk.1
   unfold isTB at q1 q2
   rw[Bool.and_eq_true] at q1 q2
   have a1:=of_decide_eq_true q1.1
   have a2:=of_decide_eq_true q1.2
   have b1:=of_decide_eq_true q2.1
   have b2:=of_decide_eq_true q2.2
   have ri:=List.pairwise_iff_getElem.mp ok.rise
   have g:∀ j (hj:j < ts.length),ts[j]=tieAt ts j:=fun j hj=>by
    have:=(zay hj).1
    rw[List.getElem?_eq_getElem hj] at this
    exact Option.some.inj this
   rcases Nat.lt_trichotomy k' k with z | z | z
   ·have:=ri k' k hk' hkl z
    rw[g k' hk',g k hkl] at this
    exact (this.elim (fun z=>Int.ne_of_lt z (a1.trans b1.symm)) fun z=>Int.ne_of_lt z.2 (a2.trans b2.symm)).elim
   ·exact z
   ·have:=ri k k' hkl hk' z
    rw[g k' hk',g k hkl] at this
    exact (this.elim (fun z=>Int.ne_of_lt z (b1.trans a1.symm)) fun z=>Int.ne_of_lt z.2 (b2.trans a2.symm)).elim
  rw[same];exact isk.2
def tlen (ts:List Tie) (u v:Nat):Int:=(tieAt ts ((tbN ts u v).getD 0)).2.2
def wl (ts:List Tie):List Nat->Int
 | u::v::r=>tlen ts u v + wl ts (v::r)
 | _=>0
def linked (ts:List Tie):List Nat->Prop
 | u::v::r=>(∃ k,tbN ts u v=some k∧k < ts.length)∧linked ts (v::r)
 | _=>True
theorem zi9 {A:List (Nat × Nat × Int)} {a v:Nat} {ws:List Nat} {x:Int} (h:Far.Tr A a ws v x):∃ r,ws=r++[v]:=by
 cases h with
 | one=>exact⟨[],rfl⟩
 | snoc _ _=>exact⟨_,rfl⟩
theorem zlp (ts:List Tie) (u v:Nat):∀ r:List Nat,wl ts (r++[u]++[v])=wl ts (r++[u]) + tlen ts u v
 | []=>by show tlen ts u v + 0=0 + tlen ts u v;trivial
 | [a]=>by show tlen ts a u + (tlen ts u v + 0)=tlen ts a u + 0 + tlen ts u v;trivial
 | a::b::r=>by
  have:=zlp ts u v (b::r)
  show tlen ts a b + wl ts ((b::r)++[u]++[v])=tlen ts a b + wl ts ((b::r)++[u]) + tlen ts u v
  rw[this];trivial
theorem ze4 (ts:List Tie) (u v:Nat) (h:∃ k,tbN ts u v=some k∧k < ts.length):∀ r:List Nat,linked ts (r++[u])->linked ts (r++[u]++[v])
 | [],_=>⟨h,trivial⟩
 | [a],hl=>⟨hl.1,h,trivial⟩
 | a::b::r,hl=>⟨hl.1,ze4 ts u v h (b::r) hl.2⟩
theorem zpj {n:Int} {ts:List Tie} {ks:List Nat} (ok:WebOk n ts) (ko:KeepOk ts.length ks) {a v:Nat} {ws:List Nat} {x:Int} (h:Far.Tr (arcs ts ks) a ws v x):wl ts ws=x∧linked ts ws:=by
 induction h with
 | one=>exact⟨rfl,trivial⟩
 | @snoc ws u v x l t m ih =>
  obtain⟨r,rfl⟩:=zi9 t
  obtain⟨k,e1,e2,e3⟩:=zqo ok ko m
  refine⟨?_,ze4 ts u v ⟨k,e1,e2⟩ r ih.2⟩
  rw[zlp,ih.1]
  unfold tlen
  rw[e1]
  show x + (tieAt ts k).2.2=x + l
  rw[e3]
theorem ze5 {ts:List Tie}:∀ {ws:List Nat} {i u v:Nat},linked ts ws->ws[i]?=some u->ws[i + 1]?=some v->∃ k,tbN ts u v=some k∧k < ts.length
 | a::b::r,0,u,v,h,e1,e2=>by cases e1;cases e2;exact h.1
 | a::b::r,i + 1,u,v,h,e1,e2=>ze5 (ws:=b::r) (i:=i) h.2 (by simpa using e1) (by simpa using e2)
 | [a],0,u,v,_,_,e2=>by cases e2
 | [a],i + 1,u,v,_,e1,_=>by cases e1
 | [],i,u,v,_,e1,_=>by cases e1
def alongN (ts:List Tie) (ws:List Nat):List Nat:=(List.range (ws.length - 1)).map fun i=>(tbN ts (ws.getD i 0) (ws.getD (i + 1) 0)).getD 0
theorem zll (ts:List Tie) (u v:Nat) (r:List Nat):alongN ts (u::v::r)=(tbN ts u v).getD 0::alongN ts (v::r):=by
 unfold alongN
 show (List.range (r.length + 1)).map _=_
 rw[List.range_succ_eq_map,List.map_cons,List.map_map]
 rfl
theorem zi5 (ts:List Tie):∀ ws:List Nat,((alongN ts ws).map fun k=>(tieAt ts k).2.2).sum=wl ts ws
 | []=>rfl
 | [_]=>rfl
 | u::v::r=>by
  rw[zll,List.map_cons,List.sum_cons,zi5 ts (v::r)];rfl
inductive spTB_i (K:PySem.W.Frag) (vs:List V) (H:Hp) (Q:VK):Prop
 | mk:∀ (n:Int) (ts:List Tie) (wv:V) (u v:Nat),(vs=[wv,.int (u:Int),.int (v:Int)])->(Is K H (webD n ts) wv)->(ts.length≤60)->(∀ H',Same H H'->Q (oa (tbN ts u v)) H')->spTB_i K vs H Q
def spTB (K:PySem.W.Frag):Sp:=fun vs H Q _=>spTB_i K vs H Q
inductive spAlong_i (K:PySem.W.Frag) (vs:List V) (H:Hp) (Q:VK):Prop
 | mk:∀ (n:Int) (ts:List Tie) (wv:V) (t:Addr) (ws:List Nat),(vs=[wv,.ref t])->(Is K H (webD n ts) wv)->(ts.length≤60)->(H t=some (.tup (natV ws)))->(ws.length≤24)->(linked ts ws)->(∀ l H',Same H H'->H' l=some (.lst (natV (alongN ts ws)))->Q (.ref l) H')->spAlong_i K vs H Q
def spAlong (K:PySem.W.Frag):Sp:=fun vs H Q _=>spAlong_i K vs H Q
inductive spWLen_i (K:PySem.W.Frag) (vs:List V) (H:Hp) (Q:VK):Prop
 | mk:∀ (n:Int) (ts:List Tie) (wv:V) (t:Addr) (ws:List Nat),(vs=[wv,.ref t])->(Is K H (webD n ts) wv)->(ts.length≤60)->(H t=some (.tup (natV ws)))->(ws.length≤24)->(linked ts ws)->(∀ H',Same H H'->Q (.int (wl ts ws)) H')->spWLen_i K vs H Q
def spWLen (K:PySem.W.Frag):Sp:=fun vs H Q _=>spWLen_i K vs H Q
theorem zo1 {ts:List Tie} {ws:List Nat} (h:linked ts ws):∀ k ∈ alongN ts ws,k < ts.length:=fun k hk=>by
 unfold alongN at hk
 obtain⟨i,hi,rfl⟩:=List.mem_map.mp hk
 have hi':=List.mem_range.mp hi
 have e1:ws[i]?=some (ws.getD i 0):=by rw[List.getD_eq_getElem?_getD,List.getElem?_eq_getElem (by trivial)];rfl
 have e2:ws[i + 1]?=some (ws.getD (i + 1) 0):=by rw[List.getD_eq_getElem?_getD,List.getElem?_eq_getElem (by trivial)];rfl
 obtain⟨k,e,hk⟩:=ze5 h e1 e2
 rw[e];exact hk
theorem zoc (a b x y:Int):PyData.eqv (.tuple (([a,b]:List Int).map .int)) (.tuple (([x,y]:List Int).map .int))=(decide (a=x) && decide (b=y)):=by
 show (_ && (_ && true))=_
 rw[Bool.and_true]
 rfl
def but (ks:List Nat) (k:Nat):List Nat:=ks.filter fun j=>decide (j≠k)
def withinB (t l:Int):Option Int->Bool
 | none=>false
 | some x=>decide (x≤t * l)
inductive spNeed_i (K:PySem.W.Frag) (vs:List V) (H:Hp) (Q:VK):Prop
 | mk:∀ (t:Int),(vs=[.int t])->(1≤t)->(t≤99)->(∀ H',Same H H'->Q .non H')->spNeed_i K vs H Q
def spNeed (K:PySem.W.Frag):Sp:=fun vs H Q _=>spNeed_i K vs H Q
inductive spWithin_i (K:PySem.W.Frag) (vs:List V) (H:Hp) (Q:VK):Prop
 | mk:∀ (n:Int) (ts:List Tie) (ks:List Nat) (wv:V) (k:Nat) (t:Int) (v:V),(vs=[wv,.int (k:Int),.int t,v])->(Is K H (webD n ts) wv)->(WebOk n ts)->(KeepOk ts.length ks)->(k < ts.length)->(1≤t)->(t≤99)->(WayV H (arcs ts ks) (tieAt ts k).1.toNat (tieAt ts k).2.1.toNat v)->(∀ H',Same H H'->Q (.bl (withinB t (tieAt ts k).2.2 (gO ts ks k))) H')->spWithin_i K vs H Q
def spWithin (K:PySem.W.Frag):Sp:=fun vs H Q _=>spWithin_i K vs H Q
end L3
namespace Far
def sumP:List Nat->Nat
 | []=>0
 | k::r=>2 ^ k + sumP r
theorem zdl {S S':List Nat} (h:S.Perm S'):sumP S=sumP S':=by
 induction h with
 | nil=>rfl
 | cons x _ ih=>show _ + _=_ + _;rw[ih]
 | swap x y l=>show 2 ^ y + (2 ^ x + sumP l)=2 ^ x + (2 ^ y + sumP l);trivial
 | trans _ _ h1 h2=>exact h1.trans h2
theorem zja (S:List Nat):∀ T:List Nat,sumP (S++T)=sumP S + sumP T:=by
 intro T
 induction S with
 | nil=>show sumP T=0 + sumP T;trivial
 | cons k r ih=>show 2 ^ k + sumP (r++T)=2 ^ k + sumP r + sumP T;rw[ih];trivial
theorem zgd:∀ (m:Nat) {S:List Nat},S.Nodup->(∀ k ∈ S,k < m)->sumP S < 2 ^ m
 | 0,S,_,h=>by
  cases S with
  | nil=>exact Nat.zero_lt_one
  | cons k r=>exact absurd (h k List.mem_cons_self) (Nat.not_lt_zero _)
 | m + 1,S,nd,h=>by
  have e:2 ^ (m + 1)=2 ^ m + 2 ^ m:=by rw[Nat.pow_succ];trivial
  by_cases c:m ∈ S
  ·have p:=List.perm_cons_erase c
   have nd':(m::S.erase m).Nodup:=p.nodup_iff.mp nd
   have:=zgd m (S:=S.erase m) (List.nodup_cons.mp nd').2 fun k hk=>by
    have h1:=h k (List.mem_of_mem_erase hk)
    have h2:k≠m:=fun z=>(List.nodup_cons.mp nd').1 (z ▸ hk)
    trivial
   rw[zdl p,e]
   show 2 ^ m + sumP (S.erase m) < _
   trivial
  ·have:=zgd m nd fun k hk=>by
    have h1:=h k hk
    have h2:k≠m:=fun z=>c (z ▸ hk)
    trivial
   trivial
theorem zge:∀ (m:Nat) {S S':List Nat},S.Nodup->S'.Nodup->(∀ k ∈ S,k < m)->(∀ k ∈ S',k < m)->sumP S=sumP S'->∀ k,k ∈ S->k ∈ S'
 | 0,S,S',_,_,h,_,_,k,hk=>absurd (h k hk) (Nat.not_lt_zero _)
 | m + 1,S,S',nd,nd',h,h',e,k,hk=>by
  have lower:∀ {T:List Nat},T.Nodup->(∀ k ∈ T,k < m + 1)->m ∉ T->sumP T < 2 ^ m:=fun {T} n1 n2 n3=>zgd m n1 fun j hj=>by
   have h1:=n2 j hj
   have h2:j≠m:=fun z=>n3 (z ▸ hj)
   trivial
  by_cases c:m ∈ S
  ·have p:=List.perm_cons_erase c
   have ndp:(m::S.erase m).Nodup:=p.nodup_iff.mp nd
   have e1:sumP S=2 ^ m + sumP (S.erase m):=zdl p
   by_cases c':m ∈ S'
   ·have p':=List.perm_cons_erase c'
    have ndp':(m::S'.erase m).Nodup:=p'.nodup_iff.mp nd'
    have e2:sumP S'=2 ^ m + sumP (S'.erase m):=zdl p'
    by_cases z:k=m
    ·rw[z];exact c'
    ·have lt:∀ {T:List Nat},(m::T.erase m).Nodup->(∀ k ∈ T,k < m + 1)->∀ j ∈ T.erase m,j < m:=fun {T} n1 n2 j hj=>by
      have h1:=n2 j (List.mem_of_mem_erase hj)
      have h2:j≠m:=fun y=>(List.nodup_cons.mp n1).1 (y ▸ hj)
      trivial
     have:=zge m (List.nodup_cons.mp ndp).2 (List.nodup_cons.mp ndp').2 (lt ndp h) (lt ndp' h') (by trivial) k ((List.mem_erase_of_ne z).mpr hk)
     exact List.mem_of_mem_erase this
   ·have:=lower nd' h' c'
    trivial
  ·by_cases c':m ∈ S'
   ·have e2:sumP S'=2 ^ m + sumP (S'.erase m):=zdl (List.perm_cons_erase c')
    have:=lower nd h c
    trivial
   ·have lt:∀ {T:List Nat},(∀ k ∈ T,k < m + 1)->m ∉ T->∀ j ∈ T,j < m:=fun {T} n1 n2 j hj=>by
     have h1:=n1 j hj
     have h2:j≠m:=fun y=>n2 (y ▸ hj)
     trivial
    exact zge m nd nd' (lt h c) (lt h' c') e k hk
abbrev Arc:=Nat × Nat × Int × Nat
inductive Rt (B:List Arc) (a:Nat):List Nat->List Nat->Nat->Int->Int->Prop
 | one:Rt B a [a] [] a 0 0
 | snoc {ws S:List Nat} {u v:Nat} {x y l:Int} {k:Nat}:Rt B a ws S u x y->(u,v,l,k) ∈ B->v ∉ ws->Rt B a (ws++[v]) (S++[k]) v (x + l) (y + 2 ^ k)
structure Keys (B:List Arc):Prop where
 sym:∀ u v l k,(u,v,l,k) ∈ B->(v,u,l,k) ∈ B
 key:∀ u v l u' v' l' k,(u,v,l,k) ∈ B->(u',v',l',k) ∈ B->l'=l∧((u'=u∧v'=v)∨(u'=v∧v'=u))
 ne:∀ u v l k,(u,v,l,k) ∈ B->u≠v
 pos:∀ u v l k,(u,v,l,k) ∈ B->1≤l
 few:∀ u v l k,(u,v,l,k) ∈ B->k < 60
variable {B:List Arc} {a b:Nat} {ws S:List Nat} {x y:Int}
theorem Rt.last (h:Rt B a ws S b x y):b ∈ ws:=by
 cases h with
 | one=>exact List.mem_singleton.mpr rfl
 | snoc _ _ _=>exact List.mem_append_right _ (List.mem_singleton.mpr rfl)
theorem Rt.ends (K:Keys B) (h:Rt B a ws S b x y):∀ k ∈ S,∃ u v l,(u,v,l,k) ∈ B∧u ∈ ws∧v ∈ ws:=by
 induction h with
 | one=>intro k hk;cases hk
 | @snoc ws S u v x y l k r m nv ih =>
  intro j hj
  rcases List.mem_append.mp hj with hj | hj
  ·obtain⟨p,q,l',h1,h2,h3⟩:=ih j hj
   exact⟨p,q,l',h1,List.mem_append_left _ h2,List.mem_append_left _ h3⟩
  ·rw[List.mem_singleton.mp hj]
   exact⟨u,v,l,m,List.mem_append_left _ r.last,List.mem_append_right _ (List.mem_singleton.mpr rfl)⟩
theorem Rt.fresh (K:Keys B) (h:Rt B a ws S b x y) {u v:Nat} {l:Int} {k:Nat} (m:(u,v,l,k) ∈ B) (nv:v ∉ ws):k ∉ S:=fun hk=>by
 obtain⟨p,q,l',m',hp,hq⟩:=h.ends K k hk
 rcases (K.key _ _ _ _ _ _ _ m m').2 with ⟨e1,e2⟩ | ⟨e1,e2⟩
 ·exact nv (e2 ▸ hq)
 ·exact nv (e1 ▸ hp)
theorem Rt.nodup (K:Keys B) (h:Rt B a ws S b x y):S.Nodup:=by
 induction h with
 | one=>exact List.nodup_nil
 | @snoc ws S u v x y l k r m nv ih =>
  refine List.nodup_append.mpr ⟨ih,by simp,fun p hp q hq z=>?_⟩
  rw[List.mem_singleton.mp hq] at z
  exact r.fresh K m nv (z ▸ hp)
theorem Rt.small (K:Keys B) (h:Rt B a ws S b x y):∀ k ∈ S,k < 60:=fun k hk=>let ⟨u,v,l,m,_⟩:=h.ends K k hk;K.few u v l k m
theorem Rt.sum (h:Rt B a ws S b x y):y=(sumP S:Nat):=by
 induction h with
 | one=>rfl
 | @snoc ws S u v x y l k r m nv ih =>
  rw[zja,ih]
  show ((sumP S:Nat):Int) + 2 ^ k=((sumP S + (2 ^ k + 0):Nat):Int)
  have:((2 ^ k:Nat):Int)=(2:Int) ^ k:=by norm_cast
  trivial
theorem Rt.lt (K:Keys B) (h:Rt B a ws S b x y):0≤y∧y < 2 ^ 60:=by
 have e:=h.sum
 have:=zgd 60 (h.nodup K) (h.small K)
 have e2:((2 ^ 60:Nat):Int)=(2:Int) ^ 60:=by norm_cast
 trivial
theorem Rt.unique (K:Keys B) (h:Rt B a ws S b x y):∀ {ws' S':List Nat} {x':Int},Rt B a ws' S' b x' y->ws'=ws∧x'=x:=by
 induction h with
 | one =>
  intro ws' S' x' r
  generalize ey:(0:Int)=yy at r
  cases r with
  | one=>exact⟨rfl,rfl⟩
  | @snoc ws0 S0 u _ x0 y0 l k r m nv =>
   have p:=r.lt K
   have:(0:Int) < 2 ^ k:=Int.pow_pos (by decide)
   trivial
 | @snoc ws0 S0 u v x0 y0 l k r m nv ih =>
  intro ws' S' x' r'
  have full:Rt B a (ws0++[v]) (S0++[k]) v (x0 + l) (y0 + 2 ^ k):=.snoc r m nv
  have se:sumP S'=sumP (S0++[k]):=by
   have e1:=r'.sum
   have e2:=full.sum
   trivial
  have sub:=zge 60 (r'.nodup K) (full.nodup K) (r'.small K) (full.small K) se
  generalize ey:y0 + 2 ^ k=yy at r'
  cases r' with
  | one =>
   have p:=r.lt K
   have:(0:Int) < 2 ^ k:=Int.pow_pos (by decide)
   trivial
  | @snoc ws1 S1 u1 _ x1 y1 l1 k1 r1 m1 nv1 =>
   have in1:=sub k1 (List.mem_append_right _ (List.mem_singleton.mpr rfl))
   have k1k:k1=k:=by
    rcases List.mem_append.mp in1 with z | z
    ·exact absurd z (r.fresh K m1 nv)
    ·exact List.mem_singleton.mp z
   subst k1k
   obtain⟨el,eu⟩:=K.key _ _ _ _ _ _ _ m m1
   have uu:u1=u:=by
    rcases eu with ⟨e,_⟩ | ⟨e,e'⟩
    ·exact e
    ·exact absurd e' (K.ne _ _ _ _ m).symm
   subst uu
   have yy1:y1=y0:=by trivial
   subst yy1
   obtain⟨e1,e2⟩:=ih r1
   exact⟨by rw[e1],by rw[e2,el]⟩
theorem Rt.cons (K:Keys B) {u:Nat} {l:Int} {k:Nat} (m:(u,a,l,k) ∈ B) (h:Rt B a ws S b x y):u ∉ ws->Rt B u (u::ws) (k::S) b (x + l) (y + 2 ^ k):=by
 induction h with
 | one =>
  intro nu
  have:Rt B u ([u]++[a]) ([]++[k]) a (0 + l) (0 + 2 ^ k):=.snoc .one m (fun z=>nu (by rw[List.mem_singleton] at z ⊢;exact z.symm))
  exact this
 | @snoc ws S w v x y l' k' r m' nv ih =>
  intro nu
  have r2:=ih fun z=>nu (List.mem_append_left _ z)
  have:Rt B u ((u::ws)++[v]) ((k::S)++[k']) v (x + l + l') (y + 2 ^ k + 2 ^ k'):=.snoc r2 m' fun z=>by
   rcases List.mem_cons.mp z with z | z
   ·exact nu (List.mem_append_right _ (List.mem_singleton.mpr z.symm))
   ·exact nv z
  rw[Int.add_right_comm x l l',Int.add_right_comm y] at this
  exact this
theorem Rt.back (K:Keys B) (h:Rt B a ws S b x y):Rt B b ws.reverse S.reverse a x y:=by
 induction h with
 | one=>exact .one
 | @snoc ws S u v x y l k r m nv ih =>
  rw[List.reverse_append,List.reverse_append]
  exact ih.cons K (K.sym _ _ _ _ m) (fun z=>nv (List.mem_reverse.mp z))
end Far
namespace Far
structure Best (B:List Arc) (n s:Nat) (cs:List (Option (Int × Int))) (as:List (Option Nat)):Prop where
 len:cs.length=n
 alen:as.length=n
 start:get cs s=some (0,0)
 root:get as s=none
 has:∀ v c,get cs v=some c->v≠s->get as v≠none
 nn:∀ v c,get cs v=some c->0≤c.1
 stab:∀ u v l k c,(u,v,l,k) ∈ B->get cs u=some c->∃ c',get cs v=some c'∧¬ lt2 (c.1 + l,c.2 + 2 ^ k) c'
 arc:∀ v u,get as v=some u->∃ l k cu,(u,v,l,k) ∈ B∧get cs u=some cu∧get cs v=some (cu.1 + l,cu.2 + 2 ^ k)
inductive TPw (as:List (Option Nat)) (s:Nat):List Nat->Nat->Prop
 | root:TPw as s [s] s
 | step {ws:List Nat} {u v:Nat}:get as v=some u->TPw as s ws u->TPw as s (ws++[v]) v
section
variable {B:List Arc} {n s:Nat} {cs:List (Option (Int × Int))} {as:List (Option Nat)}
theorem Best.route (K:Keys B) (h:Best B n s cs as):∀ (m:Nat) (v:Nat) (c:Int × Int),get cs v=some c->c.1.toNat≤m->∃ ws S,Rt B s ws S v c.1 c.2∧TPw as s ws v∧∀ w ∈ ws,∃ cw,get cs w=some cw∧cw.1≤c.1:=by
 intro m
 induction m using Nat.strongRecOn with
 | ind m ih =>
  intro v c e hm
  by_cases vs:v=s
  ·subst vs
   rw[h.start] at e;cases e
   exact⟨[v],[],.one,.root,fun w hw=>by rw[List.mem_singleton.mp hw];exact⟨_,h.start,Int.le_refl _⟩⟩
  ·cases ea:get as v with
   | none=>exact absurd ea (h.has v c e vs)
   | some u =>
    obtain⟨l,k,cu,ma,eu,ev⟩:=h.arc v u ea
    rw[e] at ev;cases ev
    have l1:=K.pos _ _ _ _ ma
    have c0:=h.nn _ _ eu
    simp only at hm
    obtain⟨ws,S,r,tp,all⟩:=ih cu.1.toNat (by trivial) u cu eu (Nat.le_refl _)
    have nv:v ∉ ws:=fun z=>by
     obtain⟨cw,e1,h1⟩:=all v z
     rw[e] at e1;cases e1
     simp only at h1;trivial
    refine⟨ws++[v],S++[k],.snoc r ma nv,.step ea tp,fun w hw=>?_⟩
    rcases List.mem_append.mp hw with hw | hw
    ·obtain⟨cw,e1,h1⟩:=all w hw
     exact⟨cw,e1,by show cw.1≤cu.1 + l;trivial⟩
    ·rw[List.mem_singleton.mp hw]
     exact⟨_,e,Int.le_refl _⟩
theorem Best.small (K:Keys B) (h:Best B n s cs as) {v:Nat} {c:Int × Int} (e:get cs v=some c):0≤c.2∧c.2 < 2 ^ 60:=by
 obtain⟨ws,S,r,_⟩:=h.route K _ v c e (Nat.le_refl _)
 exact r.lt K
theorem Best.least (h:Best B n s cs as) {ws S:List Nat} {v:Nat} {x y:Int} (r:Rt B s ws S v x y):∃ c,get cs v=some c∧¬ lt2 (x,y) c:=by
 induction r with
 | one=>exact⟨_,h.start,fun z=>by unfold lt2 at z;simp only at z;trivial⟩
 | @snoc ws S u v x y l k r m nv ih =>
  obtain⟨c,e,hc⟩:=ih
  obtain⟨c',e',hc'⟩:=h.stab _ _ _ _ _ m e
  refine⟨c',e',fun z=>?_⟩
  unfold lt2 at *
  simp only at *
  trivial
end
def comb (c:Int × Int):Int:=c.1 * 2 ^ 61 + c.2
def arcsC (B:List Arc):List (Nat × Nat × Int):=B.map fun b=>(b.1,b.2.1,b.2.2.1 * 2 ^ 61 + 2 ^ b.2.2.2)
theorem arcsC_mem {B:List Arc} {u v:Nat} {L:Int}:(u,v,L) ∈ arcsC B↔∃ l k,(u,v,l,k) ∈ B∧L=l * 2 ^ 61 + 2 ^ k:=by
 unfold arcsC
 rw[List.mem_map]
 constructor
 ·rintro ⟨⟨a,b,l,k⟩,h,e⟩
  cases e
  exact⟨l,k,h,rfl⟩
 ·rintro ⟨l,k,h,rfl⟩
  exact⟨(u,v,l,k),h,rfl⟩
section
variable {B:List Arc} {n s:Nat} {cs:List (Option (Int × Int))} {as:List (Option Nat)}
theorem zlr (k:Nat):(1:Int)≤2 ^ k:=Int.pow_pos (by decide)
theorem znr (K:Keys B):Sym (arcsC B):=fun u v L h=>by
 obtain⟨l,k,m,rfl⟩:=arcsC_mem.mp h
 exact arcsC_mem.mpr ⟨l,k,K.sym _ _ _ _ m,rfl⟩
theorem Best.dst (K:Keys B) (h:Best B n s cs as) (v:Nat):Dst (arcsC B) s v ((get cs v).map comb):=by
 refine⟨fun y e=>?_,fun L w=>?_⟩
 ·cases ec:get cs v with
  | none=>rw[ec] at e;cases e
  | some c =>
   rw[ec] at e;cases e
   obtain⟨ws,S,r,_⟩:=h.route K _ v c ec (Nat.le_refl _)
   have go:∀ {ws S:List Nat} {v:Nat} {x y:Int},Rt B s ws S v x y->Walk (arcsC B) s v (comb (x,y)):=by
    intro ws S v x y r
    induction r with
    | one=>exact .nil
    | @snoc ws S u v x y l k r m nv ih =>
     have:=Walk.snoc ih (arcsC_mem.mpr ⟨l,k,m,rfl⟩)
     have e:comb (x + l,y + 2 ^ k)=comb (x,y) + (l * 2 ^ 61 + 2 ^ k):=by unfold comb;simp only;trivial
     rw[e];exact this
   exact go r
 ·have:∃ c,get cs v=some c∧comb c≤L:=by
   induction w with
   | nil=>exact⟨_,h.start,by decide⟩
   | @snoc u v l x w m ih =>
    obtain⟨c,e,hc⟩:=ih
    obtain⟨l',k,m',rfl⟩:=arcsC_mem.mp m
    obtain⟨c',e',hc'⟩:=h.stab _ _ _ _ _ m' e
    refine⟨c',e',?_⟩
    have s1:=h.small K e
    have s2:=h.small K e'
    have:=zlr k
    unfold comb at *
    unfold lt2 at hc'
    simp only at hc'
    trivial
  obtain⟨c,e,hc⟩:=this
  exact⟨comb c,by rw[e];rfl,hc⟩
theorem zox {c d:Int × Int} (hc:0≤c.2∧c.2 < 2 ^ 61) (hd:0≤d.2∧d.2 < 2 ^ 61) (e:comb c=comb d):c=d:=by
 unfold comb at e
 exact Prod.ext (by trivial) (by trivial)
end
end Far
namespace Far
variable {B:List Arc} {A:List (Nat × Nat × Int)} {n s:Nat}
structure Run (B:List Arc) (s:Nat) (cs:List (Option (Int × Int))) (as:List (Option Nat)):Prop where
 len:as.length=cs.length
 start:get cs s=some (0,0)
 root:get as s=none
 has:∀ v c,get cs v=some c->v≠s->get as v≠none
 arc:∀ v u,get as v=some u->∃ l k cu cv,(u,v,l,k) ∈ B∧get cs u=some cu∧get cs v=some cv∧¬ lt2 cv (cu.1 + l,cu.2 + 2 ^ k)
theorem Run.step {u v:Nat} {l:Int} {k:Nat} {cs:List (Option (Int × Int))} {as:List (Option Nat)} {c:Int × Int} (P:Pos A) (g:Good A n s cs) (a:Run B s cs as) (m:(u,v,l) ∈ A) (mB:(u,v,l,k) ∈ B) (hv:v < n) (hu:get cs u=some c)
  (h:get cs v=none∨∃ c',get cs v=some c'∧lt2 (c.1 + l,c.2 + 2 ^ k) c'):Run B s (cs.set v (some (c.1 + l,c.2 + 2 ^ k))) (as.set v (some u)):=by
 have hc:v < cs.length:=by rw[g.len];exact hv
 have ha:v < as.length:=by rw[a.len];exact hc
 have l1:=P _ _ _ m
 have c0:=(g.walk _ _ hu).nonneg P
 have vs:v≠s:=fun z=>by
  rw[z] at h
  rcases h with h | ⟨c',h,hl⟩
  ·rw[a.start] at h;cases h
  ·rw[a.start] at h;cases h
   unfold lt2 at hl;simp only at hl;trivial
 have uv:u≠v:=fun z=>by
  rcases h with h | ⟨c',h,hl⟩
  ·rw[← z,hu] at h;cases h
  ·rw[← z,hu] at h;cases h
   unfold lt2 at hl;simp only at hl;trivial
 refine⟨by rw[List.length_set,List.length_set];exact a.len,by rw[za3 hc,if_neg (Ne.symm vs)];exact a.start,?_,fun x d e hx=>?_,fun x y e=>?_⟩
 ·rw[za3 ha,if_neg (Ne.symm vs)];exact a.root
 ·rw[za3 ha]
  split
  ·exact fun z=>by cases z
  ·rename_i xv
   rw[za3 hc,if_neg xv] at e
   exact a.has x d e hx
 ·rw[za3 ha] at e
  split at e
  ·rename_i z;subst z;cases e
   refine⟨l,k,c,_,mB,by rw[za3 hc,if_neg uv];exact hu,by rw[za3 hc,if_pos rfl],fun z=>?_⟩
   unfold lt2 at z;trivial
  ·rename_i xv
   obtain⟨l',k',cu,cv,m',e1,e2,hle⟩:=a.arc x y e
   by_cases yv:y=v
   ·subst yv
    refine⟨l',k',_,cv,m',by rw[za3 hc,if_pos rfl],by rw[za3 hc,if_neg xv];exact e2,fun z=>?_⟩
    rcases h with h | ⟨c',h,hl⟩
    ·rw[h] at e1;cases e1
    ·rw[h] at e1;cases e1
     unfold lt2 at hl hle z
     simp only at hl hle z
     trivial
   ·exact⟨l',k',cu,cv,m',by rw[za3 hc,if_neg yv];exact e1,by rw[za3 hc,if_neg xv];exact e2,hle⟩
theorem Run.first (hs:s < n):Run B s ((List.replicate n none).set s (some (0,0))) (List.replicate n none):=by
 have hl:s < (List.replicate n (none:Option (Int × Int))).length:=by rw[List.length_replicate];exact hs
 refine⟨by rw[List.length_set,List.length_replicate,List.length_replicate],by rw[za3 hl,if_pos rfl],zdh _ _,fun v c e hv=>?_,fun v u e=>?_⟩
 ·rw[za3 hl,if_neg hv,zdh] at e;cases e
 ·rw[zdh] at e;cases e
def Stab2 (B:List Arc) (cs:List (Option (Int × Int))):Prop:=∀ u v l k c,(u,v,l,k) ∈ B->get cs u=some c->∃ c',get cs v=some c'∧¬ lt2 (c.1 + l,c.2 + 2 ^ k) c'
def PS2 (c0:List (Option (Int × Int))) (R:Arc->Prop) (cs:List (Option (Int × Int))) (ag:Bool):Prop :=
 (ag=false∧cs=c0∧∀ u v l k c,R (u,v,l,k)->get c0 u=some c->∃ c',get c0 v=some c'∧¬ lt2 (c.1 + l,c.2 + 2 ^ k) c')∨(ag=true∧mu cs < mu c0)
def plusA (R:Arc->Prop) (a:Arc):Arc->Prop:=fun b=>R b∨b=a
section
variable {c0 cs:List (Option (Int × Int))} {R R':Arc->Prop} {ag:Bool} {u v k:Nat} {l:Int}
theorem PS2.less (h:PS2 c0 R cs ag) (z:∀ a,R' a->R a):PS2 c0 R' cs ag:=h.elim (fun ⟨a,b,c⟩=>.inl ⟨a,b,fun u v l k c' y=>c u v l k c' (z _ y)⟩) .inr
theorem PS2.no (h:PS2 c0 R cs ag) (hu:get cs u=none):PS2 c0 (plusA R (u,v,l,k)) cs ag:=by
 rcases h with ⟨a,b,c⟩ | h
 ·refine .inl ⟨a,b,fun u' v' l' k' c' z e=>?_⟩
  rcases z with z | z
  ·exact c _ _ _ _ _ z e
  ·cases z;rw[← b,hu] at e;cases e
 ·exact .inr h
theorem PS2.old (h:PS2 c0 R cs ag) {c d:Int × Int} (hu:get cs u=some c) (hv:get cs v=some d) (hn:¬ lt2 (c.1 + l,c.2 + 2 ^ k) d):PS2 c0 (plusA R (u,v,l,k)) cs ag:=by
 rcases h with ⟨a,b,z⟩ | h
 ·refine .inl ⟨a,b,fun u' v' l' k' c' y e=>?_⟩
  rcases y with y | y
  ·exact z _ _ _ _ _ y e
  ·cases y
   subst b
   rw[hu] at e;cases e
   exact⟨d,hv,hn⟩
 ·exact .inr h
theorem PS2.put (h:PS2 c0 R cs ag) {cs':List (Option (Int × Int))} (hm:mu cs' < mu cs):PS2 c0 (plusA R (u,v,l,k)) cs' true:=by
 rcases h with ⟨a,b,c⟩ | h
 ·exact .inr ⟨rfl,by rw[← b];exact hm⟩
 ·exact .inr ⟨rfl,Nat.lt_trans hm h.2⟩
end
theorem Run.best {cs:List (Option (Int × Int))} {as:List (Option Nat)} (P:Pos A) (g:Good A n s cs) (r:Run B s cs as) (st:Stab2 B cs):Best B n s cs as:=by
 refine⟨g.len,by rw[r.len];exact g.len,r.start,r.root,r.has,fun v c e=>(g.walk v c e).nonneg P,st,fun v u e=>?_⟩
 obtain⟨l,k,cu,cv,m,e1,e2,n1⟩:=r.arc v u e
 obtain⟨c',e3,n2⟩:=st _ _ _ _ _ m e1
 rw[e2] at e3;cases e3
 refine⟨l,k,cu,m,e1,?_⟩
 rw[e2]
 congr 1
 unfold lt2 at n1 n2
 simp only at n1 n2
 exact Prod.ext (by show cv.1=cu.1 + l;trivial) (by show cv.2=cu.2 + 2 ^ k;trivial)
end Far
namespace Far
def arcsF (B:List Arc):List (Nat × Nat × Int):=B.map fun b=>(b.1,b.2.1,b.2.2.1)
theorem arcsF_mem {B:List Arc} {u v:Nat} {l:Int}:(u,v,l) ∈ arcsF B↔∃ k,(u,v,l,k) ∈ B:=by
 unfold arcsF
 rw[List.mem_map]
 constructor
 ·rintro ⟨⟨a,b,l',k⟩,h,e⟩
  cases e
  exact⟨k,h⟩
 ·rintro ⟨k,h⟩
  exact⟨(u,v,l,k),h,rfl⟩
section
variable {B:List Arc} {n s:Nat} {cs:List (Option (Int × Int))} {as:List (Option Nat)} {a b:Nat} {ws S:List Nat} {x y:Int}
theorem zlx {v:Nat} {ws ws':List Nat} (hr:get as s=none) (t:TPw as s ws v):TPw as s ws' v->ws'=ws:=by
 induction t generalizing ws' with
 | root =>
  intro t'
  cases t' with
  | root=>rfl
  | step e _=>rw[hr] at e;cases e
 | step e t ih =>
  intro t'
  cases t' with
  | root=>rw[hr] at e;cases e
  | step e' t'=>rw[e] at e';cases e';rw[ih t']
theorem Best.rt (K:Keys B) (h:Best B n s cs as) {v:Nat} {c:Int × Int} (t:TPw as s ws v) (e:get cs v=some c):∃ S,Rt B s ws S v c.1 c.2:=by
 obtain⟨w1,S1,r1,p1,_⟩:=h.route K _ v c e (Nat.le_refl _)
 rw[zlx h.root p1 t]
 exact⟨S1,r1⟩
theorem Rt.walk (r:Rt B a ws S b x y):Walk (arcsF B) a b x:=by
 induction r with
 | one=>exact .nil
 | snoc r m nv ih=>exact .snoc ih (arcsF_mem.mpr ⟨_,m⟩)
theorem Rt.tr (r:Rt B a ws S b x y):Tr (arcsF B) a ws b x:=by
 induction r with
 | one=>exact .one
 | snoc r m nv ih=>exact .snoc ih (arcsF_mem.mpr ⟨_,m⟩)
theorem Best.dst1 (K:Keys B) (h:Best B n s cs as) (v:Nat):Dst (arcsF B) s v ((get cs v).map (·.1)):=by
 refine⟨fun y e=>?_,fun L w=>?_⟩
 ·cases ec:get cs v with
  | none=>rw[ec] at e;cases e
  | some c =>
   rw[ec] at e;cases e
   obtain⟨ws,S,r,_⟩:=h.route K _ v c ec (Nat.le_refl _)
   exact r.walk
 ·have:∃ c,get cs v=some c∧c.1≤L:=by
   induction w with
   | nil=>exact⟨_,h.start,Int.le_refl _⟩
   | @snoc u v l x w m ih =>
    obtain⟨c,e,hc⟩:=ih
    obtain⟨k,m'⟩:=arcsF_mem.mp m
    obtain⟨c',e',hc'⟩:=h.stab _ _ _ _ _ m' e
    refine⟨c',e',?_⟩
    unfold lt2 at hc'
    simp only at hc'
    trivial
  obtain⟨c,e,hc⟩:=this
  exact⟨c.1,by rw[e];rfl,hc⟩
theorem Rt.unlike (r:Rt B a ws S b x y):ws.Nodup:=by
 induction r with
 | one=>simp
 | snoc r m nv ih =>
  refine List.nodup_append.mpr ⟨ih,by simp,fun p hp q hq z=>?_⟩
  rw[List.mem_singleton.mp hq] at z
  exact nv (z ▸ hp)
theorem Rt.head (r:Rt B a ws S b x y):∃ q,ws=a::q:=by
 induction r with
 | one=>exact⟨[],rfl⟩
 | snoc r m nv ih=>obtain⟨q,rfl⟩:=ih;exact⟨q++[_],rfl⟩
theorem Rt.foot (r:Rt B a ws S b x y):∃ q,ws=q++[b]:=by
 cases r with
 | one=>exact⟨[],rfl⟩
 | snoc r m nv=>exact⟨_,rfl⟩
structure Uni (B:List Arc) (a b:Nat) (ws S:List Nat) (x y:Int):Prop where
 rt:Rt B a ws S b x y
 least:∀ ws' S' x' y',Rt B a ws' S' b x' y'->¬ lt2 (x',y') (x,y)
theorem Best.uni (K:Keys B) (h:Best B n s cs as) {v:Nat} {c:Int × Int} (t:TPw as s ws.reverse v) (e:get cs v=some c):∃ S,Uni B v s ws S c.1 c.2:=by
 obtain⟨S,r⟩:=h.rt K t e
 have rb:=r.back K
 rw[List.reverse_reverse] at rb
 refine⟨_,rb,fun ws' S' x' y' r' z=>?_⟩
 obtain⟨c',e',n'⟩:=h.least (r'.back K)
 rw[e] at e';cases e'
 exact n' z
end
end Far
namespace L3
open PySem PySem.Spec PyProof.Rows L2
def arcs2B (t:Tie) (k:Nat):List Far.Arc:=[(t.1.toNat,t.2.1.toNat,t.2.2,k),(t.2.1.toNat,t.1.toNat,t.2.2,k)]
def arcsB (ts:List Tie) (ks:List Nat):List Far.Arc:=ks.flatMap fun k=>arcs2B (tieAt ts k) k
theorem arcsB_mem {ts:List Tie} {ks:List Nat} {a:Far.Arc}:a ∈ arcsB ts ks↔∃ k,k ∈ ks∧a ∈ arcs2B (tieAt ts k) k:=by
 unfold arcsB;rw[List.mem_flatMap]
theorem arcs2B_mem {t:Tie} {k:Nat} {a:Far.Arc}:a ∈ arcs2B t k↔a=(t.1.toNat,t.2.1.toNat,t.2.2,k)∨a=(t.2.1.toNat,t.1.toNat,t.2.2,k):=by
 unfold arcs2B;simp
theorem zlk {ts:List Tie} {ks:List Nat} {i k:Nat} (h:ks[i]?=some k) {a:Far.Arc} (m:a ∈ arcsB ts (ks.take (i + 1))):a ∈ arcsB ts (ks.take i)∨a ∈ arcs2B (tieAt ts k) k:=by
 obtain⟨j,hj,m⟩:=arcsB_mem.mp m
 rw[zeo h] at hj
 rcases List.mem_append.mp hj with hj | hj
 ·exact .inl (arcsB_mem.mpr ⟨j,hj,m⟩)
 ·rw[List.mem_singleton.mp hj] at m;exact .inr m
theorem zck {n:Int} {ts:List Tie} {ks:List Nat} (ok:WebOk n ts) (ko:KeepOk ts.length ks):Far.Keys (arcsB ts ks):=by
 have at_:∀ {u v l k},(u,v,l,k) ∈ arcsB ts ks->k < ts.length∧((u=(tieAt ts k).1.toNat∧v=(tieAt ts k).2.1.toNat)∨(u=(tieAt ts k).2.1.toNat∧v=(tieAt ts k).1.toNat))∧l=(tieAt ts k).2.2∧k ∈ ks:=fun {u v l k} h=>by
  obtain⟨j,hj,m⟩:=arcsB_mem.mp h
  rcases arcs2B_mem.mp m with e | e <;> cases e
  ·exact⟨ko.2 _ hj,.inl ⟨rfl,rfl⟩,rfl,hj⟩
  ·exact⟨ko.2 _ hj,.inr ⟨rfl,rfl⟩,rfl,hj⟩
 refine⟨fun u v l k h=>?_,fun u v l u' v' l' k h h'=>?_,fun u v l k h=>?_,fun u v l k h=>?_,fun u v l k h=>?_⟩
 ·obtain⟨_,e,rfl,hk⟩:=at_ h
  refine arcsB_mem.mpr ⟨k,hk,arcs2B_mem.mpr ?_⟩
  rcases e with ⟨rfl,rfl⟩ | ⟨rfl,rfl⟩
  ·exact .inr rfl
  ·exact .inl rfl
 ·obtain⟨_,e,rfl,_⟩:=at_ h
  obtain⟨_,e',rfl,_⟩:=at_ h'
  refine⟨rfl,?_⟩
  rcases e with ⟨rfl,rfl⟩ | ⟨rfl,rfl⟩ <;> rcases e' with ⟨rfl,rfl⟩ | ⟨rfl,rfl⟩
  ·exact .inl ⟨rfl,rfl⟩
  ·exact .inr ⟨rfl,rfl⟩
  ·exact .inr ⟨rfl,rfl⟩
  ·exact .inl ⟨rfl,rfl⟩
 ·obtain⟨hk,e,_,_⟩:=at_ h
  have:=ok.tie _ (zay hk).2
  rcases e with ⟨rfl,rfl⟩ | ⟨rfl,rfl⟩ <;> trivial
 ·obtain⟨hk,_,e,_⟩:=at_ h
  have:=ok.tie _ (zay hk).2
  trivial
 ·obtain⟨hk,_⟩:=at_ h
  have:=ok.few
  trivial
theorem zkz {n:Int} {ts:List Tie} {ks:List Nat} (ok:WebOk n ts) (ko:KeepOk ts.length ks) {u v k:Nat} {l:Int} (h:(u,v,l,k) ∈ arcsB ts ks):u < n.toNat∧v < n.toNat:=by
 obtain⟨j,hj,m⟩:=arcsB_mem.mp h
 have:=ok.tie _ (zay (ko.2 j hj)).2
 rcases arcs2B_mem.mp m with e | e <;> cases e <;> trivial
inductive spReachedB_i (K:PySem.W.Frag) (vs:List V) (H:Hp) (Q:VK):Prop
 | mk:∀ n ts ks wv kv r,(vs=[wv,kv,.int r])->(WK K H n ts ks wv kv)->(0≤r)->(r < n)->(∀ (p lc la:Addr) (cvs:List V) (as:List (Option Nat)) (cs:List (Option (Int × Int))) (H':Hp),Same H H'->H' p=some (.tup [.ref lc,.ref la])->H' lc=some (.lst cvs)->H' la=some (.lst (as.map oa))->CostL H' cvs cs->Far.Best (arcsB ts ks) n.toNat r.toNat cs as->Q (.ref p) H')->spReachedB_i K vs H Q
def spReachedB (K:PySem.W.Frag):Sp:=fun vs H Q _=>spReachedB_i K vs H Q
inductive spTreeB_i (K:PySem.W.Frag) (vs:List V) (H:Hp) (Q:VK):Prop
 | mk:∀ n ts ks wv kv r,(vs=[wv,kv,.int r])->(WK K H n ts ks wv kv)->(0≤r)->(r < n)->(∀ (p:Addr) (as:List (Option Nat)) (cs:List (Option (Int × Int))) (H':Hp),Same H H'->H' p=some (.tup (as.map oa))->Far.Best (arcsB ts ks) n.toNat r.toNat cs as->Q (.ref p) H')->spTreeB_i K vs H Q
def spTreeB (K:PySem.W.Frag):Sp:=fun vs H Q _=>spTreeB_i K vs H Q
def WayB (H:Hp) (B:List Far.Arc) (n a b:Nat) (v:V):Prop:=∃ cs as,Far.Best B n b cs as∧((v=.non∧Far.get cs a=none)∨∃ t ws c,v=.ref t∧H t=some (.tup (natV ws))∧ws.length≤24∧Far.get cs a=some c∧Far.TPw as b ws.reverse a)
inductive spWayB_i (K:PySem.W.Frag) (vs:List V) (H:Hp) (Q:VK):Prop
 | mk:∀ n ts ks wv kv a b,(vs=[wv,kv,.int a,.int b])->(WK K H n ts ks wv kv)->(0≤a)->(a < n)->(0≤b)->(b < n)->(∀ v H',Same H H'->WayB H' (arcsB ts ks) n.toNat a.toNat b.toNat v->Q v H')->spWayB_i K vs H Q
def spWayB (K:PySem.W.Frag):Sp:=fun vs H Q _=>spWayB_i K vs H Q
end L3
namespace HT
open PySem PyProof.Rows
section
variable {prog:Program} {w:World} {A:Around} {E:Value->Shared->Prop} {s:Shared}
abbrev setS (ns:List Int) (m:Nat):Int->Bool:=fun x=>(firstMet (fun i=>ns.getD i 0) m).any fun y=>y == x
abbrev setN (ns:List Int) (m:Nat):Nat:=(firstMet (fun i=>ns.getD i 0) m).length
theorem znz {h:Heap} {t:Addr} {xs:Array Value} (it:h.IsTuple t xs) (o:Obj):(h.push o).IsTuple t xs:=let ⟨ob,e,r⟩:=it;⟨ob,Heap.get?_push_of_some _ e,r⟩
abbrev seto (led:Bool):Obj:={ cls:=.type "set",dict:=none,data:=.set #[] 0 (.fresh 0 0 led) }
theorem zih {t:Addr} {xs:Array Value} {ns:List Int} {Q:Value->Shared->Prop} (hh:A.handled=none) (ht:s.heap.IsTuple t xs) (hi:IntsAre xs.toList ns) (hb:xs.size + 1 < scanBound)
  (h:∀ (h':Heap) (tk:Nat),h'.SetOf (intKind prog w) s.heap.objs.size (setS ns xs.size) (setN ns xs.size)->(∀ b o,b < s.heap.objs.size->s.heap.get? b=some o->h'.get? b=some o)->Q (.ref s.heap.objs.size) { s with heap:=h',toks:=tk }) :
  wpAny (model prog w) A (call (.type "set") [.ref t]) Q E s:=by
 obtain⟨c,tl,hmro⟩:=PySem.F.called_set.mro
 have hmade:=PySem.F.called_set.made;have hsub:=PySem.F.called_set.sub
 refine wpAny_call (codeAny_of_tree ?_);show wpAny _ _ (callAny (.type "set") _) _ _ _
 refine wpAny_pure ⟨Code.quiet_builtin _ (by decide +kernel),codeAny_builtin PySem.F.entry_type_call ?_⟩
 rw[Around.under_plain (PySem.weight_type_call_type "set" [.ref t] []) rfl]
 have h1:=PySem.F.called_set.notType;have h2:=PySem.F.called_set.canCreate;have hct:=PySem.F.typeCall_set_1 (.ref t)
 repeat (any_goals (first | assumption | wp_step))
 refine codeAny_mono (PySem.code_set_new_1 (.ref t) (E:=E) (Q₁:=fun obj s₁=>∃ led:Bool,obj=.ref s.heap.objs.size∧s₁={ s with heap:=s.heap.push (seto led) }) fun led=>⟨led,rfl,rfl⟩) fun r s₁ hr=>?_
 match r,hr with
 | .error e,hr=>exact hr
 | .ok .next,hr=>exact hr.elim
 | .ok .brk,hr=>exact hr.elim
 | .ok .cont,hr=>exact hr.elim
 | .ok (.ret obj),hr =>
  obtain⟨led,rfl,rfl⟩:=hr
  have gS:(s.heap.push (seto led)).get? s.heap.objs.size=some (seto led):=Heap.get?_push_size _ rfl
  have hT:Shared.TypeIs { s with heap:=s.heap.push (seto led) } (.ref s.heap.objs.size) "set":=⟨_,gS,rfl⟩
  have hli:=PySem.F.called_set.init.lookup;have hbi:=PySem.F.called_set.init.bind (.ref s.heap.objs.size)
  repeat (any_goals (first | assumption | wp_step))
  refine codeAny_mono (codeAny_call_builtin (R:=wants (fun r s₂=>r=.none∧∃ h' tk,s₂={ s with heap:=h',toks:=tk }∧h'.SetOf (intKind prog w) s.heap.objs.size (setS ns xs.size) (setN ns xs.size)∧(∀ b o,b < s.heap.objs.size->s.heap.get? b=some o->h'.get? b=some o)) E) PySem.F.called_set.init.plain PySem.F.entry_set_init (PySem.check_set_init_1 hT ?_)) fun r₂ s₂ hr₂=>?_
  ·obtain⟨ot,ho,hc,m,hd⟩:=id ht
   obtain⟨ocls,odict,odata,oslots⟩:=ot
   simp only at hc hd;subst hc hd
   have ho':(s.heap.push (seto led)).get? t=some { cls:=.type "tuple",dict:=odict,data:=.seq xs m,slots:=oslots }:=Heap.get?_push_of_some _ ho
   have f1:=PySem.F.sub_tuple_set;have f2:=PySem.F.sub_tuple_frozenset
   have f3:(Value.type "tuple" == Value.type "dict")=false:=by decide
   have it1:(s.heap.push (seto led)).IsTuple t xs:=⟨_,ho',rfl,m,rfl⟩
   unfold Builtin.«set.__init__» noKeywords Builtin.Frozenset.updateFrom
   generalize hPI:pyIter=PI
   wp_walk;subst hPI
   refine wpAny_pyIter_tuple it1 (wpAny_bind (wpAny_runValue ?_))
   have lt:t < s.heap.objs.size:=Heap.lt_size ho
   have hh3:A.in1.in1.in1.handled=none:=by simp [hh]
   have sz1:(s.heap.push (seto led)).objs.size=s.heap.objs.size + 1:=Heap.size_push ..
   have tI:t≠(s.heap.push (seto led)).objs.size:=by rw[sz1];exact Nat.ne_of_lt (Nat.lt_succ_of_lt lt)
   have Sfp:s.heap.objs.size ∉ [(s.heap.push (seto led)).objs.size,t]:=by
    rw[sz1];simp only [List.mem_cons,List.not_mem_nil,or_false,not_or];exact⟨Nat.ne_of_lt (Nat.lt_succ_self _),(Nat.ne_of_lt lt).symm⟩
   have vals:∀ (i:Nat) (v:Value),xs[i]?=some v->∃ u,v=.int ((fun i=>ns.getD i 0) i) u:=fun i v hv=>IntsAre.int_at hi i v (by rw[Array.getElem?_toList];exact hv)
   refine codeAny_set_update_loopS ((Walks.tuple hh3 _ t tI xs).toS) s.heap.objs.size Sfp (fun i=>ns.getD i 0) vals hb (xs.size - 0) 0 _ (by trivial) (Nat.zero_le _) ?st ?s0 ?fin
   case st=>exact⟨⟨_,Heap.get?_push_size _ rfl,rfl,rfl⟩,znz it1 _⟩
   case s0=>exact SetOf_congr ((setObjOf_fresh (knd:=intKind prog w) led).setOf (Heap.get?_push_of_some _ gS) (by unfold scanBound;trivial)) (fun _=>rfl) rfl
   case fin =>
    rintro ⟨h',g',d',tk',os'⟩ hm hS'
    obtain rfl:g'=s.gens:=hm.gens
    obtain rfl:d'=s.drawn:=hm.drawn
    obtain rfl:os'=s.os:=hm.os
    refine wpAny_pure (wpAny_pure ⟨rfl,h',tk',rfl,hS',fun b o hlt e=>hm.heap b o ?_ (Heap.get?_push_of_some _ (Heap.get?_push_of_some _ e))⟩)
    rw[sz1];simp only [List.mem_cons,List.not_mem_nil,or_false,not_or]
    exact⟨Nat.ne_of_lt hlt,Nat.ne_of_lt (Nat.lt_succ_of_lt hlt)⟩
  ·match r₂,hr₂ with
   | .error e,hr₂=>exact hr₂
   | .ok .next,hr₂=>exact hr₂.elim
   | .ok .brk,hr₂=>exact hr₂.elim
   | .ok .cont,hr₂=>exact hr₂.elim
   | .ok (.ret v),hr₂ =>
    obtain⟨rfl,h',tk,rfl,hS',hk⟩:=hr₂
    repeat (any_goals (first | assumption | wp_step))
    exact h h' tk hS' hk
end
end HT
namespace L3
open PySem PySem.Spec PyProof.Rows L2
theorem zdu (val:Nat->Int):∀ i,(firstMet val i).length=i↔((List.range i).map val).Nodup
 | 0=>by rw[firstMet_zero];simp
 | i + 1=>by
  have ih:=zdu val i
  have le:=firstMet_length_le val i
  have an:=firstMet_any val i (val i)
  rw[firstMet_succ,List.range_succ,List.map_append,List.nodup_append]
  unfold step_dedup
  by_cases c:(firstMet val i).any (fun y=>y == val i)=true
  ·rw[if_pos c]
   constructor
   ·intro z;trivial
   ·rintro ⟨_,_,z⟩
    rw[an,List.any_eq_true] at c
    obtain⟨y,hy,e⟩:=c
    exact absurd (by simpa using e) (z y hy (val i) (by simp))
  ·rw[if_neg c,List.length_append,List.length_singleton]
   constructor
   ·intro z
    refine⟨ih.mp (by trivial),by simp,fun a ha b hb e=>c ?_⟩
    rw[an,List.any_eq_true]
    have:b=val i:=by simpa using hb
    exact⟨a,ha,by rw[e,this];simp⟩
   ·rintro ⟨z,_⟩
    rw[ih.mpr z]
theorem zcz (ns:List Int):HT.setN ns ns.length=ns.length↔ns.Nodup:=by
 have:=zdu (fun i=>ns.getD i 0) ns.length
 rw[zb0] at this
 exact this
section
variable {X:Cx}
inductive call_setT_i  (xs:List V) (H:Hp) (Q:VK):Prop
 | mk:∀ (p:Addr) (ns:List Int),(xs=[.ref p])->(H p=some (.tup (ns.map V.int)))->(ns.length≤1000)->(∀ q H',Same H H'->H q=none->H' q=some (.set (HT.setS ns ns.length) (HT.setN ns ns.length))->Q (.ref q) H')->call_setT_i xs H Q
theorem zii (hh:X.calm=true):CallR X (.type "set") (call_setT_i):=by
 intro pins s σ H xs us Q I r h
 obtain⟨p,ns,rfl,hp,hl,q⟩:=h
 obtain⟨u,rfl,rx⟩:=vals1 r
 cases rx
 obtain⟨its,rv,pt,hz⟩:=I.tuple (SqT.of hp)
 have hlen:=rv.length
 rw[List.length_map] at hlen
 have fr:H s.heap.objs.size=none:=I.hok.fresh (Nat.le_refl _)
 have esz:its.toArray.size=ns.length:=by rw[List.size_toArray,← hlen]
 refine HT.zih (ns:=ns) (I.ok.hd hh) (show s.heap.IsTuple p its.toArray from pt) (by simpa using zb2 rv) (by rw[esz];unfold scanBound;trivial) fun h' tk hS hk=>?_
 rw[esz] at hS
 exact⟨.ref s.heap.objs.size,_,I.laid (a:=s.heap.objs.size) (o:=.set (HT.setS ns ns.length) (HT.setN ns ns.length)) (t':=tk) (fun b o e=>hk b o (Heap.lt_size e) e) (Nat.le_refl _) hS,rfl,q _ _ (zav fr) fr zak⟩
inductive call_lenS_i  (xs:List V) (H:Hp) (Q:VK):Prop
 | mk:∀ (p:Addr) (S:Int->Bool) (n:Nat),(xs=[.ref p])->(H p=some (.set S n))->(Q (.int (n:Int)) H)->call_lenS_i xs H Q
theorem zik:CallR X (.builtin "len") (call_lenS_i):=by
 intro pins s σ H xs us Q I r h
 obtain⟨p,S,n,rfl,hp,q⟩:=h
 obtain⟨u,rfl,rx⟩:=vals1 r
 cases rx
 obtain⟨o,es,ep,t,ho,hex,hd,_,_,hb,hf,hn⟩:=(show ObjOk X.prog X.w H s.heap p (.set S n) from I.hok p _ hp)
 refine call_len_set ho hex hd hf (by unfold scanBound at hb;trivial) ⟨.int (n:Int),H,I.tok _,⟨s.toks + 1,by rw[hn]⟩,q⟩
end
end L3
namespace L3
open PySem PySem.Spec PyProof.Rows L2
end L3
namespace L3
open PySem PySem.Spec PyProof.Rows L2
end L3
namespace L3
open PySem PySem.Spec PyProof.Rows L2
theorem zcq (ts:List Tie) (ks:List Nat):Far.arcsF (arcsB ts ks)=arcs ts ks:=by
 unfold arcs Far.arcsF arcsB
 rw[List.map_flatMap]
 rfl
theorem zfh {n:Int} {ts:List Tie} {ks:List Nat} (ok:WebOk n ts) (ko:KeepOk ts.length ks):Far.Sym (arcs ts ks):=fun u v l h=>by
 rw[← zcq] at h ⊢
 obtain⟨k,m⟩:=Far.arcsF_mem.mp h
 exact Far.arcsF_mem.mpr ⟨k,(zck ok ko).sym _ _ _ _ m⟩
inductive spReachedC_i (K:PySem.W.Frag) (vs:List V) (H:Hp) (Q:VK):Prop
 | mk:∀ n ts ks wv kv r,(vs=[wv,kv,.int r])->(WK K H n ts ks wv kv)->(0≤r)->(r < n)->(∀ (p lc la:Addr) (cvs:List V) (as:List (Option Nat)) (cs:List (Option (Int × Int))) (H':Hp),Same H H'->H' p=some (.tup [.ref lc,.ref la])->H' lc=some (.lst cvs)->H' la=some (.lst (as.map oa))->CostL H' cvs cs->Far.Best (arcsB ts ks) n.toNat r.toNat cs as->Far.Good (arcs ts ks) n.toNat r.toNat cs->Far.Stab (arcs ts ks) cs->Q (.ref p) H')->spReachedC_i K vs H Q
def spReachedC (K:PySem.W.Frag):Sp:=fun vs H Q _=>spReachedC_i K vs H Q
theorem zl5 {K:PySem.W.Frag} (vs:List V) (H:Hp) (Q:VK) (E:XK) (h:spReachedB K vs H Q E):spReachedC K vs H Q E:=by
 obtain⟨n,ts,ks,wv,kv,r,e,wk,r0,r1,q⟩:=h
 exact⟨n,ts,ks,wv,kv,r,e,wk,r0,r1,fun p lc la cvs as cs H' S h1 h2 h3 cl B _ _=>q p lc la cvs as cs H' S h1 h2 h3 cl B⟩
theorem zl4 {K:PySem.W.Frag} (vs:List V) (H:Hp) (Q:VK) (E:XK) (h:spReached K vs H Q E):spReachedC K vs H Q E:=by
 obtain⟨n,ts,ks,wv,kv,r,e,wk,r0,r1,q⟩:=h
 exact⟨n,ts,ks,wv,kv,r,e,wk,r0,r1,fun p lc la cvs as cs H' S h1 h2 h3 cl _ g st=>q p lc la cvs _ cs H' S h1 h2 h3 cl g st⟩
theorem zpo {ts:List Tie} {ks:List Nat} {cs:List (Option (Int × Int))} (h:Far.Stab2 (arcsB ts ks) cs):Far.Stab (arcs ts ks) cs:=fun u v l c m e=>by
 rw[← zcq] at m
 obtain⟨k,m⟩:=Far.arcsF_mem.mp m
 obtain⟨c',e',n'⟩:=h _ _ _ _ _ m e
 refine⟨c',e',?_⟩
 unfold Far.lt2 at n'
 simp only at n'
 trivial
section
variable {own:List Str} {js:List Nat} {g:TG} {te:TE} {σ:L2.St} {Q:VK} {H1:Hp}
end
end L3
namespace L3
open PySem PySem.Spec PyProof.Rows L2
end L3
namespace L3
open PySem PySem.Spec PyProof.Rows L2
end L3
namespace HT
open PySem PyProof.Rows
section
variable {prog:Program} {w:World} {A:Around} {R:Result->Shared->Prop} {I:Addr} {fp wr:List Addr} {G:Array GenState->Array GenState->Prop} {St:Nat->Shared->Prop} {its:List Value} {ns:List Int}
end
section
variable {prog:Program} {w:World} {A:Around} {E:Value->Shared->Prop} {s:Shared}
end
end HT
namespace L3
open PySem PySem.Spec PyProof.Rows L2
end L3
namespace L3
open PySem PySem.Spec PyProof.Rows L2
theorem IsAll.at_ {K:PySem.W.Frag} {H:Hp}:∀ {ds:List PyData} {vs:List V} {i:Nat} {d:PyData},IsAll K H ds vs->ds[i]?=some d->∃ v,vs[i]?=some v∧Is K H d v
 | [],vs,i,d,_,h=>by cases h
 | d0::ds,vs,0,d,⟨v,r,e,h1,_⟩,h=>by
  cases h
  exact⟨v,by rw[e];rfl,h1⟩
 | d0::ds,vs,i + 1,d,⟨v,r,e,_,h2⟩,h=>by
  obtain⟨u,e1,e2⟩:=IsAll.at_ (i:=i) h2 h
  exact⟨u,by rw[e];exact e1,e2⟩
section
variable {own:List Str} {js:List Nat} {g:TG} {tt:TT} {te:TE} {σ:L2.St} {Q:VK} {H1:Hp}
end
end L3
namespace L3
open PySem PySem.Spec PyProof.Rows L2
def lvl (ls:List (List Nat)) (i:Nat):List Nat:=ls.getD i []
structure LevOk (n:Nat) (ls:List (List Nat)):Prop where
 one:1≤ls.length
 six:ls.length≤6
 first:lvl ls 0=List.range n
 rise:∀ i,(lvl ls i).Pairwise (· < ·)
 inn:∀ i,∀ p ∈ lvl ls i,p < n
 down:∀ i,∀ p ∈ lvl ls (i + 1),p ∈ lvl ls i
def IsTop (ls:List (List Nat)) (w b:Nat):Prop:=b < ls.length∧w ∈ lvl ls b∧∀ i,i < ls.length->w ∈ lvl ls i->i≤b
def Bun (ls:List (List Nat)) (D:List (Option Int)) (w:Nat):Prop:=∃ x,Far.get D w=some x∧∀ b p y,IsTop ls w b->p ∈ lvl ls (b + 1)->Far.get D p=some y->x < y
noncomputable def bunB (ls:List (List Nat)) (D:List (Option Int)) (w:Nat):Bool:=@decide (Bun ls D w) (Classical.propDecidable _)
def FarsOf (ts:List Tie) (n s:Nat) (D:List (Option Int)):Prop:=D.length=n∧∀ u,u < n->Far.Dst (arcs ts (List.range ts.length)) s u (Far.get D u)
def FarsT (H:Hp) (p lf:Addr) (n:Nat) (ts:List Tie):Prop:=∃ ys,H lf=some (.lst ys)∧lf≠p∧ys.length=n∧∀ i v,ys[i]?=some v->∃ l D,v=.ref l∧l≠p∧H l=some (.lst (D.map ov))∧FarsOf ts n i D
end L3
namespace HT
open PySem PyProof.Rows
section
variable {prog:Program} {w:World} {A:Around} {R:Result->Shared->Prop} {I:Addr} {fp wr:List Addr} {G:Array GenState->Array GenState->Prop} {St:Nat->Shared->Prop} {its:List Value} {ks:List (List Int)}
end
section
variable {prog:Program} {w:World} {A:Around} {E:Value->Shared->Prop} {s:Shared}
end
end HT
namespace L3
open PySem PySem.Spec PyProof.Rows L2
end L3
namespace L3
open PySem PySem.Spec PyProof.Rows L2
noncomputable def topN (ls:List (List Nat)) (w:Nat):Nat:=@dite _ (∃ b,IsTop ls w b) (Classical.propDecidable _) (fun h=>Classical.choose h) (fun _=>0)
structure IsPiv (ls:List (List Nat)) (m:Nat) (D:List (Option Int)) (o:Option Nat):Prop where
 no:o=none->∀ q ∈ lvl ls m,Far.get D q=none
 yes:∀ p,o=some p->p ∈ lvl ls m∧∃ x,Far.get D p=some x∧∀ q ∈ lvl ls m,∀ y,Far.get D q=some y->x≤y∧(y=x->topN ls q≤topN ls p∧(topN ls q=topN ls p->p≤q))
def tupI (k:List Int):PyData:=.tuple (k.map .int)
section
variable {own:List Str} {js:List Nat} {g:TG} {tt:TT} {te:TE} {σ:L2.St} {Q:VK} {H1:Hp}
end
end L3
namespace L3
open PySem PySem.Spec PyProof.Rows L2
noncomputable def pivN (ls:List (List Nat)) (m:Nat) (D:List (Option Int)):Nat:=@dite _ (∃ p,IsPiv ls m D (some p)) (Classical.propDecidable _) (fun h=>Classical.choose h) (fun _=>0)
noncomputable def clN (ls:List (List Nat)):Nat->Nat->Nat->Nat->List (Option Int)->List (Option Int)->Int->List (List Int)
 | 0,w,a,b,_,_,x=>[[(w:Int),(a:Int),(b:Int),x]]
 | f + 1,w,a,b,Da,Db,x=>[(w:Int),(a:Int),(b:Int),x]::(if bunB ls Db w=true then [] else clN ls f (pivN ls (topN ls w + 1) Db) b a Db Da ((Far.get Db (pivN ls (topN ls w + 1) Db)).getD 0))
structure Cs (ts:List Tie) (n:Nat) (ls:List (List Nat)) (d:Int) (j w a b:Nat) (Da Db:List (Option Int)) (x:Int):Prop where
 fa:FarsOf ts n a Da
 fb:FarsOf ts n b Db
 wn:w < n
 an:a < n
 bn:b < n
 xa:Far.get Da w=some x
 lim:x≤j * d
 ab:Far.get Da b=some d
 ba:Far.get Db a=some d
 yb:∃ y,Far.get Db w=some y
 tp:j≤topN ls w
 bu:bunB ls Da w=true
section
variable {n:Int} {ts:List Tie} {ls:List (List Nat)} {d x:Int} {j w a b:Nat} {Da Db:List (Option Int)}
end
structure RowsOk (ls:List (List Nat)) (n:Nat) (d:Int) (Du Dv:List (Option Int)) (rows:List (List Int)):Prop where
 few:rows.length≤ls.length
 lim:∀ (i:Nat) (r:List Int),rows[i]?=some r->∃ p a b x:Int,r=[p,a,b,x]∧x≤i * d
 last:∃ (pre:List (List Int)) (w:Nat) (a b x:Int),rows=pre++[[(w:Int),a,b,x]]∧w < n∧bunB ls Du w=true∧bunB ls Dv w=true
def ClimbV (K:PySem.W.Frag) (H:Hp) (ls:List (List Nat)) (n u v:Nat) (Du Dv:List (Option Int)) (r:V):Prop:=(r=.non∧Far.get Du v=none)∨∃ t ys d,r=.ref t∧Far.get Du v=some d∧H t=some (.tup ys)∧IsAll K H ((clN ls ls.length u u v Du Dv 0).map tupI) ys∧RowsOk ls n d Du Dv (clN ls ls.length u u v Du Dv 0)
def FarsM (H:Hp) (lf:Addr) (n:Nat) (ts:List Tie):Prop:=∃ ys,H lf=some (.lst ys)∧ys.length=n∧∀ i v,ys[i]?=some v->∃ l D,v=.ref l∧H l=some (.lst (D.map ov))∧FarsOf ts n i D
structure Clb (ts:List Tie) (n:Int) (ls:List (List Nat)) (d:Int) (u v:Nat) (Du Dv:List (Option Int)) (pre:List (List Int)) (w a b:Nat) (Da Db:List (Option Int)) (x:Int):Prop where
 cs:Cs ts n.toNat ls d pre.length w a b Da Db x
 sides:(Da=Du∧Db=Dv)∨(Da=Dv∧Db=Du)
 lim:∀ (i:Nat) (r:List Int),(pre++[[(w:Int),(a:Int),(b:Int),x]])[i]?=some r->∃ p a b x:Int,r=[p,a,b,x]∧x≤i * d
 rest:pre++clN ls (ls.length - pre.length) w a b Da Db x=clN ls ls.length u u v Du Dv 0
section
variable {n:Int} {ts:List Tie} {ls:List (List Nat)} {d x:Int} {u v w a b:Nat} {Du Dv Da Db:List (Option Int)} {pre:List (List Int)}
end
end L3
namespace L3
open PySem PySem.Spec PyProof.Rows L2
section
variable {K:PySem.W.Frag} {J J':Hp} {ls:List (List Nat)} {n u v:Nat} {Du Dv:List (Option Int)} {r r1 r2:V}
end
end L3
namespace PySem.SeqAt
open PySem.Spec PySem.MeetsSeq PySem.MeetsSeq2 PySem.MeetsSeq3 PySem.SeqRoads2
open AutoSeq1 (wpAny_loadPart')
end PySem.SeqAt
namespace L3
open PySem PySem.Spec PyProof.Rows L2
section
variable {X:Cx} {o e:Expr} {es:List Expr} {to:TE} {t:TA} {name:Str} {apos cpos:Pos} {id:String} {r:V->List V->Hp->VK->Prop}
end
theorem zf1 {α:Type} (f:Nat->Option α):∀ (m:Nat) (L:List α),L.length=m->(∀ k,k < m->f k=L[k]?)->(List.range m).filterMap f=L
 | 0,L,hl,_=>by rw[List.eq_nil_of_length_eq_zero hl];rfl
 | m + 1,L,hl,h=>by
  have hm:m < L.length:=by trivial
  have e:L=L.take m++[L[m]]:=by rw[List.take_append_getElem hm,List.take_of_length_le (by trivial)]
  rw[List.range_succ,List.filterMap_append,zf1 f m (L.take m) (by rw[List.length_take];trivial) (fun k hk=>by rw[h k (by trivial),List.getElem?_take,if_pos hk])]
  rw[show [m].filterMap f=[L[m]] by rw[List.filterMap_cons,h m (by trivial),List.getElem?_eq_getElem hm];rfl]
  exact e.symm
theorem zep (its:List Value) (j:Nat):((List.range (its.length - j)).filterMap fun (m:Nat)=>its.toArray[(((its.length:Nat):Int) - 1 + (m:Int) * (-1)).toNat]?)=(its.drop j).reverse:=by
 refine zf1 _ _ _ (by rw[List.length_reverse,List.length_drop]) fun k hk=>?_
 rw[List.getElem?_reverse (by rw[List.length_drop];exact hk),List.getElem?_drop,List.length_drop]
 rw[List.getElem?_toArray]
 congr 1
 trivial
def bk (hi:Option Int) (n j:Nat):Prop:=(hi=none∧j=0)∨(hi=some 0∧j=1∧1≤n)
theorem zj4 {hi:Option Int} {n j:Nat} (h:bk hi n j):Builtin.Slice.sliceAdjust none hi (-1) (n:Int)=((n:Int) - 1,(j:Int) - 1):=by
 unfold Builtin.Slice.sliceAdjust
 simp only [show ((-1:Int) < 0) by trivial,if_true]
 rcases h with ⟨rfl,rfl⟩ | ⟨rfl,rfl,h1⟩
 ·rfl
 ·refine Prod.ext rfl ?_
  show (if (0:Int) < 0 then max (0 + (n:Int)) (-1) else min 0 ((n:Int) - 1))=((1:Nat):Int) - 1
  rw[if_neg (by trivial)]
  trivial
theorem zjd {n j:Nat} (h:j≤n):Builtin.Slice.slicePlaces ((n:Int) - 1) ((j:Int) - 1) (-1)=n - j:=by
 unfold Builtin.Slice.slicePlaces
 rw[if_neg (by trivial)]
 split
 ·rw[show -(-1:Int)=1 by rfl,Int.ediv_one];trivial
 ·trivial
theorem zrl {hi:Option Int} {n j:Nat} (h:bk hi n j):j≤n:=by
 rcases h with ⟨_,rfl⟩ | ⟨_,rfl,h1⟩
 ·exact Nat.zero_le _
 ·exact h1
section
variable {prog:Program} {w:World} {A:Around} {E:Value->Shared->Prop} {s:Shared}
theorem zdz {sl:Addr} {vl vu vs:Value} {hi:Option Int} {n j:Nat} {Q:Int × Int × Nat->Shared->Prop} (hs:s.heap.IsSliceOf sl vl vu vs) (pl:IsPart vl none) (pu:IsPart vu hi) (ps:IsPart vs (some (-1))) (hb:bk hi n j)
  (h:Q ((n:Int) - 1,-1,n - j) s):wpAny (model prog w) A (Builtin.Slice.sliceApplied (.ref sl) (pure (n:Int))) Q E s:=by
 obtain⟨os,hos,hcs,hds⟩:=id hs
 unfold Builtin.Slice.sliceApplied Builtin.Slice.sliceFields
 refine wpAny_bind (wpAny_bind (wpAny_field hos hds (x:=vl) rfl (wpAny_bind (wpAny_field hos hds (x:=vu) rfl (wpAny_bind (wpAny_field hos hds (x:=vs) rfl (wpAny_pure ?_)))))))
 refine wpAny_bind (HT.zce ps ?_)
 show wpAny _ _ (if ((-1:Int) == 0)=true then _ else _) _ _ s
 rw[if_neg (by decide)]
 refine wpAny_bind (HT.zce pl (wpAny_bind (HT.zce pu (wpAny_bind (wpAny_pure ?_)))))
 show wpAny _ _ (match Builtin.Slice.sliceAdjust none hi (-1) (n:Int) with | (lo,hi)=>pure (lo,(-1:Int),Builtin.Slice.slicePlaces lo hi (-1))) _ _ s
 rw[zj4 hb]
 show wpAny _ _ (pure ((n:Int) - 1,(-1:Int),Builtin.Slice.slicePlaces ((n:Int) - 1) ((j:Int) - 1) (-1))) _ _ s
 rw[zjd (zrl hb)]
 exact wpAny_pure h
theorem zca {t sl:Addr} {its:List Value} {vl vu vs:Value} {hi:Option Int} {j:Nat} {Q:Value->Shared->Prop} (ht:IsTup s.heap t its.toArray) (hs:s.heap.IsSliceOf sl vl vu vs) (pl:IsPart vl none) (pu:IsPart vu hi) (ps:IsPart vs (some (-1))) (hb:bk hi its.length j)
  (h:Q (.ref s.heap.objs.size) { s with heap:=s.heap.push { cls:=.type "tuple",data:=.seq (its.drop j).reverse.toArray } })
  (hsz:its.length≤sizeLine):wpAny (model prog w) A (getItem (.ref t) (.ref sl)) Q E s:=by
 have htake:sizeOk (.seq (its.drop j).reverse.toArray):=by
  show (its.drop j).reverse.toArray.size≤sizeLine
  rw[List.size_toArray,List.length_reverse,List.length_drop]
  trivial
 obtain⟨os,hos,hcs,hds⟩:=id hs
 have hTs:s.TypeIs (.ref sl) "slice":=⟨os,hos,hcs⟩
 unfold getItem
 try with_reducible refine wpAny_holding ?_
 first | refine wpAny_bind (wpAny_pure ?_) | skip
 refine wpAny_bind (wpAny_sequenceKey ht.typeIs (by decide) ?_)
 refine wpAny_bind (wpAny_callSpecial?_slot (name:=Str.ofString "__getitem__") ht.typeIs PyProof.Rows.slot_tuple_getitem
  (wpAny_call_entry PyProof.Rows.slot_tuple_getitem ht.typeIs entry_tuple_getitem ?_ (args_tuple_getitem _ _)))
 show wpAny _ _ (Builtin.Tuple.tupleItemsOf (.ref t) >>= _) _ _ s
 refine wpAny_bind (tupleItemsOf_ ht ?_)
 refine wpAny_bind (wpAny_typeOf hTs ?_)
 rw[if_pos (by decide)]
 refine wpAny_bind (zdz (n:=its.toArray.size) (j:=j) hs pl pu ps (by rw[List.size_toArray];exact hb) ?_)
 rw[List.size_toArray]
 show wpAny _ _ (if ((((its.length:Nat):Int) - 1 == 0) && ((-1:Int) == 1) && ((its.length - j) == its.length))=true then _ else _) _ _ s
 rw[if_neg (by rw[show ((-1:Int) == 1)=false by decide,Bool.and_false,Bool.false_and];decide),zep]
 first
  | exact wpAny_bind (m:=Builtin.Tuple.tupleExact _) (wpAny_newObj_type (wpAny_pure ⟨_,rfl,wpAny_pure h⟩) htake)
  | exact wpAny_bind (m:=Builtin.Tuple.tupleExact _) (wpAny_newObj_type (wpAny_bind (wpAny_pure (wpAny_pure ⟨_,rfl,wpAny_pure h⟩))) htake)
  | exact wpAny_bind (wpAny_bind (m:=Builtin.Tuple.tupleExact _) (wpAny_newObj_type (wpAny_pure (wpAny_pure ⟨_,rfl,wpAny_pure h⟩)) htake))
  | exact wpAny_bind (wpAny_bind (m:=Builtin.Tuple.tupleExact _) (wpAny_newObj_type (wpAny_pure ⟨_,rfl,wpAny_pure h⟩) htake))
end
def SlB (X:Cx) (r:V->Option Int->Hp->VK->Prop):Prop :=
 ∀ (pins:List (Addr × Obj)) (s:Shared) (σ:L2.St) (H:Hp) (x:V) (v vl vu vs:Value) (hi:Option Int) (sl:Addr) (Q:VK),Inv X pins σ H s->RelV x v->s.heap.IsSliceOf sl vl vu vs->IsPart vl none->IsPart vu hi->IsPart vs (some (-1))->r x hi H Q ->
  ∃ T id,typeLookup (.type T) "__getitem__"=pure (some (.builtin id))∧s.TypeIs v T∧wpAny (model X.prog X.w) X.A (getItem v (.ref sl)) (EP X pins σ Q) X.xe s
def tSlB (r:V->Option Int->Hp->VK->Prop) (te:TE) (th:TO) (ts:TE):TE:=fun σ H Q=>te σ H fun x H1=>th σ H1 fun u H3=>ts σ H3 fun z H4=>z=.int (-1)∧r x u H4 Q
section
variable {X:Cx} {e st:Expr} {te ts:TE} {lo hi:Option Expr} {th:TO} {pos p2:Pos}
theorem zma {r:V->Option Int->Hp->VK->Prop} (hr:SlB X r) (he:PE X e te) (hu:PO X hi th) (hs:PE X st ts):PE X (.Subscript e (.Slice none hi (some st) p2) pos) (tSlB r te th ts):=by
 intro pins s σ H Q I h
 refine Subscript_ (thn (he pins s σ H _ I h) fun v s1 ⟨x,H1,I1,r1,q1⟩=>?_)
 refine wpAny_Slice ?_
 rw[evalPart_none]
 refine wpAny_pure (thn (hu pins s1 σ H1 _ I1 q1) fun vu s3 ⟨u,H3,I3,pu,q3⟩=>?_)
 rw[evalPart_some]
 refine thn (hs pins s3 σ H3 _ I3 q3) fun vz s4 ⟨z,H4,I4',rz,ez,q4⟩=>?_
 subst ez
 obtain⟨t,rfl⟩:=rz
 have I4:Inv X pins σ H4 { s4 with heap:=s4.heap.push { cls:=.type "slice",data:=.fields #[.none,vu,.int (-1) t] } }:=I4'.kept (t':=s4.toks) fun b ob q=>Heap.get?_push_of_some _ q
 obtain⟨T,id,hT,ht,hg⟩:=hr pins { s4 with heap:=s4.heap.push { cls:=.type "slice",data:=.fields #[.none,vu,.int (-1) t] } } σ H4 x v .none vu (.int (-1) t) u s4.heap.objs.size Q I4 r1 (Heap.IsSliceOf.new ..) .none pu (.int _ _) q4
 show wpAny (model X.prog X.w) X.A (subscriptTail e (.Slice none hi (some st) p2) v (.ref s4.heap.objs.size)) (EP X pins σ Q) X.xe { s4 with heap:=s4.heap.push { cls:=.type "slice",data:=.fields #[.none,vu,.int (-1) t] } }
 exact tail_any (ops:=[v,.ref s4.heap.objs.size]) ht hT hg (by with_unfolding_all rfl)
inductive rBkT_i (K:PySem.W.Frag) (x:V) (hi:Option Int) (H:Hp) (Q:VK):Prop
 | mk:∀ a xs j,(x=.ref a)->(H a=some (.tup xs))->(bk hi xs.length j)->(∀ p H',Same H H'->H p=none->H' p=some (.tup (xs.drop j).reverse)->Q (.ref p) H')->rBkT_i K x hi H Q
def rBkT (K:PySem.W.Frag):V->Option Int->Hp->VK->Prop:=fun x hi H Q=>rBkT_i K x hi H Q
theorem zqq:SlB X (rBkT X.K):=by
 intro pins s σ H x v vl vu vs hi sl Q I rx hs pl pu ps h
 obtain⟨a,xs,j,rfl,hx,hb,q⟩:=h
 cases rx
 obtain⟨its,r,ht,hz⟩:=I.tuple (SqT.of hx)
 have hlen:its.length=xs.length:=r.length.symm
 refine⟨"tuple",_,PyProof.Rows.slot_tuple_getitem.lookup,ht.typeIs,?_⟩
 refine zca ht hs pl pu ps (j:=j) (by rw[hlen];exact hb) ?_ (by rw[hlen];exact hz)
 refine⟨.ref s.heap.objs.size,_,I.laid (t':=s.toks) (o:=.tup (xs.drop j).reverse) (fun b ob q=>Heap.get?_push_of_some _ q) (Nat.le_refl _) ?_,rfl,q _ _ (zav (I.hok.fresh (Nat.le_refl _))) (I.hok.fresh (Nat.le_refl _)) zak⟩
 exact⟨by rw[List.length_reverse,List.length_drop];trivial,_,(r.drop j).reverse,TupN.new _ _⟩
end
end L3
namespace Far
section
variable {B:List Arc} {n s a b:Nat} {ws S:List Nat} {x y:Int} {cs:List (Option (Int × Int))} {as:List (Option Nat)}
theorem Rt.walkC (r:Rt B a ws S b x y):Walk (arcsC B) a b (comb (x,y)):=by
 induction r with
 | one=>exact .nil
 | @snoc ws S u v x y l k r m nv ih =>
  have:=Walk.snoc ih (arcsC_mem.mpr ⟨l,k,m,rfl⟩)
  have e:comb (x + l,y + 2 ^ k)=comb (x,y) + (l * 2 ^ 61 + 2 ^ k):=by unfold comb;simp only;trivial
  rw[e];exact this
def MinW (B:List Arc) (a b:Nat) (ws:List Nat):Prop:=∃ S x y,Rt B a ws S b x y∧∀ L,Walk (arcsC B) a b L->comb (x,y)≤L
theorem MinW.unique (K:Keys B) {ws':List Nat} (h:MinW B a b ws) (h':MinW B a b ws'):ws'=ws:=by
 obtain⟨S,x,y,r,l⟩:=h
 obtain⟨S',x',y',r',l'⟩:=h'
 have e1:=l _ r'.walkC
 have e2:=l' _ r.walkC
 have b1:=r.lt K
 have b2:=r'.lt K
 have e:=zox (c:=(x,y)) (d:=(x',y')) ⟨b1.1,Int.lt_trans b1.2 (by decide)⟩ ⟨b2.1,Int.lt_trans b2.2 (by decide)⟩ (by trivial)
 injection e with ex ey
 subst ey
 exact (r.unique K r').1
theorem Best.minw (K:Keys B) (h:Best B n s cs as) {v:Nat} {c:Int × Int} (t:TPw as s ws.reverse v) (e:get cs v=some c):MinW B v s ws:=by
 obtain⟨S,r⟩:=h.rt K t e
 have rb:=r.back K
 rw[List.reverse_reverse] at rb
 refine⟨_,_,_,rb,fun L w=>?_⟩
 obtain⟨z,ez,le⟩:=(h.dst K v).2 L (w.back (znr K))
 rw[e] at ez
 cases ez
 exact le
theorem MinW.nodup (h:MinW B a b ws):ws.Nodup:=by
 obtain⟨S,x,y,r,l⟩:=h
 exact r.unlike
end
end Far
namespace L3
open PySem PySem.Spec PyProof.Rows L2
def WayM (H:Hp) (ts:List Tie) (ks:List Nat) (a b:Nat) (v:V):Prop:=(v=.non∧Far.Dst (arcs ts ks) a b none)∨∃ t ws x,v=.ref t∧H t=some (.tup (natV ws))∧ws.length≤24∧Far.MinW (arcsB ts ks) a b ws∧Far.Tr (arcs ts ks) a ws b x∧Far.Dst (arcs ts ks) a b (some x)
theorem zqj {H:Hp} {n:Int} {m:Nat} {ts:List Tie} {ks:List Nat} {a b:Nat} {v:V} (ok:WebOk n ts) (ko:KeepOk ts.length ks) (h:WayB H (arcsB ts ks) m a b v):WayM H ts ks a b v:=by
 obtain⟨cs,as,B,h⟩:=h
 have KB:=zck ok ko
 have d:=B.dst1 KB a
 rw[zcq] at d
 rcases h with ⟨rfl,e⟩ | ⟨t,ws,c,rfl,ht,l24,e,tp⟩
 ·rw[e] at d
  exact .inl ⟨rfl,d.back (zfh ok ko)⟩
 ·rw[e] at d
  obtain⟨S,u⟩:=B.uni KB tp e
  have tr:=u.rt.tr
  rw[zcq] at tr
  exact .inr ⟨t,ws,c.1,rfl,ht,l24,B.minw KB tp e,tr,d.back (zfh ok ko)⟩
inductive spWayM_i (K:PySem.W.Frag) (vs:List V) (H:Hp) (Q:VK):Prop
 | mk:∀ n ts ks wv kv a b,(vs=[wv,kv,.int a,.int b])->(WK K H n ts ks wv kv)->(0≤a)->(a < n)->(0≤b)->(b < n)->(∀ v H',Same H H'->WayM H' ts ks a.toNat b.toNat v->Q v H')->spWayM_i K vs H Q
def spWayM (K:PySem.W.Frag):Sp:=fun vs H Q _=>spWayM_i K vs H Q
theorem zrf {K:PySem.W.Frag} (vs:List V) (H:Hp) (Q:VK) (E:XK) (h:spWayM K vs H Q E):spWayB K vs H Q E:=by
 obtain⟨n,ts,ks,wv,kv,a,b,e,wk,a0,a1,b0,b1,q⟩:=h
 exact⟨n,ts,ks,wv,kv,a,b,e,wk,a0,a1,b0,b1,fun v H' S h=>q v H' S (zqj wk.2.1 wk.2.2.2 h)⟩
end L3
namespace L3
open PySem PySem.Spec PyProof.Rows L2
def WaysL (J:Hp) (ts:List Tie) (ks:List Nat) (ys:List V):Prop:=∀ v ∈ ys,∃ t W a b,v=.ref t∧J t=some (.tup (natV W))∧W.length≤24∧Far.MinW (arcsB ts ks) a b W
end L3
namespace Far
inductive W2 (B:List Arc) (s:Nat):Nat->Int->Int->Prop
 | nil:W2 B s s 0 0
 | snoc {u v:Nat} {x y l:Int} {k:Nat}:W2 B s u x y->(u,v,l,k) ∈ B->W2 B s v (x + l) (y + 2 ^ k)
theorem W2.nonneg {B:List Arc} (K:Keys B) {s v:Nat} {x y:Int} (h:W2 B s v x y):0≤x∧0≤y:=by
 induction h with
 | nil=>exact⟨Int.le_refl _,Int.le_refl _⟩
 | @snoc u v x y l k h m ih =>
  have h1:=K.pos _ _ _ _ m
  have h2:=zlr k
  trivial
theorem zia {P:Nat->Prop}:∀ n,P n->∃ m,P m∧∀ i,P i->m≤i:=by
 intro n
 induction n using Nat.strongRecOn with
 | ind n ih =>
  intro h
  by_cases c:∃ i,P i∧i < n
  ·obtain⟨i,hi,lt⟩:=c
   exact ih i lt hi
  ·exact⟨n,h,fun i hi=>Nat.le_of_not_lt fun z=>c ⟨i,hi,z⟩⟩
theorem zmp {P:Int->Int->Prop} (nn:∀ x y,P x y->0≤x∧0≤y) {x y:Int} (h:P x y):∃ x y,P x y∧∀ x' y',P x' y'->¬ lt2 (x',y') (x,y):=by
 obtain⟨m,⟨y0,hm⟩,lm⟩:=zia (P:=fun m=>∃ y,P (m:Int) y) x.toNat ⟨y,by rw[Int.toNat_of_nonneg (nn x y h).1];exact h⟩
 obtain⟨k,hk,lk⟩:=zia (P:=fun k=>P (m:Int) (k:Int)) y0.toNat (by rw[Int.toNat_of_nonneg (nn _ _ hm).2];exact hm)
 refine⟨m,k,hk,fun x' y' h' z=>?_⟩
 have n':=nn x' y' h'
 have h1:=lm x'.toNat ⟨y',by rw[Int.toNat_of_nonneg n'.1];exact h'⟩
 unfold lt2 at z
 simp only at z
 rcases z with z | ⟨z1,z2⟩
 ·trivial
 ·have h2:=lk y'.toNat (by rw[← z1,Int.toNat_of_nonneg n'.2];exact h')
  trivial
theorem zjx {B:List Arc} (K:Keys B) {n s:Nat} (inn:∀ u v l k,(u,v,l,k) ∈ B->u < n∧v < n) (hs:s < n):∃ cs as,Best B n s cs as:=by
 have ex:∀ v,∃ o:Option (Int × Int),(o=none->∀ x y,¬ W2 B s v x y)∧∀ c,o=some c->W2 B s v c.1 c.2∧∀ x' y',W2 B s v x' y'->¬ lt2 (x',y') c:=fun v=>by
  by_cases c:∃ x y,W2 B s v x y
  ·obtain⟨x,y,h⟩:=c
   obtain⟨x,y,h,l⟩:=zmp (P:=W2 B s v) (fun x y h=>h.nonneg K) h
   exact⟨some (x,y),(fun e=>by cases e),fun c e=>by cases e;exact⟨h,l⟩⟩
  ·exact⟨none,fun _ x y h=>c ⟨x,y,h⟩,fun c e=>by cases e⟩
 let f:Nat->Option (Int × Int):=fun v=>Classical.choose (ex v)
 have hf:∀ v,(f v=none->∀ x y,¬ W2 B s v x y)∧∀ c,f v=some c->W2 B s v c.1 c.2∧∀ x' y',W2 B s v x' y'->¬ lt2 (x',y') c:=fun v=>Classical.choose_spec (ex v)
 have eA:∀ v,∃ o:Option Nat,(v=s->o=none)∧(v≠s->f v≠none->o≠none)∧∀ u,o=some u->∃ l k cu,(u,v,l,k) ∈ B∧f u=some cu∧f v=some (cu.1 + l,cu.2 + 2 ^ k):=fun v=>by
  by_cases c1:v=s
  ·exact⟨none,fun _=>rfl,fun z=>absurd c1 z,fun u e=>by cases e⟩
  ·cases ev:f v with
   | none=>exact⟨none,fun z=>absurd z c1,fun _ z=>absurd rfl z,fun u e=>by cases e⟩
   | some c =>
    obtain⟨w,lw⟩:=(hf v).2 c ev
    obtain⟨cx,cy⟩:=c
    have w':W2 B s v cx cy:=w
    cases w' with
    | nil=>exact absurd rfl c1
    | @snoc u _ x y l k w1 m =>
     cases eu:f u with
     | none=>exact absurd w1 ((hf u).1 eu x y)
     | some cu =>
      obtain⟨wu,lu⟩:=(hf u).2 cu eu
      have n1:=lu x y w1
      have n2:=lw _ _ (wu.snoc m)
      refine⟨some u,fun z=>absurd z c1,(fun _ _ z=>by cases z),fun u' e=>?_⟩
      cases e
      refine⟨l,k,cu,m,eu,?_⟩
      unfold lt2 at n1 n2
      simp only at n1 n2
      have:cu=(x,y):=Prod.ext (by simp only;trivial) (by simp only;trivial)
      rw[this]
 let g:Nat->Option Nat:=fun v=>Classical.choose (eA v)
 have hg:∀ v,(v=s->g v=none)∧(v≠s->f v≠none->g v≠none)∧∀ u,g v=some u->∃ l k cu,(u,v,l,k) ∈ B∧f u=some cu∧f v=some (cu.1 + l,cu.2 + 2 ^ k):=fun v=>Classical.choose_spec (eA v)
 have wn:∀ {v x y},W2 B s v x y->v < n:=fun {v x y} h=>by
  cases h with
  | nil=>exact hs
  | snoc _ m=>exact (inn _ _ _ _ m).2
 have fo:∀ v,n≤v->f v=none:=fun v hv=>by
  cases e:f v with
  | none=>rfl
  | some c=>exact absurd (wn ((hf v).2 c e).1) (by trivial)
 have getf:∀ v,get ((List.range n).map f) v=f v:=fun v=>by
  unfold get
  by_cases hv:v < n
  ·simp [hv]
  ·rw[fo v (by trivial)]
   simp [hv]
 have go:∀ v,n≤v->g v=none:=fun v hv=>by
  cases e:g v with
  | none=>rfl
  | some u =>
   obtain⟨l,k,cu,m,_⟩:=(hg v).2.2 u e
   exact absurd (inn _ _ _ _ m).2 (by trivial)
 have getg:∀ v,get ((List.range n).map g) v=g v:=fun v=>by
  unfold get
  by_cases hv:v < n
  ·simp [hv]
  ·rw[go v (by trivial)]
   simp [hv]
 refine⟨(List.range n).map f,(List.range n).map g,by simp,by simp,?_,?_,?_,?_,?_,?_⟩
 ·rw[getf]
  cases e:f s with
  | none=>exact absurd W2.nil ((hf s).1 e 0 0)
  | some c =>
   obtain⟨w,l⟩:=(hf s).2 c e
   have nn:=w.nonneg K
   have:=l 0 0 .nil
   unfold lt2 at this
   simp only at this
   have:c=(0,0):=Prod.ext (by simp only;trivial) (by simp only;trivial)
   rw[this]
 ·rw[getg];exact (hg s).1 rfl
 ·intro v c e ne
  rw[getf] at e
  rw[getg]
  exact (hg v).2.1 ne (by rw[e];exact fun z=>by cases z)
 ·intro v c e
  rw[getf] at e
  exact (((hf v).2 c e).1.nonneg K).1
 ·intro u v l k c m e
  rw[getf] at e
  have w:=((hf u).2 c e).1.snoc m
  cases ev:f v with
  | none=>exact absurd w ((hf v).1 ev _ _)
  | some c' =>
   refine⟨c',by rw[getf,ev],((hf v).2 c' ev).2 _ _ w⟩
 ·intro v u e
  rw[getg] at e
  obtain⟨l,k,cu,m,e1,e2⟩:=(hg v).2.2 u e
  exact⟨l,k,cu,m,by rw[getf];exact e1,by rw[getf];exact e2⟩
end Far
namespace L3
open PySem PySem.Spec PyProof.Rows L2
def WKL (K:PySem.W.Frag) (H:Hp) (n:Int) (ts:List Tie) (ks:List Nat) (wv:V) (kp:Addr):Prop:=Is K H (webD n ts) wv∧WebOk n ts∧H kp=some (.lst ((keepI ks).map V.int))∧KeepOk ts.length ks
end L3
namespace Far
def chn (R:Nat->Nat->Prop):List Nat->Prop
 | []=>True
 | [_]=>True
 | a::b::r=>R a b∧chn R (b::r)
section
variable {R:Nat->Nat->Prop}
theorem zc5:∀ {l m:List Nat} {x y:Nat},chn R (l++[x])->R x y->chn R (y::m)->chn R (l++[x]++y::m)
 | [],m,x,y,_,r,h=>⟨r,h⟩
 | [a],m,x,y,h1,r,h=>⟨h1.1,zc5 (l:=[]) (x:=x) (y:=y) h1.2 r h⟩
 | a::b::l,m,x,y,h1,r,h=>⟨h1.1,zc5 (l:=b::l) (x:=x) (y:=y) h1.2 r h⟩
theorem zcx:∀ {l m:List Nat} {x:Nat},chn R (l++x::m)->chn R (l++[x])∧chn R (x::m)
 | [],m,x,h=>⟨trivial,h⟩
 | [a],m,x,h=>⟨⟨h.1,trivial⟩,h.2⟩
 | a::b::l,m,x,h=>⟨⟨h.1,(zcx (l:=b::l) (x:=x) h.2).1⟩,(zcx (l:=b::l) (x:=x) h.2).2⟩
theorem zg4 (sy:∀ u v,R u v->R v u):∀ {l:List Nat},chn R l->chn R l.reverse
 | [],_=>trivial
 | [_],_=>trivial
 | a::b::r,h=>by
  have ih:=zg4 sy h.2
  rw[List.reverse_cons] at ih
  rw[List.reverse_cons,List.reverse_cons]
  exact zc5 (l:=r.reverse) (m:=[]) ih (sy _ _ h.1) trivial
theorem zku:∀ {l:List Nat} {i u v:Nat},chn R l->l[i]?=some u->l[i + 1]?=some v->R u v
 | [],i,u,v,_,e,_=>by cases e
 | [a],i,u,v,_,_,e=>by cases e
 | a::b::r,0,u,v,h,e1,e2=>by cases e1;cases e2;exact h.1
 | a::b::r,i + 1,u,v,h,e1,e2=>zku (l:=b::r) h.2 e1 e2
def RingOf (ws:List Nat) (h:Nat) (tl:List Nat):Prop:=∃ p q,ws=p++h::q∧(tl=q++p∨tl=(q++p).reverse)
end
end Far
namespace L3
open PySem PySem.Spec PyProof.Rows L2
def adjK (ts:List Tie) (ks:List Nat) (u v:Nat):Prop:=∃ k,k ∈ ks∧tbN ts u v=some k
def Turn (h:Nat) (tl:List Nat):Prop:=(∀ x ∈ tl,h≤x)∧∀ u v p q,tl=u::p->tl=q++[v]->u≤v
end L3
namespace L3
open PySem PySem.Spec PyProof.Rows L2
end L3
namespace Stb
open PySem
def Asc (xs:Array Nat):Prop:=∀ i j,i < j->j < xs.size->xs.getD i 0 < xs.getD j 0
def TI (b:Bool) (t:SetTable):Prop:=Asc t.place∧t.led=b
end Stb
namespace Stb
open PySem PyProof.Rows
def ledOf (w:World):Bool:=!w.params.followText "set-order"
def TIat (w:World) (h:Heap) (a:Addr):Prop:=∃ o es ep t,h.get? a=some o∧o.data=.set es ep t∧TI (ledOf w) t
abbrev SetT (P:Program) (w:World) (h:Heap) (a:Addr) (S:Int->Bool) (n:Nat):Prop:=h.SetOf (intKind P w) a S n∧TIat w h a
section
variable {prog:Program} {w:World} {A:Around} {E:Value->Shared->Prop} {s:Shared}
end
end Stb
namespace Stb
open PySem PyProof.Rows
section
variable {prog:Program} {w:World} {A:Around} {E:Value->Shared->Prop} {s:Shared}
end
end Stb
namespace Stb
open PySem PyProof.Rows
section
variable {prog:Program} {w:World} {A:Around} {E:Value->Shared->Prop} {s:Shared}
end
end Stb
namespace Stb
open PySem PyProof.Rows
section
variable {prog:Program} {w:World} {A:Around} {E:Value->Shared->Prop} {s:Shared} {a I:Addr} {es:Array (Int × Value)} {ep:Nat} {t:SetTable}
section
variable {Q:Option Value->Shared->Prop} {i:Nat}
end
end
end Stb
namespace Stb
open PySem PyProof.Rows
section
variable {prog:Program} {w:World} {A:Around} {E:Value->Shared->Prop} {s:Shared} {a I:Addr} {es:Array (Int × Value)} {ep:Nat} {t:SetTable}
end
end Stb
namespace Stb
open PySem PyProof.Rows
section
variable {prog:Program} {w:World} {A:Around} {E:Value->Shared->Prop} {s:Shared} {a:Addr} {es:Array (Int × Value)} {ep:Nat} {t:SetTable}
end
end Stb
namespace Srt
open PySem PySem.Spec PyProof.Rows PySem.W
section
variable {prog:Program} {w:World} {A:Around} {E:Value->Shared->Prop} {s:Shared}
end
end Srt
namespace L3
open PySem PySem.Spec PyProof.Rows L2
def SetO (P:Program) (w:World) (a:Addr) (S:Int->Bool) (n:Nat):HO:=.ext fun h=>Stb.SetT P w h a S n
section
variable {X:Cx}
end
end L3
namespace L3
open PySem PySem.Spec PyProof.Rows L2
def alongO (ts:List Tie) (ws:List Nat):List V:=(List.range (ws.length - 1)).map fun i=>oa (tbN ts (ws.getD i 0) (ws.getD (i + 1) 0))
inductive spAlongO_i (K:PySem.W.Frag) (vs:List V) (H:Hp) (Q:VK):Prop
 | mk:∀ (n:Int) (ts:List Tie) (wv:V) (t:Addr) (ws:List Nat),(vs=[wv,.ref t])->(Is K H (webD n ts) wv)->(ts.length≤60)->(H t=some (.tup (natV ws)))->(ws.length≤40)->(∀ l H',Same H H'->H' l=some (.lst (alongO ts ws))->Q (.ref l) H')->spAlongO_i K vs H Q
def spAlongO (K:PySem.W.Frag):Sp:=fun vs H Q _=>spAlongO_i K vs H Q
end L3
namespace L3
open PySem PySem.Spec PyProof.Rows L2
end L3
namespace L3
open PySem PySem.Spec PyProof.Rows L2
theorem zqn {n:Int} {ts:List Tie} (ok:WebOk n ts) {u v j k:Nat} (hj:j < ts.length) (hk:k < ts.length) (h1:isTB ts u v j=true) (h2:isTB ts u v k=true):j=k:=by
 unfold isTB at h1 h2
 obtain⟨a1,b1⟩:=(Bool.and_eq_true _ _).mp h1
 obtain⟨a2,b2⟩:=(Bool.and_eq_true _ _).mp h2
 have ea:(tieAt ts j).1=(tieAt ts k).1:=(of_decide_eq_true a1).trans (of_decide_eq_true a2).symm
 have eb:(tieAt ts j).2.1=(tieAt ts k).2.1:=(of_decide_eq_true b1).trans (of_decide_eq_true b2).symm
 clear a1 a2 b1 b2 h1 h2
 have pw:=List.pairwise_iff_getElem.mp ok.rise
 have g:∀ {i:Nat} (hi:i < ts.length),ts[i]=tieAt ts i:=fun {i} hi=>by
  have:=(zay hi).1
  rw[List.getElem?_eq_getElem hi] at this
  exact Option.some.inj this
 rcases Nat.lt_trichotomy j k with z | z | z
 ·have q:=pw j k hj hk z
  rw[g hj,g hk] at q
  unfold endLt at q
  trivial
 ·exact z
 ·have q:=pw k j hk hj z
  rw[g hj,g hk] at q
  unfold endLt at q
  trivial
end L3
namespace L3
open PySem PySem.Spec PyProof.Rows L2
section
variable {g:TG} {tt:TT} {te:TE} {own:List Str} {js:List Nat} {σ:L2.St} {H1:Hp} {Q:VK}
end
def RowV (lo hi:Nat) (J:Hp) (v:V):Prop:=∃ (p:Addr) (ns:List Int),v=.ref p∧J p=some (.tup (ns.map V.int))∧lo≤ns.length∧ns.length≤hi
end L3
namespace L3
open PySem PySem.Spec PyProof.Rows L2
end L3
namespace L3
open PySem PySem.Spec PyProof.Rows L2
mutual
theorem Is.tk {K:PySem.W.Frag} {H H':Hp} (e:TupKeep H H'):∀ (d:PyData) {v:V},tupD d=true->Is K H d v->Is K H' d v
 | .none,_,_,h=>h
 | .bool _,_,_,h=>h
 | .int _,_,_,h=>h
 | .str _,_,_,h=>h
 | .tuple ds,_,t,h=>let ⟨q,vs,q1,q2,q3⟩:=h;⟨q,vs,q1,e _ _ q2,IsAll.tk e ds t q3⟩
 | .list ds,_,t,h=>by cases t
 | .dict _,_,t,h=>by cases t
theorem IsAll.tk {K:PySem.W.Frag} {H H':Hp} (e:TupKeep H H'):∀ (ds:List PyData) {vs:List V},tupAll ds=true->IsAll K H ds vs->IsAll K H' ds vs
 | [],_,_,h=>h
 | d::ds,_,t,h=>by
  have t':(tupD d && tupAll ds)=true:=t
  rw[Bool.and_eq_true] at t'
  obtain⟨v,r,q1,q2,q3⟩:=h
  exact⟨v,r,q1,Is.tk e d t'.1 q2,IsAll.tk e ds t'.2 q3⟩
end
end L3
namespace Peel
abbrev T2:=Nat × Nat
def hit (gone:List Nat) (p:Nat) (t:T2):Bool:=(t.1 == p && !gone.contains t.2) || (t.2 == p && !gone.contains t.1)
def deg (ts:List T2) (gone:List Nat) (p:Nat):Nat:=ts.countP (hit gone p)
def may (ts:List T2) (d:Int) (gone:List Nat) (p:Nat):Bool:=!gone.contains p && decide ((deg ts gone p:Int)≤d)
def next (n:Nat) (ts:List T2) (d:Int) (gone:List Nat):Option Nat:=(List.range n).find? (may ts d gone)
def run (n:Nat) (ts:List T2) (d:Int):Nat->List Nat->List Nat
 | 0,g=>g
 | f + 1,g=>match next n ts d g with
  | none=>g
  | some p=>run n ts d f (g++[p])
section
variable {n:Nat} {ts:List T2} {d:Int} {g:List Nat} {p:Nat}
def Good (n:Nat) (g:List Nat):Prop:=g.Nodup∧∀ p ∈ g,p < n
theorem zh9:∀ (n:Nat) (g:List Nat),g.Nodup->(∀ p ∈ g,p < n)->g.length≤n
 | 0,[],_,_=>Nat.le_refl _
 | 0,p::_,_,h=>absurd (h p List.mem_cons_self) (Nat.not_lt_zero _)
 | n + 1,g,nd,h=>by
  have h1:=zh9 n (g.filter fun p=>p != n) (nd.filter _) fun p hp=>by
   have:=List.mem_filter.mp hp
   have a:=h p this.1
   have b:p≠n:=by simpa using this.2
   trivial
  have e:g.length=(g.filter fun p=>p != n).length + g.countP (fun p=>p == n):=by
   rw[← List.countP_eq_length_filter]
   have:=List.length_eq_countP_add_countP (fun p=>p == n) (l:=g)
   have e2:g.countP (fun p=>decide ¬(p == n)=true)=g.countP fun p=>p != n:=List.countP_congr fun x _=>by simp
   rw[e2] at this
   trivial
  have c:g.countP (fun p=>p == n)≤1:=by
   have:=List.nodup_iff_count.mp nd n
   exact this
  trivial
theorem Good.len (h:Good n g):g.length≤n:=zh9 n g h.1 h.2
def gone (n:Nat) (ts:List T2) (d:Int):List Nat:=run n ts d n []
end
end Peel
namespace L3
open PySem PySem.Spec PyProof.Rows L2
section
variable {g:TG} {tt:TT} {te:TE} {own:List Str} {js:List Nat} {σ:L2.St} {H1:Hp} {Q:VK}
end
end L3
namespace Lr
open Far (chn zc5 zcx zg4 zku RingOf)
section
variable {R:Nat->Nat->Prop}
structure Rg (R:Nat->Nat->Prop) (h:Nat) (tl:List Nat):Prop where
 len:2≤tl.length
 nd:(h::tl).Nodup
 ch:chn R (h::tl++[h])
def Cano (h:Nat) (tl:List Nat):Prop:=(∀ v ∈ tl,h < v)∧∃ x m y,tl=x::(m++[y])∧x < y
def stepW (rows:Nat->List Nat) (w:List Nat):List (List Nat):=((rows (w.getLast?.getD 0)).filter fun o=>decide (w.headD 0 < o) && !decide (o ∈ w)).map fun o=>w++[o]
def ways (rows:Nat->List Nat) (n:Nat):Nat->List (List Nat)
 | 0=>(List.range n).map fun v=>[v]
 | s + 1=>(ways rows n s).flatMap (stepW rows)
structure PW (R:Nat->Nat->Prop) (n:Nat) (w:List Nat):Prop where
 ne:w≠[]
 nd:w.Nodup
 ch:chn R w
 lt:∀ v ∈ w,v < n
 up:∀ h t,w=h::t->∀ v ∈ t,h < v
section
variable {rows:Nat->List Nat} {n:Nat}
end
end
end Lr
namespace Lr
open Far (chn zc5 zcx zg4 zku RingOf)
def lle:List Nat->List Nat->Prop
 | [],_=>True
 | _::_,[]=>False
 | a::l,b::m=>a < b∨(a=b∧lle l m)
section
variable {R:Nat->Nat->Prop}
structure Sh (R:Nat->Nat->Prop) (z v:Nat) (l:List Nat):Prop where
 ch:chn R (v::l)
 last:(v::l).getLast?=some z
 min:∀ l',chn R (v::l')->(v::l').getLast?=some z->l.length≤l'.length
def Ds (R:Nat->Nat->Prop) (z:Nat) (D:Nat->Option Nat):Prop:=∀ v,(∀ m,D v=some m->∃ l,chn R (v::l)∧(v::l).getLast?=some z∧l.length=m)∧∀ l,chn R (v::l)->(v::l).getLast?=some z->∃ m,D v=some m∧m≤l.length
def Rm (R:Nat->Nat->Prop) (a b u v:Nat):Prop:=R u v∧¬ (u=a∧v=b)∧¬ (u=b∧v=a)
end
end Lr
namespace Lr
open Far (chn zc5 zcx zg4 zku RingOf)
structure Ties (R:Nat->Nat->Prop) (ks:List Nat) (ends:Nat->Nat × Nat):Prop where
 sy:∀ u v,R u v->R v u
 of:∀ k ∈ ks,(ends k).1 < (ends k).2∧R (ends k).1 (ends k).2
 to:∀ u v,R u v->u < v->∃ k ∈ ks,ends k=(u,v)
 up:∀ k ∈ ks,∀ j ∈ ks,k≤j->(ends k).1 < (ends j).1∨((ends k).1=(ends j).1∧(ends k).2≤(ends j).2)
section
variable {R:Nat->Nat->Prop} {ks:List Nat} {ends:Nat->Nat × Nat}
end
section
variable {R:Nat->Nat->Prop} {rows:Nat->List Nat} {n:Nat}
end
end Lr
namespace L3
open PySem PySem.Spec PyProof.Rows L2
section
variable {own:List Str} {js:List Nat} {g:TG} {te:TE} {σ:L2.St} {Q:VK} {H1:Hp}
end
structure Bes (H:Hp) (l:Addr) (as:List Addr) (rows:Nat->List V):Prop where
 top:H l=some (.lst (as.map V.ref))
 nd:as.Nodup
 own:l ∉ as
 row:∀ i a,as[i]?=some a->H a=some (.lst (rows i))
def Uniq (ts:List Tie) (ks:List Nat) (j m:Nat):Prop:=∃ cs:List Nat,cs.Nodup∧cs.length=m∧∀ c ∈ cs,∃ k ∈ ks,∃ l,(j,c,l) ∈ arcs2 (tieAt ts k)
section
variable {X:Cx}
end
end L3
namespace L3
open PySem PySem.Spec PyProof.Rows L2
def Adj (ts:List Tie) (ks:List Nat) (u v:Nat):Prop:=∃ k ∈ ks,(u,v,(tieAt ts k).2.2) ∈ arcs2 (tieAt ts k)
def en (ts:List Tie) (k:Nat):Nat × Nat:=((tieAt ts k).1.toNat,(tieAt ts k).2.1.toNat)
section
variable {n:Int} {ts:List Tie} {ks:List Nat} {u v k:Nat}
end
def IsLR (ts:List Tie) (ks:List Nat) (h:Nat) (tl:List Nat):Prop:=Lr.Rg (Adj ts ks) h tl∧Lr.Cano h tl∧(∀ h' tl',Lr.Rg (Adj ts ks) h' tl'->tl.length≤tl'.length)∧∀ h' tl',Lr.Rg (Adj ts ks) h' tl'->Lr.Cano h' tl'->tl'.length=tl.length->Lr.lle (h::tl) (h'::tl')
end L3
namespace L3
open PySem PySem.Spec PyProof.Rows L2
section
variable {J:It} {g:TG} {tt:TT} {te:TE} {own:List Str} {js:List Nat} {σ:L2.St} {H1:Hp} {Q:VK}
end
end L3
namespace Stb
open PySem PyProof.Rows
section
variable {prog:Program} {w:World} {A:Around} {E:Value->Shared->Prop} {s:Shared}
end
end Stb
namespace L3
open PySem PySem.Spec PyProof.Rows L2
section
variable {X:Cx}
end
end L3
namespace Far
variable {A:List (Nat × Nat × Int)} {s:Nat}
def Unit1 (A:List (Nat × Nat × Int)):Prop:=∀ u v l,(u,v,l) ∈ A->l=1
def AtK (A:List (Nat × Nat × Int)) (s k v:Nat):Prop:=Walk A s v (k:Int)∧∀ x,Walk A s v x->(k:Int)≤x
structure Bfs (A:List (Nat × Nat × Int)) (s i:Nat) (D:Nat->Option Nat) (ring:List Nat):Prop where
 found:∀ v d,D v=some d↔AtK A s d v∧d < i
 ring:∀ v,v ∈ ring↔AtK A s i v
end Far
namespace L3
open PySem PySem.Spec PyProof.Rows L2
theorem zb5 (a:List Nat):(natV a).length=a.length:=by unfold natV;rw[List.length_map]
theorem za3 (E:List (Option Nat)) {i v:Nat} (x:Nat) (h:i < E.length):Far.get (E.set i (some x)) v=if v=i then some x else Far.get E v:=by
 unfold Far.get
 rw[List.getD_eq_getElem?_getD,List.getD_eq_getElem?_getD]
 by_cases z:v=i
 ·subst z
  rw[if_pos rfl,List.getElem?_set_self h];rfl
 ·rw[if_neg z,List.getElem?_set_ne (Ne.symm z)]
theorem zkm {K:PySem.W.Frag} {t1 t2:Bool} {l1 l2:Addr} {xs zs:List V} {g:TG} {tb:TS} {D:Ends} {σ:L2.St} {H:Hp} (Pv:Nat->L2.St->Hp->Prop) (h0:Pv 0 σ H) (hl:∀ i σ H,Pv i σ H->SqX t1 K H l1 xs∧SqX t2 K H l2 zs)
  (hs:∀ i x z T σ H,xs[i]?=some x->zs[i]?=some z->H T=none->Pv i σ H->g (.ref T) σ (upd H T (.tup [x,z])) fun σ2 H2=>tb { D with nx:=Pv (i + 1),ct:=Pv (i + 1),bk:=D.nx } σ2 H2) (hd:∀ σ H,Pv (min xs.length zs.length) σ H->D.nx σ H) :
  ∃ W:Nat->Nat->L2.St->Hp->Prop,(∃ m,W 0 m σ H)∧∀ i m σ H,W i m σ H ->
   ((Itz t1 t2 K l1 l2).stop i H∧D.nx σ H)∨((Itz t1 t2 K l1 l2).go i H∧∃ N:L2.St->Hp->Prop,(∀ σ' H',N σ' H'->∃ m',m' < m∧W (i + 1) m' σ' H')∧∀ x H',(Itz t1 t2 K l1 l2).yld i H x H'->g x σ H' fun σ2 H2=>tb { D with nx:=N,ct:=N,bk:=D.nx } σ2 H2):=by
 refine⟨fun i m σ H=>m=xs.length - i∧i≤min xs.length zs.length∧Pv i σ H,⟨xs.length,by simp,Nat.zero_le _,h0⟩,?_⟩
 rintro i m σ H ⟨rfl,hi,p⟩
 obtain⟨q1,q2⟩:=hl i σ H p
 by_cases hlt:i < xs.length∧i < zs.length
 ·have e1:xs[i]?=some xs[i]:=List.getElem?_eq_getElem hlt.1
  have e2:zs[i]?=some zs[i]:=List.getElem?_eq_getElem hlt.2
  refine .inr ⟨⟨xs,zs,_,_,q1,q2,e1,e2⟩,Pv (i + 1),fun σ' H' p'=>⟨xs.length - (i + 1),by trivial,rfl,by trivial,p'⟩,fun x H' y=>?_⟩
  obtain⟨T,x',y',hT,rfl,rfl,a1,a2⟩:=y
  have b1:=a1 _ q1
  have b2:=a2 _ q2
  exact hs i x' y' T σ H b1 b2 hT p
 ·have e:i=min xs.length zs.length:=by trivial
  exact .inl ⟨⟨xs,zs,q1,q2,by trivial⟩,hd σ H (e ▸ p)⟩
section
variable {n g:Int} {ts:List Tie} {ks:List Nat} {k:Nat}
end
def tupH (hs:List Int):PyData:=.tuple (hs.map .int)
end L3
namespace HT
open PySem PyProof.Rows
open Sem (wp)
section
variable {prog:Program} {w:World} {A:Around} {E:Value->Shared->Prop} {s:Shared}
end
end HT
namespace L3
open PySem PySem.Spec PyProof.Rows L2
end L3
namespace L3
open PySem PySem.Spec PyProof.Rows L2
def PapV (H:Hp) (lo hi m:Nat) (v:V):Prop:=∃ p xs,v=.ref p∧H p=some (.tup xs)∧xs.length≤m∧∀ u ∈ xs,RowV lo hi H u
theorem zmx:∀ {ys:List V},(∀ v ∈ ys,∃ x:Int,v=.int x)->∃ hs:List Int,ys=hs.map V.int∧hs.length=ys.length
 | [],_=>⟨[],rfl,rfl⟩
 | v::ys,h=>by
  obtain⟨hs,h1,h2⟩:=zmx (ys:=ys) fun u hu=>h u (List.mem_cons_of_mem _ hu)
  obtain⟨x,rfl⟩:=h v List.mem_cons_self
  exact⟨x::hs,by rw[h1];rfl,by simp [h2]⟩
theorem zkp (xs:List V) (lo hi:Option Int):(cutV xs lo hi).length≤xs.length∧∀ u ∈ cutV xs lo hi,u ∈ xs:=by
 unfold cutV
 refine⟨by rw[List.length_take,List.length_drop];trivial,fun u hu=>List.mem_of_mem_drop (List.mem_of_mem_take hu)⟩
end L3
namespace Far
end Far
namespace L3
open PySem PySem.Spec PyProof.Rows L2
section
variable {n:Int} {ts:List Tie}
theorem zgt:∀ {a b:List Nat},a.Nodup->(∀ x ∈ a,x ∈ b)->a.length≤b.length
 | [],_,_,_=>Nat.zero_le _
 | x::a,b,nd,h=>by
  obtain⟨n1,n2⟩:=List.nodup_cons.mp nd
  have hx:=h x List.mem_cons_self
  have ih:=zgt (a:=a) (b:=b.erase x) n2 fun y hy=>(List.mem_erase_of_ne (fun e=>n1 (by rw[← e];exact hy))).mpr (h y (List.mem_cons_of_mem _ hy))
  have le:=List.length_erase_of_mem hx
  have pos:=List.length_pos_of_mem hx
  rw[List.length_cons]
  trivial
end
end L3
namespace L3
open PySem PySem.Spec PyProof.Rows L2
section
variable {near kept:Nat->Nat->Option Int} {u v:Nat} {r:List (Nat × Nat)} {m:Int × Int × Int} {x y:Int}
end
def WKE (K:PySem.W.Frag) (H:Hp) (n:Int) (ts:List Tie) (ks:List Nat) (wv:V) (kp:Addr) (tp:Bool):Prop:=Is K H (webD n ts) wv∧WebOk n ts∧H kp=some (if tp=true then .tup (natV ks) else .lst (natV ks))∧KeepOk ts.length ks
section
variable {g:TG} {tt:TT} {te:TE} {own:List Str} {js:List Nat} {σ:L2.St} {H1:Hp} {Q:VK}
end
theorem zg1 (xs:List V) (k:Nat):cutV xs none (some (k:Int))=xs.take k:=by
 unfold cutV
 rw[HT.zkd,HT.zl1,List.drop_zero,Nat.sub_zero]
 by_cases z:k≤xs.length
 ·rw[Nat.min_eq_left z]
 ·rw[Nat.min_eq_right (by trivial),List.take_of_length_le (Nat.le_refl _),List.take_of_length_le (by trivial)]
theorem zci (xs:List V) (k:Nat):cutV xs (some (k:Int)) none=xs.drop k:=by
 unfold cutV
 rw[HT.zkd,HT.zl1]
 by_cases z:k≤xs.length
 ·rw[Nat.min_eq_left z,List.take_of_length_le (by rw[List.length_drop];exact Nat.le_refl _)]
 ·rw[Nat.min_eq_right (by trivial),List.drop_eq_nil_of_le (Nat.le_refl _),List.drop_eq_nil_of_le (show xs.length≤k by trivial),List.take_nil]
end L3
namespace L3
open PySem PySem.Spec PyProof.Rows L2
section
variable {n:Int} {ts:List Tie} {ks:List Nat}
end
section
variable {own:List Str} {js:List Nat} {g:TG} {te:TE} {σ:L2.St} {Q:VK} {H1:Hp}
end
end L3
namespace Far
section
variable {A B:List (Nat × Nat × Int)} {s u v:Nat} {x y:Int}
end
end Far
namespace Far
section
variable {G:Nat->Option Int} {len:Nat->Int}
end
end Far
namespace Far
section
variable {A:List (Nat × Nat × Int)} {s:Nat}
end
end Far
namespace L2
open PySem PySem.Spec PyProof.Rows
section
variable {X:Cx} {k v:Expr} {pos:Pos} {tk tv:TE}
end
end L2
namespace L3
open PySem PySem.Spec PyProof.Rows L2
section
variable {n:Int} {ts:List Tie}
def hN (hs:List Int) (v:Nat):Int:=hs.getD v 0
end
end L3
namespace Srt
open PySem PyProof.Rows
section
variable {prog:Program} {w:World} {A:Around} {E:Value->Shared->Prop} {s:Shared} {a:Addr}
end
end Srt
namespace L3
open PySem PySem.Spec PyProof.Rows L2
section
variable {X:Cx}
end
end L3
namespace L3
open PySem PySem.Spec PyProof.Rows L2
section
variable {n:Int} {ts:List Tie}
def WyV (H:Hp) (ts:List Tie) (o:Option (List Nat)) (v:V):Prop:=(o=none∧v=.non)∨∃ t ws,o=some ws∧v=.ref t∧H t=some (.tup (natV ws))∧ws.length≤24∧linked ts ws
theorem WyV.tk {H H':Hp} {o:Option (List Nat)} {v:V} (k:TupKeep H H') (h:WyV H ts o v):WyV H' ts o v:=by
 rcases h with h | ⟨t,ws,e,e1,e2,z⟩
 ·exact .inl h
 ·exact .inr ⟨t,ws,e,e1,k _ _ e2,z⟩
theorem WyV.same {H H':Hp} {o:Option (List Nat)} {v:V} (k:Same H H') (h:WyV H ts o v):WyV H' ts o v:=h.tk fun _ _ e=>k _ _ e
def wyD:Option (List Nat)->PyData
 | none=>.none
 | some ws=>tupH (keepI ws)
theorem WyV.is {K:PySem.W.Frag} {H:Hp} {o:Option (List Nat)} {v:V} (h:WyV H ts o v):Is K H (wyD o) v:=by
 rcases h with ⟨rfl,rfl⟩ | ⟨t,ws,rfl,rfl,e2,z⟩
 ·exact rfl
 ·exact⟨t,_,rfl,e2,by rw[zbd];exact IsAll.ints _⟩
end
end L3
namespace L3
open PySem PySem.Spec PyProof.Rows L2
theorem zic {n:Int} {ts:List Tie} (ok:WebOk n ts) {k:Nat} (hk:k < ts.length):isTB ts (tieAt ts k).1.toNat (tieAt ts k).2.1.toNat k=true:=by
 have tk:=ok.tie _ (zay hk).2
 unfold isTB
 rw[decide_eq_true (show (tieAt ts k).1=min (((tieAt ts k).1.toNat:Nat):Int) ((tieAt ts k).2.1.toNat:Nat) by trivial),decide_eq_true (show (tieAt ts k).2.1=max (((tieAt ts k).1.toNat:Nat):Int) ((tieAt ts k).2.1.toNat:Nat) by trivial)]
 rfl
theorem zop {n:Int} {ts:List Tie} (ok:WebOk n ts) {j k:Nat} (hj:j < ts.length) (hk:k < ts.length) (h1:(tieAt ts j).1=(tieAt ts k).1) (h2:(tieAt ts j).2.1=(tieAt ts k).2.1):j=k:=by
 refine zqn ok hj hk (zic ok hj) ?_
 have:=zic ok hk
 rw[h1,h2];exact this
end L3
namespace L3
open PySem PySem.Spec PyProof.Rows L2
end L3
namespace L3
open PySem PySem.Spec PyProof.Rows L2
def allIn (ts:List Tie) (ks:List Nat) (t:Int):Prop:=∀ k,k ∈ outs ts.length ks->withinB t (tieAt ts k).2.2 (gO ts ks k)=true
section
variable {n:Int} {ts:List Tie} {ks:List Nat} {prs:List (Option Int × Int)}
theorem zo6 (ok:WebOk n ts) (ko:KeepOk ts.length ks) (k:Nat):Far.Dst (arcs ts ks) (tieAt ts k).1.toNat (tieAt ts k).2.1.toNat (gO ts ks k):=by
 obtain⟨o,h⟩:=Far.zc4 (zc9 ok ko) (tieAt ts k).1.toNat (tieAt ts k).2.1.toNat
 rw[zp9 h];exact h
end
end L3
namespace Z3
open PySem
abbrev IsZ (h:Heap) (z TI TO:Addr) (f0 f1:Value):Prop :=
 h.get? z=some { cls:=.type "zip",dict:=none,data:=.fields #[f0,f1,.bool false,.ref TI,.ref TO],slots:=#[] }
def F0 (f0:Value):Prop:=f0=.none∨∃ T:Nat,f0=rawInt (T:Nat)
section
variable {prog:Program} {w:World} {A:Around} {E:Value->Shared->Prop} {s:Shared}
theorem zlc {a:Addr} {Q:Option Obj->Shared->Prop} (h:Q (s.heap.get? a) s):wpAny (model prog w) A (loadIfAlive a) Q E s:=fun Γ p _=>by
 unfold loadIfAlive
 rw[Sem.wp_loadIfAlive]
 exact h
theorem zo8 {z TI TO:Addr} {f0 f1:Value} {Q:Bool->Shared->Prop} (hz:IsZ s.heap z TI TO f0 f1) (hf:F0 f0) (ht:Q true s) (hn:∀ h' f1',IsZ h' z TI TO f0 f1'->Heap.SameBut z s.heap h'->Q false { s with heap:=h' }) :
  wpAny (model prog w) A (Builtin.SmallTypes.ownedTupleIsFree (.ref z)) Q E s:=by
 unfold Builtin.SmallTypes.ownedTupleIsFree
 rcases hf with rfl | ⟨T,rfl⟩
 ·exact wpAny_bind (wpAny_field hz rfl (x:=.none) rfl (wpAny_pure ht))
 ·refine wpAny_bind (wpAny_field hz rfl (x:=rawInt (T:Nat)) rfl ?_)
  show wpAny _ _ (loadIfAlive ((T:Int)).toNat >>= _) _ _ _
  refine wpAny_bind (zlc ?_)
  cases e:s.heap.get? (T:Int).toNat with
  | none=>exact wpAny_pure ht
  | some o =>
   show wpAny _ _ (field (.ref z) 1 >>= _) _ _ _
   refine wpAny_bind (wpAny_field hz rfl (x:=f1) rfl ?_)
   by_cases c:(f1 != .bool true)=true
   ·rw[if_pos c]
    refine wpAny_bind (wpAny_setField_rec hz (by simp) fun h' hz' sb=>?_)
    exact wpAny_pure (hn h' _ hz' sb)
   ·rw[if_neg c]
    exact wpAny_pure (hn s.heap f1 hz (Heap.SameBut.refl _ _))
structure Zn (t1 t2:Bool) (h:Heap) (z TI TO i1 i2 l1 l2:Addr) (k:Nat):Prop where
 z:∃ f0 f1,F0 f0∧IsZ h z TI TO f0 f1
 ti:IsPair h TI (.ref i1) (.ref i2)
 to:∃ a b,IsPair h TO a b
 a1:ItAt t1 h i1 l1 k
 a2:ItAt t2 h i2 l2 k
theorem zlo {t1 t2:Bool} {z TI TO i1 i2 l1 l2:Addr} {k:Nat} {xs ys:Array Value} {x y:Value} {Q:Value->Shared->Prop} (D:Ap z TI TO i1 i2) (o1:Out z TI TO i1 i2 l1) (o2:Out z TI TO i1 i2 l2)
  (Z:Zn t1 t2 s.heap z TI TO i1 i2 l1 l2 k) (hl1:SqAt t1 s.heap l1 xs) (hl2:SqAt t2 s.heap l2 ys) (hx:xs[k]?=some x) (hy:ys[k]?=some y)
  (hQ:∀ h',Zn t1 t2 h' z TI TO i1 i2 l1 l2 (k + 1)->IsPair h' s.heap.objs.size x y->h'.objs.size=s.heap.objs.size + 1 ->
   (∀ c o,c≠z->c≠TO->c≠i1->c≠i2->s.heap.get? c=some o->h'.get? c=some o)->Q (.ref s.heap.objs.size) { s with heap:=h' }) :
  wpAny (model prog w) A (Builtin.«zip.__next__» ⟨[.ref z],[]⟩) (fun fin s'=>∃ v,fin=.done (.ret v)∧Q v s') E s:=by
 obtain⟨⟨f0,f1,hf,hz⟩,hti,⟨a,b,hto⟩,h1,h2⟩:=Z
 show wpAny _ _ (field (.ref z) 2 >>= _) _ _ s
 refine wpAny_bind (wpAny_field hz rfl (x:=.bool false) rfl ?_)
 show wpAny _ _ (field (.ref z) 3 >>= _) _ _ s
 refine wpAny_bind (wpAny_field hz rfl (x:=.ref TI) rfl ?_)
 refine wpAny_bind (wpAny_seqItems hti rfl ?_)
 show wpAny _ _ (Builtin.SmallTypes.ownedTupleIsFree (.ref z) >>= _) _ _ s
 refine wpAny_bind (zo8 hz hf ?_ fun g1 f1' z1 e1=>?_)
 ·simp only [if_true]
  refine wpAny_bind (wpAny_rule ?_)
  refine wpAny_bind (wpAny_field hz rfl (x:=.ref TO) rfl ?_)
  refine wpAny_bind (wpAny_setField_rec hz (by simp) fun g1 z1 e1=>?_)
  replace z1:IsZ g1 z TI TO .ellipsis f1:=z1
  refine wpAny_bind ?_
  simp only [List.zipIdx_cons,List.zipIdx_nil,List.forIn_cons,List.forIn_nil]
  refine wpAny_bind (wpAny_bind (wpAny_onRaise ?_))
  show wpAny _ _ (Builtin.SmallTypes.nextOf (.ref i1) >>= _) _ _ { s with heap:=g1 }
  refine wpAny_bind (zcc (h1.to fun o e=>e1.extBut _ _ D.n3 e) (hl1.to fun o e=>e1.extBut _ _ o1.1 e) hx fun g2 a2 e2=>wpAny_pure ?_)
  have b2:IsPair g2 TO a b:=e2.extBut _ _ D.n8 (e1.extBut _ _ D.n2 hto)
  refine wpAny_bind (wpAny_seqItems b2 rfl ?_)
  refine wpAny_bind (wpAny_updateSeq_pair b2 fun g3 b3 e3=>?_)
  replace b3:IsPair g3 TO x b:=b3
  refine wpAny_bind (wpAny_letGo (wpAny_pure ?_))
  refine wpAny_bind (wpAny_bind (wpAny_onRaise ?_))
  show wpAny _ _ (Builtin.SmallTypes.nextOf (.ref i2) >>= _) _ _ { s with heap:=g3 }
  refine wpAny_bind (zcc (h2.to fun o e=>e3.extBut _ _ D.n9.symm (e2.extBut _ _ D.n10.symm (e1.extBut _ _ D.n4 e))) (hl2.to fun o e=>e3.extBut _ _ o2.2.2.1 (e2.extBut _ _ o2.2.2.2.1 (e1.extBut _ _ o2.1 e))) hy fun g4 a4 e4=>wpAny_pure ?_)
  have b4:IsPair g4 TO x b:=e4.extBut _ _ D.n9 b3
  refine wpAny_bind (wpAny_seqItems b4 rfl ?_)
  refine wpAny_bind (wpAny_updateSeq_pair b4 fun g5 b5 e5=>?_)
  replace b5:IsPair g5 TO x y:=b5
  refine wpAny_bind (wpAny_letGo (wpAny_pure (wpAny_pure ?_)))
  refine wpAny_bind (wpAny_seqItems b5 rfl ?_)
  refine wpAny_bind (wpAny_newTuple ?_)
  have sz:g5.objs.size=s.heap.objs.size:=by rw[e5.1,e4.1,e3.1,e2.1,e1.1]
  have z5:IsZ g5 z TI TO .ellipsis f1:=e5.extBut _ _ D.n2.symm (e4.extBut _ _ D.n4.symm (e3.extBut _ _ D.n2.symm (e2.extBut _ _ D.n3.symm z1)))
  have k5:∀ c o,c≠z->c≠TO->c≠i1->c≠i2->s.heap.get? c=some o->g5.get? c=some o:=fun c o c1 c2 c3 c4 e =>
   e5.extBut _ _ c2 (e4.extBut _ _ c4 (e3.extBut _ _ c2 (e2.extBut _ _ c3 (e1.extBut _ _ c1 e))))
  have a15:ItAt t1 g5 i1 l1 (k + 1):=a2.to fun o e=>e5.extBut _ _ D.n8.symm (e4.extBut _ _ D.n10 (e3.extBut _ _ D.n8.symm e))
  have a25:ItAt t2 g5 i2 l2 (k + 1):=a4.to fun o e=>e5.extBut _ _ D.n9.symm e
  have zlt:z < g5.objs.size:=Heap.lt_size z5
  show wpAny _ _ (Builtin.SmallTypes.ownedTupleHandOut (.ref z) (.ref g5.objs.size) >>= _) _ _ { s with heap:=_ }
  refine wpAny_bind ?_
  unfold Builtin.SmallTypes.ownedTupleHandOut
  have z6:IsZ (g5.push { cls:=.type "tuple",data:=.seq #[x,y] }) z TI TO .ellipsis f1:=Heap.get?_push_of_some _ z5
  refine wpAny_bind (wpAny_setField_rec z6 (by simp) fun g7 z7 e7=>?_)
  replace z7:IsZ g7 z TI TO (rawInt g5.objs.size) f1:=z7
  refine wpAny_setField_rec z7 (by simp) fun g8 z8 e8=>?_
  replace z8:IsZ g8 z TI TO (rawInt g5.objs.size) (.bool false):=z8
  have up:∀ c o,c≠z->g5.get? c=some o->g8.get? c=some o:=fun c o c1 e=>e8.extBut _ _ c1 (e7.extBut _ _ c1 (Heap.get?_push_of_some _ e))
  have t8:IsPair g8 g5.objs.size x y:=e8.extBut _ _ (Nat.ne_of_gt zlt) (e7.extBut _ _ (Nat.ne_of_gt zlt) (Heap.get?_push_size _ rfl))
  have sz8:g8.objs.size=g5.objs.size + 1:=by rw[e8.1,e7.1,Heap.size_push]
  rw[sz] at z8 t8 sz8
  refine wpAny_pure ⟨_,rfl,?_⟩
  show Q (.ref g5.objs.size) { s with heap:=g8 }
  rw[sz]
  exact hQ g8 ⟨⟨_,_,.inr ⟨_,rfl⟩,z8⟩,up _ _ D.n1 (k5 _ _ D.n1 D.n5 D.n6 D.n7 hti),⟨x,y,up _ _ D.n2 b5⟩,a15.to fun o e=>up _ o D.n3 e,a25.to fun o e=>up _ o D.n4 e⟩ t8 sz8 fun c o c1 c2 c3 c4 e=>up c o c1 (k5 c o c1 c2 c3 c4 e)
 ·simp only [Bool.false_eq_true,if_false]
  refine wpAny_bind ?_
  rw[List.forIn_toArray]
  simp only [List.forIn_cons,List.forIn_nil]
  refine wpAny_bind (wpAny_bind (wpAny_holding ?_))
  show wpAny _ _ (Builtin.SmallTypes.nextOf (.ref i1) >>= _) _ _ { s with heap:=g1 }
  refine wpAny_bind (zcc (h1.to fun o e=>e1.extBut _ _ D.n3 e) (hl1.to fun o e=>e1.extBut _ _ o1.1 e) hx fun g2 a2 e2=>wpAny_pure ?_)
  refine wpAny_pure ?_
  show wpAny _ _ (((holding [x] (Builtin.SmallTypes.nextOf (.ref i2) >>= fun v=>pure (some v))) >>= _) >>= _) _ _ _
  refine wpAny_bind (wpAny_bind (wpAny_holding ?_))
  refine wpAny_bind (zcc (h2.to fun o e=>e2.extBut _ _ D.n10.symm (e1.extBut _ _ D.n4 e)) (hl2.to fun o e=>e2.extBut _ _ o2.2.2.2.1 (e1.extBut _ _ o2.1 e)) hy fun g3 a3 e3=>wpAny_pure ?_)
  refine wpAny_pure (wpAny_pure ?_)
  show wpAny _ _ (newTuple [x,y] >>= _) _ _ _
  refine wpAny_bind (wpAny_newTuple ?_)
  have sz:g3.objs.size=s.heap.objs.size:=by rw[e3.1,e2.1,e1.1]
  have k3:∀ c o,c≠z->c≠i1->c≠i2->s.heap.get? c=some o->g3.get? c=some o:=fun c o c1 c3 c4 e=>e3.extBut _ _ c4 (e2.extBut _ _ c3 (e1.extBut _ _ c1 e))
  have z3:IsZ g3 z TI TO f0 f1':=e3.extBut _ _ D.n4.symm (e2.extBut _ _ D.n3.symm z1)
  have a13:ItAt t1 g3 i1 l1 (k + 1):=a2.to fun o e=>e3.extBut _ _ D.n10 e
  refine wpAny_pure ⟨_,rfl,?_⟩
  show Q (.ref g3.objs.size) { s with heap:=g3.push { cls:=.type "tuple",data:=.seq #[x,y] } }
  rw[sz]
  have up:∀ c o,g3.get? c=some o->(g3.push { cls:=.type "tuple",data:=.seq #[x,y] }).get? c=some o:=fun c o e=>Heap.get?_push_of_some _ e
  refine hQ _ ⟨⟨_,_,hf,up _ _ z3⟩,up _ _ (k3 _ _ D.n1 D.n6 D.n7 hti),⟨a,b,up _ _ (k3 _ _ D.n2 D.n8 D.n9 hto)⟩,a13.to fun o e=>up _ o e,a3.to fun o e=>up _ o e⟩ ?_ (by rw[Heap.size_push,sz]) fun c o c1 c2 c3 c4 e=>up c o (k3 c o c1 c3 c4 e)
  rw[← sz];exact Heap.get?_push_size _ rfl
theorem zln {t1 t2:Bool} {z TI TO i1 i2 l1 l2:Addr} {k:Nat} {xs ys:Array Value} {Q:Fin->Shared->Prop} (hh:A.handled=none) (D:Ap z TI TO i1 i2) (o1:Out z TI TO i1 i2 l1) (o2:Out z TI TO i1 i2 l2)
  (Z:Zn t1 t2 s.heap z TI TO i1 i2 l1 l2 k) (hl1:SqAt t1 s.heap l1 xs) (hl2:SqAt t2 s.heap l2 ys) (hend:xs[k]?=none∨ys[k]?=none)
  (hE:∀ h' e,(∀ c o,c≠z->c≠TO->c≠i1->c≠i2->s.heap.get? c=some o->h'.get? c=some o)->(∃ o,h'.get? e=some o∧o.cls=.type "StopIteration")->E (.ref e) { s with heap:=h' }) :
  wpAny (model prog w) A (Builtin.«zip.__next__» ⟨[.ref z],[]⟩) Q E s:=by
 obtain⟨⟨f0,f1,hf,hz⟩,hti,⟨a,b,hto⟩,h1,h2⟩:=Z
 show wpAny _ _ (field (.ref z) 2 >>= _) _ _ s
 refine wpAny_bind (wpAny_field hz rfl (x:=.bool false) rfl ?_)
 show wpAny _ _ (field (.ref z) 3 >>= _) _ _ s
 refine wpAny_bind (wpAny_field hz rfl (x:=.ref TI) rfl ?_)
 refine wpAny_bind (wpAny_seqItems hti rfl ?_)
 show wpAny _ _ (Builtin.SmallTypes.ownedTupleIsFree (.ref z) >>= _) _ _ s
 refine wpAny_bind (zo8 hz hf ?_ fun g1 f1' z1 e1=>?_)
 ·simp only [if_true]
  refine wpAny_bind (wpAny_rule ?_)
  refine wpAny_bind (wpAny_field hz rfl (x:=.ref TO) rfl ?_)
  refine wpAny_bind (wpAny_setField_rec hz (by simp) fun g1 z1 e1=>?_)
  replace z1:IsZ g1 z TI TO .ellipsis f1:=z1
  refine wpAny_bind ?_
  simp only [List.zipIdx_cons,List.zipIdx_nil,List.forIn_cons,List.forIn_nil]
  refine wpAny_bind (wpAny_bind (wpAny_onRaise ?_))
  show wpAny _ _ (Builtin.SmallTypes.nextOf (.ref i1) >>= _) _ _ { s with heap:=g1 }
  cases hx:xs[k]? with
  | none =>
   refine wpAny_bind (zdd hh (h1.to fun o e=>e1.extBut _ _ D.n3 e) (hl1.to fun o e=>e1.extBut _ _ o1.1 e) hx fun g2 e e2 he=>?_)
   obtain⟨oe,p1,p2⟩:=he
   have z2:IsZ g2 z TI TO .ellipsis f1:=e2 _ _ D.n3.symm z1
   have ez:e≠z:=fun q=>by subst q;rw[z2] at p1;cases p1;simp at p2
   exact wpAny_setField_rec z2 (by simp) fun g3 _ e3=>hE g3 e (fun c o c1 _ c3 _ q=>e3.extBut _ _ c1 (e2 _ _ c3 (e1.extBut _ _ c1 q))) ⟨oe,e3.extBut _ _ ez p1,p2⟩
  | some x =>
   have hy:ys[k]?=none:=by
    rcases hend with q | q
    ·rw[hx] at q;cases q
    ·exact q
   refine wpAny_bind (zcc (h1.to fun o e=>e1.extBut _ _ D.n3 e) (hl1.to fun o e=>e1.extBut _ _ o1.1 e) hx fun g2 a2 e2=>wpAny_pure ?_)
   have b2:IsPair g2 TO a b:=e2.extBut _ _ D.n8 (e1.extBut _ _ D.n2 hto)
   refine wpAny_bind (wpAny_seqItems b2 rfl ?_)
   refine wpAny_bind (wpAny_updateSeq_pair b2 fun g3 b3 e3=>?_)
   refine wpAny_bind (wpAny_letGo (wpAny_pure ?_))
   refine wpAny_bind (wpAny_bind (wpAny_onRaise ?_))
   show wpAny _ _ (Builtin.SmallTypes.nextOf (.ref i2) >>= _) _ _ { s with heap:=g3 }
   refine wpAny_bind (zdd hh (h2.to fun o e=>e3.extBut _ _ D.n9.symm (e2.extBut _ _ D.n10.symm (e1.extBut _ _ D.n4 e))) (hl2.to fun o e=>e3.extBut _ _ o2.2.2.1 (e2.extBut _ _ o2.2.2.2.1 (e1.extBut _ _ o2.1 e))) hy fun g4 e e4 he=>?_)
   obtain⟨oe,p1,p2⟩:=he
   have z4:IsZ g4 z TI TO .ellipsis f1:=e4 _ _ D.n4.symm (e3.extBut _ _ D.n2.symm (e2.extBut _ _ D.n3.symm z1))
   have ez:e≠z:=fun q=>by subst q;rw[z4] at p1;cases p1;simp at p2
   exact wpAny_setField_rec z4 (by simp) fun g5 _ e5=>hE g5 e (fun c o c1 c2 c3 c4 q=>e5.extBut _ _ c1 (e4 _ _ c4 (e3.extBut _ _ c2 (e2.extBut _ _ c3 (e1.extBut _ _ c1 q))))) ⟨oe,e5.extBut _ _ ez p1,p2⟩
 ·simp only [Bool.false_eq_true,if_false]
  refine wpAny_bind ?_
  rw[List.forIn_toArray]
  simp only [List.forIn_cons,List.forIn_nil]
  refine wpAny_bind (wpAny_bind (wpAny_holding ?_))
  show wpAny _ _ (Builtin.SmallTypes.nextOf (.ref i1) >>= _) _ _ { s with heap:=g1 }
  cases hx:xs[k]? with
  | none =>
   refine wpAny_bind (zdd hh (h1.to fun o e=>e1.extBut _ _ D.n3 e) (hl1.to fun o e=>e1.extBut _ _ o1.1 e) hx fun g2 e e2 he=>?_)
   exact hE g2 e (fun c o c1 _ c3 _ q=>e2 _ _ c3 (e1.extBut _ _ c1 q)) he
  | some x =>
   have hy:ys[k]?=none:=by
    rcases hend with q | q
    ·rw[hx] at q;cases q
    ·exact q
   refine wpAny_bind (zcc (h1.to fun o e=>e1.extBut _ _ D.n3 e) (hl1.to fun o e=>e1.extBut _ _ o1.1 e) hx fun g2 a2 e2=>wpAny_pure ?_)
   refine wpAny_pure ?_
   show wpAny _ _ (((holding [x] (Builtin.SmallTypes.nextOf (.ref i2) >>= fun v=>pure (some v))) >>= _) >>= _) _ _ _
   refine wpAny_bind (wpAny_bind (wpAny_holding ?_))
   refine wpAny_bind (zdd hh (h2.to fun o e=>e2.extBut _ _ D.n10.symm (e1.extBut _ _ D.n4 e)) (hl2.to fun o e=>e2.extBut _ _ o2.2.2.2.1 (e1.extBut _ _ o2.1 e)) hy fun g4 e e4 he=>?_)
   exact hE g4 e (fun c o c1 c2 c3 c4 q=>e4 _ _ c4 (e2.extBut _ _ c3 (e1.extBut _ _ c1 q))) he
theorem zk9 {t1 t2:Bool} {z TI TO i1 i2 l1 l2:Addr} {k:Nat} {xs ys:Array Value} {x y:Value} {Q:Option Value->Shared->Prop} (D:Ap z TI TO i1 i2) (o1:Out z TI TO i1 i2 l1) (o2:Out z TI TO i1 i2 l2)
  (Z:Zn t1 t2 s.heap z TI TO i1 i2 l1 l2 k) (hl1:SqAt t1 s.heap l1 xs) (hl2:SqAt t2 s.heap l2 ys) (hx:xs[k]?=some x) (hy:ys[k]?=some y)
  (hQ:∀ h',Zn t1 t2 h' z TI TO i1 i2 l1 l2 (k + 1)->IsPair h' s.heap.objs.size x y->h'.objs.size=s.heap.objs.size + 1 ->
   (∀ c o,c≠z->c≠TO->c≠i1->c≠i2->s.heap.get? c=some o->h'.get? c=some o)->Q (some (.ref s.heap.objs.size)) { s with heap:=h' }) :
  wpAny (model prog w) A (pyNext (.ref z)) Q E s:=by
 have hT:s.TypeIs (.ref z) "zip":=by obtain⟨f0,f1,_,hz⟩:=Z.z;exact⟨_,hz,rfl⟩
 unfold pyNext
 exact wpAny_bind (wpAny_attempt (wpAny_callSpecial?_slot (name := Str.ofString "__next__") hT F.slot_zip_next (wpAny_call_entry F.slot_zip_next hT F.entry_zip_next
     (zlo D o1 o2 Z hl1 hl2 hx hy fun h' b1 b2 b3 b4=>wpAny_pure (hQ h' b1 b2 b3 b4)) (F.args_zip_next_1 _))))
theorem zk8 {t1 t2:Bool} {z TI TO i1 i2 l1 l2:Addr} {k:Nat} {xs ys:Array Value} {Q:Option Value->Shared->Prop} (hh:A.handled=none) (D:Ap z TI TO i1 i2) (o1:Out z TI TO i1 i2 l1) (o2:Out z TI TO i1 i2 l2)
  (Z:Zn t1 t2 s.heap z TI TO i1 i2 l1 l2 k) (hl1:SqAt t1 s.heap l1 xs) (hl2:SqAt t2 s.heap l2 ys) (hend:xs[k]?=none∨ys[k]?=none)
  (hQ:∀ h',(∀ c o,c≠z->c≠TO->c≠i1->c≠i2->s.heap.get? c=some o->h'.get? c=some o)->Q none { s with heap:=h' }):wpAny (model prog w) A (pyNext (.ref z)) Q E s:=by
 have hT:s.TypeIs (.ref z) "zip":=by obtain⟨f0,f1,_,hz⟩:=Z.z;exact⟨_,hz,rfl⟩
 unfold pyNext
 refine wpAny_bind (wpAny_attempt (wpAny_callSpecial?_slot (name := Str.ofString "__next__") hT F.slot_zip_next (wpAny_call_entry F.slot_zip_next hT F.entry_zip_next
     (zln hh D o1 o2 Z hl1 hl2 hend fun h' e hk he=>?_) (F.args_zip_next_1 _))))
 obtain⟨o,p1,p2⟩:=he
 exact wpAny_bind (wpAny_isInstance (T:="StopIteration") (b:=true) ⟨o,p1,p2⟩ isSubtype_stop (wpAny_pure (hQ _ hk)))
end
end Z3
namespace L3
open PySem PySem.Spec PyProof.Rows L2
theorem zls {P:Program} {w:World} {K:PySem.W.Frag} {nm:Str} {pos:Pos} {t1 t2:Bool} {z TI TO i1 i2 l1 l2:Addr} (D:Z3.Ap z TI TO i1 i2) (o1:Z3.Out z TI TO i1 i2 l1) (o2:Z3.Out z TI TO i1 i2 l2) :
  L2.Turn P w K (.Name nm pos) (Itz t1 t2 K l1 l2) [z,TI,TO,i1,i2] z (fun i h=>Z3.Zn t1 t2 h z TI TO i1 i2 l1 l2 i) where
 mem:=by simp
 obj:=fun i h st b hb=>by
  obtain⟨⟨_,_,_,q1⟩,q2,⟨_,_,q3⟩,q4,q5⟩:=st
  obtain⟨o4,n4,e4,_,d4⟩:=q4.obj
  obtain⟨o5,n5,e5,_,d5⟩:=q5.obj
  simp only [List.mem_cons,List.not_mem_nil,or_false] at hb
  rcases hb with rfl | rfl | rfl | rfl | rfl
  ·exact⟨_,q1,fun v q=>by cases q⟩
  ·exact⟨_,q2,fun v q=>by cases q⟩
  ·exact⟨_,q3,fun v q=>by cases q⟩
  ·exact⟨_,e4,fun v q=>by rw[d4] at q;cases q⟩
  ·exact⟨_,e5,fun v q=>by rw[d5] at q;cases q⟩
 keep:=fun i h h' st k=>by
  obtain⟨⟨f0,f1,hf,q1⟩,q2,⟨a,b,q3⟩,q4,q5⟩:=st
  exact⟨⟨f0,f1,hf,k z (by simp) _ q1⟩,k TI (by simp) _ q2,⟨a,b,k TO (by simp) _ q3⟩,q4.to fun o e=>k i1 (by simp) o e,q5.to fun o e=>k i2 (by simp) o e⟩
 item:=by
  intro X hP hw hK hc i pins s σ H E I hf st hg
  subst hP hw hK
  obtain⟨xs,ys,x,y,q1,q2,hx,hy⟩:=hg
  obtain⟨its1,r1,p1,z1⟩:=seqX I q1
  obtain⟨its2,r2,p2,z2⟩:=seqX I q2
  obtain⟨u1,hu1,ru1⟩:=r1.get hx
  obtain⟨u2,hu2,ru2⟩:=r2.get hy
  have hf4:∀ b ∈ [z,TO,i1,i2],FpOk X pins H b:=fun b hb=>hf b (by
   simp only [List.mem_cons,List.not_mem_nil,or_false] at hb ⊢
   rcases hb with rfl | rfl | rfl | rfl <;> simp)
  refine Z3.zk9 D o1 o2 st p1 p2 (x:=u1) (y:=u2) (by simpa using hu1) (by simpa using hu2) fun h' zd tp sz kp=>?_
  have I1 : Inv X pins σ (upd H s.heap.objs.size (.tup [x, y])) { s with heap := h', toks := s.toks } := turnsTup (ch := [z, TO, i1, i2]) (its := [u1, u2]) I hf4 (fun b o hb e => by
      simp only [List.mem_cons,List.not_mem_nil,or_false,not_or] at hb
      exact kp b o hb.1 hb.2.1 hb.2.2.1 hb.2.2.2 e) (Nat.le_refl _) (by show 2≤sizeLine;rw[sizeLine_eq];decide) (.cons ru1 (.cons ru2 .nil)) ⟨_,tp,rfl,⟨_,rfl⟩,rfl⟩
  have fr:H s.heap.objs.size=none:=I.fresh
  have zne:∀ b ∈ [z,TI,TO,i1,i2],b≠s.heap.objs.size:=fun b hb e=>by
   have key:∃ o,s.heap.get? b=some o:=by
    obtain⟨⟨_,_,_,q1⟩,q2,⟨_,_,q3⟩,q4,q5⟩:=st
    obtain⟨o4,n4,e4,_,d4⟩:=q4.obj
    obtain⟨o5,n5,e5,_,d5⟩:=q5.obj
    simp only [List.mem_cons,List.not_mem_nil,or_false] at hb
    rcases hb with rfl | rfl | rfl | rfl | rfl
    ·exact⟨_,q1⟩
    ·exact⟨_,q2⟩
    ·exact⟨_,q3⟩
    ·exact⟨_,e4⟩
    ·exact⟨_,e5⟩
   obtain⟨o,ho⟩:=key
   exact absurd (Heap.lt_size ho) (by rw[e];exact Nat.lt_irrefl _)
  refine⟨_,rfl,wpAny_pure ?_⟩
  exact⟨.ref s.heap.objs.size,_,I1,rfl,⟨_,x,y,fr,rfl,rfl,fun zs hz=>by rw[zdm I hz q1];exact hx,fun zs hz=>by rw[zdm I hz q2];exact hy⟩,zd,fun b hb=>by rw[zat (zne b hb)];exact (hf b hb).1⟩
 done:=by
  intro X hP hw hK hc i pins s σ H E I hf st hg
  subst hP hw hK
  obtain⟨xs,ys,q1,q2,hx⟩:=hg
  obtain⟨its1,r1,p1,z1⟩:=seqX I q1
  obtain⟨its2,r2,p2,z2⟩:=seqX I q2
  have l1:=r1.length
  have l2:=r2.length
  have hf4:∀ b ∈ [z,TO,i1,i2],FpOk X pins H b:=fun b hb=>hf b (by
   simp only [List.mem_cons,List.not_mem_nil,or_false] at hb ⊢
   rcases hb with rfl | rfl | rfl | rfl <;> simp)
  refine Z3.zk8 (I.ok.hd hc) D o1 o2 st p1 p2 (hx.elim (fun q=>.inl (by simp;trivial)) fun q=>.inr (by simp;trivial)) fun h' kp=>⟨rfl,?_⟩
  exact turns (ch:=[z,TO,i1,i2]) (t':=s.toks) I hf4 fun b o hb e=>by
   simp only [List.mem_cons,List.not_mem_nil,or_false,not_or] at hb
   exact kp b o hb.1 hb.2.1 hb.2.2.1 hb.2.2.2 e
 self:=fun _ _ s _ _ st h=>by
  have hT:s.TypeIs (.ref z) "zip":=by obtain⟨f0,f1,_,hz⟩:=st.z;exact⟨_,hz,rfl⟩
  exact wpAny_pyIter_slot hT F.slot_zip_iter (wpAny_call_entry F.slot_zip_iter hT F.entry_zip_iter (wpAny_pure ⟨_,rfl,"zip",_,hT,F.slot_zip_next.lookup,h⟩) (F.args_zip_iter_1 _))
theorem zpt {X:Cx} {nm:Str} {pos':Pos} (t1 t2:Bool) {a b:Expr} {ta:TA} {p pos:Pos} (hg:Gl X "zip") (hm:X.mg "zip"=none) (ha:PA X [a,b] ta)
  (hs:starEach [a,b] X.env=[(false,eval a X.env),(false,eval b X.env)]:=by rfl) (hs2:starEach [b] X.env=[(false,eval b X.env)]:=by rfl) :
  PI X (.Name nm pos') (.Call (.Name "zip" p) [a,b] [] pos) (iZip t1 t2 X.K ta):=by
 intro pins s σ H R I h
 refine Call_ (ze6 I hg hm boot_zip (PyProof.Rows.callWith_type1 (thn (ha pos pins s σ H _ I h) fun us s1 ⟨vs,H1,I1,r1,q1⟩=>?_) (by rw[hs,hs2]) (by rw[hs2];rfl)))
 obtain⟨l1,l2,e,⟨xs,qx⟩,⟨ys,qy⟩,q⟩:=q1
 subst e
 cases r1 with
 | cons r rr =>
  cases rr with
  | cons r' rr =>
   cases rr
   cases r
   cases r'
   obtain⟨its1,r1,p1,z1⟩:=seqX I1 qx
   obtain⟨its2,r2,p2,z2⟩:=seqX I1 qy
   have lt:∀ {t:Bool} {l:Addr} {xs:Array Value},Z3.SqAt t s1.heap l xs->l < s1.heap.objs.size:=fun {t l xs} q=>by
    cases t with
    | true=>obtain⟨o,e,_⟩:=(show s1.heap.IsTuple l xs from q);exact Heap.lt_size e
    | false=>obtain⟨o,e,_⟩:=(show s1.heap.IsList l xs from q);exact Heap.lt_size e
   refine Z3.zkw p1 p2 fun h' zd sz kp=>wpAny_pyIter_zip zd.z ?_
   have I2:Inv X pins σ H1 { s1 with heap:=h',toks:=s1.toks }:=I1.kept (t':=s1.toks) kp
   refine⟨s1.heap.objs.size + 4,[s1.heap.objs.size + 4,s1.heap.objs.size + 2,s1.heap.objs.size + 3,s1.heap.objs.size,s1.heap.objs.size + 1],_,_,H1,rfl,I2,zls (Z3.zpe _) (Z3.zgj (lt p1)) (Z3.zgj (lt p2)),⟨⟨_,_,.inl rfl,zd.z⟩,zd.ti,zd.to,zd.a1,zd.a2⟩,fun b hb=>?_,q⟩
   have hb':s1.heap.objs.size≤b:=by
    simp only [List.mem_cons,List.not_mem_nil,or_false] at hb
    rcases hb with rfl | rfl | rfl | rfl | rfl
    ·exact Nat.le_add_right _ _
    ·exact Nat.le_add_right _ _
    ·exact Nat.le_add_right _ _
    ·exact Nat.le_refl _
    ·exact Nat.le_add_right _ _
   exact I1.fpOk hb' (I1.hok.fresh hb')
end L3
namespace L3
open PySem PySem.Spec PyProof.Rows L2
abbrev key2 (a b:Int):List Key:=[.inl a,.inl b]
theorem zkk {a b c d:Int}:key2 a b=key2 c d↔a=c∧b=d:=by
 constructor
 ·intro e
  unfold key2 at e
  simp at e
  exact e
 ·rintro ⟨rfl,rfl⟩;rfl
def isE (ts:List Tie) (u v:Int) (k:Nat):Bool:=decide ((tieAt ts k).1=min u v) && decide ((tieAt ts k).2.1=max u v)
def lenI (ts:List Tie) (ks:List Nat) (u v:Int):Option Int:=(ks.find? (isE ts u v)).map fun k=>(tieAt ts k).2.2
section
variable {n:Int} {ts:List Tie} {ks:List Nat}
theorem isE_iff {u v:Int} {k:Nat}:isE ts u v k=true↔(tieAt ts k).1=min u v∧(tieAt ts k).2.1=max u v:=by
 unfold isE
 rw[Bool.and_eq_true,decide_eq_true_iff,decide_eq_true_iff]
theorem zjr (ok:WebOk n ts) {u v:Int} {j k:Nat} (hj:j < ts.length) (hk:k < ts.length) (h1:isE ts u v j=true) (h2:isE ts u v k=true):j=k:=by
 obtain⟨a1,a2⟩:=isE_iff.mp h1
 obtain⟨b1,b2⟩:=isE_iff.mp h2
 exact zop ok hj hk (a1.trans b1.symm) (a2.trans b2.symm)
theorem zmo (ok:WebOk n ts) {ks:List Nat} {k:Nat} (hk:k < ts.length) (hks:∀ j ∈ ks,j < ts.length) (nk:k ∉ ks) (u v:Int):lenI ts (ks++[k]) u v=if isE ts u v k=true then some (tieAt ts k).2.2 else lenI ts ks u v:=by
 unfold lenI
 rw[List.find?_append]
 by_cases c:isE ts u v k=true
 ·rw[if_pos c]
  have no:ks.find? (isE ts u v)=none:=List.find?_eq_none.mpr fun j hj e=>nk (zjr ok (hks j hj) hk e c ▸ hj)
  rw[no]
  show ((([k].find? (isE ts u v))).map _)=_
  rw[List.find?_cons_of_pos c];rfl
 ·rw[if_neg c]
  have:[k].find? (isE ts u v)=none:=by rw[List.find?_cons_of_neg c];rfl
  rw[this,Option.or_none]
theorem zjs (ok:WebOk n ts) {u v:Int} {k:Nat} (hk:k < ts.length):isE ts u v k=true↔key2 u v=key2 (tieAt ts k).1 (tieAt ts k).2.1∨key2 u v=key2 (tieAt ts k).2.1 (tieAt ts k).1:=by
 have tk:=ok.tie _ (zay hk).2
 rw[isE_iff,zkk,zkk]
 trivial
theorem zqh (ok:WebOk n ts) (ko:KeepOk ts.length ks) {u v:Nat} {l:Int} (m:(u,v,l) ∈ arcs ts ks):lenI ts ks (u:Int) (v:Int)=some l:=by
 obtain⟨k,hk,m2⟩:=arcs_mem.mp m
 have hkl:=ko.2 k hk
 have tk:=ok.tie _ (zay hkl).2
 have c:isE ts (u:Int) (v:Int) k=true∧(tieAt ts k).2.2=l:=by
  rw[isE_iff]
  rcases arcs2_mem.mp m2 with e | e
  ·have e1:u=(tieAt ts k).1.toNat:=congrArg (·.1) e
   have e2:v=(tieAt ts k).2.1.toNat:=congrArg (·.2.1) e
   have e3:l=(tieAt ts k).2.2:=congrArg (·.2.2) e
   trivial
  ·have e1:u=(tieAt ts k).2.1.toNat:=congrArg (·.1) e
   have e2:v=(tieAt ts k).1.toNat:=congrArg (·.2.1) e
   have e3:l=(tieAt ts k).2.2:=congrArg (·.2.2) e
   trivial
 unfold lenI
 cases e:ks.find? (isE ts (u:Int) (v:Int)) with
 | none=>exact absurd c.1 (List.find?_eq_none.mp e k hk)
 | some j =>
  have:=zjr ok (ko.2 j (List.mem_of_find?_eq_some e)) hkl (List.find?_some e) c.1
  rw[this]
  exact congrArg some c.2
theorem zp1 (ok:WebOk n ts) (ko:KeepOk ts.length ks) {u v:Nat} {l:Int} (h:lenI ts ks (u:Int) (v:Int)=some l):(u,v,l) ∈ arcs ts ks:=by
 unfold lenI at h
 obtain⟨k,e,rfl⟩:=Option.map_eq_some_iff.mp h
 have hk:=List.mem_of_find?_eq_some e
 have c:=isE_iff.mp (List.find?_some e)
 have tk:=ok.tie _ (zay (ko.2 k hk)).2
 refine arcs_mem.mpr ⟨k,hk,arcs2_mem.mpr ?_⟩
 rcases Nat.lt_or_ge u v with z | z
 ·exact .inl (by rw[show u=(tieAt ts k).1.toNat by trivial,show v=(tieAt ts k).2.1.toNat by trivial])
 ·exact .inr (by rw[show u=(tieAt ts k).2.1.toNat by trivial,show v=(tieAt ts k).1.toNat by trivial])
def stepY (ts:List Tie) (ks:List Nat) (ws:List Int) (j:Nat):Option Int:=lenI ts ks (ws.getD j 0) (ws.getD (j + 1) 0)
def sumY (ts:List Tie) (ks:List Nat) (ws:List Int):Nat->Option Int
 | 0=>some 0
 | j + 1=>(sumY ts ks ws j).bind fun x=>(stepY ts ks ws j).map fun l=>x + l
theorem zhm {ws:List Int} {j:Nat} (h:sumY ts ks ws j=none):∀ m,j≤m->sumY ts ks ws m=none
 | 0, le => by have : j = 0 := by trivial
               subst this;exact h
 | m + 1,le=>by
  by_cases z:j=m + 1
  ·subst z;exact h
  ·rw[sumY,zhm h m (by trivial)];rfl
def rightI (n:Int) (ts:List Tie) (ks:List Nat) (ws:List Int):Option Int:=if (ws≠[]∧ws.Nodup)∧ws.all (fun i=>decide (0≤i) && decide (i < n))=true then sumY ts ks ws (ws.length - 1) else none
theorem zkb {ws ws':List Int}:∀ {j:Nat},(∀ i,i≤j->ws.getD i 0=ws'.getD i 0)->sumY ts ks ws j=sumY ts ks ws' j
 | 0,_=>rfl
 | j + 1,h=>by
  have e:stepY ts ks ws j=stepY ts ks ws' j:=by unfold stepY;rw[h j (by trivial),h (j + 1) (Nat.le_refl _)]
  rw[sumY,sumY,zkb fun i hi=>h i (by trivial),e]
theorem zqm (ok:WebOk n ts) (ko:KeepOk ts.length ks) {a b:Nat} {ws:List Nat} {x:Int} (h:Far.Tr (arcs ts ks) a ws b x):sumY ts ks (keepI ws) (ws.length - 1)=some x:=by
 induction h with
 | one=>rfl
 | @snoc ws u v x l t m ih =>
  obtain⟨r,er⟩:=zi9 t
  have lw:ws.length=r.length + 1:=by rw[er,List.length_append];rfl
  have ek:keepI (ws++[v])=keepI ws++[(v:Int)]:=by unfold keepI;rw[List.map_append];rfl
  have lk:(keepI ws).length=ws.length:=by unfold keepI;rw[List.length_map]
  have e1:sumY ts ks (keepI (ws++[v])) r.length=some x:=by
   rw[← ih,show ws.length - 1=r.length by trivial]
   refine zkb fun i hi=>?_
   rw[ek,List.getD_eq_getElem?_getD,List.getD_eq_getElem?_getD,List.getElem?_append_left (by trivial)]
  have e2:stepY ts ks (keepI (ws++[v])) r.length=some l:=by
   unfold stepY
   have g1:(keepI (ws++[v])).getD r.length 0=(u:Int):=by
    rw[ek,List.getD_eq_getElem?_getD,List.getElem?_append_left (by trivial),er]
    unfold keepI
    rw[List.map_append,List.getElem?_append_right (by rw[List.length_map];exact Nat.le_refl _),List.length_map,Nat.sub_self];rfl
   have g2:(keepI (ws++[v])).getD (r.length + 1) 0=(v:Int):=by
    rw[ek,List.getD_eq_getElem?_getD,List.getElem?_append_right (by trivial),lk,lw,Nat.sub_self];rfl
   rw[g1,g2]
   exact zqh ok ko m
  rw[List.length_append,List.length_singleton,Nat.add_sub_cancel,lw,sumY,e1,Option.bind_some,e2];rfl
theorem zho (ok:WebOk n ts) (ko:KeepOk ts.length ks) {a b:Nat} {ws:List Nat} {x:Int} (ha:a < n.toNat) (m:Far.MinW (arcsB ts ks) a b ws) (t:Far.Tr (arcs ts ks) a ws b x):rightI n ts ks (keepI ws)=some x:=by
 unfold rightI
 have nd:=m.nodup
 have ins:∀ u ∈ ws,u < n.toNat:=by
  clear m nd
  induction t with
  | one=>intro u hu;rw[List.mem_singleton.mp hu];exact ha
  | @snoc ws u v x l t m ih =>
   intro y hy
   rcases List.mem_append.mp hy with z | z
   ·exact ih y z
   ·rw[List.mem_singleton.mp z]
    exact (zj3 ok ko u v l m).2
 have ne:keepI ws≠[]:=by
  intro e
  unfold keepI at e
  have:ws=[]:=List.map_eq_nil_iff.mp e
  obtain⟨r,er⟩:=zi9 t
  rw[this] at er
  simp at er
 have nd2:(keepI ws).Nodup:=by
  unfold keepI
  rw[List.Nodup,List.pairwise_map]
  exact nd.imp fun z y=>z (by trivial)
 have al:(keepI ws).all (fun i=>decide (0≤i) && decide (i < n))=true:=by
  rw[List.all_eq_true]
  intro i hi
  unfold keepI at hi
  obtain⟨u,hu,rfl⟩:=List.mem_map.mp hi
  have:=ins u hu
  rw[Bool.and_eq_true,decide_eq_true_iff,decide_eq_true_iff]
  trivial
 have lk:(keepI ws).length=ws.length:=by unfold keepI;rw[List.length_map]
 rw[if_pos ⟨⟨ne,nd2⟩,al⟩,lk]
 exact zqm ok ko t
noncomputable def wyK (ts:List Tie) (ks:List Nat) (a b:Nat):Option (List Nat):=@dite _ (∃ ws,Far.MinW (arcsB ts ks) a b ws) (Classical.propDecidable _) (fun h=>some (Classical.choose h)) (fun _=>none)
theorem zj5 (ok:WebOk n ts) (ko:KeepOk ts.length ks) {a b:Nat} {ws:List Nat} (h:Far.MinW (arcsB ts ks) a b ws):wyK ts ks a b=some ws:=by
 have ex:∃ ws,Far.MinW (arcsB ts ks) a b ws:=⟨ws,h⟩
 unfold wyK
 rw[dif_pos ex]
 exact congrArg some (h.unique (zck ok ko) (Classical.choose_spec ex))
theorem znw {a b:Nat} (d:Far.Dst (arcs ts ks) a b none):wyK ts ks a b=none:=by
 unfold wyK
 refine dif_neg fun ⟨ws,S,x,y,r,_⟩=>?_
 have w:=r.walk
 rw[zcq] at w
 obtain⟨z,e,_⟩:=d.2 _ w
 cases e
theorem zqi (ok:WebOk n ts) (ko:KeepOk ts.length ks) {H:Hp} {a b:Nat} {v:V} (h:WayM H ts ks a b v):WyV H ts (wyK ts ks a b) v:=by
 rcases h with ⟨rfl,d⟩ | ⟨t,ws,x,rfl,e,l,m,tr,d⟩
 ·exact .inl ⟨znw d,rfl⟩
 ·exact .inr ⟨t,ws,zj5 ok ko m,rfl,e,l,(zpj ok ko tr).2⟩
theorem WayM.v {H:Hp} {a b:Nat} {v:V} (h:WayM H ts ks a b v):WayV H (arcs ts ks) a b v:=by
 rcases h with h | ⟨t,ws,x,e,e1,l,m,tr,d⟩
 ·exact .inl h
 ·exact .inr ⟨t,ws,x,e,e1,l,tr,d⟩
noncomputable def dK (ts:List Tie) (ks:List Nat) (u v:Nat):Option Int:=Classical.epsilon fun o=>Far.Dst (arcs ts ks) u v o
theorem zm8 (ok:WebOk n ts) (ko:KeepOk ts.length ks) (u v:Nat):Far.Dst (arcs ts ks) u v (dK ts ks u v):=Classical.epsilon_spec (p:=fun o=>Far.Dst (arcs ts ks) u v o) (Far.zc4 (zc9 ok ko) u v)
theorem zqc (ok:WebOk n ts) (ko:KeepOk ts.length ks) {u v:Nat} {o:Option Int} (d:Far.Dst (arcs ts ks) u v o):o=dK ts ks u v:=d.unique (zm8 ok ko u v)
noncomputable def dKL (n:Int) (ts:List Tie) (ks:List Nat) (u:Nat):List (Option Int):=(List.range n.toNat).map fun v=>dK ts ks u v
theorem zju (n:Int) (ts:List Tie) (ks:List Nat) (u:Nat):(dKL n ts ks u).length=n.toNat:=by unfold dKL;rw[List.length_map,List.length_range]
theorem zm9 {u v:Nat} (hv:v < n.toNat):(dKL n ts ks u)[v]?=some (dK ts ks u v):=by unfold dKL;rw[List.getElem?_map,List.getElem?_range hv];rfl
theorem zqd {u v:Nat} (hv:v < n.toNat):Far.get (dKL n ts ks u) v=dK ts ks u v:=by unfold Far.get;rw[List.getD_eq_getElem?_getD,zm9 hv];rfl
theorem zrd (ok:WebOk n ts) (ko:KeepOk ts.length ks) {u:Nat} {DD:List (Option Int)} (lD:DD.length=n.toNat) (hD:∀ v,v < n.toNat->Far.Dst (arcs ts ks) u v (Far.get DD v)):DD=dKL n ts ks u:=by
 refine List.ext_getElem? fun v=>?_
 by_cases hv:v < n.toNat
 ·rw[zm9 hv,← zqc ok ko (hD v hv)]
  unfold Far.get
  rw[List.getD_eq_getElem?_getD,List.getElem?_eq_getElem (by trivial)];rfl
 ·rw[List.getElem?_eq_none (by trivial),List.getElem?_eq_none (by rw[zju];trivial)]
noncomputable def htK (n:Int) (ts:List Tie) (ks:List Nat) (t:Int) (k:Nat):List Int:=(dKL n ts ks (tieAt ts k).1.toNat).map (capO (t * (tieAt ts k).2.2 + 1))
theorem zp7 (n:Int) (ts:List Tie) (ks:List Nat) (t:Int) (k:Nat):(htK n ts ks t k).length=n.toNat:=by unfold htK;rw[List.length_map,zju]
end
def winK (ts:List Tie) (ks:List Nat) (t:Int) (k:Nat):Prop:=withinB t (tieAt ts k).2.2 (gO ts ks k)=true
noncomputable def wyT (ts:List Tie) (ks:List Nat) (k:Nat):Option (List Nat):=wyK ts ks (tieAt ts k).1.toNat (tieAt ts k).2.1.toNat
def FirstOut (ts:List Tie) (ks:List Nat) (t:Int) (i k:Nat):Prop:=(outs ts.length ks)[i]?=some k∧¬ winK ts ks t k∧∀ j k',j < i->(outs ts.length ks)[j]?=some k'->winK ts ks t k'
inductive TdD (n:Int) (ts:List Tie) (ks:List Nat) (t:Int):PyData->Prop
 | keeps:allIn ts ks t->TdD n ts ks t (.tuple [.str "keeps",.tuple ((outs ts.length ks).map fun k=>wyD (wyT ts ks k))])
 | far {i k:Nat}:FirstOut ts ks t i k->TdD n ts ks t (.tuple [.str "far",.int (k:Int),tupH (htK n ts ks t k)])
theorem znv {n:Int} {ts:List Tie} {ks:List Nat} (ok:WebOk n ts) (ko:KeepOk ts.length ks) {k:Nat} (hk:k < ts.length) {y:Int} (eg:gO ts ks k=some y):∃ ws,wyT ts ks k=some ws∧ws.length≤24∧Far.MinW (arcsB ts ks) (tieAt ts k).1.toNat (tieAt ts k).2.1.toNat ws∧Far.Tr (arcs ts ks) (tieAt ts k).1.toNat ws (tieAt ts k).2.1.toNat y:=by
 have tk:=ok.tie _ (zay hk).2
 have n24:=ok.n24
 have KB:=zck ok ko
 have dst:=zo6 ok ko k
 rw[eg] at dst
 obtain⟨cs,as,B⟩:=Far.zjx KB (fun u v l k m=>zkz ok ko m) (show (tieAt ts k).2.1.toNat < n.toNat by trivial)
 have d1:=B.dst1 KB (tieAt ts k).1.toNat
 rw[zcq] at d1
 have e2:=(d1.back (zfh ok ko)).unique dst
 obtain⟨c,ec,ecy⟩:=Option.map_eq_some_iff.mp e2
 obtain⟨ws,S,r,tp,_⟩:=B.route KB _ _ c ec (Nat.le_refl _)
 have tp':Far.TPw as (tieAt ts k).2.1.toNat ws.reverse.reverse (tieAt ts k).1.toNat:=by rw[List.reverse_reverse];exact tp
 have m:=B.minw KB tp' ec
 obtain⟨S',u⟩:=B.uni KB tp' ec
 have tr:=u.rt.tr
 rw[zcq,ecy] at tr
 refine⟨ws.reverse,zj5 ok ko m,?_,m,tr⟩
 have r1:=zho ok ko (show (tieAt ts k).1.toNat < n.toNat by trivial) m tr
 have:=zgt (b:=List.range n.toNat) m.nodup fun u hu=>by
  rw[List.mem_range]
  unfold rightI at r1
  split at r1
  ·rename_i c
   have:=List.all_eq_true.mp c.2 (u:Int) (List.mem_map.mpr ⟨u,hu,rfl⟩)
   rw[Bool.and_eq_true,decide_eq_true_iff,decide_eq_true_iff] at this
   trivial
  ·cases r1
 rw[List.length_range] at this
 trivial
end L3
namespace L3
open PySem PySem.Spec PyProof.Rows L2
def PairsL (H:Hp) (xs ys zs:List V) (m:Nat):Prop:=zs.length=m∧∀ (j:Nat) (z:V),zs[j]?=some z->∃ (T:Addr) (x y:V),z=V.ref T∧xs[j]?=some x∧ys[j]?=some y∧H T=some (.tup [x,y])
section
variable {X:Cx} {pins:List (Addr × Obj)} {σ:L2.St}
end
end L3
namespace L3
open PySem PySem.Spec PyProof.Rows L2
end L3
namespace L3
open PySem PySem.Spec PyProof.Rows L2
section
variable {n:Int} {ts:List Tie} {ks:List Nat}
theorem zmy (ks:List Nat):inV .non (natV ks)=false:=by
 unfold inV natV
 induction ks with
 | nil=>rfl
 | cons k ks ih=>rw[List.map_cons,List.any_cons,ih];rfl
theorem zq3 (ok:WebOk n ts) (ko:KeepOk ts.length ks) (u v:Nat):inV (oa (tbN ts u v)) (natV ks)=(lenI ts ks (u:Int) (v:Int)).isSome:=by
 unfold lenI
 rw[Option.isSome_map]
 cases e:tbN ts u v with
 | none =>
  show inV .non (natV ks)=_
  rw[zmy]
  cases f:ks.find? (isE ts (u:Int) (v:Int)) with
  | none=>rfl
  | some k =>
   have h1:=List.find?_some f
   have h2:=ko.2 k (List.mem_of_find?_eq_some f)
   unfold tbN at e
   exact absurd h1 (List.find?_eq_none.mp e k (List.mem_range.mpr h2))
 | some k =>
  have hk:=List.mem_range.mp (List.mem_of_find?_eq_some e)
  have h1:=List.find?_some e
  show inV (.int (k:Int)) (natV ks)=_
  rw[zfa (Int.natCast_nonneg _),Int.toNat_natCast]
  cases f:ks.find? (isE ts (u:Int) (v:Int)) with
  | none=>exact decide_eq_false fun hk'=>List.find?_eq_none.mp f k hk' h1
  | some j =>
   have:=zjr ok (ko.2 j (List.mem_of_find?_eq_some f)) hk (List.find?_some f) h1
   exact decide_eq_true (this ▸ List.mem_of_find?_eq_some f)
theorem zhl {ws:List Int}:∀ m,(sumY ts ks ws m).isSome=(List.range m).all fun j=>(stepY ts ks ws j).isSome
 | 0=>rfl
 | m + 1=>by
  rw[List.range_succ,List.all_append,← zhl m,sumY]
  cases e:sumY ts ks ws m with
  | none=>rfl
  | some x=>cases e2:stepY ts ks ws m <;> simp [e2]
theorem zo2 (ok:WebOk n ts) (ko:KeepOk ts.length ks) {us:List Nat} {a:Nat} (h0:us[0]?=some a):∀ (j:Nat) (b:Nat) (x:Int),us[j]?=some b->sumY ts ks (keepI us) j=some x->Far.Tr (arcs ts ks) a (us.take (j + 1)) b x
 | 0,b,x,hb,hx=>by
  rw[h0] at hb
  cases hb
  cases hx
  have:us.take 1=[a]:=by
   cases us with
   | nil=>cases h0
   | cons y r=>cases h0;rfl
  rw[this]
  exact .one
 | j + 1,b,x,hb,hx=>by
  have hj:=(List.getElem?_eq_some_iff.mp hb).1
  have hc:us[j]?=some us[j]:=List.getElem?_eq_getElem (by trivial)
  rw[sumY] at hx
  obtain⟨y,hy,h⟩:=Option.bind_eq_some_iff.mp hx
  obtain⟨l,hl,rfl⟩:=Option.map_eq_some_iff.mp h
  have t:=zo2 ok ko h0 j _ y hc hy
  rw[show us.take (j + 1 + 1)=us.take (j + 1)++[b] by rw[List.take_add_one,hb];rfl]
  refine .snoc t (zp1 ok ko ?_)
  rw[← hl]
  unfold stepY keepI
  rw[List.getD_eq_getElem?_getD,List.getElem?_map,hc,List.getD_eq_getElem?_getD,List.getElem?_map,hb];rfl
theorem zl2 (ok:WebOk n ts) (ko:KeepOk ts.length ks) {ws:List Int} {x:Int} (h:rightI n ts ks ws=some x):∃ us:List Nat,ws=keepI us∧us.length≤24∧linked ts us∧wl ts us=x:=by
 unfold rightI at h
 split at h
 ·rename_i c
  obtain⟨⟨ne,nd⟩,al⟩:=c
  have n24:=ok.n24
  have pl:∀ i ∈ ws,0≤i∧i < n:=fun i hi=>by
   have:=List.all_eq_true.mp al i hi
   rw[Bool.and_eq_true,decide_eq_true_iff,decide_eq_true_iff] at this
   exact this
  have ew:ws=keepI (ws.map Int.toNat):=by
   unfold keepI
   rw[List.map_map]
   conv=>lhs;rw[← List.map_id ws]
   refine List.map_congr_left fun i hi=>?_
   show i=((i.toNat:Nat):Int)
   have:=pl i hi;trivial
  have lw:(ws.map Int.toNat).length=ws.length:=List.length_map _
  have pos:0 < ws.length:=List.length_pos_iff.mpr ne
  have h0:(ws.map Int.toNat)[0]?=some (ws.map Int.toNat)[0]:=List.getElem?_eq_getElem (by trivial)
  have hl:(ws.map Int.toNat)[ws.length - 1]?=some (ws.map Int.toNat)[ws.length - 1]:=List.getElem?_eq_getElem (by trivial)
  rw[ew] at h
  have lk:(keepI (ws.map Int.toNat)).length=ws.length:=by rw[← ew]
  rw[lk] at h
  have t:=zo2 ok ko h0 _ _ _ hl h
  rw[List.take_of_length_le (by trivial)] at t
  obtain⟨e1,e2⟩:=zpj ok ko t
  refine⟨ws.map Int.toNat,ew,?_,e2,e1⟩
  have nd2:(ws.map Int.toNat).Nodup:=by
   rw[List.Nodup,List.pairwise_map]
   refine List.Pairwise.imp_of_mem ?_ nd
   intro a b ha hb ne z
   have:=pl a ha
   have:=pl b hb
   trivial
  have:=zgt (b:=List.range n.toNat) nd2 fun u hu=>by
   obtain⟨i,hi,rfl⟩:=List.mem_map.mp hu
   have:=pl i hi
   exact List.mem_range.mpr (by trivial)
  rw[List.length_range] at this
  trivial
 ·cases h
end
theorem zkn (ds:List PyData):PyData.eqv (.list ds) (.list [])=decide (ds=[]):=by
 cases ds with
 | nil=>rfl
 | cons d ds=>rfl
end L3
namespace L3
open PySem PySem.Spec PyProof.Rows L2
section
variable {X:Cx}
inductive call_reprD_i (K:PySem.W.Frag) (xs:List V) (H:Hp) (Q:VK):Prop
 | mk:∀ (a:Addr) (d:PyData),(xs=[.ref a])->(Is K H d (.ref a))->(d.showable=true)->(d.hasDict=false)->(d.depth≤3)->(d.shown.length≤sizeLine)->(Q (.str d.shown) H)->call_reprD_i K xs H Q
theorem zf9 {k:Nat} (hr:Room k X.A):CallR X (.builtin "repr") (call_reprD_i X.K):=by
 intro pins s σ H xs us Q I r h
 obtain⟨a,d,rfl,hd,h1,h2,h3,h4,q⟩:=h
 obtain⟨u,rfl,rx⟩:=vals1 r
 obtain⟨as,ra⟩:=zc0 I d hd rx
 cases rx
 have hu:=hr.units
 exact repr_of_reads' ra h1 (fun z=>by rw[h2] at z;cases z) hr.gd (by trivial) (fun _ _ e=>e) (fun h' u tk hk=>⟨.str d.shown,H,I.kept (t':=tk) hk,⟨_,rfl⟩,q⟩) h4
end
theorem znj {n:Int} (h:n.natAbs < 10 ^ 60):n.natAbs.log2 < 1920:=by
 by_cases c:n.natAbs=0
 ·rw[c];decide
 ·exact (Nat.log2_lt c).mpr (Nat.lt_trans h (by decide +kernel))
theorem zkx {n:Int} (h:n.natAbs < 10 ^ 60):(PyData.shown (.int n)).length≤61:=by
 have e:=int_text_length_le10 (k:=60) (by decide) h
 show (Str.ofString (toString n)).length≤61
 rw[PySem.ofString_length];exact e
theorem zgy:∀ (ns:List Int),(∀ n ∈ ns,n.natAbs < 10 ^ 60)->PyData.showableAll (ns.map .int)=true∧PyData.hasDictAll (ns.map .int)=false∧PyData.depthAll (ns.map .int)=0∧PyData.leavesShortAll 61 (ns.map .int)=true∧PyData.bulkAll (ns.map .int)=ns.length
 | [],_=>⟨rfl,rfl,rfl,rfl,rfl⟩
 | n::ns,h=>by
  obtain⟨h1,h2,h3,h4,h5⟩:=zgy ns fun m hm=>h m (List.mem_cons_of_mem _ hm)
  have hn:=h n List.mem_cons_self
  refine⟨?_,h2,?_,?_,?_⟩
  ·show (decide (n.natAbs.log2 < 1920) && PyData.showableAll (ns.map .int))=true
   rw[decide_eq_true (znj hn),h1];rfl
  ·show max 0 (PyData.depthAll (ns.map .int))=0
   rw[h3];rfl
  ·show (decide ((PyData.shown (.int n)).length≤61) && PyData.leavesShortAll 61 (ns.map .int))=true
   rw[decide_eq_true (zkx hn),h4];rfl
  ·show 0 + 1 + PyData.bulkAll (ns.map .int)=ns.length + 1
   rw[h5];trivial
theorem zke:∀ (W:List (List Int)),(∀ ws ∈ W,ws.length≤40∧∀ n ∈ ws,n.natAbs < 10 ^ 60)->PyData.showableAll (W.map fun ws=>PyData.tuple (ws.map .int))=true∧PyData.hasDictAll (W.map fun ws=>PyData.tuple (ws.map .int))=false∧PyData.depthAll (W.map fun ws=>PyData.tuple (ws.map .int))≤1∧PyData.leavesShortAll 61 (W.map fun ws=>PyData.tuple (ws.map .int))=true∧PyData.bulkAll (W.map fun ws=>PyData.tuple (ws.map .int))≤41 * W.length
 | [],_=>⟨rfl,rfl,Nat.zero_le _,rfl,Nat.zero_le _⟩
 | ws::W,h=>by
  obtain⟨h1,h2,h3,h4,h5⟩:=zke W fun m hm=>h m (List.mem_cons_of_mem _ hm)
  obtain⟨l40,hb⟩:=h ws List.mem_cons_self
  obtain⟨i1,i2,i3,i4,i5⟩:=zgy ws hb
  refine⟨?_,?_,?_,?_,?_⟩
  ·show (PyData.showableAll (ws.map .int) && _)=true
   rw[i1];exact h1
  ·show (PyData.hasDictAll (ws.map .int) || _)=false
   rw[i2];exact h2
  ·show max (PyData.depthAll (ws.map .int) + 1) _≤1
   rw[i3];trivial
  ·show (PyData.leavesShortAll 61 (ws.map .int) && _)=true
   rw[i4];exact h4
  ·show PyData.bulkAll (ws.map .int) + 1 + _≤41 * (W.length + 1)
   rw[i5];trivial
theorem fits61 {d:PyData} (hl:d.leavesShort 61=true) (hw:d.bulk≤10000):d.shown.length≤sizeLine:=by
 have h:=PyData.shown_le_bulk 61 (by decide) d hl
 have:(63 * 10000 + 61:Nat)≤sizeLine:=by decide
 trivial
end L3
namespace L3
open PySem PySem.Spec PyProof.Rows L2
def leadsI (n:Int) (ts:List Tie) (ks:List Nat) (a b:Int) (ws:List Int):Bool:=(rightI n ts ks ws).isSome && (decide (ws.getD 0 0=a) && decide (ws.getD (ws.length - 1) 0=b))
def goodW (n:Int) (ts:List Tie) (ks:List Nat) (t:Int) (k:Nat) (ws:List Int):Bool:=leadsI n ts ks (tieAt ts k).1 (tieAt ts k).2.1 ws && decide ((rightI n ts ks ws).getD 0≤t * (tieAt ts k).2.2)
def beyondI (n:Int) (ts:List Tie) (ks:List Nat) (t:Int) (k:Nat) (hs:List Int):Bool:=holdB n ts ks hs && decide (acrossI ts hs k > t * (tieAt ts k).2.2)
def waysB (n:Int) (ts:List Tie) (ks:List Nat) (t:Int) (W:List (List Int)):Bool:=decide (W.length=(outs ts.length ks).length) && (List.range (outs ts.length ks).length).all fun i=>goodW n ts ks t ((outs ts.length ks).getD i 0) (W.getD i [])
def farB (n:Int) (ts:List Tie) (ks:List Nat) (t:Int) (k:Int) (hs:List Int):Bool:=(decide (0≤k) && decide (k < (ts.length:Int))) && (!decide (k.toNat ∈ ks) && beyondI n ts ks t k.toNat hs)
inductive Ppr where
 | keeps (W:List (List Int)):Ppr
 | far (k:Int) (hs:List Int):Ppr
def Ppr.d:Ppr->PyData
 | .keeps W=>.tuple [.str "keeps",.tuple (W.map tupH)]
 | .far k hs=>.tuple [.str "far",.int k,tupH hs]
def Ppr.ok:Ppr->Prop
 | .keeps W=>W.length≤1000∧∀ ws ∈ W,ws.length≤40
 | .far _ hs=>hs.length≤1000
def Ppr.right (n:Int) (ts:List Tie) (ks:List Nat) (t:Int):Ppr->Bool
 | .keeps W=>waysB n ts ks t W
 | .far k hs=>farB n ts ks t k hs
def Ppr.sml:Ppr->Prop
 | .keeps W=>W.length≤100∧∀ ws ∈ W,ws.length≤40∧∀ n ∈ ws,n.natAbs < 10 ^ 60
 | .far k hs=>k.natAbs < 10 ^ 60∧hs.length≤100∧∀ n ∈ hs,n.natAbs < 10 ^ 60
theorem Ppr.sml_ok {u:Ppr} (h:u.sml):u.ok:=by
 cases u with
 | keeps W=>exact⟨Nat.le_trans h.1 (by decide),fun ws hw=>(h.2 ws hw).1⟩
 | far k hs=>exact Nat.le_trans h.2.1 (by decide)
theorem Ppr.shows {u:Ppr} (h:u.sml):u.d.showable=true∧u.d.hasDict=false∧u.d.depth≤3∧u.d.shown.length≤sizeLine:=by
 cases u with
 | keeps W =>
  obtain⟨h1,h2,h3,h4,h5⟩:=zke W h.2
  have hl:=h.1
  refine⟨?_,?_,?_,fits61 ?_ ?_⟩
  ·show (true && (PyData.showableAll (W.map tupH) && true))=true
   rw[show PyData.showableAll (W.map tupH)=true from h1];rfl
  ·show (false || (PyData.hasDictAll (W.map tupH) || false))=false
   rw[show PyData.hasDictAll (W.map tupH)=false from h2];rfl
  ·show max 0 (max (PyData.depthAll (W.map tupH) + 1) 0) + 1≤3
   have:PyData.depthAll (W.map tupH)≤1:=h3
   trivial
  ·show (PyData.leavesShort 61 (.str "keeps") && (PyData.leavesShortAll 61 (W.map tupH) && true))=true
   rw[show PyData.leavesShortAll 61 (W.map tupH)=true from h4];decide +kernel
  ·show PyData.bulk (.str "keeps") + 1 + (PyData.bulkAll (W.map tupH) + 1 + 0)≤10000
   have:PyData.bulkAll (W.map tupH)≤41 * W.length:=h5
   have e:PyData.bulk (.str "keeps")=5:=by decide +kernel
   trivial
 | far k hs =>
  obtain⟨h1,h2,h3,h4,h5⟩:=zgy hs h.2.2
  have hl:=h.2.1
  refine⟨?_,?_,?_,fits61 ?_ ?_⟩
  ·show (true && (decide (k.natAbs.log2 < 1920) && (PyData.showableAll (hs.map .int) && true)))=true
   rw[h1,decide_eq_true (znj h.1)];rfl
  ·show (false || (false || (PyData.hasDictAll (hs.map .int) || false)))=false
   rw[h2];rfl
  ·show max 0 (max 0 (max (PyData.depthAll (hs.map .int) + 1) 0)) + 1≤3
   trivial
  ·show (PyData.leavesShort 61 (.str "far") && (decide ((PyData.shown (.int k)).length≤61) && (PyData.leavesShortAll 61 (hs.map .int) && true)))=true
   rw[h4,decide_eq_true (zkx h.1)];decide +kernel
  ·show PyData.bulk (.str "far") + 1 + (0 + 1 + (PyData.bulkAll (hs.map .int) + 1 + 0))≤10000
   have e:PyData.bulk (.str "far")=3:=by decide +kernel
   trivial
end L3
namespace Hx
open PySem PySem.W
structure Ch where
 i:Nat
 a:Nat
 t:Nat
 j:Nat
 u:Nat
 b:Nat:=0
def stt (p:Program) (i:Nat):Stmt:=p.main.body.getD i (.Pass ⟨0,0,0,0⟩)
def fileS:Str:=Str.ofString "/claim/cut.py"
def mdV (p:Program) (c:Ch):Value:=match stt p c.j with
 | .Assign _ (.Constant (.str x) _ _) _=>.str x c.u
 | _=>.str (Str.ofString "__main__") c.u
def sT (xs:List Value):Obj:=⟨.type "tuple",none,.seq xs.toArray 0,#[]⟩
def fE (xs:List Value):Obj:=⟨.none,none,.fields xs.toArray,#[]⟩
def tks:List Str->Nat->List Value
 | [],_=>[]
 | v::r,t=>.str v t::tks r (t + 1)
def z:Value:=.int 0 0
def cdO (nm q:Str) (t:Nat) (l:Int) (na fl:Int) (k:Value) (fn:Bool) (tb vs cs tp:Value) (u:Nat):Obj :=
 ⟨.type "code",none,.fields #[.str nm t,.str q (t + 1),.str fileS (t + 2),.int l 0,.int na 0,z,z,.int fl 0,k,.bool fn,.int 181 0,tb,.none,vs,cs,tp,.int u 0,.int l 0,.str fileS (u + 1)],#[]⟩
def ent (P:Params) (s:Str) (t:Nat) (v:Value):DictEntry:=⟨PyData.keyHash P s,.str s t,v⟩
def dO (es:List DictEntry) (n:Nat):Obj:=⟨.type "dict",none,.dict es.toArray n,#[]⟩
structure Got where
 os:List Obj
 en:List DictEntry
 tb:List Value
def fO (P:Params) (md:Value) (a t:Nat) (name:Str) (args:Arguments) (body:List Stmt) (scope:Scope) (bind:Str) (pos:Pos):Got :=
 let fd:FuncData:=⟨name,bind,args,.stmts body,scope,0,[],.none,.none,.none,.none,none,.none,.none,0⟩
 let k (vs cs:Value) (b u:Nat) (h:List Obj):Got :=
  ⟨h++[⟨.none,none,.func fd,#[]⟩,cdO name bind t pos.line args.args.length 3 (.ref a) true (.ref (a + 1)) vs cs (.ref b) u,
   ⟨.type "function",none,.func ⟨name,bind,args,.stmts body,scope,3,[],.none,.none,.none,md,none,.ref (b + 1),.none,0⟩,#[]⟩],
   [ent P name (u + 2) (.ref (b + 2))],[.int pos.line 0,.int pos.col 0,.ref (b + 1)]⟩
 match localNames args scope (.stmts body) with
 | none=>k .none .none (a + 2) (t + 3) [sT [],fE []]
 | some (vs,cs)=>k (.ref (a + 2)) (.ref (a + 3)) (a + 4) (t + 3 + vs.length + cs.length) [sT [],fE [],sT (tks vs (t + 3)),sT (tks cs (t + 3 + vs.length))]
def mro0:List Value:=[.type "ValueError",.type "Exception",.type "BaseException",.type "object"]
def clO (P:Params) (md:Value) (a t:Nat) (base:Option Nat) (sub:List Value) (name bind:Str) (pos:Pos):Got :=
 let l:Int:=pos.line
 let w:=base.isNone
 let C:=a + 9 - (if w then 0 else 0)
 let bs:Value:=match base with | none=>.type "ValueError" | some b=>.ref b
 let e1:=ent P (Str.ofString "__module__") (t + 7) md
 let e2:=ent P (Str.ofString "__firstlineno__") (t + 11) (.int l (t + 10))
 let e3:=ent P (Str.ofString "__static_attributes__") (t + 12) (.ref (a + 7))
 ⟨[sT [bs],⟨.type "builtin_function_or_method",none,.fields #[.builtin "type.__prepare__",.type "type"],#[]⟩,
  dO [e1,ent P (Str.ofString "__qualname__") (t + 9) (.str bind (t + 8)),e2,e3] 4,sT [],fE [],
  cdO name bind (t + 2) l 0 0 (.ref (a + 3)) false (.ref (a + 4)) .none .none .none (t + 5),
  ⟨.type "frame",none,.plain,#[some (.ref (a + 5)),some (.ref 3),some (.ref (a + 2)),none,some md,none,some (.ref 0)]⟩,sT [],
  dO (e1::e2::e3::(if w then [ent P (Str.ofString "__weakref__") (t + 14) (.ref (a + 10)),ent P (Str.ofString "__doc__") (t + 15) .none] else [ent P (Str.ofString "__doc__") (t + 13) .none])) (if w then 3 else 2),
  ⟨.type "type",none,.cls ⟨name,[bs],.ref C::(match base with | none=>mro0 | some b=>.ref b::mro0),a + 8,bind,true,[],sub,false,none,false⟩,
   #[some (.ref a),none,some (.str name t),some (.str bind (t + 8)),some (.builtin "ValueError.__new__"),some (.bool true)]⟩] ++
  (if w then [⟨.type "getset_descriptor",none,.fields #[.str (Str.ofString "__weakref__") (t + 13),.ref C,.builtin "ExceptionGroup.__weakref__",.none],#[]⟩] else []) ++
  [⟨.type "super",none,.fields #[.ref C,.ref C,.ref C],#[]⟩,⟨.type "builtin_function_or_method",none,.fields #[.builtin "object.__init_subclass__",.ref C],#[]⟩],
  [ent P name (t + (if w then 17 else 15)) (.ref C)],[.int l 0,.int pos.col 0,.ref (a + 5)]⟩
def got (p:Program) (P:Params) (cs:List Ch) (c:Ch):Got:=match stt p c.i with
 | .FunctionDef name args body _ _ _ scope _ bind pos=>fO P (mdV p c) c.a c.t name args body scope bind pos
 | .ClassDef name _ _ _ _ _ _ _ bind _ pos=>clO P (mdV p c) c.a c.t (if c.b == 0 then none else some c.b) (cs.filterMap fun d=>if d.b == c.a + 9 then some (.ref (d.a + 9)) else none) name bind pos
 | _=>⟨[],[],[]⟩
def nameNow (p:Program) (cs:List Ch):Option Value:=match cs.getLast? with
 | some c=>some (mdV p { c with j:=c.j,u:=c.u })
 | none=>none
def setName (P:Params) (v:Option Value):List DictEntry->List DictEntry
 | e::r=>(match v with | some v=>{ e with val:=v } | none=>e)::r
 | []=>[]
def globO (p:Program) (P:Params) (cs:List Ch) (en:List DictEntry):Obj->Obj
 | ⟨c,d,.dict es n,s⟩=>⟨c,d,.dict (setName P (nameNow p cs) es.toList++en).toArray (n + en.length),s⟩
 | o=>o
def objs (p:Program) (P:Params) (B:List Obj) (cs:List Ch):List Obj :=
 let gs:=cs.map (got p P cs)
 match B with
 | b0::b1::b2::b3::r=>b0::b1::b2::globO p P cs (gs.flatMap (·.en)) b3::(r++(sT []::fE (gs.flatMap (·.tb)) ::
  cdO (Str.ofString "<module>") (Str.ofString "<module>") 182 1 0 0 (.ref 11) false (.ref 12) .none .none .none 185 ::
  ⟨.type "frame",none,.plain,#[some (.ref 13),some (.ref 3),some (.ref 3),none,some (.str (Str.ofString "__main__") 164),none,some (.ref 0)]⟩::gs.flatMap (·.os)))
 | _=>[]
def spl:List Obj->List Obj × List Obj
 | []=>([],[])
 | x::r=>(x::(spl r).2,(spl r).1)
def braun:Nat->List Obj->BT
 | 0,_=>.nil
 | _ + 1,[]=>.nil
 | f + 1,o::r=>.node o (braun f (spl r).1) (braun f (spl r).2)
structure Cut where
 k:Nat
 n:Nat
 t:Nat
def hpT (p:Program) (B:Params->List Obj) (cs:List Ch) (c:Cut) (P:Params):Heap:=absHeap (braun 12 (objs p P (B P) (cs.take c.k))) c.n {}
def stT (p:Program) (B:Params->List Obj) (D:Drawn) (cs:List Ch) (c:Cut) (w:World) (os:OsState):SharedT :=
 ⟨braun 12 (objs p w.params (B w.params) (cs.take c.k)),c.n,{},Array.mk [],D,c.t,os⟩
def env (p:Program):Env:={ scope:=p.main.scope,locals:=mainNs,globals:=mainNs,cells:=[],code:=.ref 13,frame:=some 14 }
def cE (p:Program):Code:=.body p.main.body (env p)
def pos0:Pos:=⟨0,0,0,0⟩
def posOf (p:Program):Nat->Pos
 | 0=>pos0
 | k + 1=>match stt p k with
  | .Assign [.Name _ q] _ _=>q
  | .FunctionDef _ _ _ _ _ _ _ _ _ q=>q
  | .ClassDef _ _ _ _ _ _ _ _ _ _ q=>q
  | _=>pos0
def ann0:Option Value:=some (.ref 6)
def PieceT (p:Program) (B:Params->List Obj) (D:Drawn) (cs:List Ch) (a b:Cut) (N:Nat):Prop:=∀ w:World,
 (fun os=>segRunT treeTable p w 11 ann0 1 N (stT p B D cs a w os) (piecesOf ((p.main.body.drop a.k).take (b.k - a.k)) (env p) (cE p) (posOf p a.k) [topFrame pos0]))=fun os=>some (Flow.next,stT p B D cs b w os,cE p,posOf p b.k)
def PreT (p:Program) (B:Params->List Obj) (D:Drawn) (h:Params->Heap) (t:Nat) (cs:List Ch) (a:Cut):Prop:=∀ w:World,
 (fun os=>topGo treeTable p w 11 ann0 12 ⟨h w.params,Array.mk [],D,t,os⟩ (topStub p))=fun os=>some ((stT p B D cs a w os).abs,⟨denote treeTable (cE p),cE p,pos0,[topFrame pos0]⟩)
def BlockT (p:Program):Prop:=∀ (w:World) (s:Shared),segRun treeTable p w 11 ann0 1 1 s (blockOf p.main.body (env p) (cE p) pos0 [topFrame pos0])=some (.next,s,cE p,pos0)
noncomputable def boots (P:Params):List Obj:=[boot_o_0 P,boot_o_1 P,boot_o_2 P,boot_o_3 P,boot_o_4 P,boot_o_5 P,boot_o_6 P,boot_o_7 P,boot_o_8 P,boot_o_9 P,boot_o_10 P]
def qv (p:Program) (is:List Nat):Program:={ p with main:={ p.main with body:=is.map (stt p) } }
def nmO:Stmt->Option Str
 | .FunctionDef n ..=>some n
 | .ClassDef n ..=>some n
 | _=>none
def lz (p:Program) (is:List Nat) (n:Nat):List Str:=(List.range n).filterMap fun i=>if is.contains i then none else nmO (stt p i)
def kk (a:Nat) (g:Got):List (Nat × Obj):=match g.os with
 | [_,_,_,c,f]=>[(a + 3,c),(a + 4,f)]
 | [_,_,_,_,_,c,f]=>[(a + 5,c),(a + 6,f)]
 | _::_::_::_::_::_::_::_::d::C::_=>[(a + 8,d),(a + 9,C)]
 | _=>[]
def Kf (p:Program) (B:Params->List Obj) (cs:List Ch) (P:Params):Frag :=
 let gs:=cs.map (got p P cs)
 (3,globO p P cs (gs.flatMap (·.en)) ((B P).getD 3 (sT [])))::(cs.zip gs).flatMap fun c=>kk c.1.a c.2
def LookA (p:Program) (B:Params->List Obj) (D:Drawn) (h:Params->Heap) (cs:List Ch) (c:Cut):Prop:=∀ w:World,(fun os =>
  (staticsOk (importedModules p.main.body) (h w.params) (hpT p B cs c w.params) && namesBound p (hpT p B cs c w.params) && gensDone ⟨hpT p B cs c w.params,Array.mk [],D,c.t,os⟩ && laidKept (h w.params) (hpT p B cs c w.params)))=fun _:OsState=>true
def LookB (p:Program) (B:Params->List Obj) (D:Drawn) (cs:List Ch) (c:Cut) (is:List Nat) (rc:WRecords):Prop:=∀ w:World,(fun os =>
  openSeen (qv p is) (lz p is c.k) (importedModules p.main.body) (fun s=>xlAt (qv p is) [] s && recOk rc s) true ⟨hpT p B cs c w.params,Array.mk [],D,c.t,os⟩)=fun _:OsState=>openGood (qv p is) (lz p is c.k)
def LookC (p:Program) (B:Params->List Obj) (cs:List Ch) (c:Cut) (as:List Nat):Prop:=∀ w:World,as.map (hpT p B cs c w.params).get?=(Kf p B cs w.params).map fun p=>some p.2
section
variable {p:Program} {D:Drawn} {cs:List Ch}
theorem zqa {w:World} {s:Shared} {c:Code} {q:Pos}:topRun treeTable p w 11 ann0 2 s ⟨doneF .next,c,q,[topFrame pos0]⟩=some s:=rfl
theorem zng {w:World} {os:OsState} {c:Cut} (h:p.main.body.drop c.k=[]) :
  topRun treeTable p w 11 ann0 2 (stT p boots boot_drawn cs c w os).abs (restOf (p.main.body.drop c.k) (env p) (cE p) (posOf p c.k) [topFrame pos0])=some (stT p boots boot_drawn cs c w os).abs:=by
 rw[h];exact piece_nil zqa
theorem chain {w:World} {os:OsState} {a b:Cut} {N M:Nat} {r:Shared} (h:PieceT p boots boot_drawn cs a b N) (le:a.k≤b.k)
  (k:topRun treeTable p w 11 ann0 M (stT p boots boot_drawn cs b w os).abs (restOf (p.main.body.drop b.k) (env p) (cE p) (posOf p b.k) [topFrame pos0])=some r) :
  topRun treeTable p w 11 ann0 (N + M) (stT p boots boot_drawn cs a w os).abs (restOf (p.main.body.drop a.k) (env p) (cE p) (posOf p a.k) [topFrame pos0])=some r:=by
 have e:p.main.body.drop a.k=(p.main.body.drop a.k).take (b.k - a.k)++p.main.body.drop b.k:=by
  have x:=(List.take_append_drop (b.k - a.k) (p.main.body.drop a.k)).symm
  rw[List.drop_drop,Nat.add_sub_cancel' le] at x;exact x
 rw[e];exact piece_app (segRun_of (congrFun (h w) os)) k
theorem zpq {w:World} {os:OsState} {M:Nat} {r:Shared} (pre:PreT p boots boot_drawn boot_heap boot_toks cs ⟨0,15,187⟩) (bl:BlockT p)
  (k:topRun treeTable p w 11 ann0 M (stT p boots boot_drawn cs ⟨0,15,187⟩ w os).abs (restOf (p.main.body.drop 0) (env p) (cE p) (posOf p 0) [topFrame pos0])=some r) :
  topRun treeTable p w 11 ann0 (12 + (1 + M)) ⟨boot_heap w.params,Array.mk [],boot_drawn,boot_toks,os⟩ (topStub p)=some r :=
 go_top (congrFun (pre w) os) (piece_block (bl w _) k)
theorem zp2 {is as:List Nat} {rc:WRecords} {c:Cut} {M N:Nat} {e:∀ P,as=(Kf p boots cs P).map (·.1)}
  (op:opening p=plainProg p.main.scope.names) (hN:Nat.ble 600 N=true) (fe:∀ s,fenceModules? p s=some s)
  (size:∀ w:World,((boot_heap w.params).isNs mainGlobals && (Array.mk []:Array GenState).size == 0,(boot_heap w.params).objs.size,(boot_heap w.params).nsMap mainGlobals "__annotations__")=(true,11,ann0))
  (run:∀ (w:World) (os:OsState),topRun treeTable p w 11 ann0 M ⟨boot_heap w.params,Array.mk [],boot_drawn,boot_toks,os⟩ (topStub p)=some (stT p boots boot_drawn cs c w os).abs) (le:Nat.ble M N=true)
  (hA:LookA p boots boot_drawn boot_heap cs c) (hB:LookB p boots boot_drawn cs c is rc) (hC:LookC p boots cs c as) :
  LeftO p (qv p is) (lz p is c.k) (fun s=>xlAt (qv p is) [] s && recOk rc s) (Hook.obs (kHook (Kf p boots cs) as e)) (Hook.val (kHook (Kf p boots cs) as e)) N :=
 LeftO.of_pieces (H₀:=boot_heap) (H₁:=hpT p boots cs c) (boot_open op hN fe) size run le fun w=>funext fun os=>by
  have a:=congrFun (hA w) os
  have b:=congrFun (hB w) os
  have c:=hC w
  exact looks_pair a (looks_pair b c)
end
end Hx
namespace Me
open PySem PySem.Spec PyProof.Rows L2 L3
def top (i:Nat):Stmt:=PySem.Challenge.pw_thinways_k20_times_judged.main.body.getD i (.Pass ⟨0,0,0,0⟩)
abbrev s_is_whole:Stmt:=top 4
theorem sc_is_whole:FnScope ["thing"] ["thing"] (defScope s_is_whole):=⟨rfl,rfl,rfl,by decide +kernel,rfl,by decide +kernel,by decide +kernel⟩
abbrev s_is_wholes:Stmt:=top 5
theorem sc_is_wholes:FnScope ["thing"] ["thing"] (defScope s_is_wholes):=⟨rfl,rfl,rfl,by decide +kernel,rfl,by decide +kernel,by decide +kernel⟩
abbrev s_is_tuple_of:Stmt:=top 6
theorem sc_is_tuple_of:FnScope ["thing","many"] ["thing","many"] (defScope s_is_tuple_of):=⟨rfl,rfl,rfl,by decide +kernel,rfl,by decide +kernel,by decide +kernel⟩
abbrev s_is_told:Stmt:=top 7
theorem sc_is_told:FnScope ["thing","word","many"] ["thing","word","many"] (defScope s_is_told):=⟨rfl,rfl,rfl,by decide +kernel,rfl,by decide +kernel,by decide +kernel⟩
abbrev s_is_place:Stmt:=top 9
theorem sc_is_place:FnScope ["web","thing"] ["web","thing"] (defScope s_is_place):=⟨rfl,rfl,rfl,by decide +kernel,rfl,by decide +kernel,by decide +kernel⟩
abbrev s_is_tie_number:Stmt:=top 10
theorem sc_is_tie_number:FnScope ["web","thing"] ["web","thing"] (defScope s_is_tie_number):=⟨rfl,rfl,rfl,by decide +kernel,rfl,by decide +kernel,by decide +kernel⟩
abbrev s_whole:Stmt:=top 11
theorem sc_whole:FnScope ["web"] ["web"] (defScope s_whole):=⟨rfl,rfl,rfl,by decide +kernel,rfl,by decide +kernel,by decide +kernel⟩
abbrev s_tie_between:Stmt:=top 12
theorem sc_tie_between:FnScope ["web","a","b","ends","number","tie"] ["web","a","b"] (defScope s_tie_between):=⟨rfl,rfl,rfl,by decide +kernel,rfl,by decide +kernel,by decide +kernel⟩
abbrev s_are_unlike_places:Stmt:=top 14
theorem sc_are_unlike_places:FnScope ["web","thing"] ["web","thing"] (defScope s_are_unlike_places):=⟨rfl,rfl,rfl,by decide +kernel,rfl,by decide +kernel,by decide +kernel⟩
abbrev s_ties_along:Stmt:=top 15
theorem sc_ties_along:FnScope ["web","places"] ["web","places"] (defScope s_ties_along):=⟨rfl,rfl,rfl,by decide +kernel,rfl,by decide +kernel,by decide +kernel⟩
abbrev s_way_right:Stmt:=top 16
theorem sc_way_right:FnScope ["web","keep","way"] ["web","keep","way"] (defScope s_way_right):=⟨rfl,rfl,rfl,by decide +kernel,rfl,by decide +kernel,by decide +kernel⟩
abbrev s_leads_between:Stmt:=top 17
theorem sc_leads_between:FnScope ["web","keep","a","b","way"] ["web","keep","a","b","way"] (defScope s_leads_between):=⟨rfl,rfl,rfl,by decide +kernel,rfl,by decide +kernel,by decide +kernel⟩
abbrev s_way_length:Stmt:=top 18
theorem sc_way_length:FnScope ["web","way"] ["web","way"] (defScope s_way_length):=⟨rfl,rfl,rfl,by decide +kernel,rfl,by decide +kernel,by decide +kernel⟩
abbrev s_tie_weights:Stmt:=top 19
theorem sc_tie_weights:FnScope ["web","weights","weight","tie"] ["web"] (defScope s_tie_weights):=⟨rfl,rfl,rfl,by decide +kernel,rfl,by decide +kernel,by decide +kernel⟩
abbrev s_cost_with:Stmt:=top 20
theorem sc_cost_with:FnScope ["cost","length","weight"] ["cost","length","weight"] (defScope s_cost_with):=⟨rfl,rfl,rfl,by decide +kernel,rfl,by decide +kernel,by decide +kernel⟩
abbrev s_reached_from:Stmt:=top 21
theorem sc_reached_from:FnScope ["web","keep","root","weights","costs","ahead","again","tie","a","b","length","one","other","cost"] ["web","keep","root"] (defScope s_reached_from):=⟨rfl,rfl,rfl,by decide +kernel,rfl,by decide +kernel,by decide +kernel⟩
abbrev s_fars_from:Stmt:=top 22
theorem sc_fars_from:FnScope ["web","keep","root","costs","ahead"] ["web","keep","root"] (defScope s_fars_from):=⟨rfl,rfl,rfl,by decide +kernel,rfl,by decide +kernel,by decide +kernel⟩
abbrev s_tree_from:Stmt:=top 23
theorem sc_tree_from:FnScope ["web","keep","root","costs","ahead"] ["web","keep","root"] (defScope s_tree_from):=⟨rfl,rfl,rfl,by decide +kernel,rfl,by decide +kernel,by decide +kernel⟩
abbrev s_the_way:Stmt:=top 24
theorem sc_the_way:FnScope ["web","keep","a","b","tree","way"] ["web","keep","a","b"] (defScope s_the_way):=⟨rfl,rfl,rfl,by decide +kernel,rfl,by decide +kernel,by decide +kernel⟩
abbrev s_across:Stmt:=top 26
theorem sc_across:FnScope ["web","tie","heights","a","b","length"] ["web","tie","heights"] (defScope s_across):=⟨rfl,rfl,rfl,by decide +kernel,rfl,by decide +kernel,by decide +kernel⟩
abbrev s_heights_hold:Stmt:=top 27
theorem sc_heights_hold:FnScope ["web","keep","heights"] ["web","keep","heights"] (defScope s_heights_hold):=⟨rfl,rfl,rfl,by decide +kernel,rfl,by decide +kernel,by decide +kernel⟩
abbrev s_heights_from:Stmt:=top 28
theorem sc_heights_from:FnScope ["web","keep","a","roof"] ["web","keep","a","roof"] (defScope s_heights_from):=⟨rfl,rfl,rfl,by decide +kernel,rfl,by decide +kernel,by decide +kernel⟩
abbrev s_need_times:Stmt:=top 30
theorem sc_need_times:FnScope ["t"] ["t"] (defScope s_need_times):=⟨rfl,rfl,rfl,by decide +kernel,rfl,by decide +kernel,by decide +kernel⟩
abbrev s_not_kept:Stmt:=top 31
theorem sc_not_kept:FnScope ["web","keep"] ["web","keep"] (defScope s_not_kept):=⟨rfl,rfl,rfl,by decide +kernel,rfl,by decide +kernel,by decide +kernel⟩
abbrev s_way_of:Stmt:=top 32
theorem sc_way_of:FnScope ["web","keep","tie","a","b","length"] ["web","keep","tie"] (defScope s_way_of):=⟨rfl,rfl,rfl,by decide +kernel,rfl,by decide +kernel,by decide +kernel⟩
abbrev s_is_within:Stmt:=top 33
theorem sc_is_within:FnScope ["web","tie","t","way"] ["web","tie","t","way"] (defScope s_is_within):=⟨rfl,rfl,rfl,by decide +kernel,rfl,by decide +kernel,by decide +kernel⟩
abbrev s_heights_of:Stmt:=top 34
theorem sc_heights_of:FnScope ["web","keep","tie","t","a","b","length"] ["web","keep","tie","t"] (defScope s_heights_of):=⟨rfl,rfl,rfl,by decide +kernel,rfl,by decide +kernel,by decide +kernel⟩
abbrev s_way_within:Stmt:=top 35
theorem sc_way_within:FnScope ["web","keep","tie","t","way","a","b","length"] ["web","keep","tie","t","way"] (defScope s_way_within):=⟨rfl,rfl,rfl,by decide +kernel,rfl,by decide +kernel,by decide +kernel⟩
abbrev s_heights_beyond:Stmt:=top 36
theorem sc_heights_beyond:FnScope ["web","keep","tie","t","heights"] ["web","keep","tie","t","heights"] (defScope s_heights_beyond):=⟨rfl,rfl,rfl,by decide +kernel,rfl,by decide +kernel,by decide +kernel⟩
abbrev s_times_told:Stmt:=top 37
theorem sc_times_told:FnScope ["web","keep","t","ways","tie","way"] ["web","keep","t"] (defScope s_times_told):=⟨rfl,rfl,rfl,by decide +kernel,rfl,by decide +kernel,by decide +kernel⟩
abbrev s_ways_right:Stmt:=top 38
theorem sc_ways_right:FnScope ["web","keep","t","ways","ties"] ["web","keep","t","ways"] (defScope s_ways_right):=⟨rfl,rfl,rfl,by decide +kernel,rfl,by decide +kernel,by decide +kernel⟩
abbrev s_far_right:Stmt:=top 39
theorem sc_far_right:FnScope ["web","keep","t","tie","heights"] ["web","keep","t","tie","heights"] (defScope s_far_right):=⟨rfl,rfl,rfl,by decide +kernel,rfl,by decide +kernel,by decide +kernel⟩
abbrev s_times_right:Stmt:=top 40
theorem sc_times_right:FnScope ["web","keep","t","told"] ["web","keep","t","told"] (defScope s_times_right):=⟨rfl,rfl,rfl,by decide +kernel,rfl,by decide +kernel,by decide +kernel⟩
abbrev s__law_pot:Stmt:=top 42
theorem sc__law_pot:FnScope ["script","k","cell","prime"] ["script","k"] (defScope s__law_pot):=⟨rfl,rfl,rfl,by decide +kernel,rfl,by decide +kernel,by decide +kernel⟩
abbrev s__law_take:Stmt:=top 43
theorem sc__law_take:FnScope ["pot","many","found"] ["pot","many"] (defScope s__law_take):=⟨rfl,rfl,rfl,by decide +kernel,rfl,by decide +kernel,by decide +kernel⟩
abbrev s__law_length:Stmt:=top 44
theorem sc__law_length:FnScope ["pot","way"] ["pot","way"] (defScope s__law_length):=⟨rfl,rfl,rfl,by decide +kernel,rfl,by decide +kernel,by decide +kernel⟩
abbrev s__law_tied:Stmt:=top 45
theorem sc__law_tied:FnScope ["pot","n","style","a","b","beside"] ["pot","n","style","a","b"] (defScope s__law_tied):=⟨rfl,rfl,rfl,by decide +kernel,rfl,by decide +kernel,by decide +kernel⟩
abbrev s__law_order:Stmt:=top 46
theorem sc__law_order:FnScope ["pot","many","left","found","turn"] ["pot","many"] (defScope s__law_order):=⟨rfl,rfl,rfl,by decide +kernel,rfl,by decide +kernel,by decide +kernel⟩
abbrev s__law_web:Stmt:=top 47
theorem sc__law_web:FnScope ["pot","most","n","style","way","names","ties","b","a","one","other"] ["pot","most"] (defScope s__law_web):=⟨rfl,rfl,rfl,by decide +kernel,rfl,by decide +kernel,by decide +kernel⟩
abbrev s__law_keep:Stmt:=top 48
theorem sc__law_keep:FnScope ["pot","web","way"] ["pot","web"] (defScope s__law_keep):=⟨rfl,rfl,rfl,by decide +kernel,rfl,by decide +kernel,by decide +kernel⟩
abbrev s__law_fars:Stmt:=top 49
theorem sc__law_fars:FnScope ["web","keep","start","found","turn","number","a","b","length","one","other","more"] ["web","keep","start"] (defScope s__law_fars):=⟨rfl,rfl,rfl,by decide +kernel,rfl,by decide +kernel,by decide +kernel⟩
abbrev s__law_outside:Stmt:=top 50
theorem sc__law_outside:FnScope ["web","keep"] ["web","keep"] (defScope s__law_outside):=⟨rfl,rfl,rfl,by decide +kernel,rfl,by decide +kernel,by decide +kernel⟩
abbrev s__law_some_times:Stmt:=top 51
theorem sc__law_some_times:FnScope ["pot","web","keep","t","outside","a","b","length","found"] ["pot","web","keep"] (defScope s__law_some_times):=⟨rfl,rfl,rfl,by decide +kernel,rfl,by decide +kernel,by decide +kernel⟩
abbrev s__law_case:Stmt:=top 52
theorem sc__law_case:FnScope ["pot","most","web","keep"] ["pot","most"] (defScope s__law_case):=⟨rfl,rfl,rfl,by decide +kernel,rfl,by decide +kernel,by decide +kernel⟩
abbrev s__law_along:Stmt:=top 53
theorem sc__law_along:FnScope ["web","keep","way","lengths","number","a","b","length","total","step"] ["web","keep","way"] (defScope s__law_along):=⟨rfl,rfl,rfl,by decide +kernel,rfl,by decide +kernel,by decide +kernel⟩
abbrev s__law_good:Stmt:=top 54
theorem sc__law_good:FnScope ["web","keep","t","told","outside","number","way","a","b","length","found","word","tie","heights"] ["web","keep","t","told"] (defScope s__law_good):=⟨rfl,rfl,rfl,by decide +kernel,rfl,by decide +kernel,by decide +kernel⟩
abbrev s__law_walk:Stmt:=top 55
theorem sc__law_walk:FnScope ["pot","web","keep","a","b","way","turn","left","number","one","other","length"] ["pot","web","keep","a","b"] (defScope s__law_walk):=⟨rfl,rfl,rfl,by decide +kernel,rfl,by decide +kernel,by decide +kernel⟩
abbrev s__law_spoilt_row:Stmt:=top 56
theorem sc__law_spoilt_row:FnScope ["pot","row","many","way","at","other","found","number","some"] ["pot","row","many"] (defScope s__law_spoilt_row):=⟨rfl,rfl,rfl,by decide +kernel,rfl,by decide +kernel,by decide +kernel⟩
abbrev s__law_heights:Stmt:=top 57
theorem sc__law_heights:FnScope ["pot","web","keep","t","tie","a","b","length","start","cut","roof","shift","sign"] ["pot","web","keep","t","tie"] (defScope s__law_heights):=⟨rfl,rfl,rfl,by decide +kernel,rfl,by decide +kernel,by decide +kernel⟩
abbrev s__law_other:Stmt:=top 58
theorem sc__law_other:FnScope ["pot","web","keep","t","outside","tie"] ["pot","web","keep","t"] (defScope s__law_other):=⟨rfl,rfl,rfl,by decide +kernel,rfl,by decide +kernel,by decide +kernel⟩
abbrev s__law_spoilt_ways:Stmt:=top 59
theorem sc__law_spoilt_ways:FnScope ["pot","ways","many","way","at"] ["pot","ways","many"] (defScope s__law_spoilt_ways):=⟨rfl,rfl,rfl,by decide +kernel,rfl,by decide +kernel,by decide +kernel⟩
abbrev s__law_spoilt:Stmt:=top 60
theorem sc__law_spoilt:FnScope ["pot","web","told","word","tie","heights","ties","some"] ["pot","web","told"] (defScope s__law_spoilt):=⟨rfl,rfl,rfl,by decide +kernel,rfl,by decide +kernel,by decide +kernel⟩
abbrev s__law_right:Stmt:=top 61
theorem sc__law_right:FnScope ["web","keep","t","told","handed","found"] ["web","keep","t","told"] (defScope s__law_right):=⟨rfl,rfl,rfl,by decide +kernel,rfl,by decide +kernel,by decide +kernel⟩
abbrev s_law:Stmt:=top 62
theorem sc_law:FnScope ["script","k","pot","web","keep","t","told","turn","paper","one"] ["script"] (defScope s_law):=⟨rfl,rfl,rfl,by decide +kernel,rfl,by decide +kernel,by decide +kernel⟩
section
variable {P:Program} {w:World} {K:PySem.W.Frag} {mg:Str->Option Value} {base:Heap}
theorem zhy (T:Bi mg) (D:DefOk K mg "_law_take" s__law_take ["pot","many"]):Ok P w K mg base 1 "_law_take" ["pot","many"] spTake:=by
 refine za2 (k:=0) D sc__law_take (fun vs H Q E h=>?_) (fun f cdv A outer s H vs Q E hr h=>?_)
 ·obtain⟨p,m,rfl,_⟩:=h
  rfl
 obtain⟨p,m,rfl,⟨a,b,hp,ha,hb,hb2⟩,hm,hm2,q⟩:=h
 have nd:=sc__law_take.nd
 refine⟨_,(zad (za6 (zan zeb (zam zaw (pv 0) zac (fun _ _=>rfl)) zac (nomark _)) (zad (zas (i:=2) nd rfl (Or.inl rfl) (zar zcf (zam zaw (pv 0) zac (fun _ _=>rfl)) (pv 1))) (zad (zbc (zar zmg (zam zaw (pv 0) zac (fun _ _=>rfl)) (pv 1)) (zdn (pv 0) zac zbz)) (zaf (zaj (pv 2))))) zau) (zad (zbc (zar zcf (zar zba (zar zb8 (zam zaw (pv 0) zac (fun _ _=>rfl)) zac) zac) zac) (zdn (pv 0) zac zbz)) (zaf (zaj (zar zcf (zar zmg (zar zcf (zar zby (zam zaw (pv 0) zac (fun _ _=>rfl)) zac) zac) zac) (pv 1)))))),?_⟩
 refine⟨_,rfl,p,_,_,_,rfl,rfl,SqL.of hp,rfl,_,_,rfl,rfl,_,rfl,?_⟩
 refine ite2 (fun c=>?_) (fun c=>?_)
 ·refine⟨_,rfl,p,_,_,_,rfl,rfl,SqL.of hp,rfl,_,rfl,_,_,rfl,rfl,hm,?_⟩
  refine⟨_,rfl,p,_,_,_,rfl,rfl,SqL.of hp,rfl,_,rfl,_,_,rfl,rfl,⟨hm,hm2⟩,?_⟩
  refine⟨_,rfl,p,_,0,0,rfl,rfl,hp,rfl,_,rfl,?_⟩
  refine q _ _ (Int.emod_nonneg _ (by trivial)) (Int.emod_lt_of_pos _ hm) But.upd ⟨a / m,b,zak,Int.ediv_nonneg ha (by trivial),hb,hb2⟩
 ·refine⟨_,rfl,p,_,_,_,rfl,rfl,SqL.of hp,rfl,_,_,rfl,rfl,.inr ⟨by decide,by decide⟩,_,_,rfl,rfl,_,_,rfl,rfl,(by show (0:Int) < 2147483647;decide),?_⟩
  refine⟨_,rfl,p,_,1,1,rfl,rfl,hp,rfl,?_⟩
  have n1:0≤(b * 48271 + 12820163) % 2147483647:=Int.emod_nonneg _ (by decide)
  have n2:(b * 48271 + 12820163) % 2147483647 < 2147483647:=Int.emod_lt_of_pos _ (by decide)
  refine⟨_,rfl,p,_,_,_,rfl,rfl,SqL.of zak,rfl,_,_,rfl,rfl,⟨by decide,by decide,by trivial⟩,_,_,rfl,rfl,(by show (0:Int) < 2147483629;decide),_,_,rfl,rfl,⟨by decide,by decide⟩,_,rfl,_,_,rfl,rfl,hm,?_⟩
  exact q _ _ (Int.emod_nonneg _ (by trivial)) (Int.emod_lt_of_pos _ hm) But.upd ⟨a,_,zak,ha,n1,n2⟩
theorem zjn (T:Bi mg) (D:DefOk K mg "_law_pot" s__law_pot ["script","k"]):Ok P w K mg base 1 "_law_pot" ["script","k"] (spPot K):=by
 refine za2 (k:=0) D sc__law_pot (fun vs H Q E h=>?_) (fun f cdv A outer s H vs Q E hr h=>?_)
 ·obtain⟨a,k,ns,rfl,_⟩:=h
  rfl
 obtain⟨a,k,ns,rfl,hS,hk0,hk1,q⟩:=h
 have nd:=sc__law_pot.nd
 have hl:(ns.map V.int).length=ns.length:=List.length_map _
 refine⟨_,(zad (zas (i:=2) nd rfl (Or.inl rfl) zac) (zad (za6 (zan zgl (pv 1) (zai zal rfl T.z_len (by decide +kernel) (zaa (pv 0) zab)) (nomark _)) (zaf (zas (i:=2) nd rfl (Or.inl rfl) (zar zcf (zam zaw (pv 0) (pv 1) (fun _ _=>rfl)) (zar zme (zar zme (zar zby zac zac) (zar zby zac zac)) (zar zby zac zac))))) zau) (zad (zas (i:=3) nd rfl (Or.inl rfl) (zam zaw (zeq (zaa zac (zaa zac (zaa zac (zaa zac (zaa zac zab)))))) (zar zcf (pv 1) zac) (fun _ _=>rfl))) (zaf (zaj (zeq (zaa (zai (zdw rfl) rfl T.z_max (by decide +kernel) (zaa zac (zaa (zar zb4 (pv 2) (zar zby zac zac)) zab))) (zaa (zar zcf (zar zby (zar zba (zar zba (zar zcf (pv 2) (pv 3)) (zar zb8 zac (pv 1))) zac) zac) zac) zab)))))))),?_⟩
  -- behind the test: cell is some number that is not below nought
 have rest : ∀ (cell : Int), 0 ≤ cell → ∀ (σ : L2.St), σ = [some (.ref a), some (.int k), some (.int cell), none] →
     (tSeq (tAsg (tOp (rIxL K) (tLst (tCons (tC (.int 2147483629)) (tCons (tC (.int 2147483587)) (tCons (tC (.int 2147483579)) (tCons (tC (.int 2147483563)) (tCons (tC (.int 2147483549)) tNil)))))) (tOp (rI (fun _ j=>0 < j) fun i j=>.int (i % j)) (tVar 1) (tC (.int 5)))) (gName 3))
       (tRet (tLst (tCons (tCB (fun xs H Q=>∃ i j,xs=[.int i,.int j]∧Q (.int (if j > i then j else i)) H) (tCons (tC (.int 0)) (tCons (tOp (rI0 fun i j=>.int (i - j)) (tVar 2) (tOp (rI CPow fun i j=>.int (i ^ j.toNat)) (tC (.int 10)) (tC (.int 18)))) tNil)))
         (tCons (tOp (rI (fun _ j=>0 < j) fun i j=>.int (i % j)) (tOp (rI CPow fun i j=>.int (i ^ j.toNat)) (tOp (rI0 fun i j=>.int (i + j)) (tOp (rI0 fun i j=>.int (i + j)) (tOp (rI (fun _ j=>0 < j) fun i j=>.int (i % j)) (tVar 2) (tVar 3)) (tOp (rI CMul fun i j=>.int (i * j)) (tC (.int 7919)) (tVar 1))) (tC (.int 11))) (tC (.int 3))) (tC (.int 2147483647))) tNil)))))
       { nx:=fun _ H'=>Q .non H',rt:=Q } σ H:=by
  intro cell hc σ hσ
  subst hσ
  refine⟨(by show 5≤sizeLine;decide),fun l hl=>?_⟩
  refine⟨_,rfl,_,_,rfl,rfl,(by show (0:Int) < 5;decide),?_⟩
  have m0:0≤k % 5:=Int.emod_nonneg _ (by decide)
  have m1:k % 5 < 5:=Int.emod_lt_of_pos _ (by decide)
  have pr:∃ v:Int,atI [V.int 2147483629,V.int 2147483587,V.int 2147483579,V.int 2147483563,V.int 2147483549] (k % 5)=some (.int v)∧2147483549≤v∧v≤2147483629:=by
   have:k % 5=0∨k % 5=1∨k % 5=2∨k % 5=3∨k % 5=4:=by trivial
   rcases this with e | e | e | e | e <;> rw[e] <;> exact⟨_,rfl,by decide,by decide⟩
  obtain⟨v,hv,v1,v2⟩:=pr
  refine⟨l,_,_,_,rfl,rfl,SqL.of zak,hv,?_⟩
  have S1:Same H (upd H l (.lst [V.int 2147483629,V.int 2147483587,V.int 2147483579,V.int 2147483563,V.int 2147483549])):=zav hl
  refine⟨_,rfl,_,_,rfl,rfl,⟨by decide,by decide,by decide⟩,_,_,rfl,rfl,_,_,rfl,?_⟩
  refine⟨_,rfl,_,rfl,_,_,rfl,rfl,(by show (0:Int) < v;trivial),_,rfl,_,_,rfl,rfl,.inl ⟨by decide,by decide⟩,_,_,rfl,rfl,_,_,rfl,rfl,_,_,rfl,rfl,⟨by decide,by decide,?_⟩,_,_,rfl,rfl,(by show (0:Int) < 2147483647;decide),?_⟩
  ·have c0:0≤cell % v:=Int.emod_nonneg _ (by trivial)
   have c1:cell % v < v:=Int.emod_lt_of_pos _ (by trivial)
   trivial
  refine⟨(by show 2≤sizeLine;decide),fun l2 hl2=>?_⟩
  refine q l2 _ (S1.trans (zav hl2)) (S1.free hl2) ⟨_,_,zak,?_,Int.emod_nonneg _ (by decide),Int.emod_lt_of_pos _ (by decide)⟩
  split <;> trivial
 refine⟨_,rfl,_,rfl,a,_,rfl,.inl hS,_,_,rfl,rfl,_,rfl,?_⟩
 refine ite2 (fun c=>?_) (fun c=>?_)
 ·have c':k < (((ns.map V.int).length:Nat):Int):=of_decide_eq_true c
  rw[hl] at c'
  obtain⟨v,hv⟩:∃ v:Int,atI (ns.map V.int) k=some (.int v):=by
   have hk:k.toNat < ns.length:=by trivial
   have ek:k=((k.toNat:Nat):Int):=by trivial
   have z:atI (ns.map V.int) ((k.toNat:Nat):Int)=some (.int ns[k.toNat]):=znn (by rw[List.getElem?_map,List.getElem?_eq_getElem hk] <;> rfl)
   rw[← ek] at z
   exact⟨_,z⟩
  refine⟨_,rfl,_,rfl,a,_,_,_,rfl,rfl,hS,hv,?_⟩
  refine⟨_,_,rfl,rfl,⟨by decide,by decide,by decide⟩,_,_,rfl,rfl,⟨by decide,by decide,by decide⟩,_,_,rfl,rfl,mulB,_,_,rfl,rfl,⟨by decide,by decide,by decide⟩,_,_,rfl,rfl,mulB2,_,_,rfl,rfl,posB,?_⟩
  exact rest _ (Int.emod_nonneg _ (by have:=posB;trivial)) _ rfl
 ·exact rest 5 (by decide) _ rfl
theorem zfo (T:Bi mg) (D:DefOk K mg "_law_length" s__law_length ["pot","way"]) (O__law_take:Ok P w K mg base 1 "_law_take" ["pot","many"] spTake):Ok P w K mg base 2 "_law_length" ["pot","way"] spLength:=by
 refine za2 (k:=1) D sc__law_length (fun vs H Q E h=>?_) (fun f cdv A outer s H vs Q E hr h=>?_)
 ·obtain⟨p,y,rfl,_⟩:=h
  rfl
 obtain⟨p,y,rfl,hp,hy0,hy5,q⟩:=h
 have nd:=sc__law_length.nd
 refine⟨_,(zad (za6 (zan zgl (pv 1) zac (nomark _)) (zaf (zaj (zam zaw (zeq (zaa zac (zaa (zar zba zac (zae O__law_take hr rfl (zaa (pv 0) (zaa zac zab)))) zab))) (pv 1) (fun _ _=>rfl)))) zau) (zad (za6 (zan zbb (pv 1) zac (nomark _)) (zaf (zaj (zar zba zac (zae O__law_take hr rfl (zaa (pv 0) (zaa zac zab)))))) zau) (zad (za6 (zan zbb (pv 1) zac (nomark _)) (zaf (zaj (zam zaw (zeq (zaa zac (zaa zac (zaa zac (zaa (zar zby zac zac) (zaa (zar zb4 (zar zby zac zac) zac) (zaa (zar zby zac zac) zab))))))) (zae O__law_take hr rfl (zaa (pv 0) (zaa zac zab))) (fun _ _=>rfl)))) zau) (zaf (zaj (zar zba zac (zar zb8 (zae O__law_take hr rfl (zaa (pv 0) (zaa (zar zby zac zac) zab))) (zae O__law_take hr rfl (zaa (pv 0) (zaa (zar zba (zar zby zac zac) zac) zab)))))))))),?_⟩
 refine⟨_,rfl,_,_,rfl,rfl,_,rfl,?_⟩
 refine ite2 (fun c=>?_) (fun c=>?_)
 ·have c':y < 2:=of_decide_eq_true c
  refine⟨_,rfl,p,3,rfl,hp,by decide,by decide,fun r H1 r0 r1 b1 p1=>?_⟩
  refine⟨_,_,rfl,rfl,(by show 2≤sizeLine;decide),fun l hl=>?_⟩
  have at_:∃ v:Int,atI [V.int 1,V.int (1 + r)] y=some (.int v)∧1≤v∧v≤10 ^ 18:=by
   have:y=0∨y=1:=by trivial
   rcases this with e | e <;> rw[e]
   ·exact⟨1,rfl,by decide +kernel,by decide +kernel⟩
   ·exact⟨1 + r,rfl,by trivial,by trivial⟩
  obtain⟨v,hv,v0,v1⟩:=at_
  refine⟨_,rfl,l,_,_,_,rfl,rfl,SqL.of zak,hv,?_⟩
  obtain⟨a',b',e',z⟩:=p1
  exact q v _ v0 v1 (b1.trans (But.new hl)) ⟨a',b',(zav hl) _ _ e',z⟩
 refine⟨_,rfl,rfl,_,rfl,?_⟩
 refine ite2 (fun c2=>?_) (fun c2=>?_)
 ·refine⟨_,rfl,p,50,rfl,hp,by decide,by decide,fun r H1 r0 r1 b1 p1=>?_⟩
  exact⟨_,_,rfl,rfl,q _ _ (by trivial) (by trivial) b1 p1⟩
 refine⟨_,rfl,rfl,_,rfl,?_⟩
 refine ite2 (fun c3=>?_) (fun c3=>?_)
 ·refine⟨_,_,rfl,rfl,⟨by decide,by decide,by decide⟩,_,_,rfl,rfl,⟨by decide,by decide,by decide⟩,_,_,rfl,rfl,_,_,rfl,rfl,⟨by decide,by decide,by decide⟩,(by show 6≤sizeLine;decide),fun l hl=>?_⟩
  have hp':Pot (upd H l (.lst [V.int 1,V.int 2,V.int 3,V.int ((10:Int) ^ (18:Int).toNat),V.int ((10:Int) ^ (18:Int).toNat - 1),V.int ((10:Int) ^ (17:Int).toNat)])) p:=by
   obtain⟨a',b',e',z⟩:=hp
   exact⟨a',b',(zav hl) _ _ e',z⟩
  have lp:l≠p:=by
   obtain⟨a',b',e',z⟩:=hp
   exact fun e=>by rw[e,e'] at hl;cases hl
  refine⟨_,rfl,p,6,rfl,hp',by decide,by decide,fun r H1 r0 r1 b1 p1=>?_⟩
  have at_:∃ v:Int,atI [V.int 1,V.int 2,V.int 3,V.int ((10:Int) ^ (18:Int).toNat),V.int ((10:Int) ^ (18:Int).toNat - 1),V.int ((10:Int) ^ (17:Int).toNat)] r=some (.int v)∧1≤v∧v≤10 ^ 18:=by
   have:r=0∨r=1∨r=2∨r=3∨r=4∨r=5:=by trivial
   rcases this with e | e | e | e | e | e <;> rw[e] <;> exact⟨_,rfl,by decide +kernel,by decide +kernel⟩
  obtain⟨v,hv,v0,v1⟩:=at_
  refine⟨l,_,_,_,rfl,rfl,SqL.of (b1 _ _ lp zak),hv,?_⟩
  exact q v _ v0 v1 ((But.new hl).trans b1) p1
 ·refine⟨_,rfl,_,_,rfl,rfl,⟨by decide,by decide,by decide⟩,p,_,rfl,hp,by decide,by decide,fun r H1 r0 r1 b1 p1=>?_⟩
  refine⟨_,rfl,_,_,rfl,rfl,⟨by decide,by decide,by decide⟩,_,_,rfl,rfl,p,_,rfl,p1,by decide,by decide,fun r2 H2 r20 r21 b2 p2=>?_⟩
  have e9:((10:Int) ^ (9:Int).toNat)=1000000000:=by decide
  rw[e9] at r1 r21
  refine⟨_,_,rfl,rfl,.inl ⟨by trivial,by trivial⟩,_,_,rfl,rfl,?_⟩
  have m0:0≤r * r2:=Int.mul_nonneg r0 r20
  have m1:r * r2≤999999999 * 1000000000:=Int.mul_le_mul (by trivial) (by trivial) r20 (by decide)
  exact q _ _ (by trivial) (by trivial) (b1.trans b2) p2
theorem zhx (T:Bi mg) (D:DefOk K mg "_law_tied" s__law_tied ["pot","n","style","a","b"]) (O__law_take:Ok P w K mg base 1 "_law_take" ["pot","many"] spTake):Ok P w K mg base 2 "_law_tied" ["pot","n","style","a","b"] spTied:=by
 refine za2 (k:=1) D sc__law_tied (fun vs H Q E h=>?_) (fun f cdv A outer s H vs Q E hr h=>?_)
 ·obtain⟨p,n,y,a,b,rfl,_⟩:=h
  rfl
 obtain⟨p,n,y,a,b,rfl,hp,q⟩:=h
 have nd:=sc__law_tied.nd
 have q0:∀ k,Q (.bl k) H:=fun k=>q k H But.refl hp
 refine⟨_,(zad (zas (i:=5) nd rfl (Or.inl rfl) (zpv (zaz zbb (zar zb4 (pv 4) (pv 3)) zac (nomark _)) (zbs (zaz zbb (zar zb4 (pv 4) (pv 3)) (zar zb4 (pv 1) zac) (nomark _))))) (zad (za6 (zan zgl (pv 2) zac (nomark _)) (zaf (zaj (zpv (pv 5) (zbs (zbv (zaz zbb (pv 2) zac (nomark _)) (zbs (zaz zbb (zae O__law_take hr rfl (zaa (pv 0) (zaa zac zab))) zac (nomark _)))))))) zau) (zad (za6 (zan zgl (pv 2) zac (nomark _)) (zaf (zaj (zaz zbb (zaz zeb (zae O__law_take hr rfl (zaa (pv 0) (zaa zac zab))) zac (nomark _)) (zaz zbb (pv 2) zac (nomark _)) (nomark _)))) zau) (zad (za6 (zan zbb (pv 2) zac (nomark _)) (zaf (zaj (zpv (zaz zbb (zar zb4 (pv 4) (pv 3)) zac (nomark _)) (zbs (zbv (zaz zbb (zar zb4 (pv 4) (pv 3)) zac (nomark _)) (zbs (zaz zeb (zar zcf (pv 4) zac) zac (nomark _)))))))) zau) (zad (za6 (zan zgl (pv 2) zac (nomark _)) (zaf (zaj (zbv (zaz zbb (zaz zbb (zar zcf (pv 3) zac) (zar zcf (pv 4) zac) (nomark _)) (zaz zbb (pv 2) zac (nomark _)) (nomark _)) (zbs (zaz zeb (zae O__law_take hr rfl (zaa (pv 0) (zaa zac zab))) zac (nomark _)))))) zau) (zaf (zaj zcn))))))),?_⟩
 refine⟨_,rfl,_,rfl,_,_,rfl,rfl,rfl,_,rfl,?_⟩
 refine ite2 (fun c=>?_) (fun c=>?_)
 all_goals (try refine⟨_,rfl,_,rfl,_,_,rfl,rfl,_,rfl,_,_,rfl,rfl,rfl,?_⟩)
 all_goals
  refine⟨_,rfl,_,_,rfl,rfl,_,rfl,?_⟩
  refine ite2 (fun c1=>?_) (fun c1=>?_)
  ·refine⟨_,rfl,_,rfl,?_⟩
   refine ite2 (fun d=>?_) (fun d=>?_)
   ·exact q0 _
   ·refine⟨_,rfl,rfl,_,rfl,?_⟩
    refine ite2 (fun d=>?_) (fun d=>?_)
    ·exact⟨_,rfl,p,_,rfl,hp,by decide,by decide,fun r H' _ _ b1 p1=>⟨rfl,q _ _ b1 p1⟩⟩
    ·exact q0 _
  refine⟨_,rfl,_,_,rfl,rfl,_,rfl,?_⟩
  refine ite2 (fun c2=>?_) (fun c2=>?_)
  ·exact⟨_,rfl,p,_,rfl,hp,by decide,by decide,fun r H' _ _ b1 p1=>⟨_,_,rfl,rfl,_,rfl,rfl,rfl,q _ _ b1 p1⟩⟩
  refine⟨_,rfl,rfl,_,rfl,?_⟩
  refine ite2 (fun c3=>?_) (fun c3=>?_)
  ·refine⟨_,rfl,_,rfl,_,_,rfl,rfl,rfl,_,rfl,?_⟩
   refine ite2 (fun d=>?_) (fun d=>?_)
   ·exact q0 _
   ·refine⟨_,rfl,_,rfl,_,_,rfl,rfl,rfl,_,rfl,?_⟩
    refine ite2 (fun d=>?_) (fun d=>?_)
    ·exact⟨_,rfl,_,_,rfl,rfl,(by show (0:Int) < 3;decide),_,_,rfl,rfl,q0 _⟩
    ·exact q0 _
  refine⟨_,rfl,_,_,rfl,rfl,_,rfl,?_⟩
  refine ite2 (fun c4=>?_) (fun c4=>?_)
  ·refine⟨_,rfl,_,_,rfl,rfl,(by show (0:Int) < 2;decide),_,rfl,_,_,rfl,rfl,(by show (0:Int) < 2;decide),rfl,_,rfl,rfl,rfl,_,rfl,?_⟩
   refine ite2 (fun d=>?_) (fun d=>?_)
   ·exact⟨_,rfl,p,_,rfl,hp,by decide,by decide,fun r H' _ _ b1 p1=>⟨_,_,rfl,rfl,q _ _ b1 p1⟩⟩
   ·exact q0 _
  ·exact q0 _
theorem zgs (T:Bi mg) (D:DefOk K mg "_law_order" s__law_order ["pot","many"]) (O__law_take:Ok P w K mg base 1 "_law_take" ["pot","many"] spTake):Ok P w K mg base 2 "_law_order" ["pot","many"] spOrder:=by
 refine za2 (k:=1) D sc__law_order (fun vs H Q E h=>?_) (fun f cdv A outer s H vs Q E hr h=>?_)
 ·obtain⟨p,m,rfl,_⟩:=h
  rfl
 obtain⟨p,m,rfl,hp,hm0,hm1,q⟩:=h
 have nd:=sc__law_order.nd
 refine⟨_,(zad (zas (i:=2) nd rfl (Or.inl rfl) (za1 (zg5 rfl) rfl T.z_list (by decide +kernel) (zaa (za1 zga rfl T.z_range (by decide +kernel) (zaa (pv 1) zab)) zab))) (zad (zas (i:=3) nd rfl (Or.inl rfl) (zeq zab)) (zad (zbm PassesOwn.never rfl (zbq rfl T.z_range (zaa (pv 1) zab)) (zag (i:=4) nd rfl (Or.inl rfl)) (zaf (zcb (zgi PySem.F.plainAttrs_list PySem.F.slot_list_append PySem.F.type_list_append zdr (pv 3) (zaa (zgi PySem.F.plainAttrs_list PySem.F.slot_list_pop PySem.F.type_list_pop zof (pv 2) (zaa (zae O__law_take hr rfl (zaa (pv 0) (zaa (zai zal rfl T.z_len (by decide +kernel) (zaa (pv 2) zab)) zab))) zab)) zab))))) (zaf (zaj (pv 3)))))),?_⟩
 refine⟨_,rfl,m,rfl,fun g hg=>?_⟩
 refine⟨g,m,rfl,zak,hm0,hm1,fun l hl=>?_⟩
 refine⟨(by show 0≤sizeLine;decide),fun l2 hl2=>?_⟩
 obtain⟨H0,eH0⟩:∃ H0,H0=upd (upd (upd H g (.rng 0 m)) l (.lst ((List.range m.toNat).map fun i:Nat=>V.int (i:Int)))) l2 (.lst []):=⟨_,rfl⟩
 rw[← eH0]
 have S1:Same H (upd H g (.rng 0 m)):=zav hg
 have S2:=S1.trans (zav (o:=.lst ((List.range m.toNat).map fun i:Nat=>V.int (i:Int))) hl)
 have S3:Same H H0:=by rw[eH0];exact S2.trans (zav hl2)
 have fl:H l=none:=S1.free hl
 have fl2:H l2=none:=S2.free hl2
 have ll2:l≠l2:=fun e=>by rw[← e,zak] at hl2;cases hl2
 have el:H0 l=some (.lst ((List.range m.toNat).map fun i:Nat=>V.int (i:Int))):=by rw[eH0,zat ll2,zak]
 have el2:H0 l2=some (.lst []):=by rw[eH0,zak]
 have hp0:Pot H0 p:=by
  obtain⟨a,b,e,z⟩:=hp
  exact⟨a,b,S3 _ _ e,z⟩
 have nlp:l≠p:=by
  obtain⟨a,b,e,z⟩:=hp
  exact fun x=>by rw[x,e] at fl;cases fl
 have nl2p:l2≠p:=by
  obtain⟨a,b,e,z⟩:=hp
  exact fun x=>by rw[x,e] at fl2;cases fl2
 refine⟨_,rfl,m,rfl,by trivial,by trivial,?_⟩
 refine zb6 (n:=m.toNat) (fun i σ H'=>∃ (t:Option V) (ls ms:List Int),σ=[some (.ref p),some (.int m),some (.ref l),some (.ref l2),t]∧H' l=some (.lst (ls.map V.int))∧H' l2=some (.lst (ms.map V.int))∧Pot H' p ∧
  (∀ b o,b≠p->H b=some o->H' b=some o)∧(ms++ls).Perm ((List.range m.toNat).map fun i:Nat=>(i:Int))∧ms.length=i) ?start ?turn ?fin
 case start=>exact⟨none,(List.range m.toNat).map fun i:Nat=>(i:Int),[],rfl,by rw[el,List.map_map];rfl,el2,hp0,fun b o _ e=>S3 b o e,List.Perm.refl _,rfl⟩
 case turn =>
  rintro i σ H' hi ⟨t,ls,ms,rfl,e1,e2,hp',kp,pm,hl'⟩
  have hlen:ls.length=m.toNat - i:=by
   have:=pm.length_eq
   rw[List.length_append,List.length_map,List.length_range] at this
   trivial
  refine⟨_,rfl,.inl ⟨rfl,_,SqL.of e2⟩,_,rfl,.inl ⟨rfl,_,SqL.of e1⟩,_,rfl,_,rfl,l,_,rfl,.inl (SqL.of e1),?_⟩
  refine⟨p,_,rfl,hp',(by rw[List.length_map];trivial),(by rw[List.length_map];trivial),fun r H1 r0 r1 b1 p1=>?_⟩
  rw[List.length_map] at r1
  have hr1:r.toNat < ls.length:=by trivial
  have er:r=((r.toNat:Nat):Int):=by trivial
  have six:seqIndex? r (ls.map V.int).length=some r.toNat:=(zjq (by unfold ixN;rw[if_pos r0,if_pos (by rw[List.length_map];trivial)])).1
  refine⟨l,_,r,r.toNat,.int ls[r.toNat],rfl,rfl,b1 _ _ nlp e1,by trivial,by trivial,six,by rw[List.getElem?_map,List.getElem?_eq_getElem hr1];rfl,?_⟩
  refine⟨l2,_,_,rfl,rfl,by rw[zat ll2.symm];exact b1 _ _ nl2p e2,?_,?_⟩
  ·rw[List.length_map]
   exact Nat.lt_of_le_of_lt (by trivial:ms.length≤1000) (by decide)
  ·refine⟨_,ls.eraseIdx r.toNat,ms++[ls[r.toNat]],rfl,?_,?_,?_,?_,?_,by rw[List.length_append,List.length_singleton];trivial⟩
   ·rw[zat ll2,zak,zh7]
   ·rw[zak,List.map_append];rfl
   ·obtain⟨a,b,e,z⟩:=p1
    exact⟨a,b,by rw[zat nl2p.symm,zat nlp.symm];exact e,z⟩
   ·intro b o hb e
    have n1:b≠l:=fun x=>by rw[x,fl] at e;cases e
    have n2:b≠l2:=fun x=>by rw[x,fl2] at e;cases e
    rw[zat n2,zat n1]
    exact b1 _ _ hb (kp _ _ hb e)
   ·refine List.Perm.trans ?_ pm
    rw[List.append_assoc]
    refine List.Perm.append_left _ ?_
    show (ls[r.toNat]::ls.eraseIdx r.toNat).Perm ls
    exact zf7 ls r.toNat hr1
 case fin =>
  rintro σ H' ⟨t,ls,ms,rfl,e1,e2,hp',kp,pm,hl'⟩
  have hlen:ls=[]:=by
   have:=pm.length_eq
   rw[List.length_append,List.length_map,List.length_range] at this
   exact List.eq_nil_of_length_eq_zero (by trivial)
  subst hlen
  rw[List.append_nil] at pm
  exact⟨_,rfl,q l2 H' ms kp hp' fl2 nl2p e2 pm⟩
def WInv (H:Hp) (p ln lt:Addr) (m n st wy:Int) (ms:List Int) (b a:Nat) (σ:L2.St) (H':Hp):Prop :=
 ∃ (t7 t8 t9 t10:Option V) (ys:List V) (ties:List Tie),σ=[some (.ref p),some (.int m),some (.int n),some (.int st),some (.int wy),some (.ref ln),some (.ref lt),t7,t8,t9,t10] ∧
  H' ln=some (.lst (ms.map V.int))∧H' lt=some (.lst ys)∧TieL H' ys ties∧Pot H' p∧(∀ b o,b≠p->H b=some o->H' b=some o)∧Grown n.toNat ms b a ties
theorem zjm (T:Bi mg) (D:DefOk K mg "_law_web" s__law_web ["pot","most"]) (O__law_take:Ok P w K mg base 2 "_law_take" ["pot","many"] spTake) (O__law_order:Ok P w K mg base 2 "_law_order" ["pot","many"] spOrder)
  (O__law_tied:Ok P w K mg base 2 "_law_tied" ["pot","n","style","a","b"] spTied) (O__law_length:Ok P w K mg base 2 "_law_length" ["pot","way"] spLength):Ok P w K mg base 3 "_law_web" ["pot","most"] (spWeb K):=by
 refine za2 (k:=2) D sc__law_web (fun vs H Q E h=>?_) (fun f cdv A outer s H vs Q E hr h=>?_)
 ·obtain⟨p,m,rfl,_⟩:=h
  rfl
 obtain⟨p,m,rfl,hp,hm0,hm1,q⟩:=h
 have nd:=sc__law_web.nd
 refine⟨_,(zad (zas (i:=2) nd rfl (Or.inl rfl) (zar zba zac (zae O__law_take hr rfl (zaa (pv 0) (zaa (pv 1) zab))))) (zad (zas (i:=3) nd rfl (Or.inl rfl) (zae O__law_take hr rfl (zaa (pv 0) (zaa zac zab)))) (zad (zas (i:=4) nd rfl (Or.inl rfl) (zae O__law_take hr rfl (zaa (pv 0) (zaa zac zab)))) (zad (zas (i:=5) nd rfl (Or.inl rfl) (zae O__law_order hr rfl (zaa (pv 0) (zaa (pv 2) zab)))) (zad (zas (i:=6) nd rfl (Or.inl rfl) (zeq zab)) (zad (zbm PassesOwn.never rfl (zbq rfl T.z_range (zaa (pv 2) zab)) (zag (i:=7) nd rfl (Or.inl rfl)) (zaf (zbm PassesOwn.never rfl (zbq rfl T.z_range (zaa (pv 7) zab)) (zag (i:=8) nd rfl (Or.inl rfl)) (zaf (za6 (PW.pt (zf2 (zb3 (zae O__law_tied hr rfl (zaa (pv 0) (zaa (pv 2) (zaa (pv 3) (zaa (pv 8) (zaa (pv 7) zab))))))) (zd0 (zan zgl (zai zal rfl T.z_len (by decide +kernel) (zaa (pv 6) zab)) zac (nomark _))))) (zad (zbc (zai zig rfl T.z_sorted (by decide +kernel) (zaa (zeq (zaa (zam zaw (pv 5) (pv 8) (fun _ _=>rfl)) (zaa (zam zaw (pv 5) (pv 7) (fun _ _=>rfl)) zab))) zab)) (zqw (n:=2) rfl (zah (zag (i:=9) nd rfl (Or.inl rfl)) (zah (zag (i:=10) nd rfl (Or.inl rfl)) za4)))) (zaf (zcb (zgi PySem.F.plainAttrs_list PySem.F.slot_list_append PySem.F.type_list_append zdr (pv 6) (zaa (zo4 (zaa (pv 9) (zaa (pv 10) (zaa (zae O__law_length hr rfl (zaa (pv 0) (zaa (pv 4) zab))) zab)))) zab))))) zau))))) (zaf (zaj (zo4 (zaa (pv 2) (zaa (za1 zcp rfl T.z_tuple (by decide +kernel) (zaa (zai zif rfl T.z_sorted (by decide +kernel) (zaa (pv 6) zab)) zab)) zab))))))))))),?_⟩
 refine⟨_,rfl,_,rfl,p,m,rfl,hp,by trivial,by trivial,fun r1 H1 r10 r11 b1 p1=>?_⟩
 refine⟨_,_,rfl,rfl,?_⟩
 refine⟨_,rfl,p,8,rfl,p1,by decide,by decide,fun st H2 _ _ b2 p2=>?_⟩
 refine⟨_,rfl,p,5,rfl,p2,by decide,by decide,fun wy H3 wy0 wy1 b3 p3=>?_⟩
 refine⟨_,rfl,_,rfl,p,_,rfl,p3,by trivial,by trivial,fun ln H4 ms b4 p4 f4 n4 e4 pm=>?_⟩
 obtain⟨n,en⟩:∃ n:Int,n=1 + r1:=⟨_,rfl⟩
 rw[← en] at pm
 have bt4:But p H H4:=b1.trans (b2.trans (b3.trans b4))
 have fln:H ln=none:=by
  cases e:H ln with
  | none=>rfl
  | some u=>rw[(b1.trans (b2.trans b3)) _ _ n4 e] at f4;cases f4
 refine⟨(by show 0≤sizeLine;decide),fun lt hlt=>?_⟩
 have flt:H lt=none:=by
  by_cases z:lt=p
  ·obtain⟨a',b',e',_⟩:=p4;rw[z,e'] at hlt;cases hlt
  ·cases e:H lt with
   | none=>rfl
   | some u=>rw[bt4 _ _ z e] at hlt;cases hlt
 have nlt:lt≠p:=by
  obtain⟨a',b',e',_⟩:=p4
  exact fun x=>by rw[x,e'] at hlt;cases hlt
 have nln:ln≠lt:=fun x=>by rw[← x,e4] at hlt;cases hlt
 have pm0:Perm0 n.toNat ms:=Perm0.of pm
 refine⟨_,rfl,n,by rw[en],by trivial,by trivial,?_⟩
 refine zb6 (n:=n.toNat) (fun i σ H'=>WInv H p ln lt m n st wy ms i 0 σ H') ?start ?turn ?fin
 case start =>
  refine⟨none,none,none,none,[],[],by rw[en];rfl,by rw[zat nln];exact e4,zak,.nil,?_,fun b o hb e=>?_,Grown.start⟩
  ·obtain⟨a',b',e',z⟩:=p4
   exact⟨a',b',by rw[zat nlt.symm];exact e',z⟩
  ·rw[zat (fun x=>by rw[x,flt] at e;cases e)]
   exact bt4 _ _ hb e
 case turn =>
  rintro i σ H' hi ⟨t7,t8,t9,t10,ys,ties,rfl,g1,g2,g3,g4,g5,g6⟩
  refine⟨_,rfl,_,rfl,by trivial,by trivial,?_⟩
  have ei:((0 + (i:Int)):Int).toNat=i:=by trivial
  rw[ei]
  refine zb6 (n:=i) (fun k σ H''=>(∃ t7,σ[7]?=some (some (.int (0 + (i:Int))))∧t7=())∧WInv H p ln lt m n st wy ms i k σ H'') ?start2 ?turn2 ?fin2
  case start2=>exact⟨⟨(),rfl,rfl⟩,some (.int (0 + (i:Int))),t8,t9,t10,ys,ties,rfl,g1,g2,g3,g4,g5,g6⟩
  case fin2 =>
   rintro σ H'' ⟨_,t7,t8,t9,t10,ys,ties,rfl,g1,g2,g3,g4,g5,g6⟩
   exact⟨t7,t8,t9,t10,ys,ties,rfl,g1,g2,g3,g4,g5,g6.down⟩
  case turn2 =>
   rintro k σ K1 hk ⟨⟨_,h7,_⟩,t7,t8,t9,t10,ys,ties,rfl,g1,g2,g3,g4,g5,g6⟩
   have e7:t7=some (.int (0 + (i:Int))):=by simpa using h7
   subst e7
   have again : ∀ {u8 u9 u10 : Option V} {ys' : List V} {ts : List Tie} {J : Hp}, J ln = some (.lst (ms.map V.int)) → J lt = some (.lst ys') → TieL J ys' ts → Pot J p → (∀ b o, b ≠ p → H b = some o → J b = some o) → Grown n.toNat ms i (k + 1) ts →
       (∃ t7,([some (.ref p),some (.int m),some (.int n),some (.int st),some (.int wy),some (.ref ln),some (.ref lt),some (.int (0 + (i:Int))),u8,u9,u10]:L2.St)[7]?=some (some (.int (0 + (i:Int))))∧t7=())∧WInv H p ln lt m n st wy ms i (k + 1) [some (.ref p),some (.int m),some (.int n),some (.int st),some (.int wy),some (.ref ln),some (.ref lt),some (.int (0 + (i:Int))),u8,u9,u10] J :=
    fun a1 a2 a3 a4 a5 a6=>⟨⟨(),rfl,rfl⟩,_,_,_,_,_,_,rfl,a1,a2,a3,a4,a5,a6⟩
   refine⟨_,rfl,_,rfl,_,rfl,_,rfl,_,rfl,p,_,_,_,_,rfl,g4,fun kk K2 c2 d2=>⟨kk,rfl,?_⟩⟩
   have nlnp:ln≠p:=n4
   have l1:K2 ln=some (.lst (ms.map V.int)):=c2 _ _ nlnp g1
   have l2:K2 lt=some (.lst ys):=c2 _ _ nlt g2
   have tup2:∀ a xs,K1 a=some (.tup xs)->K2 a=some (.tup xs):=fun a xs e=>c2 _ _ (fun x=>by
    obtain⟨a',b',e',_⟩:=g4
    rw[x,e'] at e;cases e) e
   have l3:TieL K2 ys ties:=g3.keep tup2
   have l5:∀ b o,b≠p->H b=some o->K2 b=some o:=fun b o hb e=>c2 _ _ hb (g5 _ _ hb e)
   have ylen:ys.length=ties.length:=Paired.length g3
   cases kk with
   | false =>
    refine iteF (iteF ?_)
    exact again l1 l2 l3 d2 l5 g6.skip
   | true =>
    refine iteT ?_
    refine⟨_,rfl,lt,_,rfl,.inl (SqL.of l2),_,_,rfl,rfl,_,rfl,?_⟩
    refine ite2 (fun c=>?_) (fun c=>?_)
    case refine_2=>exact again l1 l2 l3 d2 l5 g6.skip
    have c':((ys.length:Nat):Int) < 60:=of_decide_eq_true c
    have hkn:k < n.toNat:=by trivial
    have at_:∀ j:Nat,j < n.toNat->atI (ms.map V.int) (j:Int)=some (.int (ms.getD j 0)):=fun j hj=>by
     have hj':j < ms.length:=by rw[pm0.len];exact hj
     refine znn ?_
     rw[List.getElem?_map,List.getElem?_eq_getElem hj']
     simp [List.getD,hj']
    have ak:atI (ms.map V.int) (0 + (k:Int))=some (.int (ms.getD k 0)):=by rw[Int.zero_add];exact at_ k hkn
    have ai:atI (ms.map V.int) (0 + (i:Int))=some (.int (ms.getD i 0)):=by rw[Int.zero_add];exact at_ i hi
    refine⟨_,rfl,_,rfl,ln,_,_,_,rfl,rfl,SqL.of l1,ak,_,rfl,_,rfl,ln,_,_,_,rfl,rfl,SqL.of l1,ai,(by show 2≤sizeLine;decide),fun s1 hs1=>?_⟩
    refine⟨s1,[ms.getD k 0,ms.getD i 0],rfl,SqL.of zak,(by show 2 < 64;decide),fun zs pz wz s2 hs2=>?_⟩
    obtain⟨x,y,rfl,hxy,hor⟩:=zk1 pz wz
    refine⟨s2,_,rfl,SqL.of zak,rfl,?_⟩
    refine⟨_,_,rfl,_,_,rfl,rfl,?_⟩
    have n1:∀ b o,K2 b=some o->b≠s1:=fun b o e=>zaq e hs1
    have n2:∀ b o,K2 b=some o->b≠s2:=fun b o e=>zaq (zav hs1 b o e) hs2
    have up:∀ b o,K2 b=some o->upd (upd K2 s1 (.lst [.int (ms.getD k 0),.int (ms.getD i 0)])) s2 (.lst [.int x,.int y]) b=some o:=fun b o e=>by rw[zat (n2 b o e),zat (n1 b o e)];exact e
    refine⟨_,rfl,.inl ⟨rfl,_,SqL.of (up _ _ l2)⟩,_,rfl,_,rfl,_,rfl,_,rfl,?_⟩
    refine⟨p,wy,rfl,?_,wy0,wy1,fun len K5 ln0 ln1 c5 d5=>?_⟩
    ·obtain⟨a',b',e',z⟩:=d2
     exact⟨a',b',up _ _ e',z⟩
    refine⟨(by show 3≤sizeLine;decide),fun tp htp=>?_⟩
    have pl:∃ xs,K2 p=some (.lst xs):=d2.lst
    have up5:∀ b o,b≠p->K2 b=some o->upd K5 tp (.tup [.int x,.int y,.int len]) b=some o:=fun b o hb e=>by
     have e5:=c5 b o hb (up b o e)
     rw[zat (zaq e5 htp)];exact e5
    refine⟨lt,_,_,rfl,rfl,up5 _ _ nlt l2,?_,?_⟩
    ·exact Nat.lt_of_le_of_lt (by trivial:ys.length≤1000) (by decide)
    have k5:∀ b o,b≠p->b≠lt->K2 b=some o->upd (upd K5 tp (.tup [.int x,.int y,.int len])) lt (.lst (ys++[.ref tp])) b=some o:=fun b o hb hb2 e=>by rw[zat hb2];exact up5 b o hb e
    have ntp:tp≠lt:=fun z=>by
     have:=c5 _ _ nlt (up _ _ l2)
     rw[← z,htp] at this;cases this
    refine again (k5 _ _ nlnp nln l1) zak (TieL.snoc (TieL.keep l3 fun a xs e=>k5 _ _ ?_ ?_ e) ?_) ?_ (fun b o hb e=>k5 _ _ hb (fun z=>by rw[z,flt] at e;cases e) (l5 _ _ hb e))
     (g6.add (x:=x) (y:=y) (l:=len) pm0 hk hi (by trivial) ln0 ln1 hor hxy)
    ·intro z
     obtain⟨xs',e'⟩:=pl
     rw[z,e'] at e;cases e
    ·intro z
     rw[z,l2] at e;cases e
    ·rw[zat ntp,zak];rfl
    ·obtain⟨a',b',e',z⟩:=d5
     exact⟨a',b',by rw[zat nlt.symm,zat (zaq e' htp)];exact e',z⟩
 case fin =>
  rintro σ H' ⟨t7,t8,t9,t10,ys,ties,rfl,g1,g2,g3,g4,g5,g6⟩
  have ylen:ys.length=ties.length:=Paired.length g3
  have few:=g6.few
  refine⟨_,rfl,_,rfl,lt,ys,ties.map tieI,rfl,SqL.of g2,by trivial,zer (fun y t ⟨a,e1,e2⟩=>⟨a,e1,SqT.of e2⟩) g3,fun k hk=>?_,fun qs pq wq l hl=>?_⟩
  ·obtain⟨t,_,rfl⟩:=List.mem_map.mp hk
   exact fun z=>by cases z
  obtain⟨ts,pt,tl,wt⟩:=zpl g3 pq wq
  refine⟨l,_,rfl,.inl ⟨SqL.of zak,fun l' hl'=>?_⟩⟩
  refine⟨(by show 2≤sizeLine;decide),fun v hv=>?_⟩
  have S1:Same H' (upd H' l (.lst (qs.map (·.1)))):=zav hl
  have S2:=S1.trans (zav (o:=.tup (qs.map (·.1))) hl')
  have S3:=S2.trans (zav (o:=.tup [.int n,.ref l']) hv)
  refine q (.ref v) _ n ts (fun b o hb e=>S3 _ _ (g5 _ _ hb e)) ?_ ⟨by trivial,by trivial,zpr wt ((pt.pairwise_iff (fun {a b} h z=>h ⟨z.1.symm,z.2.symm⟩)).mpr g6.nd),by have:=pt.length_eq;trivial,fun t ht=>?_⟩ (by trivial) ?_
  ·obtain⟨a',b',e',z⟩:=g4
   exact⟨a',b',S3 _ _ e',z⟩
  ·have:=g6.ok t (pt.mem_iff.mp ht)
   have e:((n.toNat:Nat):Int)=n:=by trivial
   rw[e] at this
   exact this
  ·refine⟨v,_,rfl,zak,_,_,rfl,rfl,_,_,rfl,⟨l',qs.map (·.1),rfl,?_,?_⟩,rfl⟩
   ·exact (zav hv) _ _ zak
   ·exact TieL.is (tl.keep fun a xs e=>S3 _ _ e)
theorem zhz (T:Bi mg) (D:DefOk K mg "_law_keep" s__law_keep ["pot","web"]) (O__law_take:Ok P w K mg base 1 "_law_take" ["pot","many"] spTake):Ok P w K mg base 2 "_law_keep" ["pot","web"] (spKeep K):=by
 refine za2 (k:=1) D sc__law_keep (fun vs H Q E h=>?_) (fun f cdv A outer s H vs Q E hr h=>?_)
 ·obtain⟨p,n,ts,v,rfl,_⟩:=h
  rfl
 obtain⟨p,n,ts,v,rfl,hp,hw,few60,q⟩:=h
 have nd:=sc__law_keep.nd
 refine⟨_,(zad (zas (i:=2) nd rfl (Or.inr rfl) (zae O__law_take hr rfl (zaa (pv 0) (zaa zac zab)))) (zaf (zaj (za1 zcp rfl T.z_tuple (by decide +kernel) (zaa (zbl (N:=["pot","web","way"]) (sc0:=defScope s__law_keep) (own:=["number"]) (fr:=["way","pot"]) (js:=[2,0]) rfl (zbq rfl T.z_range (zaa (zai zal rfl T.z_len (by decide +kernel) (zaa (zam zao (pv 1) zac (fun _ _=>rfl)) zab)) zab)) (fun _ _ _ _=>(zag (i:=0) (by show List.Nodup [("number":Str),("way":Str),("pot":Str)];decide +kernel) rfl (Or.inl rfl))) (fun _ _ _ _=>(zjb (PW.pt (zcl (zan zbb (pv 1) zac (nomark _)) (zbx (PW.pt (zf2 (zan zeb (pv 1) zac (nomark _)) (zd0 (zan zbb (zaz zbb (zae O__law_take hr rfl (zaa (pv 2) (zaa zac zab))) zac (nomark _)) (zaz zbb (pv 1) zac (nomark _)) (nomark _)))))))))) (fun _ _ _ _=>(pv 0))) zab))))),?_⟩
 refine⟨_,rfl,p,4,rfl,hp,by decide,by decide,fun way H1 w0 w1 b1 p1=>?_⟩
 obtain⟨g0,g,ws,rfl,hg0,hg,hall,hlw⟩:=zax hw
 obtain⟨xs0,e0⟩:=hp.lst
 have tup1:∀ c zs,H c=some (.tup zs)->H1 c=some (.tup zs):=fun c zs e=>b1 _ _ (fun x=>by rw[x,e0] at e;cases e) e
 refine⟨_,rfl,g0,_,_,_,rfl,rfl,SqT.of (tup1 _ _ hg0),rfl,g,_,rfl,.inr (SqT.of (tup1 _ _ hg)),_,rfl,by trivial,by trivial,fun L hL=>?_⟩
 have nLp:L≠p:=by
  obtain⟨a',b',e',_⟩:=p1
  exact fun z=>by rw[z,e'] at hL;cases hL
 have en:(((ws.length:Nat):Int)).toNat=ts.length:=by trivial
 rw[en]
 refine⟨fun i m ys σ' H'=>m=ts.length - i∧i≤ts.length∧(∃ o,σ'=[o,some (.int way),some (.ref p)])∧But p H1 H'∧Pot H' p∧∃ ks:List Nat,ys=(keepI ks).map V.int∧KeepOk i ks,⟨ts.length,rfl,Nat.zero_le _,⟨none,rfl⟩,But.new hL,?_,[],rfl,.nil,fun k hk=>by cases hk⟩,?_⟩
 ·obtain⟨a',b',e',z⟩:=p1
  exact⟨a',b',by rw[zat nLp.symm];exact e',z⟩
 rintro i m ys σ' H' ⟨rfl,hi,⟨o,rfl⟩,bt,pt,ks,rfl,ko⟩ hd
 by_cases hlt:i < ts.length
 ·refine .inr ⟨hlt,fun x H2 hy=>?_⟩
  obtain⟨rfl,rfl⟩:=hy
  have lenk:ks.length≤i:=ko.len
  have takeIt : ∀ {J : Hp}, But p H2 J → Pot J p → J L = some (.lst ((keepI ks).map V.int)) ∧ ((keepI ks).map V.int).length < sizeLine ∧ ∃ m', m' < ts.length - i ∧ (m' = ts.length - (i + 1) ∧ i + 1 ≤ ts.length ∧ (∃ o, ([some (V.int (0 + (i : Int))), some (.int way), some (.ref p)] : L2.St) = [o, some (.int way), some (.ref p)]) ∧
      But p H1 (upd J L (.lst ((keepI ks).map V.int++[.int (0 + (i:Int))])))∧Pot (upd J L (.lst ((keepI ks).map V.int++[.int (0 + (i:Int))]))) p∧∃ ks':List Nat,(keepI ks).map V.int++[.int (0 + (i:Int))]=(keepI ks').map V.int∧KeepOk (i + 1) ks'):=fun {J} bj pj=>by
   refine⟨bj _ _ nLp hd,?_,ts.length - (i + 1),by trivial,rfl,hlt,⟨_,rfl⟩,fun b o hb e=>?_,?_,ks++[i],?_,?_⟩
   ·rw[List.length_map];unfold keepI;rw[List.length_map]
    exact Nat.lt_of_le_of_lt (by trivial:ks.length≤1000) (by decide)
   ·rw[zat (zaq e hL)];exact bj _ _ hb (bt _ _ hb e)
   ·obtain⟨a',b',e',z⟩:=pj
    exact⟨a',b',by rw[zat nLp.symm];exact e',z⟩
   ·unfold keepI
    rw[List.map_append,List.map_append]
    simp
   ·refine⟨List.pairwise_append.mpr ⟨ko.1,List.pairwise_singleton _ _,fun x hx y hy=>?_⟩,fun k hk=>?_⟩
    ·have:y=i:=by simpa using hy
     rw[this];exact ko.2 x hx
    ·rcases List.mem_append.mp hk with hk | hk
     ·have:=ko.2 k hk;trivial
     ·have:k=i:=by simpa using hk
      trivial
  have leaveIt:∀ {J:Hp},But p H2 J->Pot J p->J L=some (.lst ((keepI ks).map V.int))∧∃ m',m' < ts.length - i∧(m'=ts.length - (i + 1)∧i + 1≤ts.length∧(∃ o,([some (V.int (0 + (i:Int))),some (.int way),some (.ref p)]:L2.St)=[o,some (.int way),some (.ref p)])∧But p H1 J∧Pot J p∧∃ ks':List Nat,(keepI ks).map V.int=(keepI ks').map V.int∧KeepOk (i + 1) ks'):=fun {J} bj pj =>
   ⟨bj _ _ nLp hd,ts.length - (i + 1),by trivial,rfl,hlt,⟨_,rfl⟩,bt.trans bj,pj,ks,rfl,ko.1,fun k hk=>by have:=ko.2 k hk;trivial⟩
  refine⟨_,rfl,rfl,_,rfl,ite2 (fun c=>?_) (fun c=>?_)⟩
  ·exact iteT ⟨_,rfl,takeIt But.refl pt⟩
  ·refine⟨_,rfl,_,_,rfl,rfl,_,rfl,ite2 (fun c2=>?_) (fun c2=>?_)⟩
   ·refine⟨_,rfl,p,4,rfl,pt,by decide,by decide,fun r J _ _ bj pj=>⟨rfl,_,rfl,rfl,rfl,_,rfl,ite2 (fun c3=>?_) (fun c3=>?_)⟩⟩
    ·exact⟨_,rfl,takeIt bj pj⟩
    ·exact leaveIt bj pj
   ·exact iteF (leaveIt But.refl pt)
 ·have e:i=ts.length:=by trivial
  subst e
  refine .inl ⟨Nat.le_refl _,L,_,rfl,.inl ⟨SqL.of hd,fun l hl=>?_⟩⟩
  refine q _ _ ks (b1.trans (bt.trans (But.new hl))) ?_ ko ⟨l,_,rfl,zak,IsAll.ints _⟩
  obtain⟨a',b',e',z⟩:=pt
  exact⟨a',b',(zav hl) _ _ e',z⟩
theorem zjk (T:Bi mg) (D:DefOk K mg "is_whole" s_is_whole ["thing"]):Ok P w K mg base 1 "is_whole" ["thing"] (spD1 K (fun _=>True) wholeB):=by
 refine za2 (k:=0) D sc_is_whole (fun vs H Q E h=>?_) (fun f cdv A outer s H vs Q E hr h=>?_)
 ·obtain⟨d,v,rfl,_⟩:=h
  rfl
 obtain⟨d,v,rfl,hd,_,q⟩:=h
 have nd:=sc_is_whole.nd
 have q0:=q H (Same.refl H)
 have ty:=zqk hd
 refine⟨_,(zaf (zaj (zbv (zai (zc6 (n:="int")) rfl T.z_isinstance (by decide +kernel) (zaa (pv 0) (zaa (zd3 (v:=.ty "int") rfl T.z_int (by decide +kernel) rfl) zab))) (zbs (zqy (zai (zc6 (n:="bool")) rfl T.z_isinstance (by decide +kernel) (zaa (pv 0) (zaa (zd3 (v:=.ty "bool") rfl T.z_bool (by decide +kernel) rfl) zab)))))))),?_⟩
 cases d with
 | int i=>exact⟨_,rfl,_,_,_,rfl,ty,rfl,_,rfl,iteT ⟨_,rfl,_,_,_,rfl,ty,rfl,_,rfl,q0⟩⟩
 | bool b=>exact⟨_,rfl,_,_,_,rfl,ty,rfl,_,rfl,iteT ⟨_,rfl,_,_,_,rfl,ty,rfl,_,rfl,q0⟩⟩
 | none=>exact⟨_,rfl,_,_,_,rfl,ty,rfl,_,rfl,iteF q0⟩
 | str x=>exact⟨_,rfl,_,_,_,rfl,ty,rfl,_,rfl,iteF q0⟩
 | tuple ds=>exact⟨_,rfl,_,_,_,rfl,ty,rfl,_,rfl,iteF q0⟩
 | list ds=>exact⟨_,rfl,_,_,_,rfl,ty,rfl,_,rfl,iteF q0⟩
 | dict ds=>exact⟨_,rfl,_,_,_,rfl,ty,rfl,_,rfl,iteF q0⟩
theorem zht (T:Bi mg) (D:DefOk K mg "is_wholes" s_is_wholes ["thing"]) (O_is_whole:Ok P w K mg base 1 "is_whole" ["thing"] (spD1 K (fun _=>True) wholeB)):Ok P w K mg base 2 "is_wholes" ["thing"] (spD1 K few wholesB):=by
 refine za2 (k:=1) D sc_is_wholes (fun vs H Q E h=>?_) (fun f cdv A outer s H vs Q E hr h=>?_)
 ·obtain⟨d,v,rfl,_⟩:=h
  rfl
 obtain⟨d,v,rfl,hd,hfew,q⟩:=h
 have nd:=sc_is_wholes.nd
 have q0:=q H (Same.refl H)
 have ty:=zqk hd
 refine⟨_,(zaf (zaj (zbv (zai (zc6 (n:="tuple")) rfl T.z_isinstance (by decide +kernel) (zaa (pv 0) (zaa (zd3 (v:=.ty "tuple") rfl T.z_tuple (by decide +kernel) rfl) zab))) (zbs (zai (zc7 rfl) rfl T.z_all (by decide +kernel) (zaa (zbl (N:=["thing"]) (sc0:=defScope s_is_wholes) (own:=["part"]) (fr:=[]) (js:=[]) rfl (zct (pv 0)) (fun _ _ _ _=>(zag (i:=0) (by show List.Nodup [("part":Str)];decide +kernel) rfl (Or.inl rfl))) (fun _ _ _ _=>zbt) (fun _ _ _ _=>(zae O_is_whole hr rfl (zaa (pv 0) zab)))) zab)))))),?_⟩
 cases d with
 | int i=>exact⟨_,rfl,_,_,_,rfl,ty,rfl,_,rfl,iteF q0⟩
 | bool b=>exact⟨_,rfl,_,_,_,rfl,ty,rfl,_,rfl,iteF q0⟩
 | none=>exact⟨_,rfl,_,_,_,rfl,ty,rfl,_,rfl,iteF q0⟩
 | str x=>exact⟨_,rfl,_,_,_,rfl,ty,rfl,_,rfl,iteF q0⟩
 | list ds=>exact⟨_,rfl,_,_,_,rfl,ty,rfl,_,rfl,iteF q0⟩
 | dict ds=>exact⟨_,rfl,_,_,_,rfl,ty,rfl,_,rfl,iteF q0⟩
 | tuple ds =>
  refine⟨_,rfl,_,_,_,rfl,ty,rfl,_,rfl,iteT ?_⟩
  obtain⟨p,vs,rfl,hp,hall⟩:=hd
  have hl:=hall.length
  have hf:ds.length≤1000:=hfew
  refine⟨_,rfl,p,rfl,⟨_,SqT.of hp⟩,?_⟩
  refine zem hp (fun σ'=>σ'.length=1) (fun i v _=>v=.bl (wholeB (ds.getD i .none))) (by trivial) (by rfl) (fun _ _ _ _ _ h=>h) (fun i x σ' H' hx s sg C hC=>?_) (fun L ys H' hL s hH hly hys=>?_)
  ·obtain⟨d,hdi,hdx⟩:=hall.get' hx
   match σ',sg with
   | [o],_ =>
    refine⟨_,rfl,d,x,rfl,Is.same s d hdx,trivial,fun H5 s5=>hC _ _ _ rfl s5 ?_⟩
    simp [List.getD,hdi]
  ·refine⟨L,_,rfl,SqL.of (by rw[hH,zc8 (hly.trans hl) hys]),?_⟩
   have e:((List.range ds.length).map fun i=>wholeB (ds.getD i .none)).all id=ds.all wholeB:=by
    have:((List.range ds.length).map fun i=>wholeB (ds.getD i .none))=ds.map wholeB:=by
     have:=congrArg (List.map wholeB) (L3.zb0 ds .none)
     rw[List.map_map] at this
     exact this
    rw[this,List.all_map]
    rfl
   rw[e]
   exact q H' s
theorem zfk (T:Bi mg) (D:DefOk K mg "tie_weights" s_tie_weights ["web"]):Ok P w K mg base 1 "tie_weights" ["web"] (spWeights K):=by
 refine za2 (k:=0) D sc_tie_weights (fun vs H Q E h=>?_) (fun f cdv A outer s H vs Q E hr h=>?_)
 ·obtain⟨n,ts,v,rfl,_⟩:=h
  rfl
 obtain⟨n,ts,v,rfl,hw,few60,q⟩:=h
 have nd:=sc_tie_weights.nd
 obtain⟨g0,g,ws,rfl,hg0,hg,hall,hlw⟩:=zax hw
 refine⟨_,(zad (zas (i:=1) nd rfl (Or.inl rfl) (za7 zab)) (zad (zas (i:=2) nd rfl (Or.inl rfl) zac) (zad (zbm PassesOwn.never rfl (zct (zam zao (pv 0) zac (fun _ _=>rfl))) (zag (i:=3) nd rfl (Or.inl rfl)) (zad (zcb (zgi PySem.F.plainAttrs_list PySem.F.slot_list_append PySem.F.type_list_append zb1 (pv 1) (zaa (pv 2) zab))) (zaf (zas (i:=2) nd rfl (Or.inl rfl) (zar zb8 zac (pv 2)))))) (zaf (zaj (pv 1)))))),?_⟩
 refine⟨(by show 0≤1000;decide),fun l J0 S0 f0 e0=>?_⟩
 refine⟨_,rfl,g0,_,_,_,rfl,rfl,SqT.of (S0 _ _ hg0),rfl,g,rfl,⟨_,SqT.of (S0 _ _ hg)⟩,?_⟩
 refine zdj (xs:=ws) (fun i σ J=>∃ y3:Option V,σ=[some (.ref g0),some (.ref l),some (.int (2 ^ i)),y3]∧Same H J∧J l=some (.lst (pows i))) ⟨none,rfl,S0,e0⟩ (fun i σ J _ h=>by obtain⟨_,_,s,_⟩:=h;exact SqT.of (s _ _ hg)) (fun i x σ J hx h=>?_) (fun σ J h=>?_)
 ·obtain⟨y3,rfl,s1,e1⟩:=h
  have hi:i < ws.length:=(List.getElem?_eq_some_iff.mp hx).1
  refine⟨_,rfl,.inl ⟨rfl,_,SqL.of e1⟩,_,rfl,l,_,_,rfl,rfl,e1,(by unfold pows;rw[List.length_map,List.length_range];trivial),fun J1 b1 e2=>?_⟩
  refine⟨_,rfl,_,_,rfl,rfl,.inl ⟨by decide,by decide⟩,?_⟩
  refine⟨some x,?_,fun b o e=>b1 _ _ (zaq e f0) (s1 _ _ e),by rw[e2,zl8]⟩
  have ep:(2:Int) * 2 ^ i=2 ^ (i + 1):=by rw[Int.pow_succ,Int.mul_comm]
  show [some (V.ref g0),some (V.ref l),some (V.int (2 * 2 ^ i)),some x]=_
  rw[ep]
 ·obtain⟨y3,rfl,s1,e1⟩:=h
  exact⟨_,rfl,q l J s1 f0 (by rw[e1,hlw])⟩
theorem zhw (T:Bi mg) (D:DefOk K mg "cost_with" s_cost_with ["cost","length","weight"]):Ok P w K mg base 1 "cost_with" ["cost","length","weight"] (spCost K):=by
 refine za2 (k:=0) D sc_cost_with (fun vs H Q E h=>?_) (fun f cdv A outer s H vs Q E hr h=>?_)
 ·obtain⟨c,x,y,l,ww,rfl,_⟩:=h
  rfl
 obtain⟨c,x,y,l,ww,rfl,hc,q⟩:=h
 have nd:=sc_cost_with.nd
 refine⟨_,(zaf (zaj (za0 (zaa (zar zba (zam zao (pv 0) zac (fun _ _=>rfl)) (pv 1)) (zaa (zar zba (zam zao (pv 0) zac (fun _ _=>rfl)) (pv 2)) zab))))),?_⟩
 exact⟨_,rfl,c,_,_,_,rfl,rfl,SqT.of hc,rfl,_,rfl,_,_,rfl,rfl,_,rfl,c,_,_,_,rfl,rfl,SqT.of hc,rfl,_,rfl,_,_,rfl,rfl,(by show 2≤1000;decide),fun t J S f e=>q t J S e⟩
def rWB (H:Hp) (wv kv:V) (n r:Int) (ts:List Tie) (ks:List Nat) (lw lc la:Addr) (m:Nat) (σ:L2.St) (J:Hp):Prop:=∃ (cs:List (Option (Int × Int))) (as:List (Option Nat)) (ag:Bool) (y7 y8 y9 y10 y11 y12 y13:Option V),σ=[some wv,some kv,some (.int r),some (.ref lw),some (.ref lc),some (.ref la),some (.bl ag),y7,y8,y9,y10,y11,y12,y13] ∧
 RA H J lw lc la (pows ts.length) cs as∧Far.Good (arcs ts ks) n.toNat r.toNat cs∧Far.Run (arcsB ts ks) r.toNat cs as∧(ag=false->Far.Stab2 (arcsB ts ks) cs)∧m=Far.mu cs + (if ag=true then 1 else 0)
theorem zed (T:Bi mg) (D:DefOk K mg "reached_from" s_reached_from ["web","keep","root"]) (O_tie_weights:Ok P w K mg base 1 "tie_weights" ["web"] (spWeights K)) (O_cost_with:Ok P w K mg base 1 "cost_with" ["cost","length","weight"] (spCost K)):Ok P w K mg base 2 "reached_from" ["web","keep","root"] (spReachedC K):=by
 refine za2 (k:=1) D sc_reached_from (fun vs H Q E h=>?_) (fun f cdv A outer s H vs Q E hr h=>?_)
 ·obtain⟨n,ts,ks,wv,kv,r,rfl,_⟩:=h
  rfl
 obtain⟨n,ts,ks,wv,kv,r,rfl,⟨isw,ok,isk,ko⟩,r0,r1,q⟩:=h
 have nd:=sc_reached_from.nd
 have few60:=ok.few
 have n1:=ok.n1
 have n24:=ok.n24
 obtain⟨g0,g,ws,rfl,hg0,hg,hall,hlw⟩:=zax isw
 obtain⟨kp,rfl,hkp⟩:=zbh isk
 have P:=zc9 ok ko
 refine⟨_,(zad (zas (i:=3) nd rfl (Or.inl rfl) (zae O_tie_weights hr rfl (zaa (pv 0) zab))) (zad (zas (i:=4) nd rfl (Or.inl rfl) (zar zjf (za7 (zaa zbn zab)) (zam zao (pv 0) zac (fun _ _=>rfl)))) (zad (zas (i:=5) nd rfl (Or.inl rfl) (zar zjf (za7 (zaa zbn zab)) (zam zao (pv 0) zac (fun _ _=>rfl)))) (zad (zbc (za0 (zaa zac (zaa zac zab))) (zdn (pv 4) (pv 2) zbz)) (zad (zas (i:=6) nd rfl (Or.inl rfl) zcn) (zad (zkf PassesOwn.never (zb3 (pv 6)) (zad (zas (i:=6) nd rfl (Or.inl rfl) zcn) (zaf (zbm PassesOwn.never rfl (zct (pv 1)) (zag (i:=7) nd rfl (Or.inl rfl)) (zad (zbc (zam zao (zam zao (pv 0) zac (fun _ _=>rfl)) (pv 7) (fun _ _=>rfl)) (zbk (n:=3) rfl (zah (zag (i:=8) nd rfl (Or.inl rfl)) (zah (zag (i:=9) nd rfl (Or.inl rfl)) (zah (zag (i:=10) nd rfl (Or.inl rfl)) za4))))) (zaf (zbm PassesOwn.never rfl (zct (za0 (zaa (za0 (zaa (pv 8) (zaa (pv 9) zab))) (zaa (za0 (zaa (pv 9) (zaa (pv 8) zab))) zab)))) (zbk (n:=2) rfl (zah (zag (i:=11) nd rfl (Or.inl rfl)) (zah (zag (i:=12) nd rfl (Or.inl rfl)) za4))) (zad (za6 (zan zea (zam zaw (pv 4) (pv 11) (fun _ _=>rfl)) zbn (nomark _)) (zaf zjc) zau) (zad (zas (i:=13) nd rfl (Or.inl rfl) (zae O_cost_with hr rfl (zaa (zam zaw (pv 4) (pv 11) (fun _ _=>rfl)) (zaa (pv 10) (zaa (zam zaw (pv 3) (pv 7) (fun _ _=>rfl)) zab))))) (zaf (za6 (PW.pt (zcl (zan zea (zam zaw (pv 4) (pv 12) (fun _ _=>rfl)) zbn (nomark _)) (zbx (zan (zq1 hr.units0) (pv 13) (zam zaw (pv 4) (pv 12) (fun _ _=>rfl)) (nomark _))))) (zad (zbc (pv 13) (zdn (pv 4) (pv 12) zbz)) (zad (zbc (pv 11) (zdn (pv 5) (pv 12) zbz)) (zaf (zas (i:=6) nd rfl (Or.inl rfl) zcn)))) zau))))))))))) (zaf (zaj (za0 (zaa (pv 4) (zaa (pv 5) zab))))))))))),?_⟩
 refine⟨_,rfl,n,ts,_,rfl,isw,few60,fun lw J1 S1 f1 e1=>?_⟩
 refine⟨(by show 1≤1000;decide),fun t0 J2 S2 f2 e2=>⟨_,rfl,g0,_,_,_,rfl,rfl,SqT.of (S2 _ _ (S1 _ _ hg0)),rfl,t0,n,_,rfl,rfl,e2,by trivial,by trivial,fun lc J3 S3 f3 e3=>?_⟩⟩
 have S13:=S1.trans (S2.trans S3)
 refine⟨(by show 1≤1000;decide),fun t1 J4 S4 f4 e4=>⟨_,rfl,g0,_,_,_,rfl,rfl,SqT.of (S4 _ _ (S13 _ _ hg0)),rfl,t1,n,_,rfl,rfl,e4,by trivial,by trivial,fun la J5 S5 f5 e5=>?_⟩⟩
 refine⟨(by show 2≤1000;decide),fun t2 J6 S6 f6 e6=>?_⟩
 have S36:=S4.trans (S5.trans S6)
 have elc:=S36 _ _ e3
 refine⟨_,rfl,_,rfl,lc,_,r,r.toNat,rfl,rfl,elc,zcw r0 (by rw[List.length_replicate];trivial),?_⟩
 have Sall:Same H J6:=S13.trans S36
 have fc:H lc=none:=(S1.trans S2).free f3
 have fa:H la=none:=(S13.trans S4).free f5
 have nwc:lw≠lc:=fun z=>by rw[← z,S2 _ _ e1] at f3;cases f3
 have nwa:lw≠la:=fun z=>by rw[← z,S4 _ _ (S3 _ _ (S2 _ _ e1))] at f5;cases f5
 have nca:lc≠la:=fun z=>by rw[← z,S4 _ _ e3] at f5;cases f5
 have R0:RA H J6 lw lc la (pows ts.length) (List.replicate n.toNat none) (List.replicate n.toNat none):=⟨Sall,fc,fa,nwc,nwa,nca,S36 _ _ (S3 _ _ (S2 _ _ e1)),⟨_,elc,CostL.first _⟩,by rw[S6 _ _ e5,List.map_replicate];rfl⟩
 have R1:=R0.put (k:=r.toNat) elc (by rw[List.length_replicate];trivial) e6
  -- the passes
 refine⟨rWB H (.ref g0) (.ref kp) n r ts ks lw lc la,⟨_,_,_,true,none,none,none,none,none,none,none,rfl,R1,Far.Good.first (by trivial),Far.Run.first (by trivial),fun z=>(by cases z),rfl⟩,?_⟩
 rintro m σ J ⟨c0,as0,ag,y7,y8,y9,y10,y11,y12,y13,rfl,R,G,AH,St,rfl⟩
 refine⟨_,rfl,ag,rfl,?_⟩
 cases ag with
 | false =>
  refine iteF ?_
  obtain⟨cvs,hc,cl⟩:=R.co
  exact⟨_,rfl,_,rfl,(by show 2≤1000;decide),fun p J' S' f' e'=>q p lc la cvs as0 c0 J' (R.same.trans S') e' (S' _ _ hc) (S' _ _ R.ah) (cl.keep (zly S')) (AH.best P G (St rfl)) G (zpo (St rfl))⟩
 | true =>
  refine iteT ⟨fun σ' J'=>∃ m',m' < Far.mu c0 + 1∧rWB H (.ref g0) (.ref kp) n r ts ks lw lc la m' σ' J',fun _ _ h=>h,?_⟩
  refine⟨_,rfl,kp,rfl,⟨_,SqT.of (R.same _ _ hkp)⟩,?_⟩
  refine zdj (xs:=(keepI ks).map V.int) (fun i σ J=>∃ (cs:List (Option (Int × Int))) (as:List (Option Nat)) (ag:Bool) (y7 y8 y9 y10 y11 y12 y13:Option V),σ=[some (.ref g0),some (.ref kp),some (.int r),some (.ref lw),some (.ref lc),some (.ref la),some (.bl ag),y7,y8,y9,y10,y11,y12,y13] ∧
   RA H J lw lc la (pows ts.length) cs as∧Far.Good (arcs ts ks) n.toNat r.toNat cs∧Far.Run (arcsB ts ks) r.toNat cs as∧Far.PS2 c0 (fun z=>z ∈ arcsB ts (ks.take i)) cs ag) ⟨c0,as0,false,_,_,_,_,_,_,_,rfl,R,G,AH,.inl ⟨rfl,rfl,fun u v l k c z=>by cases z⟩⟩ (fun i σ J _ h=>?_) (fun i x σ J hx h=>?_) (fun σ J h=>?_)
  ·obtain⟨cs,as,ag,y7,y8,y9,y10,y11,y12,y13,rfl,R,_⟩:=h
   exact SqT.of (R.same _ _ hkp)
  ·obtain⟨cs,as,ag,y7,y8,y9,y10,y11,y12,y13,rfl,R,G,AH,Pt⟩:=h
   obtain⟨k,hk,rfl⟩:=zgx hx
   have hkl:k < ts.length:=ko.2 k (List.mem_of_getElem? hk)
   obtain⟨ta,hta,htie⟩:=za9 hall hkl
   obtain⟨t,et⟩:∃ t,t=tieAt ts k:=⟨_,rfl⟩
   rw[← et] at htie
   have tk:=ok.tie _ (zay hkl).2
   rw[← et] at tk
   refine⟨_,rfl,g0,_,_,_,rfl,rfl,SqT.of (R.same _ _ hg0),rfl,_,rfl,g,_,_,_,rfl,rfl,SqT.of (R.same _ _ hg),zap (Int.natCast_nonneg _) hta,ta,_,rfl,SqT.of (R.same _ _ htie),rfl,_,_,rfl,_,_,rfl,_,_,rfl,rfl,?_⟩
   refine⟨_,rfl,_,rfl,(by show 2≤1000;decide),fun t1 K1 T1 u1 v1=>⟨_,rfl,_,rfl,(by show 2≤1000;decide),fun t2 K2 T2 u2 v2=>⟨(by show 2≤1000;decide),fun t3 K3 T3 u3 v3=>⟨t3,rfl,⟨_,SqT.of v3⟩,?_⟩⟩⟩⟩
   have R3:=R.step (T1.trans (T2.trans T3))
   have v1':=T3 _ _ (T2 _ _ v1)
   have v2':=T3 _ _ v2
   refine zdj (xs:=[V.ref t1,.ref t2]) (fun j σ J=>∃ (cs:List (Option (Int × Int))) (as:List (Option Nat)) (ag:Bool) (y11 y12 y13:Option V),σ=[some (.ref g0),some (.ref kp),some (.int r),some (.ref lw),some (.ref lc),some (.ref la),some (.bl ag),some (.int (k:Int)),some (.int t.1),some (.int t.2.1),some (.int t.2.2),y11,y12,y13] ∧
    RA H J lw lc la (pows ts.length) cs as∧Far.Good (arcs ts ks) n.toNat r.toNat cs∧Far.Run (arcsB ts ks) r.toNat cs as∧Far.PS2 c0 (fun z=>z ∈ arcsB ts (ks.take i)∨z ∈ (arcs2B t k).take j) cs ag∧TupKeep K3 J) ⟨cs,as,ag,_,_,_,rfl,R3,G,AH,Pt.less fun a z=>z.elim id fun z=>(by cases z),fun _ _ e=>e⟩ (fun j σ J _ h=>?_) (fun j x σ J hx h=>?_) (fun σ J h=>?_)
   ·obtain⟨cs,as,ag,y11,y12,y13,rfl,R,G,AH,Pt,tk⟩:=h
    exact SqT.of (tk _ _ v3)
   ·obtain⟨cs,as,ag,y11,y12,y13,rfl,R,G,AH,Pt,tkp⟩:=h
    obtain⟨p,u,v,rfl,hp,u0,un,v0,vn,arc,arcB,more⟩:∃ p u v,x=.ref p∧J p=some (.tup [.int u,.int v])∧0≤u∧u < n∧0≤v∧v < n∧(u.toNat,v.toNat,t.2.2) ∈ arcs ts ks∧(u.toNat,v.toNat,t.2.2,k) ∈ arcsB ts ks∧∀ z,z ∈ (arcs2B t k).take (j + 1)->z ∈ (arcs2B t k).take j∨z=(u.toNat,v.toNat,t.2.2,k):=by
     have memB:∀ z,z ∈ arcs2B t k->z ∈ arcsB ts ks:=fun z hz=>arcsB_mem.mpr ⟨k,List.mem_of_getElem? hk,by rw[← et];exact hz⟩
     have mem:∀ z,z ∈ arcs2 t->z ∈ arcs ts ks:=fun z hz=>arcs_mem.mpr ⟨k,List.mem_of_getElem? hk,by rw[← et];exact hz⟩
     match j,hx with
     | 0,hx=>cases hx;exact⟨t1,t.1,t.2.1,rfl,tkp _ _ v1',by trivial,by trivial,by trivial,by trivial,mem _ (arcs2_mem.mpr (.inl rfl)),memB _ (arcs2B_mem.mpr (.inl rfl)),fun z hz=>by unfold arcs2B at *;simpa using hz⟩
     | 1,hx=>cases hx;exact⟨t2,t.2.1,t.1,rfl,tkp _ _ v2',by trivial,by trivial,by trivial,by trivial,mem _ (arcs2_mem.mpr (.inr rfl)),memB _ (arcs2B_mem.mpr (.inr rfl)),fun z hz=>by unfold arcs2B at *;simpa using hz⟩
    refine⟨p,_,rfl,SqT.of hp,rfl,_,_,rfl,_,_,rfl,rfl,?_⟩
    obtain⟨cvs,hc,cl⟩:=R.co
    have lenC:cvs.length=n.toNat:=by rw[cl.1];exact G.len
    obtain⟨x1,at1,cv1⟩:=zna cl u0 (by rw[G.len];trivial)
    obtain⟨x2,at2,cv2⟩:=zna cl v0 (by rw[G.len];trivial)
    have next:∀ {cs':List (Option (Int × Int))} {ag':Bool},Far.PS2 c0 (Far.plusA (fun z=>z ∈ arcsB ts (ks.take i)∨z ∈ (arcs2B t k).take j) (u.toNat,v.toNat,t.2.2,k)) cs' ag'->Far.PS2 c0 (fun z=>z ∈ arcsB ts (ks.take i)∨z ∈ (arcs2B t k).take (j + 1)) cs' ag':=fun h=>h.less fun z hz=>by
     rcases hz with hz | hz
     ·exact .inl (.inl hz)
     ·exact (more z hz).elim (fun y=>.inl (.inr y)) .inr
    refine⟨_,rfl,_,rfl,lc,_,_,_,rfl,rfl,SqL.of hc,at1,rfl,_,rfl,ite2 (fun c1=>?_) (fun c1=>?_)⟩
    ·-- not reached
     have gu:Far.get cs u.toNat=none:=by
      cases e:Far.get cs u.toNat with
      | none=>rfl
      | some d =>
       rw[e] at cv1
       obtain⟨tt,rfl,_⟩:=cv1
       cases of_decide_eq_true c1
     exact⟨cs,as,ag,_,_,_,rfl,R,G,AH,next (Pt.no gu),tkp⟩
    ·obtain⟨d,gu⟩:∃ d,Far.get cs u.toNat=some d:=by
      cases e:Far.get cs u.toNat with
      | none=>rw[e] at cv1;exact absurd (decide_eq_true (show x1=V.non from cv1)) c1
      | some d=>exact⟨d,rfl⟩
     rw[gu] at cv1
     obtain⟨td,rfl,htd⟩:=cv1
     have pw:=zqv (i:=k) (by trivial)
     refine⟨_,rfl,_,rfl,lc,_,_,_,rfl,rfl,SqL.of hc,at1,_,rfl,_,rfl,_,rfl,lw,_,_,_,rfl,rfl,SqL.of R.wl,zap (Int.natCast_nonneg _) (zps hkl),td,_,_,_,_,rfl,htd,fun tn L1 Z1 en=>?_⟩
     have R':=R.step Z1
     have hc':=Z1 _ _ hc
     have tkp':TupKeep K3 L1:=fun a xs e=>Z1 _ _ (tkp a xs e)
     have done : ∀ (hlt : Far.get cs v.toNat = none ∨ ∃ c', Far.get cs v.toNat = some c' ∧ Far.lt2 (d.1 + t.2.2, d.2 + 2 ^ k) c') , ∀ L, L = upd (upd L1 lc (.lst (cvs.set v.toNat (.ref tn)))) la (.lst ((as.map oa).set v.toNat (.int u))) →
         RA H L lw lc la (pows ts.length) (cs.set v.toNat (some (d.1 + t.2.2,d.2 + 2 ^ k))) (as.set v.toNat (some u.toNat))∧Far.Good (arcs ts ks) n.toNat r.toNat (cs.set v.toNat (some (d.1 + t.2.2,d.2 + 2 ^ k)))∧Far.Run (arcsB ts ks) r.toNat (cs.set v.toNat (some (d.1 + t.2.2,d.2 + 2 ^ k))) (as.set v.toNat (some u.toNat))∧Far.PS2 c0 (fun z=>z ∈ arcsB ts (ks.take i)∨z ∈ (arcs2B t k).take (j + 1)) (cs.set v.toNat (some (d.1 + t.2.2,d.2 + 2 ^ k))) true∧TupKeep K3 L:=fun hlt L eL=>by
      subst eL
      obtain⟨G',mm⟩:=G.step P (by trivial) arc (by trivial) pw.1 pw.2 (by trivial) gu hlt
      have Rp:=R'.put hc' (k:=v.toNat) (by trivial) en
      have Rm:=Rp.mark (k:=v.toNat) (u:=u.toNat)
      rw[Int.toNat_of_nonneg u0] at Rm
      exact⟨Rm,G',Far.Run.step P G AH arc arcB (by trivial) gu hlt,next (Pt.put mm),fun a xs e=>zhk Rp.ah _ _ (zhk hc' _ _ (tkp' a xs e))⟩
     have ha:=R'.ah
     have hal:(as.map oa).length=n.toNat:=by rw[List.length_map,AH.len];exact G.len
     refine⟨_,rfl,_,rfl,lc,_,_,_,rfl,rfl,SqL.of hc',at2,rfl,_,rfl,ite2 (fun c2=>iteT ?_) (fun c2=>?_)⟩
     ·have gv:Far.get cs v.toNat=none:=by
       cases e:Far.get cs v.toNat with
       | none=>rfl
       | some d =>
        rw[e] at cv2
        obtain⟨tt,rfl,_⟩:=cv2
        cases of_decide_eq_true c2
      obtain⟨R2,G2,A2,P2,k2⟩:=done (.inl gv) _ rfl
      exact⟨_,rfl,_,rfl,_,rfl,lc,_,_,_,rfl,rfl,hc',zcw v0 (by trivial),_,rfl,_,rfl,_,rfl,la,_,_,_,rfl,rfl,(by rw[zat R.nca.symm];exact ha),zcw v0 (by trivial),_,_,true,_,_,_,rfl,R2,G2,A2,P2,k2⟩
     ·obtain⟨d2,gv⟩:∃ d,Far.get cs v.toNat=some d:=by
       cases e:Far.get cs v.toNat with
       | none=>rw[e] at cv2;exact absurd (decide_eq_true (show x2=V.non from cv2)) c2
       | some d=>exact⟨d,rfl⟩
      rw[gv] at cv2
      obtain⟨te,rfl,hte⟩:=cv2
      refine⟨_,rfl,_,rfl,_,rfl,lc,_,_,_,rfl,rfl,SqL.of hc',at2,tn,te,L3.e2 (d.1 + t.2.2,d.2 + 2 ^ k),L3.e2 d2,rfl,rfl,SqT.of en,SqT.of (Z1 _ _ hte),_,rfl,ite2 (fun c3=>?_) (fun c3=>?_)⟩
      ·have hl:=(zki _ _).mp c3
       obtain⟨R2,G2,A2,P2,k2⟩:=done (.inr ⟨d2,gv,hl⟩) _ rfl
       exact⟨_,rfl,_,rfl,_,rfl,lc,_,_,_,rfl,rfl,hc',zcw v0 (by trivial),_,rfl,_,rfl,_,rfl,la,_,_,_,rfl,rfl,(by rw[zat R.nca.symm];exact ha),zcw v0 (by trivial),_,_,true,_,_,_,rfl,R2,G2,A2,P2,k2⟩
      ·have hn:¬ Far.lt2 (d.1 + t.2.2,d.2 + 2 ^ k) d2:=fun z=>c3 ((zki _ _).mpr z)
       exact⟨cs,as,ag,_,_,_,rfl,R',G,AH,next (Pt.old gu gv hn),tkp'⟩
   ·obtain⟨cs,as,ag,y11,y12,y13,rfl,R,G,AH,Pt,tkp⟩:=h
    refine⟨cs,as,ag,_,_,_,_,_,_,_,rfl,R,G,AH,Pt.less fun z hz=>?_⟩
    exact (zlk hk hz).elim .inl fun y=>.inr (by rw[← et] at y;exact y)
  ·obtain⟨cs,as,ag,y7,y8,y9,y10,y11,y12,y13,rfl,R2,G2,A2,Pt⟩:=h
   have lk:((keepI ks).map V.int).length=ks.length:=by unfold keepI;rw[List.length_map,List.length_map]
   rw[lk,List.take_length] at Pt
   rcases Pt with ⟨ea,ec,st⟩ | ⟨ea,lt⟩
   ·subst ea
    rw[← ec] at st
    exact⟨Far.mu cs + 0,by rw[ec];trivial,cs,as,false,_,_,_,_,_,_,_,rfl,R2,G2,A2,fun _=>st,rfl⟩
   ·subst ea
    exact⟨Far.mu cs + 1,by trivial,cs,as,true,_,_,_,_,_,_,_,rfl,R2,G2,A2,fun z=>(by cases z),rfl⟩
theorem zhv (T:Bi mg) (D:DefOk K mg "fars_from" s_fars_from ["web","keep","root"]) (O_reached_from:Ok P w K mg base 2 "reached_from" ["web","keep","root"] (spReached K)):Ok P w K mg base 3 "fars_from" ["web","keep","root"] (spFars K):=by
 refine za2 (k:=2) D sc_fars_from (fun vs H Q E h=>?_) (fun f cdv A outer s H vs Q E hr h=>?_)
 ·obtain⟨n,ts,ks,wv,kv,r,rfl,_⟩:=h
  rfl
 obtain⟨n,ts,ks,wv,kv,r,rfl,wk,r0,r1,q⟩:=h
 have nd:=sc_fars_from.nd
 have n24:=wk.2.1.n24
 refine⟨_,(zad (zbc (zae O_reached_from hr rfl (zaa (pv 0) (zaa (pv 1) (zaa (pv 2) zab)))) (zbk (n:=2) rfl (zah (zag (i:=3) nd rfl (Or.inl rfl)) (zah (zag (i:=4) nd rfl (Or.inl rfl)) za4)))) (zaf (zaj (zbl (N:=["web","keep","root","costs","ahead"]) (sc0:=defScope s_fars_from) (own:=["cost"]) (fr:=[]) (js:=[]) rfl (zcm (pv 3)) (fun _ _ _ _=>(zag (i:=0) (by show List.Nodup [("cost":Str)];decide +kernel) rfl (Or.inl rfl))) (fun _ _ _ _=>zbt) (fun _ _ _ _=>(zgg (zan zea (pv 0) zbn (nomark _)) zbn (zam zbr (pv 0) zac (fun _ _=>rfl)))))))),?_⟩
 refine⟨_,rfl,_,rfl,_,rfl,n,ts,ks,wv,kv,r,rfl,wk,r0,r1,fun p lc la cvs avs cs J S ep ec ea cl G St=>?_⟩
 refine⟨p,_,rfl,SqT.of ep,rfl,_,_,rfl,_,_,rfl,rfl,?_⟩
 have lenC:cvs.length=n.toNat:=by rw[cl.1];exact G.len
 refine⟨_,rfl,lc,rfl,⟨_,SqL.of ec⟩,?_⟩
 refine zdv ec (fun σ'=>σ'.length=1) (fun i v _=>v=ov ((Far.get cs i).map (·.1))) (by trivial) (by rfl) (fun _ _ _ _ _ h=>h) (fun i x σ' H' hx s2 sg C hC=>?_) (fun L ys H2 hL s2 hH hly hys=>?_)
 ·match σ',sg with
  | [o],_ =>
   have cv:=cl.2 i x hx
   refine⟨_,rfl,rfl,_,rfl,ite2 (fun c=>?_) (fun c=>?_)⟩
   ·have e:Far.get cs i=none:=by
     cases e:Far.get cs i with
     | none=>rfl
     | some d =>
      rw[e] at cv
      obtain⟨tt,rfl,_⟩:=cv
      cases of_decide_eq_true c
    exact hC _ _ _ rfl (Same.refl _) (by rw[e];rfl)
   ·obtain⟨d,gu⟩:∃ d,Far.get cs i=some d:=by
     cases e:Far.get cs i with
     | none=>rw[e] at cv;exact absurd (decide_eq_true (show x=V.non from cv)) c
     | some d=>exact⟨d,rfl⟩
    rw[gu] at cv
    obtain⟨td,rfl,htd⟩:=cv
    exact⟨_,rfl,td,_,_,_,rfl,rfl,SqT.of (s2 _ _ htd),rfl,hC _ _ _ rfl (Same.refl _) (by rw[gu];rfl)⟩
 ·obtain⟨DD,eD⟩:∃ DD,DD=cs.map fun o=>o.map (·.1):=⟨_,rfl⟩
  have gD:∀ v,Far.get DD v=(Far.get cs v).map (·.1):=fun v=>by
   rw[eD];unfold Far.get
   rw[List.getD_eq_getElem?_getD,List.getElem?_map,List.getD_eq_getElem?_getD]
   cases cs[v]? <;> rfl
  refine q L DD H2 (S.trans s2) (S.free hL) ?_ (by rw[eD,List.length_map];exact G.len) fun v hv=>by rw[gD];exact G.dst St v
  rw[hH]
  refine congrArg (fun z=>some (HO.lst z)) (List.ext_getElem? fun i=>?_)
  have lD:DD.length=n.toNat:=by rw[eD,List.length_map];exact G.len
  by_cases hi:i < n.toNat
  ·rw[zmc (by trivial),gD]
   have e:ys[i]?=some ys[i]:=List.getElem?_eq_getElem (by trivial)
   rw[e,hys i _ e]
  ·rw[List.getElem?_eq_none (by trivial),List.getElem?_eq_none (by rw[List.length_map];trivial)]
theorem zmi (T:Bi mg) (D:DefOk K mg "across" s_across ["web","tie","heights"]):Ok P w K mg base 1 "across" ["web","tie","heights"] (spAcross K):=by
 refine za2 (k:=0) D sc_across (fun vs H Q E h=>?_) (fun f cdv A outer s H vs Q E hr h=>?_)
 ·obtain⟨n,ts,wv,k,p,hs,rfl,_⟩:=h
  rfl
 obtain⟨n,ts,wv,k,p,hs,rfl,isw,ok,hkl,ht,hlh,q⟩:=h
 have nd:=sc_across.nd
 obtain⟨g0,g,ws,rfl,hg0,hg,hall,hlw⟩:=zax isw
 obtain⟨ta,hta,htie⟩:=za9 hall hkl
 have tk:=ok.tie _ (zay hkl).2
 refine⟨_,(zad (zbc (zam zao (zam zao (pv 0) zac (fun _ _=>rfl)) (pv 1) (fun _ _=>rfl)) (zbk (n:=3) rfl (zah (zag (i:=3) nd rfl (Or.inl rfl)) (zah (zag (i:=4) nd rfl (Or.inl rfl)) (zah (zag (i:=5) nd rfl (Or.inl rfl)) za4))))) (zaf (zaj (zai zg6 rfl T.z_abs (by decide +kernel) (zaa (zar zb4 (zam zao (pv 2) (pv 3) (fun _ _=>rfl)) (zam zao (pv 2) (pv 4) (fun _ _=>rfl))) zab))))),?_⟩
 refine⟨_,rfl,g0,_,_,_,rfl,rfl,SqT.of hg0,rfl,_,rfl,g,_,_,_,rfl,rfl,SqT.of hg,zap (Int.natCast_nonneg _) hta,ta,_,rfl,SqT.of htie,rfl,_,_,rfl,_,_,rfl,_,_,rfl,rfl,?_⟩
 exact⟨_,rfl,_,rfl,p,_,_,_,rfl,rfl,SqT.of ht.1,zf6 (by trivial) (by trivial),_,rfl,_,rfl,p,_,_,_,rfl,rfl,SqT.of ht.1,zf6 (by trivial) (by trivial),_,_,rfl,rfl,_,rfl,q⟩
theorem zey (T:Bi mg) (D:DefOk K mg "heights_hold" s_heights_hold ["web","keep","heights"]) (O_is_wholes:Ok P w K mg base 2 "is_wholes" ["thing"] (spD1 K few wholesB)) (O_across:Ok P w K mg base 2 "across" ["web","tie","heights"] (spAcross K)):Ok P w K mg base 3 "heights_hold" ["web","keep","heights"] (spHold K):=by
 refine za2 (k:=2) D sc_heights_hold (fun vs H Q E h=>?_) (fun f cdv A outer s H vs Q E hr h=>?_)
 ·obtain⟨n,ts,ks,wv,kv,p,hs,rfl,_⟩:=h
  rfl
 obtain⟨n,ts,ks,wv,kv,p,hs,rfl,⟨isw,ok,isk,ko⟩,ht,q⟩:=h
 have nd:=sc_heights_hold.nd
 have n1:=ok.n1
 have few60:=ok.few
 obtain⟨g0,g,ws,rfl,hg0,hg,hall,hlw⟩:=zax isw
 obtain⟨kp,rfl,hkp⟩:=zbh isk
 refine⟨_,(zad (za6 (PW.pt (zcl (zcs (zb3 (zae O_is_wholes hr rfl (zaa (pv 2) zab)))) (zbx (zan zjg (zai zal rfl T.z_len (by decide +kernel) (zaa (pv 2) zab)) (zam zao (pv 0) zac (fun _ _=>rfl)) (nomark _))))) (zaf (zaj zcn)) zau) (zaf (zaj (zai (zc7 rfl) rfl T.z_all (by decide +kernel) (zaa (zbl (N:=["web","keep","heights"]) (sc0:=defScope s_heights_hold) (own:=["tie"]) (fr:=["web","heights"]) (js:=[0,2]) rfl (zct (pv 1)) (fun _ _ _ _=>(zag (i:=0) (by show List.Nodup [("tie":Str),("web":Str),("heights":Str)];decide +kernel) rfl (Or.inl rfl))) (fun _ _ _ _=>zbt) (fun _ _ _ _=>(zaz zhr (zae O_across hr rfl (zaa (pv 1) (zaa (pv 0) (zaa (pv 2) zab)))) (zam zbr (zam zbr (zam zbr (pv 1) zac (fun _ _=>rfl)) (pv 0) (fun _ _=>rfl)) zac (fun _ _=>rfl)) (nomark _)))) zab))))),?_⟩
 refine⟨_,rfl,.tuple (hs.map .int),_,rfl,ht.is,(by show (hs.map PyData.int).length≤1000;rw[List.length_map];exact ht.2),fun H1 s1=>⟨_,rfl,iteB2 (fun _=>?_) (fun c=>?_)⟩⟩
 case refine_2=>rw[zi6] at c;cases c
 have t1:=ht.same s1
 refine⟨_,rfl,p,_,rfl,.inr (SqT.of t1.1),_,rfl,g0,_,_,_,rfl,rfl,SqT.of (s1 _ _ hg0),rfl,rfl,_,rfl,?_⟩
 by_cases hn:hs.length=n.toNat
 case neg =>
  have ne:decide (V.int (((hs.map V.int).length:Nat):Int)=V.int n)=false:=decide_eq_false fun e=>by
   have:(((hs.map V.int).length:Nat):Int)=n:=by injection e
   rw[List.length_map] at this
   trivial
  rw[ne]
  refine iteT ?_
  have q1:=q H1 s1
  have e:holdB n ts ks hs=false:=by unfold holdB;rw[decide_eq_false hn];rfl
  rw[e] at q1;exact q1
 refine iteNS (by rw[List.length_map,hn];congr 1;trivial) ?_
 refine⟨_,rfl,kp,rfl,⟨_,SqT.of (s1 _ _ hkp)⟩,?_⟩
 have lk:((keepI ks).map V.int).length=ks.length:=by unfold keepI;rw[List.length_map,List.length_map]
 have lks:=ko.len
 refine zem (s1 _ _ hkp) (fun σ'=>∃ o,σ'=[o,some (.ref g0),some (.ref p)]) (fun i v _=>v=.bl (decide (acrossI ts hs (ks.getD i 0)≤(tieAt ts (ks.getD i 0)).2.2))) (by trivial) (by exact⟨none,rfl⟩) (fun _ _ _ _ _ h=>h) (fun i x σ' H' hx s2 sg C hC=>?_) (fun L ys H2 hL s2 hH hly hys=>?_)
 ·obtain⟨o,rfl⟩:=sg
  obtain⟨k,hk,rfl⟩:=zgx hx
  have hkl:k < ts.length:=ko.2 k (List.mem_of_getElem? hk)
  obtain⟨ta,hta,htie⟩:=za9 hall hkl
  have s12:=s1.trans s2
  have ek:ks.getD i 0=k:=by rw[List.getD_eq_getElem?_getD,hk];rfl
  refine⟨_,rfl,_,rfl,_,rfl,n,ts,_,k,p,hs,rfl,Is.same s12 _ isw,ok,hkl,ht.same s12,hn,?_⟩
  refine⟨_,rfl,g0,_,_,_,rfl,rfl,SqT.of (s12 _ _ hg0),rfl,_,rfl,g,_,_,_,rfl,rfl,SqT.of (s12 _ _ hg),zap (Int.natCast_nonneg _) hta,ta,_,_,_,rfl,rfl,SqT.of (s12 _ _ htie),rfl,_,_,rfl,rfl,hC _ _ _ ⟨_,rfl⟩ (Same.refl _) ?_⟩
  rw[ek]
 ·refine⟨L,_,rfl,SqL.of (by rw[hH,zc8 (hly.trans lk) hys]),?_⟩
  have q1:=q H2 (s1.trans s2)
  have e:holdB n ts ks hs=((List.range ks.length).map fun i=>decide (acrossI ts hs (ks.getD i 0)≤(tieAt ts (ks.getD i 0)).2.2)).all id:=by
   unfold holdB
   rw[decide_eq_true hn,Bool.true_and]
   have z:=congrArg (List.map fun k=>decide (acrossI ts hs k≤(tieAt ts k).2.2)) (L3.zb0 ks 0)
   rw[List.map_map] at z
   have z':((List.range ks.length).map fun i=>decide (acrossI ts hs (ks.getD i 0)≤(tieAt ts (ks.getD i 0)).2.2))=ks.map fun k=>decide (acrossI ts hs k≤(tieAt ts k).2.2):=z
   rw[z',List.all_map];rfl
  rw[e] at q1;exact q1
theorem zez (T:Bi mg) (D:DefOk K mg "heights_from" s_heights_from ["web","keep","a","roof"]) (O_fars_from:Ok P w K mg base 3 "fars_from" ["web","keep","root"] (spFars K)):Ok P w K mg base 4 "heights_from" ["web","keep","a","roof"] (spHFrom K):=by
 refine za2 (k:=3) D sc_heights_from (fun vs H Q E h=>?_) (fun f cdv A outer s H vs Q E hr h=>?_)
 ·obtain⟨n,ts,ks,wv,kv,a,roof,rfl,_⟩:=h
  rfl
 obtain⟨n,ts,ks,wv,kv,a,roof,rfl,wk,a0,a1,q⟩:=h
 have nd:=sc_heights_from.nd
 have n24:=wk.2.1.n24
 refine⟨_,(zaf (zaj (za1 zbg rfl T.z_tuple (by decide +kernel) (zaa (zbl (N:=["web","keep","a","roof"]) (sc0:=defScope s_heights_from) (own:=["length"]) (fr:=["roof"]) (js:=[3]) rfl (zcm (zae O_fars_from hr rfl (zaa (pv 0) (zaa (pv 1) (zaa (pv 2) zab))))) (fun _ _ _ _=>(zag (i:=0) (by show List.Nodup [("length":Str),("roof":Str)];decide +kernel) rfl (Or.inl rfl))) (fun _ _ _ _=>zbt) (fun _ _ _ _=>(zgg (zan zea (pv 0) zbn (nomark _)) (pv 1) (zai (zcy rfl) rfl T.z_min (by decide +kernel) (zaa (pv 0) (zaa (pv 1) zab)))))) zab)))),?_⟩
 refine⟨_,rfl,_,rfl,_,rfl,n,ts,ks,wv,kv,a,rfl,wk,a0,a1,fun l DD J S f1 e1 lD hD=>?_⟩
 refine⟨l,rfl,⟨_,SqL.of e1⟩,?_⟩
 refine zdv e1 (fun σ'=>∃ o,σ'=[o,some (.int roof)]) (fun i v _=>v=.int (capO roof (Far.get DD i))) (by rw[List.length_map];trivial) (by exact⟨none,rfl⟩) (fun _ _ _ _ _ h=>h) (fun i x σ' H' hx s2 sg C hC=>?_) (fun L ys H2 hL s2 hH hly hys=>?_)
 ·obtain⟨o,rfl⟩:=sg
  have hi:i < DD.length:=by have:=(List.getElem?_eq_some_iff.mp hx).1;rw[List.length_map] at this;exact this
  rw[zmc hi] at hx
  cases hx
  refine⟨_,rfl,rfl,_,rfl,?_⟩
  cases e:Far.get DD i with
  | none=>exact iteT ⟨_,rfl,hC _ _ _ ⟨_,rfl⟩ (Same.refl _) (by rw[e];rfl)⟩
  | some x=>exact iteF ⟨_,rfl,_,rfl,_,_,rfl,hC _ _ _ ⟨_,rfl⟩ (Same.refl _) (by rw[e];rfl)⟩
 ·have lY:ys.length=DD.length:=by rw[hly,List.length_map]
  refine⟨L,_,rfl,hH,fun t J2 S2 f2 e2=>q t DD J2 (S.trans (s2.trans S2)) ?_ lD hD⟩
  rw[e2]
  refine congrArg (fun z=>some (HO.tup z)) (List.ext_getElem? fun i=>?_)
  by_cases hi:i < DD.length
  ·have e:ys[i]?=some ys[i]:=List.getElem?_eq_getElem (by trivial)
   rw[e,hys i _ e,List.getElem?_map,List.getElem?_map,List.getElem?_eq_getElem hi]
   unfold Far.get
   rw[List.getD_eq_getElem?_getD,List.getElem?_eq_getElem hi];rfl
  ·rw[List.getElem?_eq_none (by trivial),List.getElem?_eq_none (by rw[List.length_map,List.length_map];trivial)]
theorem zgo (T:Bi mg) (D:DefOk K mg "tree_from" s_tree_from ["web","keep","root"]) (O_reached_from:Ok P w K mg base 2 "reached_from" ["web","keep","root"] (spReachedB K)):Ok P w K mg base 3 "tree_from" ["web","keep","root"] (spTreeB K):=by
 refine za2 (k:=2) D sc_tree_from (fun vs H Q E h=>?_) (fun f cdv A outer s H vs Q E hr h=>?_)
 ·obtain⟨n,ts,ks,wv,kv,r,rfl,_⟩:=h
  rfl
 obtain⟨n,ts,ks,wv,kv,r,rfl,wk,r0,r1,q⟩:=h
 have nd:=sc_tree_from.nd
 refine⟨_,(zad (zbc (zae O_reached_from hr rfl (zaa (pv 0) (zaa (pv 1) (zaa (pv 2) zab)))) (zbk (n:=2) rfl (zah (zag (i:=3) nd rfl (Or.inl rfl)) (zah (zag (i:=4) nd rfl (Or.inl rfl)) za4)))) (zaf (zaj (za1 zbg rfl T.z_tuple (by decide +kernel) (zaa (pv 4) zab))))),?_⟩
 refine⟨_,rfl,_,rfl,_,rfl,n,ts,ks,wv,kv,r,rfl,wk,r0,r1,fun p lc la cvs as cs J S ep ec ea cl G=>?_⟩
 refine⟨p,_,rfl,SqT.of ep,rfl,_,_,rfl,_,_,rfl,rfl,?_⟩
 exact⟨_,rfl,la,_,rfl,ea,fun t J2 S2 f2 e2=>q t as cs J2 (S.trans S2) e2 G⟩
theorem zky {ws:List V} {x:V}:atI (ws++[x]) (-1)=some x:=by
 unfold atI ixN
 rw[if_neg (by decide),if_pos (by rw[List.length_append,List.length_singleton];trivial)]
 show (ws++[x])[(-1 + ((ws++[x]).length:Int)).toNat]?=some x
 rw[List.length_append,List.length_singleton,show (-1 + ((ws.length + 1:Nat):Int)).toNat=ws.length by trivial]
 simp
theorem zji (T:Bi mg) (D:DefOk K mg "the_way" s_the_way ["web","keep","a","b"]) (O_tree_from:Ok P w K mg base 3 "tree_from" ["web","keep","root"] (spTreeB K)):Ok P w K mg base 4 "the_way" ["web","keep","a","b"] (spWayB K):=by
 refine za2 (k:=3) D sc_the_way (fun vs H Q E h=>?_) (fun f cdv A outer s H vs Q E hr h=>?_)
 ·obtain⟨n,ts,ks,wv,kv,a,b,rfl,_⟩:=h
  rfl
 obtain⟨n,ts,ks,wv,kv,a,b,rfl,wk,a0,a1,b0,b1,q⟩:=h
 have nd:=sc_the_way.nd
 have n24:=wk.2.1.n24
 have KB:=zck wk.2.1 wk.2.2.2
 refine⟨_,(zad (zas (i:=4) nd rfl (Or.inl rfl) (zae O_tree_from hr rfl (zaa (pv 0) (zaa (pv 1) (zaa (pv 3) zab))))) (zad (zas (i:=5) nd rfl (Or.inl rfl) (za7 (zaa (pv 2) zab))) (zad (zkf PassesOwn.never (zan zjg (zam zaw (pv 5) (zd1 zcd zac) (fun _ _=>rfl)) (pv 3) (nomark _)) (zad (za6 (zan zea (zam zao (pv 4) (zam zaw (pv 5) (zd1 zcd zac) (fun _ _=>rfl)) (fun _ _=>rfl)) zbn (nomark _)) (zaf (zaj zbn)) zau) (zaf (zcb (zgi PySem.F.plainAttrs_list PySem.F.slot_list_append PySem.F.type_list_append zb1 (pv 5) (zaa (zam zao (pv 4) (zam zaw (pv 5) (zd1 zcd zac) (fun _ _=>rfl)) (fun _ _=>rfl)) zab)))))) (zaf (zaj (za1 zbg rfl T.z_tuple (by decide +kernel) (zaa (pv 5) zab))))))),?_⟩
 refine⟨_,rfl,_,rfl,_,rfl,n,ts,ks,wv,kv,b,rfl,wk,b0,b1,fun p as cs J S ep G=>?_⟩
 refine⟨_,rfl,(by show 1≤1000;decide),fun lw J1 S1 f1 e1=>?_⟩
 have lA:=G.alen
 have ep1:=S1 _ _ ep
 have fw:H lw=none:=S.free f1
 have nlp:p≠lw:=fun z=>by rw[z,f1] at ep;cases ep
 refine⟨fun m σ J2=>∃ (pre:List Nat) (c:Nat),σ=[some wv,some kv,some (.int a),some (.int b),some (.ref p),some (.ref lw)]∧Same H J2∧J2 p=some (.tup (as.map oa))∧J2 lw=some (.lst (natV (pre++[c])))∧c < n.toNat ∧
  ((pre=[]∧c=a.toNat∧Far.get cs c=none∧m=0)∨∃ ca cc,Far.get cs a.toNat=some ca∧Far.get cs c=some cc∧(∀ P,Far.TPw as b.toNat P c->Far.TPw as b.toNat (P++pre.reverse) a.toNat)∧pre.length + 1≤Far.beyond n.toNat cs cc.1∧m=cc.1.toNat),?_,?_⟩
 ·have e1':J1 lw=some (.lst (natV ([]++[a.toNat]))):=by rw[e1];show some (HO.lst [V.int a])=some (HO.lst [V.int ((a.toNat:Nat):Int)]);rw[Int.toNat_of_nonneg a0]
  cases e:Far.get cs a.toNat with
  | none=>exact⟨0,[],a.toNat,rfl,S.trans S1,ep1,e1',by trivial,.inl ⟨rfl,rfl,e,rfl⟩⟩
  | some ca=>exact⟨_,[],a.toNat,rfl,S.trans S1,ep1,e1',by trivial,.inr ⟨ca,ca,rfl,e,fun P t=>by rw[List.reverse_nil,List.append_nil];exact t,Far.zlh (by trivial) e,rfl⟩⟩
 rintro m σ J2 ⟨pre,c,rfl,sm,hp,hw,hc,inv⟩
 have lastV:atI (natV (pre++[c])) (-1)=some (.int (c:Int)):=by
  unfold natV;rw[List.map_append];exact zky
 have hat:atI (as.map oa) (c:Int)=some (oa (Far.get as c)):=zap (Int.natCast_nonneg _) (by rw[Int.toNat_natCast];exact zrg (by trivial))
 refine⟨_,rfl,_,rfl,lw,_,_,_,rfl,rfl,SqL.of hw,lastV,_,rfl,rfl,_,rfl,?_⟩
 by_cases cb:c=b.toNat
 ·refine iteNS (by rw[cb,Int.toNat_of_nonneg b0]) ?_
  refine⟨_,rfl,lw,_,rfl,hw,fun t J3 S3 f3 e3=>q _ J3 (sm.trans S3) ⟨cs,as,G,.inr ?_⟩⟩
  rcases inv with ⟨_,_,ec,_⟩ | ⟨ca,cc,e1',e2',tp,hl,_⟩
  ·rw[cb,G.start] at ec;cases ec
  ·have:=Far.ziq n.toNat cs cc.1
   refine⟨t,pre++[c],ca,rfl,e3,by rw[List.length_append,List.length_singleton];trivial,e1',?_⟩
   rw[List.reverse_append]
   have:=tp [b.toNat] (by rw[cb];exact .root)
   rw[cb];exact this
 ·have ne:decide (V.int (c:Int)=V.int b)=false:=decide_eq_false fun z=>cb (by injection z with z;trivial)
  rw[ne]
  refine iteT ⟨fun σ' J'=>∃ m',m' < m∧∃ (pre:List Nat) (c:Nat),σ'=[some wv,some kv,some (.int a),some (.int b),some (.ref p),some (.ref lw)]∧Same H J'∧J' p=some (.tup (as.map oa))∧J' lw=some (.lst (natV (pre++[c])))∧c < n.toNat ∧
   ((pre=[]∧c=a.toNat∧Far.get cs c=none∧m'=0)∨∃ ca cc,Far.get cs a.toNat=some ca∧Far.get cs c=some cc∧(∀ P,Far.TPw as b.toNat P c->Far.TPw as b.toNat (P++pre.reverse) a.toNat)∧pre.length + 1≤Far.beyond n.toNat cs cc.1∧m'=cc.1.toNat),fun _ _ h=>h,?_⟩
  refine⟨_,rfl,_,rfl,_,rfl,lw,_,_,_,rfl,rfl,SqL.of hw,lastV,p,_,_,_,rfl,rfl,SqT.of hp,hat,rfl,_,rfl,?_⟩
  cases ea:Far.get as c with
  | none =>
   refine iteT (q _ _ sm ⟨cs,as,G,.inl ⟨rfl,?_⟩⟩)
   rcases inv with ⟨_,ec,e2',_⟩ | ⟨ca,cc,_,e2',_⟩
   ·rw[← ec];exact e2'
   ·exact absurd ea (G.has c cc e2' cb)
  | some u =>
   obtain⟨l,k,cu,mm,e1',e2'⟩:=G.arc _ _ ea
   rw[ea] at hat
   rcases inv with ⟨_,_,ec,_⟩ | ⟨ca,cc,e3',e4',tp,hl,rfl⟩
   ·rw[ec] at e2';cases e2'
   ·have ecc:cc=(cu.1 + l,cu.2 + 2 ^ k):=Option.some.inj (e4'.symm.trans e2')
    have l1:=KB.pos _ _ _ _ mm
    have cu0:=G.nn _ _ e1'
    have hu:=(zkz wk.2.1 wk.2.2.2 mm).1
    have c1:cc.1=cu.1 + l:=by rw[ecc]
    have bl:=Far.znk hu e1' (show cu.1 < cc.1 by trivial)
    have ble:=Far.ziq n.toNat cs cu.1
    have lenW:(natV (pre++[c])).length=pre.length + 1:=by unfold natV;rw[List.length_map,List.length_append,List.length_singleton]
    refine iteF ⟨_,rfl,.inl ⟨rfl,_,SqL.of hw⟩,_,rfl,_,rfl,_,rfl,lw,_,_,_,rfl,rfl,SqL.of hw,lastV,p,_,_,_,rfl,rfl,SqT.of hp,hat,lw,_,_,rfl,rfl,hw,by trivial,fun J3 b3 e3=>?_⟩
    refine⟨cu.1.toNat,by trivial,pre++[c],u,rfl,fun c o z=>b3 _ _ (zaq z fw) (sm _ _ z),b3 _ _ nlp hp,?_,hu,.inr ⟨ca,cu,e3',e1',fun P t=>?_,by rw[List.length_append,List.length_singleton];trivial,rfl⟩⟩
    ·rw[e3];unfold natV;rw[List.map_append (l₂:=[u])];rfl
    ·have:=tp (P++[c]) (.step ea t)
     rw[List.reverse_append]
     rw[List.append_assoc] at this
     exact this
theorem zfl (T:Bi mg) (D:DefOk K mg "tie_between" s_tie_between ["web","a","b"]):Ok P w K mg base 1 "tie_between" ["web","a","b"] (spTB K):=by
 refine za2 (k:=0) D sc_tie_between (fun vs H Q E h=>?_) (fun f cdv A outer s H vs Q E hr h=>?_)
 ·obtain⟨n,ts,wv,u,v,rfl,_⟩:=h
  rfl
 obtain⟨n,ts,wv,u,v,rfl,isw,few60,q⟩:=h
 have nd:=sc_tie_between.nd
 have units:∀ {x:Nat},x≤3->(A.deeper (envOfC "tie_between" (defScope s_tie_between) s.heap.objs.size f cdv)).units + x < cLine:=fun {x} hu=>by have:=hr.units;trivial
 obtain⟨g0,g,ws,rfl,hg0,hg,hall,hlw⟩:=zax isw
 refine⟨_,(zad (zas (i:=3) nd rfl (Or.inl rfl) (za0 (zaa (zai (zcy rfl) rfl T.z_min (by decide +kernel) (zaa (pv 1) (zaa (pv 2) zab))) (zaa (zai (zdw rfl) rfl T.z_max (by decide +kernel) (zaa (pv 1) (zaa (pv 2) zab))) zab)))) (zad (zbm PassesOwn.never rfl (zpu true rfl T.z_enumerate (zaa (zam zao (pv 0) zac (fun _ _=>rfl)) zab)) (zbk (n:=2) rfl (zah (zag (i:=4) nd rfl (Or.inl rfl)) (zah (zag (i:=5) nd rfl (Or.inl rfl)) za4))) (zaf (za6 (zan zmh (za8 zbi (pv 5) zbe (zbj zac)) (pv 3) (nomark _)) (zaf (zaj (pv 4))) zau))) (zaf (zaj zbn)))),?_⟩
 refine⟨_,rfl,_,rfl,_,_,rfl,_,rfl,_,rfl,_,_,rfl,(by show 2≤1000;decide),fun te J1 S1 f1 e1=>?_⟩
 have eMin:(if (v:Int) < (u:Int) then (v:Int) else u)=min (u:Int) v:=by split <;> trivial
 have eMax:(if (v:Int) > (u:Int) then (v:Int) else u)=max (u:Int) v:=by split <;> trivial
 rw[eMin,eMax] at e1
 refine⟨_,rfl,g0,_,_,_,rfl,rfl,SqT.of (S1 _ _ hg0),rfl,g,rfl,⟨ws,SqX.of (S1 _ _ hg)⟩,?_⟩
 refine⟨fun i m σ J=>m=ts.length - i∧i≤ts.length∧(∃ y4 y5:Option V,σ=[some (.ref g0),some (.int (u:Int)),some (.int (v:Int)),some (.ref te),y4,y5])∧Same J1 J∧∀ k,k < i->isTB ts u v k=false,⟨_,rfl,Nat.zero_le _,⟨none,none,rfl⟩,Same.refl _,fun k hk=>(by trivial)⟩,?_⟩
 rintro i m σ J ⟨rfl,hi,⟨y4,y5,rfl⟩,sm,pre⟩
 have sH:=S1.trans sm
 have sq:SqX true K J g ws:=SqX.of (sH _ _ hg)
 by_cases hlt:i < ts.length
 ·refine .inr ⟨⟨ws,ws[i]'(by trivial),sq,by simp [show i < ws.length by trivial]⟩,fun σ' J'=>∃ m',m' < ts.length - i∧(m'=ts.length - (i + 1)∧i + 1≤ts.length∧(∃ y4 y5:Option V,σ'=[some (.ref g0),some (.int (u:Int)),some (.int (v:Int)),some (.ref te),y4,y5])∧Same J1 J'∧∀ k,k < i + 1->isTB ts u v k=false),fun _ _ h=>h,fun x J' hy=>?_⟩
  obtain⟨T',y,hT,rfl,rfl,ey⟩:=hy
  have hyi:=ey ws sq
  obtain⟨ta,hta,htie⟩:=za9 hall hlt
  rw[hta] at hyi
  cases hyi
  have S2:=zav (o:=.tup [.int (i:Nat),.ref ta]) hT
  have htie':=S2 _ _ (sH _ _ htie)
  refine⟨T',_,rfl,SqT.of zak,rfl,_,_,rfl,_,_,rfl,rfl,?_⟩
  refine⟨_,rfl,_,rfl,ta,_,rfl,htie',fun tc J3 S3 e3=>?_⟩
  have e3':J3 tc=some (.tup (([(tieAt ts i).1,(tieAt ts i).2.1]:List Int).map V.int)):=e3
  have e1':J3 te=some (.tup (([min (u:Int) v,max (u:Int) v]:List Int).map V.int)):=S3 _ _ (S2 _ _ (sm _ _ e1))
  refine⟨_,rfl,.tuple (([(tieAt ts i).1,(tieAt ts i).2.1]:List Int).map .int),.tuple (([min (u:Int) v,max (u:Int) v]:List Int).map .int),⟨tc,_,rfl,e3',IsAll.ints _⟩,⟨te,_,rfl,e1',IsAll.ints _⟩,zc3 _,zc3 _,?_,_,rfl,?_⟩
  ·have d1:=zie [(tieAt ts i).1,(tieAt ts i).2.1]
   have d2:PyData.depth (.tuple (([(tieAt ts i).1,(tieAt ts i).2.1]:List Int).map .int))=PyData.depthAll (([(tieAt ts i).1,(tieAt ts i).2.1]:List Int).map .int) + 1:=rfl
   exact units (Nat.le_trans (Nat.min_le_left _ _) (by rw[d2];trivial))
  have eq:PyData.eqv (.tuple (([(tieAt ts i).1,(tieAt ts i).2.1]:List Int).map .int)) (.tuple (([min (u:Int) v,max (u:Int) v]:List Int).map .int))=isTB ts u v i:=zoc _ _ _ _
  rw[eq]
  have SS:=S2.trans S3
  refine ite2 (fun c=>?_) (fun c=>?_)
  ·have et:tbN ts u v=some i:=by
    unfold tbN
    refine List.find?_range_eq_some.mpr ⟨c,List.mem_range.mpr hlt,fun j hj=>?_⟩
    rw[pre j hj];rfl
   have q1:=q J3 (sH.trans SS)
   rw[et] at q1
   exact⟨_,rfl,q1⟩
  ·refine⟨ts.length - (i + 1),by trivial,rfl,hlt,⟨_,_,rfl⟩,sm.trans SS,fun k hk=>?_⟩
   by_cases z:k=i
   ·rw[z];exact Bool.eq_false_iff.mpr c
   ·exact pre k (by trivial)
 ·have e:i=ts.length:=by trivial
  subst e
  refine .inl ⟨⟨ws,sq,by trivial⟩,?_⟩
  have et:tbN ts u v=none:=by
   unfold tbN
   refine List.find?_eq_none.mpr fun k hk=>?_
   rw[pre k (List.mem_range.mp hk)];exact Bool.false_ne_true
  have q1:=q J sH
  rw[et] at q1
  exact q1
theorem zgp (T:Bi mg) (D:DefOk K mg "ties_along" s_ties_along ["web","places"]) (O_tie_between:Ok P w K mg base 1 "tie_between" ["web","a","b"] (spTB K)):Ok P w K mg base 2 "ties_along" ["web","places"] (spAlong K):=by
 refine za2 (k:=1) D sc_ties_along (fun vs H Q E h=>?_) (fun f cdv A outer s H vs Q E hr h=>?_)
 ·obtain⟨n,ts,wv,t,ws,rfl,_⟩:=h
  rfl
 obtain⟨n,ts,wv,t,ws,rfl,isw,few60,ht,l24,lk,q⟩:=h
 have nd:=sc_ties_along.nd
 have lenW:(natV ws).length=ws.length:=by unfold natV;rw[List.length_map]
 have ecut:cutV (natV ws) (some 1) none=natV (ws.drop 1):=by
  unfold cutV
  have h1:HT.sIx (natV ws).length (natV ws).length none=(natV ws).length:=rfl
  rw[h1]
  by_cases z:ws=[]
  ·subst z;rfl
  ·have pos:=List.length_pos_iff.mpr z
   have h0:HT.sIx (natV ws).length 0 (some 1)=1:=by
    unfold HT.sIx
    simp
    trivial
   rw[h0,List.take_of_length_le (by rw[List.length_drop];exact Nat.le_refl _)]
   unfold natV
   rw[List.map_drop]
 refine⟨_,(zaf (zaj (zbl (N:=["web","places"]) (sc0:=defScope s_ties_along) (own:=["one","other"]) (fr:=["web"]) (js:=[0]) rfl (zkg true true rfl T.z_zip (zaa (pv 1) (zaa (za8 zbi (pv 1) (zbj zac) zbe) zab))) (fun _ _ _ _=>(zje (n:=2) rfl (zah (zag (i:=0) (by show List.Nodup [("one":Str),("other":Str),("web":Str)];decide +kernel) rfl (Or.inl rfl)) (zah (zag (i:=1) (by show List.Nodup [("one":Str),("other":Str),("web":Str)];decide +kernel) rfl (Or.inl rfl)) za4)))) (fun _ _ _ _=>zbt) (fun _ _ _ _=>(zae O_tie_between hr rfl (zaa (pv 2) (zaa (pv 0) (zaa (pv 1) zab)))))))),?_⟩
 refine⟨_,rfl,_,rfl,_,rfl,t,_,rfl,ht,fun t2 J1 S1 e1=>?_⟩
 rw[ecut] at e1
 refine⟨t,t2,rfl,⟨_,SqX.of (t:=true) (S1 _ _ ht)⟩,⟨_,SqX.of (t:=true) e1⟩,?_⟩
 have lenD:(natV (ws.drop 1)).length=ws.length - 1:=by unfold natV;rw[List.length_map,List.length_drop]
 refine zg2 (t1:=true) (t2:=true) (xs:=natV ws) (zs:=natV (ws.drop 1)) (S1 _ _ ht) e1 (fun σ'=>∃ o1 o2,σ'=[o1,o2,some wv]) (fun i x _=>x=V.int (((tbN ts (ws.getD i 0) (ws.getD (i + 1) 0)).getD 0:Nat):Int)) (by trivial) (by exact⟨none,none,rfl⟩) (fun _ _ _ _ _ h=>h) (fun i x z U σ' H' hxi hzi s2 hU sg C hC=>?_) (fun L ys H2 hL s2 hH hly hys=>?_)
 ·obtain⟨o1,o2,rfl⟩:=sg
  obtain⟨u,hu,rfl⟩:=zb9 hxi
  obtain⟨v,hv,rfl⟩:=zb9 hzi
  rw[List.getElem?_drop,Nat.add_comm] at hv
  obtain⟨k,ek,hk⟩:=ze5 lk hu hv
  have eu:ws.getD i 0=u:=by rw[List.getD_eq_getElem?_getD,hu];rfl
  have ev:ws.getD (i + 1) 0=v:=by rw[List.getD_eq_getElem?_getD,hv];rfl
  refine⟨U,_,rfl,SqT.of zak,rfl,_,_,rfl,_,_,rfl,rfl,?_⟩
  have SU:=zav (o:=.tup [V.int (u:Int),.int (v:Int)]) hU
  refine⟨_,rfl,_,rfl,_,rfl,n,ts,wv,u,v,rfl,Is.same (S1.trans (s2.trans SU)) _ isw,few60,fun H5 s5=>hC _ _ _ ⟨_,_,rfl⟩ (SU.trans s5) ?_⟩
  rw[eu,ev,ek];rfl
 ·refine q L H2 (S1.trans s2) ?_
  rw[hH]
  refine congrArg (fun z=>some (HO.lst z)) (List.ext_getElem? fun i=>?_)
  have hl2:ys.length=ws.length - 1:=by rw[hly,lenW,lenD];trivial
  unfold alongN natV
  rw[List.map_map,List.getElem?_map]
  by_cases hi:i < ws.length - 1
  ·have e:ys[i]?=some ys[i]:=List.getElem?_eq_getElem (by trivial)
   rw[e,hys i _ e,List.getElem?_range hi];rfl
  ·rw[List.getElem?_eq_none (by trivial),List.getElem?_eq_none (by rw[List.length_range];trivial)];rfl
theorem zgn (T:Bi mg) (D:DefOk K mg "way_length" s_way_length ["web","way"]) (O_ties_along:Ok P w K mg base 2 "ties_along" ["web","places"] (spAlong K)):Ok P w K mg base 3 "way_length" ["web","way"] (spWLen K):=by
 refine za2 (k:=2) D sc_way_length (fun vs H Q E h=>?_) (fun f cdv A outer s H vs Q E hr h=>?_)
 ·obtain⟨n,ts,wv,t,ws,rfl,_⟩:=h
  rfl
 obtain⟨n,ts,wv,t,ws,rfl,isw,few60,ht,l24,lk,q⟩:=h
 have nd:=sc_way_length.nd
 obtain⟨g0,g,tws,rfl,hg0,hg,hall,hlw⟩:=zax isw
 refine⟨_,(zaf (zaj (zai (znh rfl) rfl T.z_sum (by decide +kernel) (zaa (zbl (N:=["web","way"]) (sc0:=defScope s_way_length) (own:=["tie"]) (fr:=["web"]) (js:=[0]) rfl (zcm (zae O_ties_along hr rfl (zaa (pv 0) (zaa (pv 1) zab)))) (fun _ _ _ _=>(zag (i:=0) (by show List.Nodup [("tie":Str),("web":Str)];decide +kernel) rfl (Or.inl rfl))) (fun _ _ _ _=>zbt) (fun _ _ _ _=>(zam zbr (zam zbr (zam zbr (pv 1) zac (fun _ _=>rfl)) (pv 0) (fun _ _=>rfl)) zac (fun _ _=>rfl)))) zab)))),?_⟩
 refine⟨_,rfl,_,rfl,n,ts,_,t,ws,rfl,isw,few60,ht,l24,lk,fun l J1 S1 e1=>?_⟩
 refine⟨l,rfl,⟨_,SqL.of e1⟩,?_⟩
 have lenA:(natV (alongN ts ws)).length=ws.length - 1:=by unfold natV alongN;rw[List.length_map,List.length_map,List.length_range]
 refine zdv e1 (fun σ'=>∃ o,σ'=[o,some (.ref g0)]) (fun i x _=>x=V.int (tieAt ts ((alongN ts ws).getD i 0)).2.2) (by trivial) (by exact⟨none,rfl⟩) (fun _ _ _ _ _ h=>h) (fun i x σ' H' hx s2 sg C hC=>?_) (fun L ys H2 hL s2 hH hly hys=>?_)
 ·obtain⟨o,rfl⟩:=sg
  obtain⟨k,hk,rfl⟩:=zb9 hx
  have hkl:=zo1 lk k (List.mem_of_getElem? hk)
  obtain⟨ta,hta,htie⟩:=za9 hall hkl
  have s12:=S1.trans s2
  have ek:(alongN ts ws).getD i 0=k:=by rw[List.getD_eq_getElem?_getD,hk];rfl
  exact⟨_,rfl,g0,_,_,_,rfl,rfl,SqT.of (s12 _ _ hg0),rfl,_,rfl,g,_,_,_,rfl,rfl,SqT.of (s12 _ _ hg),zap (Int.natCast_nonneg _) hta,ta,_,_,_,rfl,rfl,SqT.of (s12 _ _ htie),rfl,hC _ _ _ ⟨_,rfl⟩ (Same.refl _) (by rw[ek])⟩
 ·refine⟨L,(alongN ts ws).map fun k=>(tieAt ts k).2.2,rfl,?_,?_⟩
  ·rw[hH]
   refine congrArg (fun z=>some (HO.lst z)) (List.ext_getElem? fun i=>?_)
   have hl2:ys.length=ws.length - 1:=by rw[hly,lenA]
   have la:(alongN ts ws).length=ws.length - 1:=by unfold alongN;rw[List.length_map,List.length_range]
   rw[List.getElem?_map,List.getElem?_map]
   by_cases hi:i < ws.length - 1
   ·have e:ys[i]?=some ys[i]:=List.getElem?_eq_getElem (by trivial)
    have e2:(alongN ts ws)[i]?=some ((alongN ts ws).getD i 0):=by rw[List.getD_eq_getElem?_getD,List.getElem?_eq_getElem (by trivial)];rfl
    rw[e,hys i _ e,e2];rfl
   ·rw[List.getElem?_eq_none (by trivial),List.getElem?_eq_none (by trivial)];rfl
  ·rw[zi5]
   exact q H2 (S1.trans s2)
theorem zgq (T:Bi mg) (D:DefOk K mg "need_times" s_need_times ["t"]) (O_is_whole:Ok P w K mg base 1 "is_whole" ["thing"] (spD1 K (fun _=>True) wholeB)):Ok P w K mg base 2 "need_times" ["t"] (spNeed K):=by
 refine za2 (k:=1) D sc_need_times (fun vs H Q E h=>?_) (fun f cdv A outer s H vs Q E hr h=>?_)
 ·obtain⟨t,rfl,_⟩:=h
  rfl
 obtain⟨t,rfl,t1,t99,q⟩:=h
 have nd:=sc_need_times.nd
 refine⟨_,(zaf (za6 (PW.pt (zcl (zcs (zb3 (zae O_is_whole hr rfl (zaa (pv 0) zab)))) (zbx (zcs (zn8 zhr zhr zac (pv 0) zac))))) (zaf zn9) zau)),?_⟩
 refine⟨_,rfl,.int t,.int t,rfl,rfl,trivial,fun H1 s1=>⟨_,rfl,iteF ?_⟩⟩
 refine⟨_,rfl,_,_,rfl,rfl,_,rfl,?_⟩
 have e1:decide ((1:Int)≤t)=true:=decide_eq_true t1
 have e2:decide (t≤99)=true:=decide_eq_true t99
 rw[e1]
 refine iteT ⟨_,_,rfl,rfl,_,rfl,?_⟩
 rw[e2]
 exact iteF (q H1 s1)
theorem zhs (T:Bi mg) (D:DefOk K mg "is_within" s_is_within ["web","tie","t","way"]) (O_way_length:Ok P w K mg base 3 "way_length" ["web","way"] (spWLen K)):Ok P w K mg base 4 "is_within" ["web","tie","t","way"] (spWithin K):=by
 refine za2 (k:=3) D sc_is_within (fun vs H Q E h=>?_) (fun f cdv A outer s H vs Q E hr h=>?_)
 ·obtain⟨n,ts,ks,wv,k,t,v,rfl,_⟩:=h
  rfl
 obtain⟨n,ts,ks,wv,k,t,v,rfl,isw,ok,ko,hkl,t1,t99,hv,q⟩:=h
 have nd:=sc_is_within.nd
 have tk:=ok.tie _ (zay hkl).2
 obtain⟨g0,g,ws',rfl,hg0,hg,hall,hlw⟩:=zax isw
 obtain⟨ta,hta,htie⟩:=za9 hall hkl
 refine⟨_,(zaf (zaj (zbv (zaz zgk (pv 3) zbn (nomark _)) (zbs (zaz zhr (zae O_way_length hr rfl (zaa (pv 0) (zaa (pv 3) zab))) (zar zb8 (pv 2) (zam zao (zam zao (zam zao (pv 0) zac (fun _ _=>rfl)) (pv 1) (fun _ _=>rfl)) zac (fun _ _=>rfl))) (nomark _)))))),?_⟩
 rcases hv with ⟨rfl,hd⟩ | ⟨tw,ws,x,rfl,htw,l24,tr,hd⟩
 ·refine⟨_,rfl,rfl,_,rfl,iteF ?_⟩
  have q0:=q H (Same.refl H)
  rw[zp9 hd] at q0
  exact q0
 ·obtain⟨ew,lk⟩:=zpj ok ko tr
  refine⟨_,rfl,rfl,_,rfl,iteT ?_⟩
  refine⟨_,rfl,_,rfl,n,ts,_,tw,ws,rfl,isw,ok.few,htw,l24,lk,fun J S=>?_⟩
  have q0:=q J S
  rw[zp9 hd] at q0
  rw[ew]
  exact⟨_,rfl,_,rfl,g0,_,_,_,rfl,rfl,SqT.of (S _ _ hg0),rfl,_,rfl,g,_,_,_,rfl,rfl,SqT.of (S _ _ hg),zap (Int.natCast_nonneg _) hta,ta,_,_,_,rfl,rfl,SqT.of (S _ _ htie),rfl,_,_,rfl,rfl,.inl ⟨by trivial,by trivial⟩,_,_,rfl,rfl,q0⟩
theorem zoe (T:Bi mg) (D:DefOk K mg "whole" s_whole ["web"]):Ok P w K mg base 1 "whole" ["web"] (spWhole K):=by
 refine za2 (k:=0) D sc_whole (fun vs H Q E h=>?_) (fun f cdv A outer s H vs Q E hr h=>?_)
 ·obtain⟨n,ts,v,rfl,_⟩:=h
  rfl
 obtain⟨n,ts,v,rfl,hw,few60,q⟩:=h
 have nd:=sc_whole.nd
 obtain⟨g0,g,ws,rfl,hg0,hg,hall,hlw⟩:=zax hw
 refine⟨_,(zaf (zaj (za1 (zfu rfl) rfl T.z_tuple (by decide +kernel) (zaa (za1 zga rfl T.z_range (by decide +kernel) (zaa (zai zal rfl T.z_len (by decide +kernel) (zaa (zam zao (pv 0) zac (fun _ _=>rfl)) zab)) zab)) zab)))),?_⟩
 refine⟨_,rfl,g0,_,_,_,rfl,rfl,SqT.of hg0,rfl,g,_,rfl,.inr (SqT.of hg),_,rfl,fun r hr'=>?_⟩
 refine⟨r,_,rfl,zak,by trivial,by trivial,fun l H' S f e=>q l H' ((zav hr').trans S) ((zav (o:=.rng 0 _) hr').free f) ?_⟩
 rw[e,show ((ws.length:Nat):Int).toNat=ts.length by trivial]
theorem zjj (T:Bi mg) (D:DefOk K mg "not_kept" s_not_kept ["web","keep"]) (O_whole:Ok P w K mg base 1 "whole" ["web"] (spWhole K)):Ok P w K mg base 2 "not_kept" ["web","keep"] (spOuts K):=by
 refine za2 (k:=1) D sc_not_kept (fun vs H Q E h=>?_) (fun f cdv A outer s H vs Q E hr h=>?_)
 ·obtain⟨n,ts,ks,wv,kv,rfl,_⟩:=h
  rfl
 obtain⟨n,ts,ks,wv,kv,rfl,wk,q⟩:=h
 have nd:=sc_not_kept.nd
 have few60:=wk.2.1.few
 obtain⟨kp,rfl,hkp⟩:=zbh wk.2.2.1
 rw[← zbd] at hkp
 refine⟨_,(zaf (zaj (zbl (N:=["web","keep"]) (sc0:=defScope s_not_kept) (own:=["tie"]) (fr:=["keep"]) (js:=[1]) rfl (zct (zae O_whole hr rfl (zaa (pv 0) zab))) (fun _ _ _ _=>(zag (i:=0) (by show List.Nodup [("tie":Str),("keep":Str)];decide +kernel) rfl (Or.inl rfl))) (fun _ _ _ _=>(zjb (zan zdp (pv 0) (pv 1) (by with_unfolding_all rfl)))) (fun _ _ _ _=>(pv 0))))),?_⟩
 refine⟨_,rfl,n,ts,wv,rfl,wk.1,few60,fun l H1 s1 f1 e1=>?_⟩
 refine⟨l,rfl,⟨_,SqT.of e1⟩,?_⟩
 have len:(natV (List.range ts.length)).length=ts.length:=by unfold natV;rw[List.length_map,List.length_range]
 refine znb e1 (fun σ'=>∃ o,σ'=[o,some (.ref kp)]) (fun i=>if decide (i ∉ ks)=true then some (V.int (i:Int)) else none) (by trivial) (by exact⟨none,rfl⟩) (fun i x σ' H' hx s2 sg C L hC hL=>?_) (fun L H2 hL s2 hH=>?_)
 ·obtain⟨o,rfl⟩:=sg
  obtain⟨k,hk,rfl⟩:=zb9 hx
  have ek:k=i:=by
   have hi:=(List.getElem?_eq_some_iff.mp hk).1
   rw[List.length_range] at hi
   rw[List.getElem?_range hi] at hk
   cases hk;rfl
  subst ek
  refine⟨_,rfl,_,rfl,kp,_,rfl,.inr (SqT.of ((s1.trans s2) _ _ hkp)),rfl,zdt ks,_,rfl,?_⟩
  show if (!inV (V.int (k:Int)) (natV ks))=true then _ else _
  rw[zfa (Int.natCast_nonneg _),Int.toNat_natCast]
  refine iteB2 (fun c=>?_) (fun c=>?_)
  ·refine hL _ _ ⟨_,rfl⟩ (Same.refl _) ?_
   rw[if_neg]
   exact fun z=>of_decide_eq_true z (of_decide_eq_true c)
  ·refine⟨_,rfl,hC _ _ _ ⟨_,rfl⟩ (Same.refl _) ?_⟩
   rw[if_pos (decide_eq_true (of_decide_eq_false c))]
 ·refine q L H2 (s1.trans s2) (s1.free hL) ?_
  rw[hH,len,zel];rfl
theorem ze1 (T:Bi mg) (D:DefOk K mg "_law_outside" s__law_outside ["web","keep"]):Ok P w K mg base 1 "_law_outside" ["web","keep"] (spOuts K):=by
 refine za2 (k:=0) D sc__law_outside (fun vs H Q E h=>?_) (fun f cdv A outer s H vs Q E hr h=>?_)
 ·obtain⟨n,ts,ks,wv,kv,rfl,_⟩:=h
  rfl
 obtain⟨n,ts,ks,wv,kv,rfl,wk,q⟩:=h
 have nd:=sc__law_outside.nd
 have few60:=wk.2.1.few
 obtain⟨kp,rfl,hkp⟩:=zbh wk.2.2.1
 rw[← zbd] at hkp
 obtain⟨g0,g,ws,rfl,hg0,hg,hall,hlw⟩:=zax wk.1
 refine⟨_,(zaf (zaj (zbl (N:=["web","keep"]) (sc0:=defScope s__law_outside) (own:=["number"]) (fr:=["keep"]) (js:=[1]) rfl (zbq rfl T.z_range (zaa (zai zal rfl T.z_len (by decide +kernel) (zaa (zam zao (pv 0) zac (fun _ _=>rfl)) zab)) zab)) (fun _ _ _ _=>(zag (i:=0) (by show List.Nodup [("number":Str),("keep":Str)];decide +kernel) rfl (Or.inl rfl))) (fun _ _ _ _=>(zjb (zan zdp (pv 0) (pv 1) (by with_unfolding_all rfl)))) (fun _ _ _ _=>(pv 0))))),?_⟩
 refine⟨_,rfl,g0,_,_,_,rfl,rfl,SqT.of hg0,rfl,g,_,rfl,.inr (SqT.of hg),_,rfl,by trivial,by trivial,?_⟩
 rw[show ((ws.length:Nat):Int).toNat=ts.length by trivial]
 refine znc (n:=ts.length) (lo:=0) (fun σ'=>∃ o,σ'=[o,some (.ref kp)]) (fun i=>if decide (i ∉ ks)=true then some (V.int (i:Int)) else none) (by trivial) (by exact⟨none,rfl⟩) (fun k σ' H' hk s2 sg C L hC hL=>?_) (fun L H2 hL s2 hH=>?_)
 ·obtain⟨o,rfl⟩:=sg
  rw[show (0 + (k:Int))=(k:Int) by trivial]
  refine⟨_,rfl,_,rfl,kp,_,rfl,.inr (SqT.of (s2 _ _ hkp)),rfl,zdt ks,_,rfl,?_⟩
  show if (!inV (V.int (k:Int)) (natV ks))=true then _ else _
  rw[zfa (Int.natCast_nonneg _),Int.toNat_natCast]
  refine iteB2 (fun c=>?_) (fun c=>?_)
  ·refine hL _ _ ⟨_,rfl⟩ (Same.refl _) ?_
   rw[if_neg]
   exact fun z=>of_decide_eq_true z (of_decide_eq_true c)
  ·refine⟨_,rfl,hC _ _ _ ⟨_,rfl⟩ (Same.refl _) ?_⟩
   rw[if_pos (decide_eq_true (of_decide_eq_false c))]
 ·refine q L H2 s2 hL ?_
  rw[hH,zel];rfl
theorem zh0 (T:Bi mg) (D:DefOk K mg "_law_fars" s__law_fars ["web","keep","start"]):Ok P w K mg base 1 "_law_fars" ["web","keep","start"] (spFars K):=by
 refine za2 (k:=0) D sc__law_fars (fun vs H Q E h=>?_) (fun f cdv A outer s H vs Q E hr h=>?_)
 ·obtain⟨n,ts,ks,wv,kv,r,rfl,_⟩:=h
  rfl
 obtain⟨n,ts,ks,wv,kv,r,rfl,⟨isw,ok,isk,ko⟩,r0,r1,q⟩:=h
 have nd:=sc__law_fars.nd
 have few60:=ok.few
 have n1:=ok.n1
 have n24:=ok.n24
 obtain⟨g0,g,ws,rfl,hg0,hg,hall,hlw⟩:=zax isw
 obtain⟨kp,rfl,hkp⟩:=zbh isk
 have P:=zc9 ok ko
 have inn:=zj3 ok ko
 obtain⟨δ,dd⟩:∃ δ:Nat->Option Int,∀ v,Far.Dst (arcs ts ks) r.toNat v (δ v):=⟨fun v=>Classical.choose (Far.zc4 P r.toNat v),fun v=>Classical.choose_spec (Far.zc4 P r.toNat v)⟩
 refine⟨_,(zad (zas (i:=3) nd rfl (Or.inl rfl) (zar zjf (za7 (zaa zbn zab)) (zam zao (pv 0) zac (fun _ _=>rfl)))) (zad (zbc zac (zdn (pv 3) (pv 2) zbz)) (zad (zbm PassesOwn.never rfl (zbq rfl T.z_range (zaa (zam zao (pv 0) zac (fun _ _=>rfl)) zab)) (zag (i:=4) nd rfl (Or.inl rfl)) (zaf (zbm PassesOwn.never rfl (zct (pv 1)) (zag (i:=5) nd rfl (Or.inl rfl)) (zad (zbc (zam zao (zam zao (pv 0) zac (fun _ _=>rfl)) (pv 5) (fun _ _=>rfl)) (zbk (n:=3) rfl (zah (zag (i:=6) nd rfl (Or.inl rfl)) (zah (zag (i:=7) nd rfl (Or.inl rfl)) (zah (zag (i:=8) nd rfl (Or.inl rfl)) za4))))) (zaf (zbm PassesOwn.never rfl (zcm (za7 (zaa (za0 (zaa (pv 6) (zaa (pv 7) zab))) (zaa (za0 (zaa (pv 7) (zaa (pv 6) zab))) zab)))) (zbk (n:=2) rfl (zah (zag (i:=9) nd rfl (Or.inl rfl)) (zah (zag (i:=10) nd rfl (Or.inl rfl)) za4))) (zaf (za6 (zan zgk (zam zaw (pv 3) (pv 9) (fun _ _=>rfl)) zbn (nomark _)) (zad (zas (i:=11) nd rfl (Or.inl rfl) (zar zba (zam zaw (pv 3) (pv 9) (fun _ _=>rfl)) (pv 8))) (zaf (za6 (PW.pt (zcl (zan zea (zam zaw (pv 3) (pv 10) (fun _ _=>rfl)) zbn (nomark _)) (zbx (zan zeb (zam zaw (pv 3) (pv 10) (fun _ _=>rfl)) (pv 11) (nomark _))))) (zaf (zbc (pv 11) (zdn (pv 3) (pv 10) zbz))) zau))) zau)))))))) (zaf (zaj (pv 3)))))),?_⟩
 refine⟨(by show 1≤1000;decide),fun t0 J1 S1 f1 e1=>⟨_,rfl,g0,_,_,_,rfl,rfl,SqT.of (S1 _ _ hg0),rfl,t0,n,_,rfl,rfl,e1,by trivial,by trivial,fun lf J2 S2 f2 e2=>?_⟩⟩
 have S12:=S1.trans S2
 have ff:H lf=none:=S1.free f2
 refine⟨_,rfl,_,rfl,lf,_,r,r.toNat,rfl,rfl,e2,zcw r0 (by rw[List.length_replicate];trivial),?_⟩
 have keepF:∀ {J:Hp} {o:HO},Same H J->Same H (upd J lf o):=fun {J o} s b o e=>by rw[zat (zaq e ff)];exact s _ _ e
 have fst:(List.replicate n.toNat V.non).set r.toNat (.int 0)=(((List.replicate n.toNat (none:Option Int)).set r.toNat (some 0)).map ov):=by
  rw[List.map_set,List.map_replicate];rfl
 rw[fst]
 have S0:Far.Snd (arcs ts ks) n.toNat r.toNat ((List.replicate n.toNat none).set r.toNat (some 0)):=Far.Snd.first (by trivial)
 refine⟨_,rfl,g0,_,_,_,rfl,rfl,SqT.of (keepF S12 _ _ hg0),rfl,n,rfl,by trivial,by trivial,?_⟩
 refine zb6 (n:=n.toNat) (fun i σ J=>∃ (DD:List (Option Int)) (y4 y5 y6 y7 y8 y9 y10 y11:Option V),σ=[some (.ref g0),some (.ref kp),some (.int r),some (.ref lf),y4,y5,y6,y7,y8,y9,y10,y11]∧Same H J∧J lf=some (.lst (DD.map ov))∧Far.Snd (arcs ts ks) n.toNat r.toNat DD∧Far.Done n.toNat δ DD i)
  ⟨_,none,none,none,none,none,none,none,none,rfl,keepF S12,zak,S0,Far.zk4 P (by trivial) dd S0⟩ (fun i σ J hi h=>?_) (fun σ J h=>?_)
 ·obtain⟨D0,y4,y5,y6,y7,y8,y9,y10,y11,rfl,sm,hf,sd,dn⟩:=h
  refine⟨_,rfl,kp,rfl,⟨_,SqT.of (sm _ _ hkp)⟩,?_⟩
  refine zdj (xs:=(keepI ks).map V.int) (fun i' σ J=>∃ (DD:List (Option Int)) (y4 y5 y6 y7 y8 y9 y10 y11:Option V),σ=[some (.ref g0),some (.ref kp),some (.int r),some (.ref lf),y4,y5,y6,y7,y8,y9,y10,y11]∧Same H J∧J lf=some (.lst (DD.map ov))∧Far.Rnd (arcs ts ks) n.toNat r.toNat δ D0 (fun z=>z ∈ arcs ts (ks.take i')) DD)
   ⟨D0,_,_,_,_,_,_,_,_,rfl,sm,hf,(Far.Rnd.start sd).less fun a z=>(by cases z)⟩ (fun i' σ J _ h=>?_) (fun i' x σ J hx h=>?_) (fun σ J h=>?_)
  ·obtain⟨DD,y4,y5,y6,y7,y8,y9,y10,y11,rfl,sm,_⟩:=h
   exact SqT.of (sm _ _ hkp)
  ·obtain⟨DD,y4,y5,y6,y7,y8,y9,y10,y11,rfl,sm,hf,rn⟩:=h
   obtain⟨k,hk,rfl⟩:=zgx hx
   have hkl:k < ts.length:=ko.2 k (List.mem_of_getElem? hk)
   obtain⟨ta,hta,htie⟩:=za9 hall hkl
   obtain⟨t,et⟩:∃ t,t=tieAt ts k:=⟨_,rfl⟩
   rw[← et] at htie
   have tk:=ok.tie _ (zay hkl).2
   rw[← et] at tk
   refine⟨_,rfl,g0,_,_,_,rfl,rfl,SqT.of (sm _ _ hg0),rfl,_,rfl,g,_,_,_,rfl,rfl,SqT.of (sm _ _ hg),zap (Int.natCast_nonneg _) hta,ta,_,rfl,SqT.of (sm _ _ htie),rfl,_,_,rfl,_,_,rfl,_,_,rfl,rfl,?_⟩
   refine⟨_,rfl,_,rfl,(by show 2≤1000;decide),fun t1 K1 T1 u1 v1=>⟨_,rfl,_,rfl,(by show 2≤1000;decide),fun t2 K2 T2 u2 v2=>⟨(by show 2≤1000;decide),fun t3 K3 T3 u3 v3=>⟨t3,rfl,⟨_,SqL.of v3⟩,?_⟩⟩⟩⟩
   have T13:=T1.trans (T2.trans T3)
   have v1':=T3 _ _ (T2 _ _ v1)
   have v2':=T3 _ _ v2
   have n3:t3≠lf:=fun z=>by rw[z,T2 _ _ (T1 _ _ hf)] at u3;cases u3
   refine zgz (xs:=[V.ref t1,.ref t2]) (fun j σ J=>∃ (DD:List (Option Int)) (y9 y10 y11:Option V),σ=[some (.ref g0),some (.ref kp),some (.int r),some (.ref lf),y4,some (.int (k:Int)),some (.int t.1),some (.int t.2.1),some (.int t.2.2),y9,y10,y11]∧Same H J∧J lf=some (.lst (DD.map ov))∧Far.Rnd (arcs ts ks) n.toNat r.toNat δ D0 (fun z=>z ∈ arcs ts (ks.take i')∨z ∈ (arcs2 t).take j) DD∧But lf K3 J)
    ⟨DD,_,_,_,rfl,sm.trans T13,T13 _ _ hf,rn.less fun a z=>z.elim id fun z=>(by cases z),But.refl⟩ (fun j σ J _ h=>?_) (fun j x σ J hx h=>?_) (fun σ J h=>?_)
   ·obtain⟨DD,y9,y10,y11,rfl,_,_,_,b3⟩:=h
    exact SqL.of (b3 _ _ n3 v3)
   ·obtain⟨DD,y9,y10,y11,rfl,sm,hf,rn,b3⟩:=h
    have tkp:TupKeep K3 J:=fun a xs e=>b3 _ _ (fun z=>by rw[z,T13 _ _ ‹_›] at e;cases e) e
    obtain⟨p,u,v,rfl,hp,u0,un,v0,vn,arc,more⟩:∃ p u v,x=.ref p∧J p=some (.tup [.int u,.int v])∧0≤u∧u < n∧0≤v∧v < n∧(u.toNat,v.toNat,t.2.2) ∈ arcs ts ks∧∀ z,z ∈ (arcs2 t).take (j + 1)->z ∈ (arcs2 t).take j∨z=(u.toNat,v.toNat,t.2.2):=by
     have mem:∀ z,z ∈ arcs2 t->z ∈ arcs ts ks:=fun z hz=>arcs_mem.mpr ⟨k,List.mem_of_getElem? hk,by rw[← et];exact hz⟩
     match j,hx with
     | 0,hx=>cases hx;exact⟨t1,t.1,t.2.1,rfl,tkp _ _ v1',by trivial,by trivial,by trivial,by trivial,mem _ (arcs2_mem.mpr (.inl rfl)),fun z hz=>by unfold arcs2 at *;simpa using hz⟩
     | 1,hx=>cases hx;exact⟨t2,t.2.1,t.1,rfl,tkp _ _ v2',by trivial,by trivial,by trivial,by trivial,mem _ (arcs2_mem.mpr (.inr rfl)),fun z hz=>by unfold arcs2 at *;simpa using hz⟩
    refine⟨p,_,rfl,SqT.of hp,rfl,_,_,rfl,_,_,rfl,rfl,?_⟩
    have lD:=rn.snd.len
    have next:∀ {D':List (Option Int)},Far.Rnd (arcs ts ks) n.toNat r.toNat δ D0 (Far.plus (fun z=>z ∈ arcs ts (ks.take i')∨z ∈ (arcs2 t).take j) (u.toNat,v.toNat,t.2.2)) D'->Far.Rnd (arcs ts ks) n.toNat r.toNat δ D0 (fun z=>z ∈ arcs ts (ks.take i')∨z ∈ (arcs2 t).take (j + 1)) D':=fun h=>h.less fun z hz=>by
     rcases hz with hz | hz
     ·exact .inl (.inl hz)
     ·exact (more z hz).elim (fun y=>.inl (.inr y)) .inr
    have at1:=zap u0 (zmc (D:=DD) (i:=u.toNat) (by trivial))
    have at2:=zap v0 (zmc (D:=DD) (i:=v.toNat) (by trivial))
    refine⟨_,rfl,_,rfl,lf,_,_,_,rfl,rfl,SqL.of hf,at1,rfl,_,rfl,?_⟩
    cases gu:Far.get DD u.toNat with
    | none=>exact iteF ⟨DD,_,_,_,rfl,sm,hf,next (rn.no gu),b3⟩
    | some d =>
     rw[gu] at at1
     refine iteT ⟨_,rfl,_,rfl,lf,_,_,_,rfl,rfl,SqL.of hf,at1,_,rfl,_,_,rfl,rfl,?_⟩
     refine⟨_,rfl,_,rfl,lf,_,_,_,rfl,rfl,SqL.of hf,at2,rfl,_,rfl,?_⟩
     have put:∀ (hv:Far.get DD v.toNat=none∨∃ y,Far.get DD v.toNat=some y∧d + t.2.2 < y),Far.Rnd (arcs ts ks) n.toNat r.toNat δ D0 (fun z=>z ∈ arcs ts (ks.take i')∨z ∈ (arcs2 t).take (j + 1)) (DD.set v.toNat (some (d + t.2.2))):=fun hv=>next (rn.put dd arc (by trivial) gu hv P)
     have eset:(DD.map ov).set v.toNat (.int (d + t.2.2))=(DD.set v.toNat (some (d + t.2.2))).map ov:=by rw[List.map_set];rfl
     cases gv:Far.get DD v.toNat with
     | none =>
      refine iteT (iteT ?_)
      refine⟨_,rfl,_,rfl,_,rfl,lf,_,_,_,rfl,rfl,hf,zcw v0 (by rw[List.length_map];trivial),?_⟩
      exact⟨_,_,_,_,rfl,keepF sm,(by rw[zak,eset]),put (.inl gv),b3.trans But.upd⟩
     | some y =>
      rw[gv] at at2
      refine iteF ⟨_,rfl,_,rfl,lf,_,_,_,rfl,rfl,SqL.of hf,at2,_,rfl,_,_,rfl,rfl,_,rfl,ite2 (fun c=>?_) (fun c=>?_)⟩
      ·refine⟨_,rfl,_,rfl,_,rfl,lf,_,_,_,rfl,rfl,hf,zcw v0 (by rw[List.length_map];trivial),?_⟩
       exact⟨_,_,_,_,rfl,keepF sm,(by rw[zak,eset]),put (.inr ⟨y,gv,of_decide_eq_true c⟩),b3.trans But.upd⟩
      ·have hy:y≤d + t.2.2:=by
        have:=of_decide_eq_false (Bool.eq_false_iff.mpr c);trivial
       exact⟨DD,_,_,_,rfl,sm,hf,next (rn.old gu gv hy),b3⟩
   ·obtain⟨DD,y9,y10,y11,rfl,sm,hf,rn,_⟩:=h
    refine⟨DD,_,_,_,_,_,_,_,_,rfl,sm,hf,rn.less fun z hz=>?_⟩
    exact (znq hk hz).elim .inl fun y=>.inr (by rw[← et] at y;exact y)
  ·obtain⟨DD,y4,y5,y6,y7,y8,y9,y10,y11,rfl,sm',hf',rn⟩:=h
   have lk:((keepI ks).map V.int).length=ks.length:=by unfold keepI;rw[List.length_map,List.length_map]
   rw[lk,List.take_length] at rn
   exact⟨DD,_,_,_,_,_,_,_,_,rfl,sm',hf',rn.snd,Far.Done.round dd P inn sd rn (fun a h=>h) dn⟩
 ·obtain⟨DD,y4,y5,y6,y7,y8,y9,y10,y11,rfl,sm,hf,sd,dn⟩:=h
  have all:=dn.all
  exact⟨_,rfl,q lf DD J sm ff hf sd.len fun v hv=>by rw[all v hv];exact dd v⟩
inductive spSome_i (K:PySem.W.Frag) (vs:List V) (H:Hp) (Q:VK):Prop
 | mk:∀ p n ts ks wv kv,(vs=[.ref p,wv,kv])->(Pot H p)->(WK K H n ts ks wv kv)->(∀ t H',1≤t->t≤99->But p H H'->Pot H' p->Q (.int t) H')->spSome_i K vs H Q
def spSome (K:PySem.W.Frag):Sp:=fun vs H Q _=>spSome_i K vs H Q
inductive spCase_i (K:PySem.W.Frag) (vs:List V) (H:Hp) (Q:VK):Prop
 | mk:∀ p m,(vs=[.ref p,.int m])->(Pot H p)->(1≤m)->(m≤24)->(∀ q n ts ks wv kv t H',But p H H'->Pot H' p->H' q=some (.tup [wv,kv,.int t])->WK K H' n ts ks wv kv->n≤m->1≤t->t≤99->Q (.ref q) H')->spCase_i K vs H Q
def spCase (K:PySem.W.Frag):Sp:=fun vs H Q _=>spCase_i K vs H Q
theorem max1 {t x:Int} (h:t=(if (if 99 > x then x else 99) > 1 then (if 99 > x then x else 99) else 1)):1≤t∧t≤99:=by
 subst h;constructor <;> (split <;> split <;> trivial)
theorem zcu {H H':Hp} {n:Int} {ts:List Tie} {ks:List Nat} {wv kv:V} {p:Addr} (h:WK K H n ts ks wv kv) (b:But p H H') (hp:Pot H p):WK K H' n ts ks wv kv:=by
 obtain⟨xs,e⟩:=hp.lst
 exact⟨Is.but b e _ (zlw n ts) h.1,h.2.1,Is.but b e _ (zn1 ks) h.2.2.1,h.2.2.2⟩
theorem zdq (T:Bi mg) (D:DefOk K mg "_law_some_times" s__law_some_times ["pot","web","keep"]) (O__law_take:Ok P w K mg base 1 "_law_take" ["pot","many"] spTake) (O__law_outside:Ok P w K mg base 1 "_law_outside" ["web","keep"] (spOuts K)) (O__law_fars:Ok P w K mg base 1 "_law_fars" ["web","keep","start"] (spFars K)):Ok P w K mg base 2 "_law_some_times" ["pot","web","keep"] (spSome K):=by
 refine za2 (k:=1) D sc__law_some_times (fun vs H Q E h=>?_) (fun f cdv A outer s H vs Q E hr h=>?_)
 ·obtain⟨p,n,ts,ks,wv,kv,rfl,_⟩:=h
  rfl
 obtain⟨p,n,ts,ks,wv,kv,rfl,hp,wk,q⟩:=h
 have nd:=sc__law_some_times.nd
 have units:∀ {u:Nat},u≤3->(A.deeper (envOfC "_law_some_times" (defScope s__law_some_times) s.heap.objs.size f cdv)).units + u < cLine:=fun {u} hu=>by have:=hr.units;trivial
 have ok:=wk.2.1
 have ko:=wk.2.2.2
 have few60:=ok.few
 refine⟨_,(zad (zas (i:=3) nd rfl (Or.inl rfl) (zam zaw (za7 (zaa zac (zaa zac (zaa zac (zaa (zar zba zac (zae O__law_take hr rfl (zaa (pv 0) (zaa zac zab)))) (zaa zac (zaa (zar zba zac (zae O__law_take hr rfl (zaa (pv 0) (zaa zac zab)))) zab))))))) (zae O__law_take hr rfl (zaa (pv 0) (zaa zac zab))) (fun _ _=>rfl))) (zad (zas (i:=4) nd rfl (Or.inl rfl) (zae O__law_outside hr rfl (zaa (pv 1) (zaa (pv 2) zab)))) (zad (za6 (PW.pt (zf2 (zan zq0 (pv 4) (za7 zab) (nomark _)) (zd0 (zan zeb (zae O__law_take hr rfl (zaa (pv 0) (zaa zac zab))) zac (nomark _))))) (zad (zbc (zam zao (zam zao (pv 1) zac (fun _ _=>rfl)) (zam zaw (pv 4) (zae O__law_take hr rfl (zaa (pv 0) (zaa (zai zal rfl T.z_len (by decide +kernel) (zaa (pv 4) zab)) zab))) (fun _ _=>rfl)) (fun _ _=>rfl)) (zbk (n:=3) rfl (zah (zag (i:=5) nd rfl (Or.inl rfl)) (zah (zag (i:=6) nd rfl (Or.inl rfl)) (zah (zag (i:=7) nd rfl (Or.inl rfl)) za4))))) (zad (zas (i:=8) nd rfl (Or.inl rfl) (zam zaw (zae O__law_fars hr rfl (zaa (pv 1) (zaa (pv 2) (zaa (pv 5) zab)))) (pv 6) (fun _ _=>rfl))) (zaf (za6 (zan zgk (pv 8) zbn (nomark _)) (zaf (zas (i:=3) nd rfl (Or.inl rfl) (zai (zdw rfl) rfl T.z_max (by decide +kernel) (zaa zac (zaa (zai (zcy rfl) rfl T.z_min (by decide +kernel) (zaa zac (zaa (zar zod (zar zb4 (zar zba (pv 8) (zar zb8 (pv 7) (zae O__law_take hr rfl (zaa (pv 0) (zaa zac zab))))) zac) (pv 7)) zab))) zab))))) zau)))) zau) (zaf (zaj (pv 3)))))),?_⟩
 refine⟨_,rfl,p,9,rfl,hp,by decide,by decide,fun r1 J1 r10 r11 b1 p1=>⟨_,_,rfl,rfl,_,rfl,p,99,rfl,p1,by decide,by decide,fun r2 J2 r20 r21 b2 p2=>⟨_,_,rfl,rfl,(by show 6≤1000;decide),fun l0 J3 S3 f3 e3=>?_⟩⟩⟩
 have n0:l0≠p:=fun z=>by
  obtain⟨a',b',e',_⟩:=p2
  rw[z,e'] at f3;cases f3
 refine⟨_,rfl,p,6,rfl,p2.same S3,by decide,by decide,fun r3 J4 r30 r31 b4 p4=>?_⟩
 obtain⟨t0,t01,t02,hat⟩:∃ t:Int,1≤t∧t≤99∧atI [V.int 1,V.int 2,V.int 3,V.int (1 + r1),V.int 99,V.int (1 + r2)] r3=some (.int t):=by
  have:r3=0∨r3=1∨r3=2∨r3=3∨r3=4∨r3=5:=by trivial
  rcases this with rfl | rfl | rfl | rfl | rfl | rfl
  ·exact⟨1,by decide,by decide,rfl⟩
  ·exact⟨2,by decide,by decide,rfl⟩
  ·exact⟨3,by decide,by decide,rfl⟩
  ·exact⟨1 + r1,by trivial,by trivial,rfl⟩
  ·exact⟨99,by decide,by decide,rfl⟩
  ·exact⟨1 + r2,by trivial,by trivial,rfl⟩
 refine⟨l0,_,_,_,rfl,rfl,SqL.of (b4 _ _ n0 e3),hat,?_⟩
 have B4:But p H J4:=b1.trans (b2.trans ((Same.but S3).trans b4))
 have wk4:=(zcu wk B4 hp)
 refine⟨_,rfl,_,rfl,n,ts,ks,wv,kv,rfl,wk4,fun lo J5 S5 f5 e5=>?_⟩
 have p5:=p4.same S5
 have B5:But p H J5:=B4.trans (Same.but S5)
 have wk5:=wk4.same S5
 have lo60:=zc1 ts.length ks
 have e5':J5 lo=some (.lst ((keepI (outs ts.length ks)).map V.int)):=by rw[← zbd];exact e5
 refine⟨_,rfl,(by show 0≤1000;decide),fun le J6 S6 f6 e6=>⟨.list ((keepI (outs ts.length ks)).map .int),.list [],⟨lo,_,rfl,S6 _ _ e5',IsAll.ints _⟩,⟨le,_,rfl,e6,rfl⟩,?_,rfl,?_,_,rfl,?_⟩⟩
 ·exact zc3 _
 ·exact units (by show min _ 1≤3;trivial)
 have p6:=p5.same S6
 have B6:But p H J6:=B5.trans (Same.but S6)
 have wk6:=wk5.same S6
 have e6lo:=S6 _ _ e5
 have nlo:lo≠p:=fun z=>by
  obtain⟨a',b',e',_⟩:=p4
  rw[z,e'] at f5;cases f5
 have done:∀ J,But p H J->Pot J p->Q (.int t0) J:=fun J b h=>q t0 J t01 t02 b h
 refine ite2 (fun c=>?_) (fun c=>⟨_,rfl,done _ B6 p6⟩)
 have ne:outs ts.length ks≠[]:=fun z=>by
  rw[z] at c
  exact absurd c (by decide)
 have pos:0 < (outs ts.length ks).length:=by
  cases h:outs ts.length ks with
  | nil=>exact absurd h ne
  | cons _ _=>simp
 refine⟨_,rfl,p,3,rfl,p6,by decide,by decide,fun r4 J7 r40 r41 b7 p7=>⟨_,_,rfl,rfl,_,rfl,ite2 (fun c2=>?_) (fun c2=>⟨_,rfl,done _ (B6.trans b7) p7⟩)⟩⟩
 have wk7:=(zcu wk6 b7 p6)
 have e7lo:=b7 _ _ nlo e6lo
 have B7:=B6.trans b7
 obtain⟨g0,g,ws,rfl,hg0,hg,hall,hlw⟩:=zax wk7.1
 have lenO:(natV (outs ts.length ks)).length=(outs ts.length ks).length:=by unfold natV;rw[List.length_map]
 refine⟨_,rfl,g0,_,_,_,rfl,rfl,SqT.of hg0,rfl,_,rfl,_,rfl,_,rfl,lo,_,rfl,.inl (SqL.of e7lo),p,_,rfl,p7,by trivial,by trivial,fun r5 J8 r50 r51 b8 p8=>?_⟩
 have wk8:=(zcu wk7 b8 p7)
 have hg':J8 g=some (.tup ws):=by
  refine b8 _ _ (fun z=>?_) hg
  obtain⟨a',b',e',_⟩:=p7
  rw[z,e'] at hg;cases hg
 obtain⟨k,hk,hat5⟩:∃ k,k ∈ outs ts.length ks∧atI (natV (outs ts.length ks)) r5=some (.int (k:Int)):=by
  have hr:r5.toNat < (outs ts.length ks).length:=by trivial
  refine⟨(outs ts.length ks)[r5.toNat],List.getElem_mem hr,zap r50 ?_⟩
  unfold natV
  rw[List.getElem?_map,List.getElem?_eq_getElem hr];rfl
 have hkl:=(outs_mem.mp hk).1
 obtain⟨ta,hta,htie⟩:=za9 hall hkl
 have htie8:J8 ta=some (.tup [.int (tieAt ts k).1,.int (tieAt ts k).2.1,.int (tieAt ts k).2.2]):=by
  refine b8 _ _ (fun z=>?_) htie
  obtain⟨a',b',e',_⟩:=p7
  rw[z,e'] at htie;cases htie
 have tk:=ok.tie _ (zay hkl).2
 refine⟨lo,_,_,_,rfl,rfl,SqL.of (b8 _ _ nlo e7lo),hat5,g,_,_,_,rfl,rfl,SqT.of hg',zap (Int.natCast_nonneg _) hta,ta,_,rfl,SqT.of htie8,rfl,_,_,rfl,_,_,rfl,_,_,rfl,rfl,?_⟩
 refine⟨_,rfl,_,rfl,_,rfl,n,ts,ks,_,kv,_,rfl,wk8,by trivial,by trivial,fun lf DD J9 S9 f9 e9 lD hD=>?_⟩
 refine⟨_,rfl,lf,_,_,_,rfl,rfl,SqL.of e9,zap (by trivial) (zmc (by trivial)),?_⟩
 have B9:=(B7.trans b8).trans (Same.but S9)
 have p9:=p8.same S9
 refine⟨_,rfl,rfl,_,rfl,?_⟩
 cases eo:Far.get DD (tieAt ts k).2.1.toNat with
 | none=>exact iteF ⟨_,rfl,done _ B9 p9⟩
 | some x =>
  refine iteT ⟨_,rfl,_,rfl,_,rfl,p,2,rfl,p9,by decide,by decide,fun r6 J10 r60 r61 b10 p10=>⟨_,_,rfl,rfl,.inr ⟨by trivial,by trivial⟩,_,_,rfl,rfl,_,_,rfl,rfl,_,rfl,_,_,rfl,rfl,⟨by trivial,by trivial⟩,_,_,rfl,_,_,rfl,_,rfl,?_⟩⟩
  exact q _ J10 (max1 rfl).1 (max1 rfl).2 (B9.trans b10) p10
theorem zh6 (T:Bi mg) (D:DefOk K mg "_law_case" s__law_case ["pot","most"]) (O__law_web:Ok P w K mg base 3 "_law_web" ["pot","most"] (spWeb K)) (O__law_keep:Ok P w K mg base 3 "_law_keep" ["pot","web"] (spKeep K)) (O__law_some_times:Ok P w K mg base 3 "_law_some_times" ["pot","web","keep"] (spSome K)):Ok P w K mg base 4 "_law_case" ["pot","most"] (spCase K):=by
 refine za2 (k:=3) D sc__law_case (fun vs H Q E h=>?_) (fun f cdv A outer s H vs Q E hr h=>?_)
 ·obtain⟨p,m,rfl,_⟩:=h
  rfl
 obtain⟨p,m,rfl,hp,m1,m24,q⟩:=h
 have nd:=sc__law_case.nd
 refine⟨_,(zad (zas (i:=2) nd rfl (Or.inl rfl) (zae O__law_web hr rfl (zaa (pv 0) (zaa (pv 1) zab)))) (zad (zas (i:=3) nd rfl (Or.inl rfl) (zae O__law_keep hr rfl (zaa (pv 0) (zaa (pv 2) zab)))) (zaf (zaj (za0 (zaa (pv 2) (zaa (pv 3) (zaa (zae O__law_some_times hr rfl (zaa (pv 0) (zaa (pv 2) (zaa (pv 3) zab)))) zab)))))))),?_⟩
 refine⟨_,rfl,_,rfl,p,m,rfl,hp,m1,m24,fun wv J1 n ts b1 p1 ok nm isw=>?_⟩
 refine⟨_,rfl,_,rfl,p,n,ts,wv,rfl,p1,isw,ok.few,fun kv J2 ks b2 p2 kok isk=>?_⟩
 obtain⟨xs1,e1⟩:=p1.lst
 have wk2:WK K J2 n ts ks wv kv:=⟨Is.but b2 e1 _ (zlw n ts) isw,ok,isk,kok⟩
 refine⟨_,rfl,_,rfl,_,rfl,_,rfl,_,rfl,p,n,ts,ks,wv,kv,rfl,p2,wk2,fun t J3 t1 t99 b3 p3=>⟨(by show 3≤1000;decide),fun pp J4 S4 f4 e4=>?_⟩⟩
 exact q pp n ts ks wv kv t J4 (b1.trans (b2.trans (b3.trans (Same.but S4)))) (p3.same S4) e4 (((zcu wk2 b3 p2)).same S4) nm t1 t99
inductive spWayO19_i (K:PySem.W.Frag) (vs:List V) (H:Hp) (Q:VK):Prop
 | mk:∀ n ts ks wv kv (k:Nat),(vs=[wv,kv,.int (k:Int)])->(WK K H n ts ks wv kv)->(k < ts.length)->(∀ v H',Same H H'->WayM H' ts ks (tieAt ts k).1.toNat (tieAt ts k).2.1.toNat v->Q v H')->spWayO19_i K vs H Q
def spWayO19 (K:PySem.W.Frag):Sp:=fun vs H Q _=>spWayO19_i K vs H Q
inductive spHO19_i (K:PySem.W.Frag) (vs:List V) (H:Hp) (Q:VK):Prop
 | mk:∀ n ts ks wv kv (k:Nat) (t:Int),(vs=[wv,kv,.int (k:Int),.int t])->(WK K H n ts ks wv kv)->(k < ts.length)->(1≤t)->(t≤99)->(∀ p H',Same H H'->H' p=some (.tup ((htK n ts ks t k).map V.int))->Q (.ref p) H')->spHO19_i K vs H Q
def spHO19 (K:PySem.W.Frag):Sp:=fun vs H Q _=>spHO19_i K vs H Q
inductive spTold19_i (K:PySem.W.Frag) (vs:List V) (H:Hp) (Q:VK):Prop
 | mk:∀ n ts ks wv kv t,(vs=[wv,kv,.int t])->(WK K H n ts ks wv kv)->(1≤t)->(t≤99)->(∀ v d H',Same H H'->Is K H' d v->TdD n ts ks t d->Q v H')->spTold19_i K vs H Q
def spTold19 (K:PySem.W.Frag):Sp:=fun vs H Q _=>spTold19_i K vs H Q
theorem zjh (T:Bi mg) (D:DefOk K mg "way_of" s_way_of ["web","keep","tie"]) (O_the_way:Ok P w K mg base 4 "the_way" ["web","keep","a","b"] (spWayM K)):Ok P w K mg base 5 "way_of" ["web","keep","tie"] (spWayO19 K):=by
 refine za2 (k:=4) D sc_way_of (fun vs H Q E h=>?_) (fun f cdv A outer s H vs Q E hr h=>?_)
 ·obtain⟨n,ts,ks,wv,kv,k,rfl,_⟩:=h
  rfl
 obtain⟨n,ts,ks,wv,kv,k,rfl,wk,hkl,q⟩:=h
 have nd:=sc_way_of.nd
 have ok:=wk.2.1
 obtain⟨g0,g,ws,rfl,hg0,hg,hall,hlw⟩:=zax wk.1
 obtain⟨ta,hta,htie⟩:=za9 hall hkl
 have tk:=ok.tie _ (zay hkl).2
 refine⟨_,(zad (zbc (zam zao (zam zao (pv 0) zac (fun _ _=>rfl)) (pv 2) (fun _ _=>rfl)) (zbk (n:=3) rfl (zah (zag (i:=3) nd rfl (Or.inl rfl)) (zah (zag (i:=4) nd rfl (Or.inl rfl)) (zah (zag (i:=5) nd rfl (Or.inl rfl)) za4))))) (zaf (zaj (zae O_the_way hr rfl (zaa (pv 0) (zaa (pv 1) (zaa (pv 3) (zaa (pv 4) zab)))))))),?_⟩
 refine⟨_,rfl,g0,_,_,_,rfl,rfl,SqT.of hg0,rfl,_,rfl,g,_,_,_,rfl,rfl,SqT.of hg,zap (Int.natCast_nonneg _) hta,ta,_,rfl,SqT.of htie,rfl,_,_,rfl,_,_,rfl,_,_,rfl,rfl,?_⟩
 exact⟨_,rfl,_,rfl,_,rfl,_,rfl,n,ts,ks,_,kv,_,_,rfl,wk,by trivial,by trivial,by trivial,by trivial,fun v J S hv=>q v J S hv⟩
theorem zex (T:Bi mg) (D:DefOk K mg "heights_of" s_heights_of ["web","keep","tie","t"]) (O_heights_from:Ok P w K mg base 4 "heights_from" ["web","keep","a","roof"] (spHFrom K)):Ok P w K mg base 5 "heights_of" ["web","keep","tie","t"] (spHO19 K):=by
 refine za2 (k:=4) D sc_heights_of (fun vs H Q E h=>?_) (fun f cdv A outer s H vs Q E hr h=>?_)
 ·obtain⟨n,ts,ks,wv,kv,k,t,rfl,_⟩:=h
  rfl
 obtain⟨n,ts,ks,wv,kv,k,t,rfl,wk,hkl,t1,t99,q⟩:=h
 have nd:=sc_heights_of.nd
 have ok:=wk.2.1
 have ko:=wk.2.2.2
 obtain⟨g0,g,ws,rfl,hg0,hg,hall,hlw⟩:=zax wk.1
 obtain⟨ta,hta,htie⟩:=za9 hall hkl
 have tk:=ok.tie _ (zay hkl).2
 refine⟨_,(zad (zbc (zam zao (zam zao (pv 0) zac (fun _ _=>rfl)) (pv 2) (fun _ _=>rfl)) (zbk (n:=3) rfl (zah (zag (i:=4) nd rfl (Or.inl rfl)) (zah (zag (i:=5) nd rfl (Or.inl rfl)) (zah (zag (i:=6) nd rfl (Or.inl rfl)) za4))))) (zaf (zaj (zae O_heights_from hr rfl (zaa (pv 0) (zaa (pv 1) (zaa (pv 4) (zaa (zar zba (zar zb8 (pv 3) (pv 6)) zac) zab)))))))),?_⟩
 refine⟨_,rfl,g0,_,_,_,rfl,rfl,SqT.of hg0,rfl,_,rfl,g,_,_,_,rfl,rfl,SqT.of hg,zap (Int.natCast_nonneg _) hta,ta,_,rfl,SqT.of htie,rfl,_,_,rfl,_,_,rfl,_,_,rfl,rfl,?_⟩
 refine⟨_,rfl,_,rfl,_,rfl,_,rfl,_,rfl,_,_,rfl,rfl,.inl ⟨by trivial,by trivial⟩,_,_,rfl,rfl,n,ts,ks,_,kv,_,_,rfl,wk,by trivial,by trivial,fun p DD J S e lD hD=>q p J S ?_⟩
 have eD:=zrd ok ko lD hD
 subst eD
 exact e
theorem zev (T:Bi mg) (D:DefOk K mg "times_told" s_times_told ["web","keep","t"]) (O_need_times:Ok P w K mg base 5 "need_times" ["t"] (spNeed K)) (O_not_kept:Ok P w K mg base 5 "not_kept" ["web","keep"] (spOuts K)) (O_way_of:Ok P w K mg base 5 "way_of" ["web","keep","tie"] (spWayO19 K)) (O_is_within:Ok P w K mg base 5 "is_within" ["web","tie","t","way"] (spWithin K)) (O_heights_of:Ok P w K mg base 5 "heights_of" ["web","keep","tie","t"] (spHO19 K)):Ok P w K mg base 6 "times_told" ["web","keep","t"] (spTold19 K):=by
 refine za2 (k:=5) D sc_times_told (fun vs H Q E h=>?_) (fun f cdv A outer s H vs Q E hr h=>?_)
 ·obtain⟨n,ts,ks,wv,kv,t,rfl,_⟩:=h
  rfl
 obtain⟨n,ts,ks,wv,kv,t,rfl,wk,t1,t99,q⟩:=h
 have nd:=sc_times_told.nd
 have ok:=wk.2.1
 have ko:=wk.2.2.2
 have few60:=ok.few
 refine⟨_,(zad (zcb (zae O_need_times hr rfl (zaa (pv 2) zab))) (zad (zas (i:=3) nd rfl (Or.inl rfl) (za7 zab)) (zad (zbm PassesOwn.never rfl (zcm (zae O_not_kept hr rfl (zaa (pv 0) (zaa (pv 1) zab)))) (zag (i:=4) nd rfl (Or.inl rfl)) (zad (zas (i:=5) nd rfl (Or.inl rfl) (zae O_way_of hr rfl (zaa (pv 0) (zaa (pv 1) (zaa (pv 4) zab))))) (zad (za6 (zcs (zb3 (zae O_is_within hr rfl (zaa (pv 0) (zaa (pv 4) (zaa (pv 2) (zaa (pv 5) zab))))))) (zaf (zaj (za0 (zaa zdo (zaa (pv 4) (zaa (zae O_heights_of hr rfl (zaa (pv 0) (zaa (pv 1) (zaa (pv 4) (zaa (pv 2) zab))))) zab)))))) zau) (zaf (zcb (zgi PySem.F.plainAttrs_list PySem.F.slot_list_append PySem.F.type_list_append zb1 (pv 3) (zaa (pv 5) zab))))))) (zaf (zaj (za0 (zaa zdo (zaa (za1 zbg rfl T.z_tuple (by decide +kernel) (zaa (pv 3) zab)) zab)))))))),?_⟩
 refine⟨_,rfl,t,rfl,t1,t99,fun H1 s1=>?_⟩
 refine⟨(by show 0≤1000;decide),fun lw J2 S2 f2 e2=>?_⟩
 have S12:=s1.trans S2
 have fw:H lw=none:=s1.free f2
 refine⟨_,rfl,_,rfl,n,ts,ks,wv,kv,rfl,wk.same S12,fun lo J3 S3 f3 e3=>?_⟩
 have nlo:lo≠lw:=fun z=>by rw[z,e2] at f3;cases f3
 have S13:=S12.trans S3
 refine⟨lo,rfl,⟨_,SqL.of e3⟩,?_⟩
 have len:(natV (outs ts.length ks)).length=(outs ts.length ks).length:=by unfold natV;rw[List.length_map]
 have lo60:=zc1 ts.length ks
 refine zgz (xs:=natV (outs ts.length ks)) (fun i σ J=>∃ (ys:List V) (y4 y5:Option V),σ=[some wv,some kv,some (.int t),some (.ref lw),y4,y5]∧Same H J∧J lo=some (.lst (natV (outs ts.length ks)))∧J lw=some (.lst ys)∧ys.length=i∧(∀ j k,j < i->(outs ts.length ks)[j]?=some k->winK ts ks t k)∧∀ (j k:Nat) (v:V),(outs ts.length ks)[j]?=some k->ys[j]?=some v->WyV J ts (wyT ts ks k) v) ⟨[],none,none,rfl,S13,e3,S3 _ _ e2,rfl,fun j k h=>(by trivial),fun j k v _ h=>(by cases h)⟩ (fun i σ J _ h=>?_) (fun i x σ J hx h=>?_) (fun σ J h=>?_)
 ·obtain⟨ys,y4,y5,rfl,sm,hlo,_⟩:=h
  exact SqL.of hlo
 ·obtain⟨ys,y4,y5,rfl,sm,hlo,hlw,ly,hin,hwy⟩:=h
  obtain⟨k,hk,rfl⟩:=zb9 hx
  have hko:=List.mem_of_getElem? hk
  have hkl:k < ts.length:=(outs_mem.mp hko).1
  have hi:i < (outs ts.length ks).length:=(List.getElem?_eq_some_iff.mp hk).1
  refine⟨_,rfl,_,rfl,_,rfl,n,ts,ks,wv,kv,k,rfl,wk.same sm,hkl,fun v J4 S4 hv=>?_⟩
  have wk4:=wk.same (sm.trans S4)
  refine⟨_,rfl,_,rfl,_,rfl,_,rfl,n,ts,ks,wv,k,t,v,rfl,wk4.1,ok,ko,hkl,t1,t99,hv.v,fun J5 S5=>⟨_,rfl,iteB2 (fun c=>?_) (fun c=>?_)⟩⟩
  ·refine⟨_,rfl,.inl ⟨rfl,_,SqL.of (S5 _ _ (S4 _ _ hlw))⟩,_,rfl,lw,_,_,rfl,rfl,S5 _ _ (S4 _ _ hlw),by trivial,fun J6 b6 e6=>?_⟩
   have tk6:TupKeep J5 J6:=fun a xs e=>b6 _ _ (fun z=>by rw[z,S5 _ _ (S4 _ _ hlw)] at e;cases e) e
   refine⟨ys++[v],_,_,rfl,fun b o e=>b6 _ _ (zaq e fw) ((sm.trans (S4.trans S5)) _ _ e),b6 _ _ nlo ((S4.trans S5) _ _ hlo),e6,by rw[List.length_append,ly];rfl,fun j k' hj hk'=>?_,fun j k' v' hk' hv'=>?_⟩
   ·rcases Nat.lt_or_ge j i with z | z
    ·exact hin j k' z hk'
    ·have:j=i:=by trivial
     subst this
     rw[hk] at hk';cases hk'
     exact c
   ·rcases Nat.lt_or_ge j i with z | z
    ·rw[List.getElem?_append_left (by trivial)] at hv'
     exact ((hwy j k' v' hk' hv').same (S4.trans S5)).tk tk6
    ·rw[List.getElem?_append_right (by trivial),ly] at hv'
     have:j - i=0:=by
      have:=(List.getElem?_eq_some_iff.mp hv').1
      rw[List.length_singleton] at this;trivial
     rw[this] at hv'
     cases hv'
     have:j=i:=by trivial
     subst this
     rw[hk] at hk';cases hk'
     exact ((zqi ok ko hv).same S5).tk tk6
  ·refine⟨_,rfl,_,rfl,_,rfl,_,rfl,_,rfl,n,ts,ks,wv,kv,k,t,rfl,wk4.same S5,hkl,t1,t99,fun p J6 S6 e6=>?_⟩
   refine⟨(by show 3≤1000;decide),fun pp J7 S7 f7 e7=>q (.ref pp) _ J7 (sm.trans (S4.trans (S5.trans (S6.trans S7)))) ?_ (.far (i:=i) (k:=k) ⟨hk,fun z=>(by rw[show withinB t (tieAt ts k).2.2 (gO ts ks k)=true from z] at c;cases c),hin⟩)⟩
   exact⟨pp,_,rfl,e7,_,_,rfl,rfl,_,_,rfl,rfl,_,_,rfl,⟨p,_,rfl,S7 _ _ e6,IsAll.ints _⟩,rfl⟩
 ·obtain⟨ys,y4,y5,rfl,sm,hlo,hlw,ly,hin,hwy⟩:=h
  refine⟨_,rfl,lw,_,rfl,hlw,fun tp J4 S4 f4 e4=>⟨(by show 2≤1000;decide),fun pp J7 S7 f7 e7=>q (.ref pp) _ J7 (sm.trans (S4.trans S7)) ?_ (.keeps fun k hk=>?_)⟩⟩
  ·refine⟨pp,_,rfl,e7,_,_,rfl,rfl,_,_,rfl,⟨tp,ys,rfl,S7 _ _ e4,IsAll.of (by rw[ly,len,List.length_map]) fun i d v hd hv=>?_⟩,rfl⟩
   rw[List.getElem?_map] at hd
   obtain⟨k,hk,rfl⟩:=Option.map_eq_some_iff.mp hd
   exact ((hwy i k v hk hv).same (S4.trans S7)).is
  ·obtain⟨j,hj,e⟩:=List.getElem_of_mem hk
   exact hin j k (by trivial) (by rw[List.getElem?_eq_getElem hj,e])
inductive spAlI_i (K:PySem.W.Frag) (vs:List V) (H:Hp) (Q:VK):Prop
 | mk:∀ (n:Int) (ts:List Tie) (ks:List Nat) (wv kv:V) (p:Addr) (ws:List Int),(vs=[wv,kv,.ref p])->(WK K H n ts ks wv kv)->(IntT H p ws)->(∀ H',Same H H'->Q (ov (rightI n ts ks ws)) H')->spAlI_i K vs H Q
def spAlI (K:PySem.W.Frag):Sp:=fun vs H Q _=>spAlI_i K vs H Q
theorem ze3 (T:Bi mg) (D:DefOk K mg "_law_along" s__law_along ["web","keep","way"]):Ok P w K mg base 1 "_law_along" ["web","keep","way"] (spAlI K):=by
 refine za2 (k:=0) D sc__law_along (fun vs H Q E h=>?_) (fun f cdv A outer s H vs Q E hr h=>?_)
 ·obtain⟨n,ts,ks,wv,kv,p,ws,rfl,_⟩:=h
  rfl
 obtain⟨n,ts,ks,wv,kv,p,ws,rfl,⟨isw,ok,isk,ko⟩,⟨hp,l1000⟩,q⟩:=h
 have nd:=sc__law_along.nd
 have hu:(A.deeper (envOfC "_law_along" (defScope s__law_along) s.heap.objs.size f cdv)).units + 1 < cLine:=by have:=hr.units;trivial
 have few60:=ok.few
 have lk:=ko.len
 obtain⟨g0,g,ws0,rfl,hg0,hg,hall,hlw⟩:=zax isw
 obtain⟨kp,rfl,hkp⟩:=zbh isk
 have lm:(ws.map V.int).length=ws.length:=List.length_map _
 have no:∀ {J:Hp},Same H J->¬ ((ws≠[]∧ws.Nodup)∧ws.all (fun i=>decide (0≤i) && decide (i < n))=true)->Q .non J:=fun S c=>by
  have:=q _ S
  unfold rightI at this
  rw[if_neg c] at this
  exact this
 refine⟨_,(zad (za6 (PW.pt (zcl (zan zbb (zai zal rfl T.z_len (by decide +kernel) (zaa (pv 2) zab)) zac (nomark _)) (zcl (zan zjg (zai zik rfl T.z_len (by decide +kernel) (zaa (za1 (zii rfl) rfl T.z_set (by decide +kernel) (zaa (pv 2) zab)) zab)) (zai zal rfl T.z_len (by decide +kernel) (zaa (pv 2) zab)) (nomark _)) (zbx (zcs (zb3 (zai (zc7 rfl) rfl T.z_all (by decide +kernel) (zaa (zbl (N:=["web","keep","way","lengths","number","a","b","length","total","step"]) (sc0:=defScope s__law_along) (own:=["place"]) (fr:=["web"]) (js:=[0]) rfl (zct (pv 2)) (fun _ _ _ _=>(zag (i:=0) (by show List.Nodup [("place":Str),("web":Str)];decide +kernel) rfl (Or.inl rfl))) (fun _ _ _ _=>zbt) (fun _ _ _ _=>(zgh zhr zgl zac (pv 0) (zam zbr (pv 1) zac (fun _ _=>rfl))))) zab)))))))) (zaf (zaj zbn)) zau) (zad (zas (i:=3) nd rfl (Or.inl rfl) zob) (zad (zbm PassesOwn.never rfl (zct (pv 1)) (zag (i:=4) nd rfl (Or.inl rfl)) (zad (zbc (zam zao (zam zao (pv 0) zac (fun _ _=>rfl)) (pv 4) (fun _ _=>rfl)) (zbk (n:=3) rfl (zah (zag (i:=5) nd rfl (Or.inl rfl)) (zah (zag (i:=6) nd rfl (Or.inl rfl)) (zah (zag (i:=7) nd rfl (Or.inl rfl)) za4))))) (zad (zl7 hu (pv 3) (za0 (zaa (pv 5) (zaa (pv 6) zab))) (pv 7) rfl) (zaf (zl7 hu (pv 3) (za0 (zaa (pv 6) (zaa (pv 5) zab))) (pv 7) rfl))))) (zad (zas (i:=8) nd rfl (Or.inl rfl) zac) (zad (zbm PassesOwn.never rfl (zpt true true rfl T.z_zip (zaa (pv 2) (zaa (za8 zbi (pv 2) (zbj zac) zbe) zab))) (zag (i:=9) nd rfl (Or.inl rfl)) (zad (za6 (zqu (zmb hu (pv 9) (pv 3)) (by with_unfolding_all rfl)) (zaf (zaj zbn)) zau) (zaf (zas (i:=8) nd rfl (Or.inl rfl) (zar zba (pv 8) (zpw hu (pv 3) (pv 9) (fun _ _=>rfl))))))) (zaf (zaj (pv 8)))))))),?_⟩
 refine⟨_,rfl,p,_,rfl,.inr (SqT.of hp),rfl,_,rfl,ite2 (fun c=>no (Same.refl H) fun z=>?_) (fun c=>?_)⟩
 ·have:=of_decide_eq_true c
  injection this with this
  exact z.1.1 (List.eq_nil_of_length_eq_zero (by trivial))
 have ne:ws≠[]:=fun z=>c (decide_eq_true (by rw[z];rfl))
 refine⟨_,rfl,p,ws,rfl,hp,l1000,fun u J1 S1 f1 e1=>⟨u,_,_,rfl,e1,_,rfl,p,_,rfl,.inr (SqT.of (S1 _ _ hp)),rfl,_,rfl,?_⟩⟩
 by_cases nod:ws.Nodup
 case neg =>
  have:decide (V.int ((HT.setN ws ws.length:Nat):Int)=V.int (((ws.map V.int).length:Nat):Int))=false:=decide_eq_false fun y=>nod ((zcz ws).mp (by injection y with y;trivial))
  rw[this]
  exact iteT (no S1 fun z=>nod z.1.2)
 refine iteNS (by rw[lm,(zcz ws).mpr nod]) ?_
 refine⟨_,rfl,p,rfl,⟨_,SqT.of (S1 _ _ hp)⟩,?_⟩
 refine zem (S1 _ _ hp) (fun σ'=>∃ o,σ'=[o,some (.ref g0)]) (fun i v _=>v=.bl ((fun i=>decide (0≤ws.getD i 0) && decide (ws.getD i 0 < n)) i)) (by trivial) (by exact⟨none,rfl⟩) (fun _ _ _ _ _ h=>h) (fun i x σ' H' hx s2 sg C hC=>?_) (fun L ys J2 hL S2 hH hly hys=>?_)
 ·obtain⟨o,rfl⟩:=sg
  rw[List.getElem?_map] at hx
  obtain⟨j,hj,rfl⟩:=Option.map_eq_some_iff.mp hx
  have ej:ws.getD i 0=j:=by rw[List.getD_eq_getElem?_getD,hj];rfl
  dsimp only at hC
  rw[ej] at hC
  refine⟨_,rfl,_,_,rfl,rfl,_,rfl,ite2 (fun c=>?_) (fun c=>?_)⟩
  ·exact⟨_,rfl,g0,_,_,_,rfl,rfl,SqT.of (s2 _ _ (S1 _ _ hg0)),rfl,_,_,rfl,rfl,hC _ _ _ ⟨_,rfl⟩ (Same.refl _) (by rw[show decide (0≤j)=true from c,Bool.true_and])⟩
  ·exact hC _ _ _ ⟨_,rfl⟩ (Same.refl _) (by rw[show decide (0≤j)=false from Bool.eq_false_iff.mpr c,Bool.false_and])
 have eall:((List.range ws.length).map fun i=>decide (0≤ws.getD i 0) && decide (ws.getD i 0 < n)).all id=ws.all (fun i=>decide (0≤i) && decide (i < n)):=by
  have z:=congrArg (List.map fun j:Int=>decide (0≤j) && decide (j < n)) (L3.zb0 ws 0)
  rw[List.map_map] at z
  have z':((List.range ws.length).map fun i=>decide (0≤ws.getD i 0) && decide (ws.getD i 0 < n))=ws.map fun j=>decide (0≤j) && decide (j < n):=z
  rw[z',List.all_map];rfl
 have S12:=S1.trans S2
 refine⟨L,_,rfl,SqL.of (by rw[hH,zc8 (hly.trans lm) hys]),_,rfl,iteB2 (fun c=>?_) (fun c=>?_)⟩
 case refine_2 =>
  rw[eall] at c
  exact no S12 fun z=>by rw[z.2] at c;cases c
 rw[eall] at c
 have yes:∀ {J:Hp},Same H J->Q (ov (sumY ts ks ws (ws.length - 1))) J:=fun S=>by
  have:=q _ S
  unfold rightI at this
  rw[if_pos ⟨⟨ne,nod⟩,c⟩] at this
  exact this
 refine fun ld hld=>?_
 have fd:H ld=none:=S12.free hld
 have S3:=zav (H:=J2) (o:=.dT []) hld
 obtain⟨J3,eJ3⟩:∃ J3,J3=upd J2 ld (.dT []):=⟨_,rfl⟩
 have hd3:J3 ld=some (.dT []):=by rw[eJ3];exact zak
 rw[← eJ3] at S3 ⊢
 have S03:=S12.trans S3
 refine⟨_,rfl,kp,rfl,⟨_,SqT.of (S03 _ _ hkp)⟩,?_⟩
 refine zdj (xs:=(keepI ks).map V.int) (fun i σ J=>∃ (kvs:List (List Key × V)) (y4 y5 y6 y7:Option V),σ=[some (.ref g0),some (.ref kp),some (.ref p),some (.ref ld),y4,y5,y6,y7,none,none]∧But ld J3 J∧J ld=some (.dT kvs)∧kvs.length≤2 * i∧∀ a b:Int,valV kvs (key2 a b)=(lenI ts (ks.take i) a b).map V.int) ⟨[],none,none,none,none,rfl,But.refl,hd3,Nat.le_refl _,fun a b=>rfl⟩ (fun i σ J _ h=>?_) (fun i x σ J hx h=>?_) (fun σ J h=>?_)
 ·obtain⟨kvs,y4,y5,y6,y7,rfl,bt,_⟩:=h
  exact SqT.of (bt _ _ (zaq hkp fd) (S03 _ _ hkp))
 ·obtain⟨kvs,y4,y5,y6,y7,rfl,bt,hd,lkv,hkv⟩:=h
  have sm:Same H J:=fun b o e=>bt _ _ (zaq e fd) (S03 _ _ e)
  rw[← zbd] at hx
  obtain⟨k,hk,rfl⟩:=zb9 hx
  have hi:=(List.getElem?_eq_some_iff.mp hk).1
  have hkl:=ko.2 k (List.mem_of_getElem? hk)
  have tn:ks.take (i + 1)=ks.take i++[k]:=by rw[List.take_add_one,hk];rfl
  have nk:k ∉ ks.take i:=fun z=>by
   obtain⟨j,hj⟩:=List.mem_iff_getElem?.mp z
   have hji:j < i:=by have:=(List.getElem?_eq_some_iff.mp hj).1;rw[List.length_take] at this;trivial
   rw[List.getElem?_take,if_pos hji] at hj
   have e1:=(List.getElem?_eq_some_iff.mp hj).2
   have e2:=(List.getElem?_eq_some_iff.mp hk).2
   have:=List.pairwise_iff_getElem.mp ko.1 j i (by trivial) hi hji
   trivial
  obtain⟨ta,hta,htie⟩:=za9 hall hkl
  refine⟨_,rfl,g0,_,_,_,rfl,rfl,SqT.of (sm _ _ hg0),rfl,_,rfl,g,_,_,_,rfl,rfl,SqT.of (sm _ _ hg),zap (Int.natCast_nonneg _) hta,ta,_,rfl,SqT.of (sm _ _ htie),rfl,_,_,rfl,_,_,rfl,_,_,rfl,rfl,?_⟩
  refine⟨_,rfl,_,rfl,_,rfl,_,rfl,(by show 2≤1000;decide),fun te J4 S4 f4 e4=>?_⟩
  have e4':J4 te=some (.tup ((key2 (tieAt ts k).1 (tieAt ts k).2.1).map kV)):=e4
  have sz:kvs.length < sizeLine:=Nat.lt_of_le_of_lt (show kvs.length≤1000 by trivial) (by decide)
  refine⟨ld,_,rfl,DPut.t (k:=key2 (tieAt ts k).1 (tieAt ts k).2.1) (S4 _ _ hd) e4' sz,?_⟩
  have l1:=zco kvs (key2 (tieAt ts k).1 (tieAt ts k).2.1) (V.int (tieAt ts k).2.2)
  obtain⟨kv1,ek1⟩:∃ kv1,kv1=putK kvs (key2 (tieAt ts k).1 (tieAt ts k).2.1) (V.int (tieAt ts k).2.2):=⟨_,rfl⟩
  rw[← ek1] at l1 ⊢
  obtain⟨J5,eJ5⟩:∃ J5,J5=upd J4 ld (.dT kv1):=⟨_,rfl⟩
  have hd5:J5 ld=some (.dT kv1):=by rw[eJ5];exact zak
  have b5:But ld J4 J5:=by rw[eJ5];exact But.upd
  rw[← eJ5]
  refine⟨_,rfl,_,rfl,_,rfl,_,rfl,(by show 2≤1000;decide),fun tf J6 S6 f6 e6=>?_⟩
  have e6':J6 tf=some (.tup ((key2 (tieAt ts k).2.1 (tieAt ts k).1).map kV)):=e6
  have sz1:kv1.length < sizeLine:=Nat.lt_of_le_of_lt (show kv1.length≤1000 by trivial) (by decide)
  have l2:=zco kv1 (key2 (tieAt ts k).2.1 (tieAt ts k).1) (V.int (tieAt ts k).2.2)
  refine⟨ld,_,rfl,DPut.t (k:=key2 (tieAt ts k).2.1 (tieAt ts k).1) (S6 _ _ hd5) e6' sz1,_,_,_,_,_,rfl,(bt.trans ((Same.but S4).trans (b5.trans (Same.but S6)))).trans But.upd,zak,by trivial,fun a b=>?_⟩
  rw[zj7,ek1,zj7,hkv,tn,zmo ok hkl (fun j hj=>ko.2 j (List.mem_of_mem_take hj)) nk]
  by_cases z:key2 a b=key2 (tieAt ts k).2.1 (tieAt ts k).1
  ·rw[if_pos z,if_pos ((zjs ok hkl).mpr (.inr z))];rfl
  ·rw[if_neg z]
   by_cases y:key2 a b=key2 (tieAt ts k).1 (tieAt ts k).2.1
   ·rw[if_pos y,if_pos ((zjs ok hkl).mpr (.inl y))];rfl
   ·rw[if_neg y,if_neg (fun x=>((zjs ok hkl).mp x).elim y z)]
 obtain⟨kvs,y4,y5,y6,y7,rfl,bt,hd,lkv,hkv⟩:=h
 have ek:((keepI ks).map V.int).length=ks.length:=by unfold keepI;rw[List.length_map,List.length_map]
 rw[ek,List.take_length] at hkv
 have sm:Same H J:=fun b o e=>bt _ _ (zaq e fd) (S03 _ _ e)
 refine⟨_,rfl,_,rfl,_,rfl,p,_,rfl,sm _ _ hp,fun p2 J4 S4 e4=>?_⟩
 have ec:cutV (ws.map V.int) (some 1) none=(ws.drop 1).map V.int:=by rw[List.map_drop];exact zci _ 1
 rw[ec] at e4
 refine⟨p,p2,rfl,⟨_,SqX.of (t:=true) (S4 _ _ (sm _ _ hp))⟩,⟨_,SqX.of (t:=true) e4⟩,?_⟩
 have hd4:=S4 _ _ hd
 have hp4:=S4 _ _ (sm _ _ hp)
 refine zkm (t1:=true) (t2:=true) (xs:=ws.map V.int) (zs:=(ws.drop 1).map V.int) (fun j σ J'=>∃ (x:Int) (y9:Option V),σ=[some (.ref g0),some (.ref kp),some (.ref p),some (.ref ld),y4,y5,y6,y7,some (.int x),y9]∧Same J4 J'∧sumY ts ks ws j=some x) ⟨0,none,rfl,Same.refl _,rfl⟩ (fun j σ J' h=>?_) (fun j x z U σ J' hx hz hU h=>?_) (fun σ J' h=>?_)
 ·obtain⟨x,y9,rfl,S5,_⟩:=h
  exact⟨SqX.of (t:=true) (S5 _ _ hp4),SqX.of (t:=true) (S5 _ _ e4)⟩
 ·obtain⟨x0,y9,rfl,S5,hs⟩:=h
  rw[List.getElem?_map] at hx hz
  obtain⟨a,ha,rfl⟩:=Option.map_eq_some_iff.mp hx
  obtain⟨b,hb,rfl⟩:=Option.map_eq_some_iff.mp hz
  rw[List.getElem?_drop,Nat.add_comm] at hb
  have hj:=(List.getElem?_eq_some_iff.mp hb).1
  have est:stepY ts ks ws j=lenI ts ks a b:=by
   unfold stepY
   rw[List.getD_eq_getElem?_getD,ha,List.getD_eq_getElem?_getD,hb];rfl
  have SU:=zav (H:=J') (o:=.tup [V.int a,.int b]) hU
  have eU:(upd J' U (.tup [V.int a,.int b])) U=some (.tup ((key2 a b).map kV)):=zak
  have gt:=DGet.t (k:=key2 a b) (SU _ _ (S5 _ _ hd4)) eU
  rw[hkv,← est] at gt
  have snx:sumY ts ks ws (j + 1)=(stepY ts ks ws j).map fun l=>x0 + l:=by rw[sumY,hs];rfl
  refine⟨_,rfl,_,rfl,ld,_,rfl,gt,_,rfl,?_⟩
  cases e:stepY ts ks ws j with
  | none =>
   rw[e] at snx
   refine iteT ?_
   have:=yes (sm.trans (S4.trans (S5.trans SU)))
   rw[zhm snx _ (by trivial)] at this
   exact this
  | some l =>
   rw[e] at gt snx
   exact iteF ⟨_,rfl,_,rfl,_,rfl,ld,_,rfl,gt,_,_,rfl,rfl,_,_,rfl,S5.trans SU,snx⟩
 ·obtain⟨x0,y9,rfl,S5,hs⟩:=h
  have em:min (ws.map V.int).length ((ws.drop 1).map V.int).length=ws.length - 1:=by rw[List.length_map,List.length_map,List.length_drop];trivial
  rw[em] at hs
  have:=yes (sm.trans (S4.trans S5))
  rw[hs] at this
  exact⟨_,rfl,this⟩
inductive spPlace_i (K:PySem.W.Frag) (vs:List V) (H:Hp) (Q:VK):Prop
 | mk:∀ (n:Int) (ts:List Tie) (wv:V) (i:Int),(vs=[wv,.int i])->(Is K H (webD n ts) wv)->(∀ H',Same H H'->Q (.bl (decide (0≤i) && decide (i < n))) H')->spPlace_i K vs H Q
def spPlace (K:PySem.W.Frag):Sp:=fun vs H Q _=>spPlace_i K vs H Q
def placesB (n:Int) (ns:List Int):Bool:=ns.all fun i=>decide (0≤i) && decide (i < n)
inductive spUnlike_i (K:PySem.W.Frag) (vs:List V) (H:Hp) (Q:VK):Prop
 | mk:∀ (n:Int) (ts:List Tie) (wv:V) (p:Addr) (ns:List Int),(vs=[wv,.ref p])->(Is K H (webD n ts) wv)->(IntT H p ns)->(∀ H',Same H H'->Q (.bl (placesB n ns && decide ns.Nodup)) H')->spUnlike_i K vs H Q
def spUnlike (K:PySem.W.Frag):Sp:=fun vs H Q _=>spUnlike_i K vs H Q
theorem zjl (T:Bi mg) (D:DefOk K mg "is_place" s_is_place ["web","thing"]) (O_is_whole:Ok P w K mg base 1 "is_whole" ["thing"] (spD1 K (fun _=>True) wholeB)):Ok P w K mg base 2 "is_place" ["web","thing"] (spPlace K):=by
 refine za2 (k:=1) D sc_is_place (fun vs H Q E h=>?_) (fun f cdv A outer s H vs Q E hr h=>?_)
 ·obtain⟨n,ts,wv,i,rfl,_⟩:=h
  rfl
 obtain⟨n,ts,wv,i,rfl,isw,q⟩:=h
 have nd:=sc_is_place.nd
 obtain⟨g0,g,ws,rfl,hg0,_⟩:=zax isw
 refine⟨_,(zaf (zaj (zbv (zae O_is_whole hr rfl (zaa (pv 1) zab)) (zbs (zgh zhr zgl zac (pv 1) (zam zao (pv 0) zac (fun _ _=>rfl))))))),?_⟩
 refine⟨_,rfl,.int i,.int i,rfl,rfl,trivial,fun H1 s1=>⟨_,rfl,iteT ?_⟩⟩
 have q0:=q H1 s1
 refine⟨_,rfl,_,_,rfl,rfl,_,rfl,ite2 (fun c=>?_) (fun c=>?_)⟩
 ·rw[show decide (0≤i)=true from c,Bool.true_and] at q0
  exact⟨_,rfl,g0,_,_,_,rfl,rfl,SqT.of (s1 _ _ hg0),rfl,_,_,rfl,rfl,q0⟩
 ·rw[show decide (0≤i)=false from Bool.eq_false_iff.mpr c,Bool.false_and] at q0
  exact q0
theorem zda (T:Bi mg) (D:DefOk K mg "are_unlike_places" s_are_unlike_places ["web","thing"]) (O_is_place:Ok P w K mg base 2 "is_place" ["web","thing"] (spPlace K)):Ok P w K mg base 3 "are_unlike_places" ["web","thing"] (spUnlike K):=by
 refine za2 (k:=2) D sc_are_unlike_places (fun vs H Q E h=>?_) (fun f cdv A outer s H vs Q E hr h=>?_)
 ·obtain⟨n,ts,wv,p,ns,rfl,_⟩:=h
  rfl
 obtain⟨n,ts,wv,p,ns,rfl,isw,it,q⟩:=h
 have nd:=sc_are_unlike_places.nd
 have lm:(ns.map V.int).length=ns.length:=List.length_map _
 have l1000:=it.2
 refine⟨_,(zad (za6 (PW.pt (zcl (zcs (zb3 (zai (zc6 (n:="tuple")) rfl T.z_isinstance (by decide +kernel) (zaa (pv 1) (zaa (zd3 (v:=.ty "tuple") rfl T.z_tuple (by decide +kernel) rfl) zab))))) (zbx (zcs (zb3 (zai (zc7 rfl) rfl T.z_all (by decide +kernel) (zaa (zbl (N:=["web","thing"]) (sc0:=defScope s_are_unlike_places) (own:=["part"]) (fr:=["web"]) (js:=[0]) rfl (zct (pv 1)) (fun _ _ _ _=>(zag (i:=0) (by show List.Nodup [("part":Str),("web":Str)];decide +kernel) rfl (Or.inl rfl))) (fun _ _ _ _=>zbt) (fun _ _ _ _=>(zae O_is_place hr rfl (zaa (pv 1) (zaa (pv 0) zab))))) zab))))))) (zaf (zaj zcn)) zau) (zaf (zaj (zaz zbb (zai zik rfl T.z_len (by decide +kernel) (zaa (za1 (zii rfl) rfl T.z_set (by decide +kernel) (zaa (pv 1) zab)) zab)) (zai zal rfl T.z_len (by decide +kernel) (zaa (pv 1) zab)) (nomark _))))),?_⟩
 refine⟨_,rfl,_,_,_,rfl,TyOf.tup it.1,rfl,_,rfl,iteF ?_⟩
 refine⟨_,rfl,p,rfl,⟨_,SqT.of it.1⟩,?_⟩
 refine zem it.1 (fun σ'=>∃ o,σ'=[o,some wv]) (fun i v _=>v=.bl ((fun i=>decide (0≤ns.getD i 0) && decide (ns.getD i 0 < n)) i)) (by trivial) (by exact⟨none,rfl⟩) (fun _ _ _ _ _ h=>h) (fun i x σ' H' hx s2 sg C hC=>?_) (fun L ys H2 hL s2 hH hly hys=>?_)
 ·obtain⟨o,rfl⟩:=sg
  rw[List.getElem?_map] at hx
  obtain⟨j,hj,rfl⟩:=Option.map_eq_some_iff.mp hx
  have ej:ns.getD i 0=j:=by rw[List.getD_eq_getElem?_getD,hj];rfl
  refine⟨_,rfl,_,rfl,n,ts,wv,j,rfl,Is.same s2 _ isw,fun H5 s5=>hC _ _ _ ⟨_,rfl⟩ s5 ?_⟩
  show V.bl (decide (0≤j) && decide (j < n))=V.bl (decide (0≤ns.getD i 0) && decide (ns.getD i 0 < n))
  rw[ej]
 ·refine⟨L,_,rfl,SqL.of (by rw[hH,zc8 (hly.trans lm) hys]),_,rfl,?_⟩
  have eall:((List.range ns.length).map fun i=>decide (0≤ns.getD i 0) && decide (ns.getD i 0 < n)).all id=placesB n ns:=by
   have z:=congrArg (List.map fun j:Int=>decide (0≤j) && decide (j < n)) (L3.zb0 ns 0)
   rw[List.map_map] at z
   have z':((List.range ns.length).map fun i=>decide (0≤ns.getD i 0) && decide (ns.getD i 0 < n))=ns.map fun j=>decide (0≤j) && decide (j < n):=z
   rw[z',List.all_map];rfl
  have q1:∀ {J:Hp},Same H2 J->Q (.bl (placesB n ns && decide ns.Nodup)) J:=fun S=>q _ (s2.trans S)
  refine iteB2 (fun c=>?_) (fun c=>?_)
  ·rw[eall] at c
   refine⟨_,rfl,p,ns,rfl,s2 _ _ it.1,l1000,fun u J S f e=>?_⟩
   refine⟨u,_,_,rfl,e,_,rfl,p,_,rfl,.inr (SqT.of (S _ _ (s2 _ _ it.1))),rfl,?_⟩
   have q2:=q1 S
   rw[c,Bool.true_and] at q2
   have ed:decide (V.int ((HT.setN ns ns.length:Nat):Int)=V.int (((ns.map V.int).length:Nat):Int))=decide ns.Nodup:=by
    rw[lm]
    by_cases z:ns.Nodup
    ·rw[decide_eq_true z,(zcz ns).mpr z,decide_eq_true rfl]
    ·rw[decide_eq_false z]
     exact decide_eq_false fun y=>z ((zcz ns).mp (by injection y with y;trivial))
   rw[ed];exact q2
  ·rw[eall] at c
   have q2:=q1 (Same.refl _)
   rw[c,Bool.false_and] at q2
   exact q2
theorem zfj (T:Bi mg) (D:DefOk K mg "ties_along" s_ties_along ["web","places"]) (O_tie_between:Ok P w K mg base 1 "tie_between" ["web","a","b"] (spTB K)):Ok P w K mg base 2 "ties_along" ["web","places"] (spAlongO K):=by
 refine za2 (k:=1) D sc_ties_along (fun vs H Q E h=>?_) (fun f cdv A outer s H vs Q E hr h=>?_)
 ·obtain⟨n,ts,wv,t,ws,rfl,_⟩:=h
  rfl
 obtain⟨n,ts,wv,t,ws,rfl,isw,few60,ht,l24,q⟩:=h
 have nd:=sc_ties_along.nd
 have lenW:(natV ws).length=ws.length:=by unfold natV;rw[List.length_map]
 have ecut:cutV (natV ws) (some 1) none=natV (ws.drop 1):=by
  unfold cutV
  have h1:HT.sIx (natV ws).length (natV ws).length none=(natV ws).length:=rfl
  rw[h1]
  by_cases z:ws=[]
  ·subst z;rfl
  ·have pos:=List.length_pos_iff.mpr z
   have h0:HT.sIx (natV ws).length 0 (some 1)=1:=by
    unfold HT.sIx
    simp
    trivial
   rw[h0,List.take_of_length_le (by rw[List.length_drop];exact Nat.le_refl _)]
   unfold natV
   rw[List.map_drop]
 refine⟨_,(zaf (zaj (zbl (N:=["web","places"]) (sc0:=defScope s_ties_along) (own:=["one","other"]) (fr:=["web"]) (js:=[0]) rfl (zkg true true rfl T.z_zip (zaa (pv 1) (zaa (za8 zbi (pv 1) (zbj zac) zbe) zab))) (fun _ _ _ _=>(zje (n:=2) rfl (zah (zag (i:=0) (by show List.Nodup [("one":Str),("other":Str),("web":Str)];decide +kernel) rfl (Or.inl rfl)) (zah (zag (i:=1) (by show List.Nodup [("one":Str),("other":Str),("web":Str)];decide +kernel) rfl (Or.inl rfl)) za4)))) (fun _ _ _ _=>zbt) (fun _ _ _ _=>(zae O_tie_between hr rfl (zaa (pv 2) (zaa (pv 0) (zaa (pv 1) zab)))))))),?_⟩
 refine⟨_,rfl,_,rfl,_,rfl,t,_,rfl,ht,fun t2 J1 S1 e1=>?_⟩
 rw[ecut] at e1
 refine⟨t,t2,rfl,⟨_,SqX.of (t:=true) (S1 _ _ ht)⟩,⟨_,SqX.of (t:=true) e1⟩,?_⟩
 have lenD:(natV (ws.drop 1)).length=ws.length - 1:=by unfold natV;rw[List.length_map,List.length_drop]
 refine zg2 (t1:=true) (t2:=true) (xs:=natV ws) (zs:=natV (ws.drop 1)) (S1 _ _ ht) e1 (fun σ'=>∃ o1 o2,σ'=[o1,o2,some wv]) (fun i x _=>x=oa (tbN ts (ws.getD i 0) (ws.getD (i + 1) 0))) (by trivial) (by exact⟨none,none,rfl⟩) (fun _ _ _ _ _ h=>h) (fun i x z U σ' H' hxi hzi s2 hU sg C hC=>?_) (fun L ys H2 hL s2 hH hly hys=>?_)
 ·obtain⟨o1,o2,rfl⟩:=sg
  obtain⟨u,hu,rfl⟩:=zb9 hxi
  obtain⟨v,hv,rfl⟩:=zb9 hzi
  rw[List.getElem?_drop,Nat.add_comm] at hv
  have eu:ws.getD i 0=u:=by rw[List.getD_eq_getElem?_getD,hu];rfl
  have ev:ws.getD (i + 1) 0=v:=by rw[List.getD_eq_getElem?_getD,hv];rfl
  refine⟨U,_,rfl,SqT.of zak,rfl,_,_,rfl,_,_,rfl,rfl,?_⟩
  have SU:=zav (o:=.tup [V.int (u:Int),.int (v:Int)]) hU
  refine⟨_,rfl,_,rfl,_,rfl,n,ts,wv,u,v,rfl,Is.same (S1.trans (s2.trans SU)) _ isw,few60,fun H5 s5=>hC _ _ _ ⟨_,_,rfl⟩ (SU.trans s5) ?_⟩
  rw[eu,ev]
 ·refine q L H2 (S1.trans s2) ?_
  rw[hH]
  refine congrArg (fun z=>some (HO.lst z)) (List.ext_getElem? fun i=>?_)
  have hl2:ys.length=ws.length - 1:=by rw[hly,lenW,lenD];trivial
  unfold alongO
  rw[List.getElem?_map]
  by_cases hi:i < ws.length - 1
  ·have e:ys[i]?=some ys[i]:=List.getElem?_eq_getElem (by trivial)
   rw[e,hys i _ e,List.getElem?_range hi];rfl
  ·rw[List.getElem?_eq_none (by trivial),List.getElem?_eq_none (by rw[List.length_range];trivial)];rfl
inductive spWayI_i (K:PySem.W.Frag) (vs:List V) (H:Hp) (Q:VK):Prop
 | mk:∀ (n:Int) (ts:List Tie) (ks:List Nat) (wv kv:V) (p:Addr) (ws:List Int),(vs=[wv,kv,.ref p])->(WK K H n ts ks wv kv)->(IntT H p ws)->(ws.length≤40)->(∀ H',Same H H'->Q (.bl (rightI n ts ks ws).isSome) H')->spWayI_i K vs H Q
def spWayI (K:PySem.W.Frag):Sp:=fun vs H Q _=>spWayI_i K vs H Q
theorem zgm (T:Bi mg) (D:DefOk K mg "way_right" s_way_right ["web","keep","way"]) (O_are_unlike_places:Ok P w K mg base 3 "are_unlike_places" ["web","thing"] (spUnlike K)) (O_ties_along:Ok P w K mg base 3 "ties_along" ["web","places"] (spAlongO K)):Ok P w K mg base 4 "way_right" ["web","keep","way"] (spWayI K):=by
 refine za2 (k:=3) D sc_way_right (fun vs H Q E h=>?_) (fun f cdv A outer s H vs Q E hr h=>?_)
 ·obtain⟨n,ts,ks,wv,kv,p,ws,rfl,_⟩:=h
  rfl
 obtain⟨n,ts,ks,wv,kv,p,ws,rfl,⟨isw,ok,isk,ko⟩,hp,l40,q⟩:=h
 have nd:=sc_way_right.nd
 obtain⟨kp,rfl,hkp⟩:=zbh isk
 rw[← zbd] at hkp
 have lm:(ws.map V.int).length=ws.length:=List.length_map _
 refine⟨_,(zad (za6 (PW.pt (zcl (zcs (zb3 (zae O_are_unlike_places hr rfl (zaa (pv 0) (zaa (pv 2) zab))))) (zbx (zan zbb (zai zal rfl T.z_len (by decide +kernel) (zaa (pv 2) zab)) zac (nomark _))))) (zaf (zaj zcn)) zau) (zaf (zaj (zai (zc7 rfl) rfl T.z_all (by decide +kernel) (zaa (zbl (N:=["web","keep","way"]) (sc0:=defScope s_way_right) (own:=["tie"]) (fr:=["keep"]) (js:=[1]) rfl (zcm (zae O_ties_along hr rfl (zaa (pv 0) (zaa (pv 2) zab)))) (fun _ _ _ _=>(zag (i:=0) (by show List.Nodup [("tie":Str),("keep":Str)];decide +kernel) rfl (Or.inl rfl))) (fun _ _ _ _=>zbt) (fun _ _ _ _=>(zaz zk7 (pv 0) (pv 1) (by with_unfolding_all rfl)))) zab))))),?_⟩
 refine⟨_,rfl,_,rfl,n,ts,wv,p,ws,rfl,isw,hp,fun H1 s1=>⟨_,rfl,?_⟩⟩
 have no:∀ {J:Hp},Same H J->¬ ((ws≠[]∧ws.Nodup)∧ws.all (fun i=>decide (0≤i) && decide (i < n))=true)->Q (.bl false) J:=fun S c=>by
  have:=q _ S
  unfold rightI at this
  rw[if_neg c] at this
  exact this
 cases epl:placesB n ws with
 | false=>exact iteT (iteT (no s1 fun z=>by rw[show ws.all (fun i=>decide (0≤i) && decide (i < n))=false from epl] at z;cases z.2))
 | true =>
 by_cases nod:ws.Nodup
 case neg =>
  rw[decide_eq_false nod]
  exact iteT (iteT (no s1 fun z=>nod z.1.2))
 rw[decide_eq_true nod]
 refine iteF ⟨_,rfl,p,_,rfl,.inr (SqT.of (s1 _ _ hp.1)),rfl,_,rfl,?_⟩
 by_cases ne:ws=[]
 ·subst ne
  exact iteT (no s1 fun z=>z.1.1 rfl)
 rw[decide_eq_false (p:=V.int (((ws.map V.int).length:Nat):Int)=V.int 0) (fun z=>by injection z with z;have:=List.length_pos_iff.mpr ne;trivial)]
 refine iteF ?_
 have al:ws.all (fun i=>decide (0≤i) && decide (i < n))=true:=epl
 have pl:∀ i ∈ ws,0≤i∧i < n:=fun i hi=>by
  have:=List.all_eq_true.mp al i hi
  rw[Bool.and_eq_true,decide_eq_true_iff,decide_eq_true_iff] at this
  exact this
 obtain⟨us,eus⟩:∃ us:List Nat,ws=keepI us:=⟨ws.map Int.toNat,by
  unfold keepI
  rw[List.map_map]
  conv=>lhs;rw[← List.map_id ws]
  refine List.map_congr_left fun i hi=>?_
  show i=((i.toNat:Nat):Int)
  have:=pl i hi;trivial⟩
 have lus:us.length=ws.length:=by rw[eus];unfold keepI;rw[List.length_map]
 have hpn:H p=some (.tup (natV us)):=by rw[zbd,← eus];exact hp.1
 refine⟨_,rfl,_,rfl,n,ts,_,p,us,rfl,Is.same s1 _ isw,ok.few,s1 _ _ hpn,by trivial,fun l J1 S1 e1=>?_⟩
 have s11:=s1.trans S1
 refine⟨l,rfl,⟨_,SqL.of e1⟩,?_⟩
 have lenA:(alongO ts us).length=us.length - 1:=by unfold alongO;rw[List.length_map,List.length_range]
 refine zdv e1 (fun σ'=>∃ o,σ'=[o,some (.ref kp)]) (fun i v _=>v=.bl ((fun i=>(stepY ts ks ws i).isSome) i)) (by trivial) (by exact⟨none,rfl⟩) (fun _ _ _ _ _ h=>h) (fun i x σ' H' hx s2 sg C hC=>?_) (fun L ys H2 hL s2 hH hly hys=>?_)
 ·obtain⟨o,rfl⟩:=sg
  have hi:=(List.getElem?_eq_some_iff.mp hx).1
  unfold alongO at hx
  rw[List.getElem?_map,List.getElem?_range (by trivial)] at hx
  have ex:x=oa (tbN ts (us.getD i 0) (us.getD (i + 1) 0)):=(Option.some.inj hx).symm
  have est:(stepY ts ks ws i).isSome=inV (oa (tbN ts (us.getD i 0) (us.getD (i + 1) 0))) (natV ks):=by
   rw[zq3 ok ko]
   unfold stepY
   rw[eus]
   unfold keepI
   have g:∀ j,(us.map fun k:Nat=>(k:Int)).getD j 0=((us.getD j 0:Nat):Int):=fun j=>by
    rw[List.getD_eq_getElem?_getD,List.getD_eq_getElem?_getD,List.getElem?_map]
    cases us[j]? <;> rfl
   rw[g,g]
  subst ex
  refine⟨_,rfl,_,rfl,kp,_,rfl,.inr (SqT.of (s2 _ _ (s11 _ _ hkp))),?_,zdt ks,hC _ _ _ ⟨_,rfl⟩ (Same.refl _) ?_⟩
  ·cases tbN ts (us.getD i 0) (us.getD (i + 1) 0) <;> rfl
  ·show V.bl (inV _ (natV ks))=V.bl (stepY ts ks ws i).isSome
   rw[est]
 ·refine⟨L,_,rfl,SqL.of (by rw[hH,zc8 (hly.trans lenA) hys]),?_⟩
  have ea:((List.range (us.length - 1)).map fun i=>(stepY ts ks ws i).isSome).all id=(rightI n ts ks ws).isSome:=by
   unfold rightI
   rw[if_pos ⟨⟨ne,nod⟩,al⟩,zhl,lus,List.all_map];rfl
  rw[ea]
  exact q H2 (s11.trans s2)
theorem zee (T:Bi mg) (D:DefOk K mg "is_tie_number" s_is_tie_number ["web","thing"]) (O_is_whole:Ok P w K mg base 1 "is_whole" ["thing"] (spD1 K (fun _=>True) wholeB)):Ok P w K mg base 2 "is_tie_number" ["web","thing"] (spNum K):=by
 refine za2 (k:=1) D sc_is_tie_number (fun vs H Q E h=>?_) (fun f cdv A outer s H vs Q E hr h=>?_)
 ·obtain⟨n,ts,d,v,u,rfl,_⟩:=h
  rfl
 obtain⟨n,ts,d,v,u,rfl,hw,hd,q⟩:=h
 have nd:=sc_is_tie_number.nd
 refine⟨_,(zaf (zaj (zbv (zae O_is_whole hr rfl (zaa (pv 1) zab)) (zbs (zgh zhr zgl zac (pv 1) (zai zal rfl T.z_len (by decide +kernel) (zaa (zam zao (pv 0) zac (fun _ _=>rfl)) zab))))))),?_⟩
 refine⟨_,rfl,d,u,rfl,hd,trivial,fun H1 s1=>⟨_,rfl,?_⟩⟩
 have q0:=q H1 s1
 cases d with
 | int i =>
  have e:u=.int i:=hd
  subst e
  obtain⟨p,g,ws,rfl,hp,hg,hall,hl⟩:=zax (Is.same s1 _ hw)
  refine iteT ⟨_,rfl,_,_,rfl,rfl,_,rfl,ite2 (fun c=>⟨_,rfl,p,_,_,_,rfl,rfl,SqT.of hp,rfl,g,_,rfl,.inr (SqT.of hg),_,_,rfl,rfl,?_⟩) (fun c=>?_)⟩
  ·have e:numB ts.length (.int i)=decide (i < (ws.length:Int)):=by show (decide (0≤i) && decide (i < (ts.length:Int)))=_;rw[show decide (0≤i)=true from c,hl];rfl
   rw[e] at q0;exact q0
  ·have e:numB ts.length (.int i)=false:=by show (decide (0≤i) && decide (i < (ts.length:Int)))=_;rw[show decide (0≤i)=false from Bool.eq_false_iff.mpr c];rfl
   rw[e] at q0;exact q0
 | bool b=>exact iteF q0
 | none=>exact iteF q0
 | str x=>exact iteF q0
 | tuple ds=>exact iteF q0
 | list ds=>exact iteF q0
 | dict ds=>exact iteF q0
inductive spTupN_i  (vs:List V) (H:Hp) (Q:VK):Prop
 | mk:∀ (t:Addr) (xs:List V) (m:Nat),(vs=[.ref t,.int (m:Int)])->(H t=some (.tup xs))->(Q (.bl (decide (xs.length=m))) H)->spTupN_i vs H Q
def spTupN :Sp:=fun vs H Q _=>spTupN_i vs H Q
theorem zew (T:Bi mg) (D:DefOk K mg "is_tuple_of" s_is_tuple_of ["thing","many"]):Ok P w K mg base 1 "is_tuple_of" ["thing","many"] spTupN:=by
 refine za2 (k:=0) D sc_is_tuple_of (fun vs H Q E h=>?_) (fun f cdv A outer s H vs Q E hr h=>?_)
 ·obtain⟨t,xs,m,rfl,_⟩:=h
  rfl
 obtain⟨t,xs,m,rfl,ht,q⟩:=h
 have nd:=sc_is_tuple_of.nd
 refine⟨_,(zaf (zaj (zbv (zai (zc6 (n:="tuple")) rfl T.z_isinstance (by decide +kernel) (zaa (pv 0) (zaa (zd3 (v:=.ty "tuple") rfl T.z_tuple (by decide +kernel) rfl) zab))) (zbs (zaz zbb (zai zal rfl T.z_len (by decide +kernel) (zaa (pv 0) zab)) (pv 1) (nomark _)))))),?_⟩
 refine⟨_,rfl,_,_,_,rfl,TyOf.tup ht,rfl,_,rfl,iteT ?_⟩
 refine⟨_,rfl,t,_,rfl,.inr (SqT.of ht),_,rfl,rfl,?_⟩
 have e:decide (V.int ((xs.length:Nat):Int)=V.int (m:Int))=decide (xs.length=m):=by
  by_cases z:xs.length=m
  ·rw[decide_eq_true z,decide_eq_true (by rw[z])]
  ·rw[decide_eq_false z,decide_eq_false fun y=>z (by injection y with y;trivial)]
 rw[e]
 exact q
theorem zre {ws:List Int} (h:1≤ws.length):atI (ws.map V.int) 0=some (.int (ws.getD 0 0)):=zap (Int.le_refl 0) (by
 rw[show (0:Int).toNat=0 from rfl,List.getElem?_map,List.getD_eq_getElem?_getD,List.getElem?_eq_getElem (show 0 < ws.length by trivial)];rfl)
theorem zqg {ws:List Int} (h:1≤ws.length):atI (ws.map V.int) (-1)=some (.int (ws.getD (ws.length - 1) 0)):=by
 unfold atI ixN
 rw[if_neg (by decide),if_pos (by rw[List.length_map];trivial)]
 show (ws.map V.int)[(-1 + ((ws.map V.int).length:Int)).toNat]?=_
 rw[List.length_map,show (-1 + (ws.length:Int)).toNat=ws.length - 1 by trivial,List.getElem?_map,List.getD_eq_getElem?_getD,List.getElem?_eq_getElem (show ws.length - 1 < ws.length by trivial)];rfl
theorem zbu (x y:Int):decide (V.int x=V.int y)=decide (x=y):=by
 by_cases z:x=y
 ·rw[decide_eq_true z,decide_eq_true (by rw[z])]
 ·rw[decide_eq_false z,decide_eq_false fun h=>z (by injection h)]
theorem zhp {n:Int} {ts:List Tie} {ks:List Nat} {ws:List Int} {x:Int} (h:rightI n ts ks ws=some x):1≤ws.length:=by
 unfold rightI at h
 split at h
 ·rename_i c
  exact List.length_pos_iff.mpr c.1.1
 ·cases h
inductive spLeadsI_i (K:PySem.W.Frag) (vs:List V) (H:Hp) (Q:VK):Prop
 | mk:∀ (n:Int) (ts:List Tie) (ks:List Nat) (wv kv:V) (p:Addr) (ws:List Int) (a b:Int),(vs=[wv,kv,.int a,.int b,.ref p])->(WK K H n ts ks wv kv)->(IntT H p ws)->(ws.length≤40)->(∀ H',Same H H'->Q (.bl (leadsI n ts ks a b ws)) H')->spLeadsI_i K vs H Q
def spLeadsI (K:PySem.W.Frag):Sp:=fun vs H Q _=>spLeadsI_i K vs H Q
theorem zd4 (T:Bi mg) (D:DefOk K mg "leads_between" s_leads_between ["web","keep","a","b","way"]) (O_way_right:Ok P w K mg base 4 "way_right" ["web","keep","way"] (spWayI K)):Ok P w K mg base 5 "leads_between" ["web","keep","a","b","way"] (spLeadsI K):=by
 refine za2 (k:=4) D sc_leads_between (fun vs H Q E h=>?_) (fun f cdv A outer s H vs Q E hr h=>?_)
 ·obtain⟨n,ts,ks,wv,kv,p,ws,a,b,rfl,_⟩:=h
  rfl
 obtain⟨n,ts,ks,wv,kv,p,ws,a,b,rfl,wk,iT,l40,q⟩:=h
 have nd:=sc_leads_between.nd
 refine⟨_,(zaf (zaj (zbv (zae O_way_right hr rfl (zaa (pv 0) (zaa (pv 1) (zaa (pv 4) zab)))) (zbv (zaz zbb (zam zao (pv 4) zac (fun _ _=>rfl)) (pv 2) (nomark _)) (zbs (zaz zbb (zam zao (pv 4) (zd1 zcd zac) (fun _ _=>rfl)) (pv 3) (nomark _))))))),?_⟩
 refine⟨_,rfl,_,rfl,_,rfl,n,ts,ks,wv,kv,p,ws,rfl,wk,iT,l40,fun H1 s1=>?_⟩
 have q1:=q H1 s1
 unfold leadsI at q1
 cases er:rightI n ts ks ws with
 | none =>
  rw[er] at q1
  exact⟨_,rfl,iteF q1⟩
 | some x =>
  rw[er] at q1
  have lp:=zhp er
  refine⟨_,rfl,iteT ?_⟩
  refine⟨_,rfl,p,_,_,_,rfl,rfl,SqT.of (iT.same s1).1,zre lp,_,rfl,rfl,_,rfl,?_⟩
  rw[zbu]
  cases e1:decide (ws.getD 0 0=a) with
  | false =>
   rw[e1] at q1
   exact iteF q1
  | true =>
   rw[e1] at q1
   refine iteT ⟨_,rfl,_,rfl,p,_,_,_,rfl,rfl,SqT.of (iT.same s1).1,zqg lp,_,rfl,rfl,?_⟩
   rw[zbu]
   exact q1
inductive spWithinR_i (K:PySem.W.Frag) (vs:List V) (H:Hp) (Q:VK):Prop
 | mk:∀ (n:Int) (ts:List Tie) (wv:V) (k:Nat) (t:Int) (tp:Addr) (us:List Nat),(vs=[wv,.int (k:Int),.int t,.ref tp])->(Is K H (webD n ts) wv)->(WebOk n ts)->(k < ts.length)->(1≤t)->(t≤99)->(H tp=some (.tup (natV us)))->(us.length≤24)->(linked ts us)->(∀ H',Same H H'->Q (.bl (decide (wl ts us≤t * (tieAt ts k).2.2))) H')->spWithinR_i K vs H Q
def spWithinR (K:PySem.W.Frag):Sp:=fun vs H Q _=>spWithinR_i K vs H Q
theorem zgr (T:Bi mg) (D:DefOk K mg "is_within" s_is_within ["web","tie","t","way"]) (O_way_length:Ok P w K mg base 3 "way_length" ["web","way"] (spWLen K)):Ok P w K mg base 4 "is_within" ["web","tie","t","way"] (spWithinR K):=by
 refine za2 (k:=3) D sc_is_within (fun vs H Q E h=>?_) (fun f cdv A outer s H vs Q E hr h=>?_)
 ·obtain⟨n,ts,wv,k,t,tp,us,rfl,_⟩:=h
  rfl
 obtain⟨n,ts,wv,k,t,tp,us,rfl,isw,ok,hkl,t1,t99,htw,l24,lk,q⟩:=h
 have nd:=sc_is_within.nd
 obtain⟨g0,g,ws',rfl,hg0,hg,hall,hlw⟩:=zax isw
 obtain⟨ta,hta,htie⟩:=za9 hall hkl
 refine⟨_,(zaf (zaj (zbv (zaz zgk (pv 3) zbn (nomark _)) (zbs (zaz zhr (zae O_way_length hr rfl (zaa (pv 0) (zaa (pv 3) zab))) (zar zb8 (pv 2) (zam zao (zam zao (zam zao (pv 0) zac (fun _ _=>rfl)) (pv 1) (fun _ _=>rfl)) zac (fun _ _=>rfl))) (nomark _)))))),?_⟩
 refine⟨_,rfl,rfl,_,rfl,iteT ?_⟩
 refine⟨_,rfl,_,rfl,n,ts,_,tp,us,rfl,isw,ok.few,htw,l24,lk,fun J S=>?_⟩
 exact⟨_,rfl,_,rfl,g0,_,_,_,rfl,rfl,SqT.of (S _ _ hg0),rfl,_,rfl,g,_,_,_,rfl,rfl,SqT.of (S _ _ hg),zap (Int.natCast_nonneg _) hta,ta,_,_,_,rfl,rfl,SqT.of (S _ _ htie),rfl,_,_,rfl,rfl,.inl ⟨by trivial,by trivial⟩,_,_,rfl,rfl,q J S⟩
inductive spWWin_i (K:PySem.W.Frag) (vs:List V) (H:Hp) (Q:VK):Prop
 | mk:∀ (n:Int) (ts:List Tie) (ks:List Nat) (wv kv:V) (k:Nat) (t:Int) (p:Addr) (ws:List Int),(vs=[wv,kv,.int (k:Int),.int t,.ref p])->(WK K H n ts ks wv kv)->(k < ts.length)->(1≤t)->(t≤99)->(IntT H p ws)->(ws.length≤40)->(∀ H',Same H H'->Q (.bl (goodW n ts ks t k ws)) H')->spWWin_i K vs H Q
def spWWin (K:PySem.W.Frag):Sp:=fun vs H Q _=>spWWin_i K vs H Q
theorem zeu (T:Bi mg) (D:DefOk K mg "way_within" s_way_within ["web","keep","tie","t","way"]) (O_leads_between:Ok P w K mg base 5 "leads_between" ["web","keep","a","b","way"] (spLeadsI K)) (O_is_within:Ok P w K mg base 5 "is_within" ["web","tie","t","way"] (spWithinR K)):Ok P w K mg base 6 "way_within" ["web","keep","tie","t","way"] (spWWin K):=by
 refine za2 (k:=5) D sc_way_within (fun vs H Q E h=>?_) (fun f cdv A outer s H vs Q E hr h=>?_)
 ·obtain⟨n,ts,ks,wv,kv,k,t,p,ws,rfl,_⟩:=h
  rfl
 obtain⟨n,ts,ks,wv,kv,k,t,p,ws,rfl,wk,hkl,t1,t99,iT,l40,q⟩:=h
 have nd:=sc_way_within.nd
 obtain⟨g0,g,ws',rfl,hg0,hg,hall,hlw⟩:=zax wk.1
 obtain⟨ta,hta,htie⟩:=za9 hall hkl
 refine⟨_,(zad (zbc (zam zao (zam zao (pv 0) zac (fun _ _=>rfl)) (pv 2) (fun _ _=>rfl)) (zbk (n:=3) rfl (zah (zag (i:=5) nd rfl (Or.inl rfl)) (zah (zag (i:=6) nd rfl (Or.inl rfl)) (zah (zag (i:=7) nd rfl (Or.inl rfl)) za4))))) (zaf (zaj (zbv (zae O_leads_between hr rfl (zaa (pv 0) (zaa (pv 1) (zaa (pv 5) (zaa (pv 6) (zaa (pv 4) zab)))))) (zbs (zae O_is_within hr rfl (zaa (pv 0) (zaa (pv 2) (zaa (pv 3) (zaa (pv 4) zab)))))))))),?_⟩
 refine⟨_,rfl,g0,_,_,_,rfl,rfl,SqT.of hg0,rfl,_,rfl,g,_,_,_,rfl,rfl,SqT.of hg,zap (Int.natCast_nonneg _) hta,?_⟩
 refine⟨ta,_,rfl,SqT.of htie,rfl,_,_,rfl,_,_,rfl,_,_,rfl,rfl,?_⟩
 refine⟨_,rfl,_,rfl,_,rfl,_,rfl,_,rfl,n,ts,ks,_,kv,p,ws,_,_,rfl,wk,iT,l40,fun H1 s1=>?_⟩
 have q1:=q
 unfold goodW at q1
 cases e:leadsI n ts ks (tieAt ts k).1 (tieAt ts k).2.1 ws with
 | false =>
  have q1:=q1 H1 s1
  rw[e] at q1
  exact⟨_,rfl,iteF q1⟩
 | true =>
  rw[e] at q1
  cases er:rightI n ts ks ws with
  | none=>unfold leadsI at e;rw[er] at e;cases e
  | some x =>
   rw[er] at q1
   obtain⟨us,rfl,u24,lk,ew⟩:=zl2 wk.2.1 wk.2.2.2 er
   refine⟨_,rfl,iteT ?_⟩
   have hp:=(iT.same s1).1
   rw[← zbd] at hp
   refine⟨_,rfl,_,rfl,_,rfl,_,rfl,n,ts,_,k,t,p,us,rfl,(wk.same s1).1,wk.2.1,hkl,t1,t99,hp,u24,lk,fun H2 s2=>?_⟩
   rw[ew]
   exact q1 H2 (s1.trans s2)
inductive spBey_i (K:PySem.W.Frag) (vs:List V) (H:Hp) (Q:VK):Prop
 | mk:∀ (n:Int) (ts:List Tie) (ks:List Nat) (wv kv:V) (k:Nat) (t:Int) (p:Addr) (hs:List Int),(vs=[wv,kv,.int (k:Int),.int t,.ref p])->(WK K H n ts ks wv kv)->(k < ts.length)->(1≤t)->(t≤99)->(IntT H p hs)->(∀ H',Same H H'->Q (.bl (beyondI n ts ks t k hs)) H')->spBey_i K vs H Q
def spBey (K:PySem.W.Frag):Sp:=fun vs H Q _=>spBey_i K vs H Q
theorem zdf (T:Bi mg) (D:DefOk K mg "heights_beyond" s_heights_beyond ["web","keep","tie","t","heights"]) (O_heights_hold:Ok P w K mg base 3 "heights_hold" ["web","keep","heights"] (spHold K)) (O_across:Ok P w K mg base 3 "across" ["web","tie","heights"] (spAcross K)):Ok P w K mg base 4 "heights_beyond" ["web","keep","tie","t","heights"] (spBey K):=by
 refine za2 (k:=3) D sc_heights_beyond (fun vs H Q E h=>?_) (fun f cdv A outer s H vs Q E hr h=>?_)
 ·obtain⟨n,ts,ks,wv,kv,k,t,p,hs,rfl,_⟩:=h
  rfl
 obtain⟨n,ts,ks,wv,kv,k,t,p,hs,rfl,wk,hkl,t1,t99,iT,q⟩:=h
 have nd:=sc_heights_beyond.nd
 refine⟨_,(zaf (zaj (zbv (zae O_heights_hold hr rfl (zaa (pv 0) (zaa (pv 1) (zaa (pv 4) zab)))) (zbs (zaz zeb (zae O_across hr rfl (zaa (pv 0) (zaa (pv 2) (zaa (pv 4) zab)))) (zar zb8 (pv 3) (zam zao (zam zao (zam zao (pv 0) zac (fun _ _=>rfl)) (pv 2) (fun _ _=>rfl)) zac (fun _ _=>rfl))) (nomark _)))))),?_⟩
 refine⟨_,rfl,_,rfl,_,rfl,n,ts,ks,wv,kv,p,hs,rfl,wk,iT,fun H1 s1=>⟨_,rfl,?_⟩⟩
 have q1:=q H1 s1
 unfold beyondI at q1
 cases e:holdB n ts ks hs with
 | false =>
  rw[e] at q1
  exact iteF q1
 | true =>
  rw[e] at q1
  have ln:hs.length=n.toNat:=by
   unfold holdB at e
   rw[Bool.and_eq_true] at e
   exact of_decide_eq_true e.1
  obtain⟨g0,g,ws',rfl,hg0,hg,hall,hlw⟩:=zax wk.1
  obtain⟨ta,hta,htie⟩:=za9 hall hkl
  refine iteT ⟨_,rfl,_,rfl,_,rfl,n,ts,_,k,p,hs,rfl,(wk.same s1).1,wk.2.1,hkl,iT.same s1,ln,_,rfl,_,rfl,g0,_,_,_,rfl,rfl,SqT.of (s1 _ _ hg0),rfl,_,rfl,g,_,_,_,rfl,rfl,SqT.of (s1 _ _ hg),zap (Int.natCast_nonneg _) hta,ta,_,_,_,rfl,rfl,SqT.of (s1 _ _ htie),rfl,_,_,rfl,rfl,.inl ⟨by trivial,by trivial⟩,_,_,rfl,rfl,q1⟩
inductive spWaysR_i (K:PySem.W.Frag) (vs:List V) (H:Hp) (Q:VK):Prop
 | mk:∀ (n:Int) (ts:List Tie) (ks:List Nat) (wv kv:V) (t:Int) (p:Addr) (W:List (List Int)),(vs=[wv,kv,.int t,.ref p])->(WK K H n ts ks wv kv)->(1≤t)->(t≤99)->(Is K H (.tuple (W.map tupH)) (.ref p))->(W.length≤1000)->((∀ ws ∈ W,ws.length≤40))->(∀ H',Same H H'->Q (.bl (waysB n ts ks t W)) H')->spWaysR_i K vs H Q
def spWaysR (K:PySem.W.Frag):Sp:=fun vs H Q _=>spWaysR_i K vs H Q
theorem zet (T:Bi mg) (D:DefOk K mg "ways_right" s_ways_right ["web","keep","t","ways"]) (O_not_kept:Ok P w K mg base 6 "not_kept" ["web","keep"] (spOuts K)) (O_is_tuple_of:Ok P w K mg base 6 "is_tuple_of" ["thing","many"] spTupN) (O_way_within:Ok P w K mg base 6 "way_within" ["web","keep","tie","t","way"] (spWWin K)):Ok P w K mg base 7 "ways_right" ["web","keep","t","ways"] (spWaysR K):=by
 refine za2 (k:=6) D sc_ways_right (fun vs H Q E h=>?_) (fun f cdv A outer s H vs Q E hr h=>?_)
 ·obtain⟨n,ts,ks,wv,kv,t,p,W,rfl,_⟩:=h
  rfl
 obtain⟨n,ts,ks,wv,kv,t,p,W,rfl,wk,t1,t99,isW,lW,lw,q⟩:=h
 have nd:=sc_ways_right.nd
 have few60:=wk.2.1.few
 have lo:=zc1 ts.length ks
 obtain⟨p',xs,e',hp,hxs⟩:=isW
 refine⟨_,(zad (zas (i:=4) nd rfl (Or.inl rfl) (zae O_not_kept hr rfl (zaa (pv 0) (zaa (pv 1) zab)))) (zad (za6 (zcs (zb3 (zae O_is_tuple_of hr rfl (zaa (pv 3) (zaa (zai zal rfl T.z_len (by decide +kernel) (zaa (pv 4) zab)) zab))))) (zaf (zaj zcn)) zau) (zaf (zaj (zai (zc7 rfl) rfl T.z_all (by decide +kernel) (zaa (zbl (N:=["web","keep","t","ways","ties"]) (sc0:=defScope s_ways_right) (own:=["tie","way"]) (fr:=["web","keep","t"]) (js:=[0,1,2]) rfl (zkg false true rfl T.z_zip (zaa (pv 4) (zaa (pv 3) zab))) (fun _ _ _ _=>(zje (n:=2) rfl (zah (zag (i:=0) (by show List.Nodup [("tie":Str),("way":Str),("web":Str),("keep":Str),("t":Str)];decide +kernel) rfl (Or.inl rfl)) (zah (zag (i:=1) (by show List.Nodup [("tie":Str),("way":Str),("web":Str),("keep":Str),("t":Str)];decide +kernel) rfl (Or.inl rfl)) za4)))) (fun _ _ _ _=>zbt) (fun _ _ _ _=>(zae O_way_within hr rfl (zaa (pv 2) (zaa (pv 3) (zaa (pv 0) (zaa (pv 4) (zaa (pv 1) zab)))))))) zab)))))),?_⟩
 cases e'
 have lx:xs.length=W.length:=by rw[hxs.length,List.length_map]
 refine⟨_,rfl,_,rfl,n,ts,ks,wv,kv,rfl,wk,fun l J1 S1 f1 e1=>?_⟩
 have wk1:=wk.same S1
 have lN:(natV (outs ts.length ks)).length=(outs ts.length ks).length:=zb5 _
 refine⟨_,rfl,_,rfl,l,_,rfl,.inl (SqL.of e1),p,xs,(natV (outs ts.length ks)).length,rfl,S1 _ _ hp,?_⟩
 rw[lN,lx]
 have q1:=q
 unfold waysB at q1
 cases ed:decide (W.length=(outs ts.length ks).length) with
 | false =>
  rw[ed] at q1
  exact⟨_,rfl,iteT (q1 J1 S1)⟩
 | true =>
  rw[ed] at q1
  have eW:=of_decide_eq_true ed
  refine⟨_,rfl,iteF ?_⟩
  refine⟨_,rfl,_,rfl,l,p,rfl,⟨_,SqL.of e1⟩,⟨_,SqT.of (S1 _ _ hp)⟩,?_⟩
  refine zg2 (t1:=false) (t2:=true) (xs:=natV (outs ts.length ks)) (zs:=xs) e1 (S1 _ _ hp) (fun σ'=>∃ o1 o2,σ'=[o1,o2,some wv,some kv,some (.int t)]) (fun i v _=>v=.bl (goodW n ts ks t ((outs ts.length ks).getD i 0) (W.getD i []))) (by trivial) (by exact⟨none,none,rfl⟩) (fun _ _ _ _ _ h=>h) (fun i x z U σ' H' hx hz s2 hU sg C hC=>?_) (fun L ys H2 hL s2 hH hly hys=>?_)
  ·obtain⟨o1,o2,rfl⟩:=sg
   obtain⟨k,hk,rfl⟩:=zb9 hx
   have ek:(outs ts.length ks).getD i 0=k:=by rw[List.getD_eq_getElem?_getD,hk];rfl
   have hi:i < W.length:=by have:=(List.getElem?_eq_some_iff.mp hz).1;trivial
   have eWi:W[i]?=some W[i]:=List.getElem?_eq_getElem hi
   have eg:W.getD i []=W[i]:=by rw[List.getD_eq_getElem?_getD,eWi];rfl
   obtain⟨z',ez,iz⟩:=hxs.at_ (show (W.map tupH)[i]?=some (tupH W[i]) by rw[List.getElem?_map,eWi];rfl)
   rw[hz] at ez
   cases ez
   obtain⟨tw,zs,rfl,htw,hzs⟩:=iz
   have htw':H tw=some (.tup (W[i].map V.int)):=by rw[htw,IsAll.of_ints hzs]
   have s3:=s2.trans (zav (o:=.tup [V.int (k:Int),V.ref tw]) hU)
   have s03:=S1.trans s3
   have l40:=lw W[i] (List.getElem_mem hi)
   refine⟨U,_,rfl,SqT.of zak,rfl,_,_,rfl,_,_,rfl,rfl,?_⟩
   refine⟨_,rfl,_,rfl,_,rfl,_,rfl,_,rfl,n,ts,ks,wv,kv,k,t,tw,W[i],rfl,wk.same s03,(outs_mem.mp (List.mem_of_getElem? hk)).1,t1,t99,⟨s03 _ _ htw',by trivial⟩,l40,fun J S=>hC _ _ _ ⟨_,_,rfl⟩ ((zav hU).trans S) ?_⟩
   rw[ek,eg]
  ·refine⟨L,_,rfl,SqL.of (by rw[hH,zc8 hly hys]),?_⟩
   have q2:=q1 H2 (S1.trans s2)
   rw[Bool.true_and] at q2
   rw[lN,lx,eW,Nat.min_self,List.all_map]
   exact q2
inductive spFarR_i (K:PySem.W.Frag) (vs:List V) (H:Hp) (Q:VK):Prop
 | mk:∀ (n:Int) (ts:List Tie) (ks:List Nat) (wv kv:V) (t k:Int) (p:Addr) (hs:List Int),(vs=[wv,kv,.int t,.int k,.ref p])->(WK K H n ts ks wv kv)->(1≤t)->(t≤99)->(IntT H p hs)->(∀ H',Same H H'->Q (.bl (farB n ts ks t k hs)) H')->spFarR_i K vs H Q
def spFarR (K:PySem.W.Frag):Sp:=fun vs H Q _=>spFarR_i K vs H Q
theorem zfm (T:Bi mg) (D:DefOk K mg "far_right" s_far_right ["web","keep","t","tie","heights"]) (O_is_tie_number:Ok P w K mg base 4 "is_tie_number" ["web","thing"] (spNum K)) (O_heights_beyond:Ok P w K mg base 4 "heights_beyond" ["web","keep","tie","t","heights"] (spBey K)):Ok P w K mg base 5 "far_right" ["web","keep","t","tie","heights"] (spFarR K):=by
 refine za2 (k:=4) D sc_far_right (fun vs H Q E h=>?_) (fun f cdv A outer s H vs Q E hr h=>?_)
 ·obtain⟨n,ts,ks,wv,kv,t,k,p,hs,rfl,_⟩:=h
  rfl
 obtain⟨n,ts,ks,wv,kv,t,k,p,hs,rfl,wk,t1,t99,iT,q⟩:=h
 have nd:=sc_far_right.nd
 obtain⟨kp,rfl,hkp⟩:=zbh wk.2.2.1
 rw[← zbd] at hkp
 refine⟨_,(zad (za6 (PW.pt (zcl (zcs (zb3 (zae O_is_tie_number hr rfl (zaa (pv 0) (zaa (pv 3) zab))))) (zbx (zan zes (pv 3) (pv 1) (by with_unfolding_all rfl))))) (zaf (zaj zcn)) zau) (zaf (zaj (zae O_heights_beyond hr rfl (zaa (pv 0) (zaa (pv 1) (zaa (pv 3) (zaa (pv 2) (zaa (pv 4) zab))))))))),?_⟩
 refine⟨_,rfl,_,rfl,n,ts,.int k,wv,.int k,rfl,wk.1,rfl,fun H1 s1=>⟨_,rfl,?_⟩⟩
 show if (!(decide (0≤k) && decide (k < (ts.length:Int))))=true then _ else _
 unfold farB at q
 cases e:(decide (0≤k) && decide (k < (ts.length:Int))) with
 | false =>
  rw[e] at q
  exact iteT (q H1 s1)
 | true =>
  rw[e] at q
  rw[Bool.and_eq_true] at e
  have k0:=of_decide_eq_true e.1
  have k1:=of_decide_eq_true e.2
  refine iteF ⟨_,rfl,_,rfl,kp,_,rfl,.inr (SqT.of (s1 _ _ hkp)),rfl,zdt ks,_,rfl,?_⟩
  show if inV (V.int k) (natV ks)=true then _ else _
  rw[zfa k0]
  cases e2:decide (k.toNat ∈ ks) with
  | true =>
   rw[e2] at q
   exact iteT (q H1 s1)
  | false =>
   rw[e2] at q
   obtain⟨m,rfl⟩:∃ m:Nat,k=m:=⟨k.toNat,by trivial⟩
   exact iteF ⟨_,rfl,_,rfl,_,rfl,_,rfl,_,rfl,n,ts,ks,wv,_,m,t,p,hs,rfl,wk.same s1,by trivial,t1,t99,iT.same s1,fun H2 s2=>q H2 (s1.trans s2)⟩
inductive spToldN_i (K:PySem.W.Frag) (vs:List V) (H:Hp) (Q:VK):Prop
 | mk:∀ (p:Addr) (x y:Str) (us:List V) (m:Nat),(vs=[.ref p,.str y,.int (m:Int)])->(H p=some (.tup (.str x::us)))->(Q (.bl (decide (us.length + 1=m) && decide (x=y))) H)->spToldN_i K vs H Q
def spToldN (K:PySem.W.Frag):Sp:=fun vs H Q _=>spToldN_i K vs H Q
theorem zhu (T:Bi mg) (D:DefOk K mg "is_told" s_is_told ["thing","word","many"]) (O_is_tuple_of:Ok P w K mg base 1 "is_tuple_of" ["thing","many"] spTupN):Ok P w K mg base 2 "is_told" ["thing","word","many"] (spToldN K):=by
 refine za2 (k:=1) D sc_is_told (fun vs H Q E h=>?_) (fun f cdv A outer s H vs Q E hr h=>?_)
 ·obtain⟨p,x,y,us,m,rfl,_⟩:=h
  rfl
 obtain⟨p,x,y,us,m,rfl,hp,q⟩:=h
 have nd:=sc_is_told.nd
 refine⟨_,(zaf (zaj (zbv (zae O_is_tuple_of hr rfl (zaa (pv 0) (zaa (pv 2) zab))) (zbs (zaz zbb (zam zao (pv 0) zac (fun _ _=>rfl)) (pv 1) (nomark _)))))),?_⟩
 refine⟨_,rfl,_,rfl,p,_,m,rfl,hp,_,rfl,?_⟩
 rw[List.length_cons]
 cases e1:decide (us.length + 1=m) with
 | false =>
  rw[e1] at q
  exact iteF q
 | true =>
  rw[e1] at q
  have a0:atI (V.str x::us) 0=some (.str x):=zap (Int.le_refl 0) (by rfl)
  refine iteT ⟨_,rfl,p,_,_,_,rfl,rfl,SqT.of hp,a0,_,rfl,rfl,?_⟩
  have e:decide (V.str x=V.str y)=decide (x=y):=by
   by_cases z:x=y
   ·rw[decide_eq_true z,decide_eq_true (by rw[z])]
   ·rw[decide_eq_false z,decide_eq_false (fun h=>z (by injection h))]
  rw[e]
  exact q
inductive spTR20_i (K:PySem.W.Frag) (vs:List V) (H:Hp) (Q:VK):Prop
 | mk:∀ (n:Int) (ts:List Tie) (ks:List Nat) (wv kv:V) (t:Int) (v:V) (u:Ppr),(vs=[wv,kv,.int t,v])->(WK K H n ts ks wv kv)->(1≤t)->(t≤99)->(Is K H u.d v)->(u.ok)->(∀ H',Same H H'->Q (.bl (u.right n ts ks t)) H')->spTR20_i K vs H Q
def spTR20 (K:PySem.W.Frag):Sp:=fun vs H Q _=>spTR20_i K vs H Q
theorem zec (T:Bi mg) (D:DefOk K mg "times_right" s_times_right ["web","keep","t","told"]) (O_need_times:Ok P w K mg base 7 "need_times" ["t"] (spNeed K)) (O_is_told:Ok P w K mg base 7 "is_told" ["thing","word","many"] (spToldN K)) (O_ways_right:Ok P w K mg base 7 "ways_right" ["web","keep","t","ways"] (spWaysR K)) (O_far_right:Ok P w K mg base 7 "far_right" ["web","keep","t","tie","heights"] (spFarR K)):Ok P w K mg base 8 "times_right" ["web","keep","t","told"] (spTR20 K):=by
 refine za2 (k:=7) D sc_times_right (fun vs H Q E h=>?_) (fun f cdv A outer s H vs Q E hr h=>?_)
 ·obtain⟨n,ts,ks,wv,kv,t,v,u,rfl,_⟩:=h
  rfl
 obtain⟨n,ts,ks,wv,kv,t,v,u,rfl,wk,t1,t99,isv,uo,q⟩:=h
 have nd:=sc_times_right.nd
 refine⟨_,(zad (zcb (zae O_need_times hr rfl (zaa (pv 2) zab))) (zad (za6 (zb3 (zae O_is_told hr rfl (zaa (pv 3) (zaa zdo (zaa zac zab))))) (zaf (zaj (zae O_ways_right hr rfl (zaa (pv 0) (zaa (pv 1) (zaa (pv 2) (zaa (zam zao (pv 3) zac (fun _ _=>rfl)) zab))))))) zau) (zad (za6 (zb3 (zae O_is_told hr rfl (zaa (pv 3) (zaa zdo (zaa zac zab))))) (zaf (zaj (zae O_far_right hr rfl (zaa (pv 0) (zaa (pv 1) (zaa (pv 2) (zaa (zam zao (pv 3) zac (fun _ _=>rfl)) (zaa (zam zao (pv 3) zac (fun _ _=>rfl)) zab)))))))) zau) (zaf (zaj zcn))))),?_⟩
 refine⟨_,rfl,t,rfl,t1,t99,fun H1 s1=>?_⟩
 have wk1:=wk.same s1
 have isv1:=Is.same s1 _ isv
 cases u with
 | keeps W =>
  obtain⟨p,vs,rfl,hp,v1,r1,rfl,h1,v2,r2,rfl,h2,h3⟩:=isv1
  obtain rfl:v1=.str "keeps":=h1
  obtain rfl:r2=[]:=h3
  obtain⟨tw,zs,rfl,htw,hzs⟩:=id h2
  refine⟨_,rfl,p,"keeps","keeps",_,2,rfl,hp,_,rfl,iteT ?_⟩
  exact⟨_,rfl,_,rfl,_,rfl,_,rfl,p,_,_,_,rfl,rfl,SqT.of hp,rfl,n,ts,ks,wv,kv,t,tw,W,rfl,wk1,t1,t99,h2,uo.1,uo.2,fun H2 s2=>q H2 (s1.trans s2)⟩
 | far k hs =>
  obtain⟨p,vs,rfl,hp,v1,r1,rfl,h1,v2,r2,rfl,h2,v3,r3,rfl,h3,h4⟩:=isv1
  obtain rfl:v1=.str "far":=h1
  obtain rfl:v2=.int k:=h2
  obtain rfl:r3=[]:=h4
  obtain⟨tw,zs,rfl,htw,hzs⟩:=h3
  rw[IsAll.of_ints hzs] at htw
  refine⟨_,rfl,p,"far","keeps",_,2,rfl,hp,_,rfl,iteF ?_⟩
  refine⟨_,rfl,p,"far","far",_,3,rfl,hp,_,rfl,iteT ?_⟩
  exact⟨_,rfl,_,rfl,_,rfl,_,rfl,p,_,_,_,rfl,rfl,SqT.of hp,rfl,_,rfl,p,_,_,_,rfl,rfl,SqT.of hp,rfl,n,ts,ks,wv,kv,t,k,tw,hs,rfl,wk1,t1,t99,⟨htw,uo⟩,fun H2 s2=>q H2 (s1.trans s2)⟩
inductive spGood20_i (K:PySem.W.Frag) (vs:List V) (H:Hp) (Q:VK):Prop
 | mk:∀ (n:Int) (ts:List Tie) (ks:List Nat) (wv kv:V) (t:Int) (v:V) (u:Ppr),(vs=[wv,kv,.int t,v])->(WK K H n ts ks wv kv)->(1≤t)->(t≤99)->(Is K H u.d v)->(u.ok)->(∀ H',Same H H'->Q (.bl (u.right n ts ks t)) H')->spGood20_i K vs H Q
def spGood20 (K:PySem.W.Frag):Sp:=fun vs H Q _=>spGood20_i K vs H Q
theorem zfp (T:Bi mg) (D:DefOk K mg "_law_good" s__law_good ["web","keep","t","told"]) (O__law_outside:Ok P w K mg base 1 "_law_outside" ["web","keep"] (spOuts K)) (O__law_along:Ok P w K mg base 1 "_law_along" ["web","keep","way"] (spAlI K)):Ok P w K mg base 2 "_law_good" ["web","keep","t","told"] (spGood20 K):=by
 refine za2 (k:=1) D sc__law_good (fun vs H Q E h=>?_) (fun f cdv A outer s H vs Q E hr h=>?_)
 ·obtain⟨n,ts,ks,wv,kv,t,v,u,rfl,_⟩:=h
  rfl
 obtain⟨n,ts,ks,wv,kv,t,v,u,rfl,wk,t1,t99,isv,uo,q⟩:=h
 have nd:=sc__law_good.nd
 have ok:=wk.2.1
 have few60:=ok.few
 have lo:=zc1 ts.length ks
 refine⟨_,(zad (zas (i:=4) nd rfl (Or.inl rfl) (zae O__law_outside hr rfl (zaa (pv 0) (zaa (pv 1) zab)))) (zad (za6 (zan zbb (zam zao (pv 3) zac (fun _ _=>rfl)) zdo (nomark _)) (zad (za6 (zan zjg (zai zal rfl T.z_len (by decide +kernel) (zaa (zam zao (pv 3) zac (fun _ _=>rfl)) zab)) (zai zal rfl T.z_len (by decide +kernel) (zaa (pv 4) zab)) (nomark _)) (zaf (zaj zcn)) zau) (zad (zbm PassesOwn.never rfl (zkg false true rfl T.z_zip (zaa (pv 4) (zaa (zam zao (pv 3) zac (fun _ _=>rfl)) zab))) (zbk (n:=2) rfl (zah (zag (i:=5) nd rfl (Or.inl rfl)) (zah (zag (i:=6) nd rfl (Or.inl rfl)) za4))) (zad (zbc (zam zao (zam zao (pv 0) zac (fun _ _=>rfl)) (pv 5) (fun _ _=>rfl)) (zbk (n:=3) rfl (zah (zag (i:=7) nd rfl (Or.inl rfl)) (zah (zag (i:=8) nd rfl (Or.inl rfl)) (zah (zag (i:=9) nd rfl (Or.inl rfl)) za4))))) (zad (zas (i:=10) nd rfl (Or.inl rfl) (zae O__law_along hr rfl (zaa (pv 0) (zaa (pv 1) (zaa (pv 6) zab))))) (zaf (za6 (PW.pt (zcl (zan zea (pv 10) zbn (nomark _)) (zcl (zan zjg (zam zao (pv 6) zac (fun _ _=>rfl)) (pv 7) (nomark _)) (zcl (zan zjg (zam zao (pv 6) (zd1 zcd zac) (fun _ _=>rfl)) (pv 8) (nomark _)) (zbx (zan zeb (pv 10) (zar zb8 (pv 2) (pv 9)) (nomark _))))))) (zaf (zaj zcn)) zau))))) (zaf (zaj zcn)))) zau) (zad (zbc (pv 3) (zbk (n:=3) rfl (zah (zag (i:=11) nd rfl (Or.inl rfl)) (zah (zag (i:=12) nd rfl (Or.inl rfl)) (zah (zag (i:=13) nd rfl (Or.inl rfl)) za4))))) (zad (za6 (PW.pt (zcl (zan zb7 (pv 12) (pv 4) (by with_unfolding_all rfl)) (zbx (zan zjg (zai zal rfl T.z_len (by decide +kernel) (zaa (pv 13) zab)) (zam zao (pv 0) zac (fun _ _=>rfl)) (nomark _))))) (zaf (zaj zcn)) zau) (zad (zbm PassesOwn.never rfl (zct (pv 1)) (zag (i:=5) nd rfl (Or.inl rfl)) (zad (zbc (zam zao (zam zao (pv 0) zac (fun _ _=>rfl)) (pv 5) (fun _ _=>rfl)) (zbk (n:=3) rfl (zah (zag (i:=7) nd rfl (Or.inl rfl)) (zah (zag (i:=8) nd rfl (Or.inl rfl)) (zah (zag (i:=9) nd rfl (Or.inl rfl)) za4))))) (zaf (za6 (zan zeb (zai zg6 rfl T.z_abs (by decide +kernel) (zaa (zar zb4 (zam zao (pv 13) (pv 7) (fun _ _=>rfl)) (zam zao (pv 13) (pv 8) (fun _ _=>rfl))) zab)) (pv 9) (nomark _)) (zaf (zaj zcn)) zau)))) (zad (zbc (zam zao (zam zao (pv 0) zac (fun _ _=>rfl)) (pv 12) (fun _ _=>rfl)) (zbk (n:=3) rfl (zah (zag (i:=7) nd rfl (Or.inl rfl)) (zah (zag (i:=8) nd rfl (Or.inl rfl)) (zah (zag (i:=9) nd rfl (Or.inl rfl)) za4))))) (zaf (zaj (zaz zeb (zai zg6 rfl T.z_abs (by decide +kernel) (zaa (zar zb4 (zam zao (pv 13) (pv 7) (fun _ _=>rfl)) (zam zao (pv 13) (pv 8) (fun _ _=>rfl))) zab)) (zar zb8 (pv 2) (pv 9)) (nomark _)))))))))),?_⟩
 refine⟨_,rfl,_,rfl,n,ts,ks,wv,kv,rfl,wk,fun l J1 S1 f1 e1=>?_⟩
 have wk1:=wk.same S1
 have isv1:=Is.same S1 _ isv
 have lN:(natV (outs ts.length ks)).length=(outs ts.length ks).length:=zb5 _
 obtain⟨g0,g,ws',rfl,hg0,hg,hall,hlw⟩:=zax wk1.1
 cases u with
 | keeps W =>
  obtain⟨p,vs,rfl,hp,v1,r1,rfl,h1,v2,r2,rfl,h2,h3⟩:=isv1
  obtain rfl:v1=.str "keeps":=h1
  obtain rfl:r2=[]:=h3
  obtain⟨tw,xs,rfl,htw,hxs⟩:=h2
  have lx:xs.length=W.length:=by rw[hxs.length,List.length_map]
  refine⟨_,rfl,p,_,_,_,rfl,rfl,SqT.of hp,rfl,rfl,_,rfl,iteT ?_⟩
  refine⟨_,rfl,p,_,_,_,rfl,rfl,SqT.of hp,rfl,tw,_,rfl,.inr (SqT.of htw),_,rfl,l,_,rfl,.inl (SqL.of e1),rfl,_,rfl,?_⟩
  rw[zbu]
  by_cases eW:W.length=(outs ts.length ks).length
  ·rw[decide_eq_true (show ((xs.length:Nat):Int)=(((natV (outs ts.length ks)).length:Nat):Int) by trivial)]
   refine iteF ?_
   refine⟨_,rfl,_,rfl,p,_,_,_,rfl,rfl,SqT.of hp,rfl,l,tw,rfl,⟨_,SqL.of e1⟩,⟨_,SqT.of htw⟩,?_⟩
   refine zkm (t1:=false) (t2:=true) (xs:=natV (outs ts.length ks)) (zs:=xs) (fun i σ J=>∃ (y5 y6 y7 y8 y9 y10:Option V),σ=[some (.ref g0),some kv,some (.int t),some (.ref p),some (.ref l),y5,y6,y7,y8,y9,y10,none,none,none]∧Same J1 J∧∀ j,j < i->goodW n ts ks t ((outs ts.length ks).getD j 0) (W.getD j [])=true) ⟨none,none,none,none,none,none,rfl,Same.refl _,fun j h=>absurd h (Nat.not_lt_zero _)⟩ (fun i σ J h=>?_) (fun i x z U σ J hx hz hU h=>?_) (fun σ J h=>?_)
   ·obtain⟨y5,y6,y7,y8,y9,y10,rfl,sm,_⟩:=h
    exact⟨SqX.of (t:=false) (sm _ _ e1),SqX.of (t:=true) (sm _ _ htw)⟩
   ·obtain⟨y5,y6,y7,y8,y9,y10,rfl,sm,hb⟩:=h
    obtain⟨k,hk,rfl⟩:=zb9 hx
    have ek:(outs ts.length ks).getD i 0=k:=by rw[List.getD_eq_getElem?_getD,hk];rfl
    have hkl:=(outs_mem.mp (List.mem_of_getElem? hk)).1
    have tk:=ok.tie _ (zay hkl).2
    have hi:i < W.length:=by have:=(List.getElem?_eq_some_iff.mp hz).1;trivial
    have eWi:W[i]?=some W[i]:=List.getElem?_eq_getElem hi
    have eg:W.getD i []=W[i]:=by rw[List.getD_eq_getElem?_getD,eWi];rfl
    obtain⟨z',ez,iz⟩:=hxs.at_ (show (W.map tupH)[i]?=some (tupH W[i]) by rw[List.getElem?_map,eWi];rfl)
    rw[hz] at ez
    cases ez
    obtain⟨wp,zs,rfl,hwp,hzs⟩:=iz
    rw[IsAll.of_ints hzs] at hwp
    have sU:Same J1 (upd J U (.tup [V.int (k:Int),V.ref wp])):=sm.trans (zav hU)
    have l40:=uo.2 W[i] (List.getElem_mem hi)
    obtain⟨ta,hta,htie⟩:=za9 hall hkl
    refine⟨U,_,rfl,SqT.of zak,rfl,_,_,rfl,_,_,rfl,rfl,?_⟩
    refine⟨_,rfl,g0,_,_,_,rfl,rfl,SqT.of (sU _ _ hg0),rfl,_,rfl,g,_,_,_,rfl,rfl,SqT.of (sU _ _ hg),zap (Int.natCast_nonneg _) hta,ta,_,rfl,SqT.of (sU _ _ htie),rfl,_,_,rfl,_,_,rfl,_,_,rfl,rfl,?_⟩
    have iT:IntT (upd J U (.tup [V.int (k:Int),V.ref wp])) wp W[i]:=⟨sU _ _ hwp,by trivial⟩
    refine⟨_,rfl,_,rfl,_,rfl,n,ts,ks,_,kv,wp,W[i],rfl,wk1.same sU,iT,fun J2 S2=>?_⟩
    have bad:goodW n ts ks t k W[i]=false->∀ J',Same J1 J'->Q (.bl false) J':=fun e J' S'=>by
     have q':=q J' (S1.trans S')
     have:(Ppr.keeps W).right n ts ks t=false:=by
      show waysB n ts ks t W=false
      unfold waysB
      rw[Bool.and_eq_false_iff]
      refine .inr ?_
      rw[List.all_eq_false]
      refine⟨i,List.mem_range.mpr (by trivial),?_⟩
      rw[ek,eg,e];decide
     rw[this] at q'
     exact q'
    have SJ:=sU.trans S2
    unfold goodW leadsI at bad
    cases er:rightI n ts ks W[i] with
    | none =>
     rw[er] at bad
     exact⟨_,rfl,rfl,_,rfl,iteT (bad rfl _ SJ)⟩
    | some x =>
     rw[er] at bad
     have lp:=zhp er
     refine⟨_,rfl,rfl,_,rfl,iteF ?_⟩
     refine⟨_,rfl,wp,_,_,_,rfl,rfl,SqT.of (iT.same S2).1,zre lp,_,rfl,rfl,_,rfl,?_⟩
     rw[zbu]
     cases c1:decide (W[i].getD 0 0=(tieAt ts k).1) with
     | false=>exact iteT (bad (by rw[c1];rfl) _ SJ)
     | true =>
      refine iteF ⟨_,rfl,_,rfl,wp,_,_,_,rfl,rfl,SqT.of (iT.same S2).1,zqg lp,_,rfl,rfl,_,rfl,?_⟩
      rw[zbu]
      cases c2:decide (W[i].getD (W[i].length - 1) 0=(tieAt ts k).2.1) with
      | false=>exact iteT (bad (by rw[c1,c2];rfl) _ SJ)
      | true =>
       refine iteF ⟨_,rfl,_,rfl,_,rfl,_,_,rfl,rfl,.inl ⟨by trivial,by trivial⟩,_,_,rfl,rfl,_,rfl,ite2 (fun c=>?_) (fun c=>?_)⟩
       ·have c':x > t * (tieAt ts k).2.2:=of_decide_eq_true c
        exact bad (by rw[c1,c2];show decide (x≤t * (tieAt ts k).2.2)=false;exact decide_eq_false (by trivial)) _ SJ
       ·refine⟨_,_,_,_,_,_,rfl,SJ,fun j hj=>?_⟩
        by_cases z:j=i
        ·subst z
         rw[ek,eg]
         unfold goodW leadsI
         rw[er,c1,c2]
         show decide (x≤t * (tieAt ts k).2.2)=true
         refine decide_eq_true ?_
         have:¬ x > t * (tieAt ts k).2.2:=fun z=>c (decide_eq_true z)
         trivial
        ·exact hb j (by trivial)
   ·obtain⟨y5,y6,y7,y8,y9,y10,rfl,sm,hb⟩:=h
    have q':=q J (S1.trans sm)
    have:(Ppr.keeps W).right n ts ks t=true:=by
     show waysB n ts ks t W=true
     unfold waysB
     rw[Bool.and_eq_true]
     refine⟨decide_eq_true eW,List.all_eq_true.mpr fun j hj=>hb j ?_⟩
     have:=List.mem_range.mp hj
     trivial
    rw[this] at q'
    exact q'
  ·rw[decide_eq_false (show ¬ ((xs.length:Nat):Int)=(((natV (outs ts.length ks)).length:Nat):Int) by trivial)]
   have q':=q J1 S1
   have:(Ppr.keeps W).right n ts ks t=false:=by
    show waysB n ts ks t W=false
    unfold waysB
    rw[decide_eq_false eW];rfl
   rw[this] at q'
   exact iteT q'
 | far k hs =>
  obtain⟨p,vs,rfl,hp,v1,r1,rfl,h1,v2,r2,rfl,h2,v3,r3,rfl,h3,h4⟩:=isv1
  obtain rfl:v1=.str "far":=h1
  obtain rfl:v2=.int k:=h2
  obtain rfl:r3=[]:=h4
  obtain⟨tw,zs,rfl,htw,hzs⟩:=h3
  rw[IsAll.of_ints hzs] at htw
  have uo':hs.length≤1000:=uo
  obtain⟨kp,rfl,hkp⟩:=zbh wk1.2.2.1
  rw[← zbd] at hkp
  refine⟨_,rfl,p,_,_,_,rfl,rfl,SqT.of hp,rfl,rfl,_,rfl,iteF ?_⟩
  refine⟨_,rfl,p,_,rfl,SqT.of hp,rfl,_,_,rfl,_,_,rfl,_,_,rfl,rfl,?_⟩
  refine⟨_,rfl,_,rfl,l,_,rfl,.inl (SqL.of e1),rfl,zdt _,_,rfl,?_⟩
  have res:∀ {b:Bool},farB n ts ks t k hs=b->∀ J',Same J1 J'->Q (.bl b) J':=fun {b} e J' S'=>by
   have q':=q J' (S1.trans S')
   rw[← e];exact q'
  show if (!inV (V.int k) (natV (outs ts.length ks)))=true then _ else _
  by_cases k0:0≤k
  case neg =>
   have ei:inV (V.int k) (natV (outs ts.length ks))=false:=by
    unfold inV natV
    rw[List.any_map,List.any_eq_false]
    intro j _ z
    have e':((j:Int) == k)=true:=z
    have:(j:Int)=k:=by simpa using e'
    trivial
   rw[ei]
   exact iteT (res (by unfold farB;rw[decide_eq_false k0];rfl) _ (Same.refl _))
  obtain⟨m,rfl⟩:∃ m:Nat,k=m:=⟨k.toNat,by trivial⟩
  rw[zfa k0,Int.toNat_natCast]
  have eo:decide (m ∈ outs ts.length ks)=(decide (m < ts.length) && !decide (m ∈ ks)):=by
   rw[Bool.eq_iff_iff,decide_eq_true_iff,outs_mem,Bool.and_eq_true,decide_eq_true_iff,Bool.not_eq_true',decide_eq_false_iff_not]
  have efar:farB n ts ks t (m:Int) hs=(decide (m ∈ outs ts.length ks) && beyondI n ts ks t m hs):=by
   unfold farB
   rw[eo,decide_eq_true (Int.natCast_nonneg m),Int.toNat_natCast]
   have:decide ((m:Int) < (ts.length:Int))=decide (m < ts.length):=by
    by_cases z:m < ts.length
    ·rw[decide_eq_true z,decide_eq_true (by trivial)]
    ·rw[decide_eq_false z,decide_eq_false (by trivial)]
   rw[this,Bool.true_and,Bool.and_assoc]
  cases em:decide (m ∈ outs ts.length ks) with
  | false=>exact iteT (res (by rw[efar,em];rfl) _ (Same.refl _))
  | true =>
   rw[em,Bool.true_and] at efar
   have hml:=(outs_mem.mp (of_decide_eq_true em)).1
   refine iteF ⟨_,rfl,tw,_,rfl,.inr (SqT.of htw),_,rfl,g0,_,_,_,rfl,rfl,SqT.of hg0,rfl,rfl,_,rfl,?_⟩
   rw[zbu,List.length_map]
   have n1:=ok.n1
   unfold beyondI holdB at efar
   by_cases eh:hs.length=n.toNat
   case neg =>
    rw[decide_eq_false (show ¬ ((hs.length:Nat):Int)=n by trivial)]
    exact iteT (res (by rw[efar,decide_eq_false eh];rfl) _ (Same.refl _))
   rw[decide_eq_true (show ((hs.length:Nat):Int)=n by trivial)]
   rw[decide_eq_true eh,Bool.true_and] at efar
   refine iteF ?_
   refine⟨_,rfl,kp,rfl,⟨_,SqT.of hkp⟩,?_⟩
   refine zdj (xs:=natV ks) (fun i σ J=>∃ (y5 y6 y7 y8 y9 y10:Option V),σ=[some (.ref g0),some (.ref kp),some (.int t),some (.ref p),some (.ref l),y5,y6,y7,y8,y9,y10,some (.str "far"),some (.int (m:Int)),some (.ref tw)]∧J=J1∧∀ j ∈ ks.take i,decide (acrossI ts hs j≤(tieAt ts j).2.2)=true) ⟨_,_,_,_,_,_,rfl,rfl,fun j h=>by cases h⟩ (fun i σ J _ h=>?_) (fun i x σ J hx h=>?_) (fun σ J h=>?_)
   ·obtain⟨y5,y6,y7,y8,y9,y10,rfl,rfl,_⟩:=h
    exact SqT.of hkp
   ·obtain⟨y5,y6,y7,y8,y9,y10,rfl,rfl,hb⟩:=h
    obtain⟨j,hj,rfl⟩:=zb9 hx
    have hjl:=wk1.2.2.2.2 j (List.mem_of_getElem? hj)
    have tk:=ok.tie _ (zay hjl).2
    obtain⟨ta,hta,htie⟩:=za9 hall hjl
    refine⟨_,rfl,g0,_,_,_,rfl,rfl,SqT.of hg0,rfl,_,rfl,g,_,_,_,rfl,rfl,SqT.of hg,zap (Int.natCast_nonneg _) hta,ta,_,rfl,SqT.of htie,rfl,_,_,rfl,_,_,rfl,_,_,rfl,rfl,?_⟩
    refine⟨_,rfl,_,rfl,tw,_,_,_,rfl,rfl,SqT.of htw,zf6 (by trivial) (by trivial),_,rfl,_,rfl,tw,_,_,_,rfl,rfl,SqT.of htw,zf6 (by trivial) (by trivial),_,_,rfl,rfl,_,rfl,_,rfl,_,_,rfl,rfl,_,rfl,ite2 (fun c=>?_) (fun c=>?_)⟩
    ·have c':acrossI ts hs j > (tieAt ts j).2.2:=of_decide_eq_true c
     refine res ?_ _ (Same.refl _)
     rw[efar,Bool.and_eq_false_iff]
     refine .inl ?_
     rw[List.all_eq_false]
     exact⟨j,List.mem_of_getElem? hj,by rw[decide_eq_false (by trivial)];decide⟩
    ·have c':¬ acrossI ts hs j > (tieAt ts j).2.2:=fun z=>c (decide_eq_true z)
     refine⟨_,_,_,_,_,_,rfl,rfl,fun j' hj'=>?_⟩
     rw[List.take_add_one,hj] at hj'
     rcases List.mem_append.mp hj' with z | z
     ·exact hb j' z
     ·rw[show j'=j by simpa using z]
      exact decide_eq_true (by trivial)
   ·obtain⟨y5,y6,y7,y8,y9,y10,rfl,rfl,hb⟩:=h
    rw[zb5,List.take_length] at hb
    have ea:(ks.all fun k=>decide (acrossI ts hs k≤(tieAt ts k).2.2))=true:=List.all_eq_true.mpr hb
    rw[ea,Bool.true_and] at efar
    have tk:=ok.tie _ (zay hml).2
    obtain⟨ta,hta,htie⟩:=za9 hall hml
    refine⟨_,rfl,g0,_,_,_,rfl,rfl,SqT.of hg0,rfl,_,rfl,g,_,_,_,rfl,rfl,SqT.of hg,zap (Int.natCast_nonneg _) hta,ta,_,rfl,SqT.of htie,rfl,_,_,rfl,_,_,rfl,_,_,rfl,rfl,?_⟩
    exact⟨_,rfl,_,rfl,tw,_,_,_,rfl,rfl,SqT.of htw,zf6 (by trivial) (by trivial),_,rfl,_,rfl,tw,_,_,_,rfl,rfl,SqT.of htw,zf6 (by trivial) (by trivial),_,_,rfl,rfl,_,rfl,_,rfl,_,rfl,_,_,rfl,rfl,.inl ⟨by trivial,by trivial⟩,_,_,rfl,rfl,res efar _ (Same.refl _)⟩
inductive spRight20_i (K:PySem.W.Frag) (vs:List V) (H:Hp) (Q:VK):Prop
 | mk:∀ (n:Int) (ts:List Tie) (ks:List Nat) (wv kv:V) (t:Int) (p:Addr) (u:Ppr),(vs=[wv,kv,.int t,.ref p])->(WK K H n ts ks wv kv)->(1≤t)->(t≤99)->(Is K H u.d (.ref p))->(u.sml)->(∀ H',Same H H'->Q (.bl true) H')->spRight20_i K vs H Q
def spRight20 (K:PySem.W.Frag):Sp:=fun vs H Q _=>spRight20_i K vs H Q
theorem ze0 (T:Bi mg) (D:DefOk K mg "_law_right" s__law_right ["web","keep","t","told"]) (O_times_right:Ok P w K mg base 8 "times_right" ["web","keep","t","told"] (spTR20 K)) (O__law_good:Ok P w K mg base 8 "_law_good" ["web","keep","t","told"] (spGood20 K)):Ok P w K mg base 9 "_law_right" ["web","keep","t","told"] (spRight20 K):=by
 refine za2 (k:=8) D sc__law_right (fun vs H Q E h=>?_) (fun f cdv A outer s H vs Q E hr h=>?_)
 ·obtain⟨n,ts,ks,wv,kv,t,p,u,rfl,_⟩:=h
  rfl
 obtain⟨n,ts,ks,wv,kv,t,p,u,rfl,wk,t1,t99,isv,sml,q⟩:=h
 have nd:=sc__law_right.nd
 obtain⟨h1,h2,h3,h4⟩:=Ppr.shows sml
 refine⟨_,(zad (zas (i:=4) nd rfl (Or.inl rfl) (zai (zf9 hr) rfl T.z_repr (by decide +kernel) (zaa (pv 3) zab))) (zad (zas (i:=5) nd rfl (Or.inl rfl) (zae O_times_right hr rfl (zaa (pv 0) (zaa (pv 1) (zaa (pv 2) (zaa (pv 3) zab)))))) (zaf (zaj (zbv (zai (zc6 (n:="bool")) rfl T.z_isinstance (by decide +kernel) (zaa (pv 5) (zaa (zd3 (v:=.ty "bool") rfl T.z_bool (by decide +kernel) rfl) zab))) (zbv (zaz zbb (pv 5) (zae O__law_good hr rfl (zaa (pv 0) (zaa (pv 1) (zaa (pv 2) (zaa (pv 3) zab))))) (nomark _)) (zbs (zaz zbb (zai (zf9 hr) rfl T.z_repr (by decide +kernel) (zaa (pv 3) zab)) (pv 4) (nomark _))))))))),?_⟩
 refine⟨_,rfl,p,u.d,rfl,isv,h1,h2,h3,h4,?_⟩
 refine⟨_,rfl,_,rfl,_,rfl,_,rfl,n,ts,ks,wv,kv,t,.ref p,u,rfl,wk,t1,t99,isv,Ppr.sml_ok sml,fun J1 S1=>?_⟩
 refine⟨_,rfl,_,_,_,rfl,TyOf.bl _,rfl,_,rfl,iteT ?_⟩
 refine⟨_,rfl,_,rfl,_,rfl,_,rfl,_,rfl,n,ts,ks,wv,kv,t,.ref p,u,rfl,wk.same S1,t1,t99,Is.same S1 _ isv,Ppr.sml_ok sml,fun J2 S2=>?_⟩
 refine⟨rfl,_,rfl,?_⟩
 rw[decide_eq_true rfl]
 refine iteT ⟨_,rfl,p,u.d,rfl,Is.same (S1.trans S2) _ isv,h1,h2,h3,h4,_,rfl,rfl,?_⟩
 rw[decide_eq_true rfl]
 exact q J2 (S1.trans S2)
def Sm (C:Nat) (is:List Int):Prop:=∀ i ∈ is,i.natAbs < C
theorem Sm.app {C:Nat} {a b:List Int} (ha:Sm C a) (hb:Sm C b):Sm C (a++b):=fun i hi=>(List.mem_append.mp hi).elim (ha i) (hb i)
theorem Sm.up {C D:Nat} {a:List Int} (h:Sm C a) (le:C≤D):Sm D a:=fun i hi=>Nat.lt_of_lt_of_le (h i hi) le
theorem Sm.one {C:Nat} {x:Int} (h:x.natAbs < C):Sm C [x]:=fun i hi=>by rw[List.mem_singleton.mp hi];exact h
theorem Sm.sub {C:Nat} {a b:List Int} (h:Sm C a) (s:∀ x ∈ b,x ∈ a):Sm C b:=fun i hi=>h i (s i hi)
inductive spSRow_i (B:Nat) (vs:List V) (H:Hp) (Q:VK):Prop
 | mk:∀ (p rp:Addr) (m:Int) (is:List Int),(vs=[.ref p,.ref rp,.int m])->(Pot H p)->(H rp=some (.tup (is.map V.int)))->(is.length≤B)->(1≤m)->(m≤24)->(Sm (10 ^ 59) is)->(∀ q (js:List Int) H',But p H H'->Pot H' p->H' q=some (.tup (js.map V.int))->js.length≤is.length + 1->Sm (10 ^ 60) js->Q (.ref q) H')->spSRow_i B vs H Q
def spSRow (B:Nat):Sp:=fun vs H Q _=>spSRow_i B vs H Q
theorem zdb (B:Nat) (hB:B≤60) (T:Bi mg) (D:DefOk K mg "_law_spoilt_row" s__law_spoilt_row ["pot","row","many"]) (O__law_take:Ok P w K mg base 1 "_law_take" ["pot","many"] spTake):Ok P w K mg base 2 "_law_spoilt_row" ["pot","row","many"] (spSRow B):=by
 refine za2 (k:=1) D sc__law_spoilt_row (fun vs H Q E h=>?_) (fun f cdv A outer s H vs Q E hr h=>?_)
 ·obtain⟨p,rp,m,is,rfl,_⟩:=h
  rfl
 obtain⟨p,rp,m,is,rfl,hp,hr0,l39,m1,m24,sm,q⟩:=h
 have nd:=sc__law_spoilt_row.nd
 have tkb:∀ {J J':Hp},But p J J'->Pot J p->TupKeep J J':=fun b pp=>by
  obtain⟨xs,e⟩:=pp.lst
  exact fun a ys h=>b _ _ (fun z=>by rw[z,e] at h;cases h) h
 have npot:∀ {J:Hp} {b:Addr},Pot J p->J b=none->b≠p:=fun pp hb z=>by
  obtain⟨xs,e⟩:=pp.lst
  rw[z,e] at hb;cases hb
 have lm:(is.map V.int).length=is.length:=List.length_map _
 have C60:(10:Nat) ^ 59≤10 ^ 60:=by decide
 have sm60:=sm.up C60
 have lenM:∀ l:List Int,(l.map V.int).length=l.length:=fun l=>List.length_map ..
 have sz:∀ {k:Nat},k≤1000->k≤sizeLine:=fun {k} h=>Nat.le_trans h (by decide)
 refine⟨_,(zad (zas (i:=3) nd rfl (Or.inl rfl) (zae O__law_take hr rfl (zaa (pv 0) (zaa zac zab)))) (zad (zas (i:=4) nd rfl (Or.inl rfl) (zae O__law_take hr rfl (zaa (pv 0) (zaa (zar zba (zai zal rfl T.z_len (by decide +kernel) (zaa (pv 1) zab)) zac) zab)))) (zad (za6 (PW.pt (zcl (zan zbb (pv 3) zac (nomark _)) (zbx (zan zbb (zai zal rfl T.z_len (by decide +kernel) (zaa (pv 1) zab)) zac (nomark _))))) (zaf (zaj (zar zbw (zar zbw (za8 zbi (pv 1) zbe (zbj (pv 4))) (za0 (zaa (zae O__law_take hr rfl (zaa (pv 0) (zaa (zar zba (pv 2) zac) zab))) zab))) (za8 zbi (pv 1) (zbj (pv 4)) zbe)))) zau) (zad (zas (i:=4) nd rfl (Or.inl rfl) (zar zcf (pv 4) (zai zal rfl T.z_len (by decide +kernel) (zaa (pv 1) zab)))) (zad (za6 (zan zbb (pv 3) zac (nomark _)) (zaf (zaj (zar zbw (za8 zbi (pv 1) zbe (zbj (pv 4))) (za8 zbi (pv 1) (zbj (zar zba (pv 4) zac)) zbe)))) zau) (zad (za6 (zan zbb (pv 3) zac (nomark _)) (zaf (zaj (zma zqq (pv 1) zbe (zd1 zcd zac)))) zau) (zad (zas (i:=5) nd rfl (Or.inl rfl) (zae O__law_take hr rfl (zaa (pv 0) (zaa (zai zal rfl T.z_len (by decide +kernel) (zaa (pv 1) zab)) zab)))) (zad (za6 (zan zbb (pv 3) zac (nomark _)) (zad (zas (i:=6) nd rfl (Or.inl rfl) (za1 zlg rfl T.z_list (by decide +kernel) (zaa (pv 1) zab))) (zad (zbc (zam zao (pv 1) (pv 5) (fun _ _=>rfl)) (zdn (pv 6) (pv 4) zbz)) (zad (zbc (zam zao (pv 1) (pv 4) (fun _ _=>rfl)) (zdn (pv 6) (pv 5) zbz)) (zaf (zaj (za1 zbg rfl T.z_tuple (by decide +kernel) (zaa (pv 6) zab))))))) zau) (zad (zas (i:=7) nd rfl (Or.inl rfl) (zam zao (pv 1) (pv 4) (fun _ _=>rfl))) (zad (zas (i:=8) nd rfl (Or.inl rfl) (za7 (zaa (zar zba (pv 7) zac) (zaa (zar zb4 (pv 7) zac) (zaa (zar zba (pv 7) (pv 2)) (zaa (zd1 zcd zac) (zaa (pv 2) (zaa (zar zb4 (pv 7) (pv 2)) (zaa (zam zao (pv 1) (pv 5) (fun _ _=>rfl)) (zaa (zar zby zac zac) zab)))))))))) (zaf (zaj (zar zbw (zar zbw (za8 zbi (pv 1) zbe (zbj (pv 4))) (za0 (zaa (zam zaw (pv 8) (zae O__law_take hr rfl (zaa (pv 0) (zaa zac zab))) (fun _ _=>rfl)) zab))) (za8 zbi (pv 1) (zbj (zar zba (pv 4) zac)) zbe)))))))))))))),?_⟩
 refine⟨_,rfl,p,8,rfl,hp,by decide,by decide,fun way H1 w0 w1 b1 p1=>?_⟩
 have r1:=tkb b1 hp _ _ hr0
 refine⟨_,rfl,_,rfl,rp,_,rfl,.inr (SqT.of r1),_,_,rfl,rfl,p,_,rfl,p1,by trivial,by trivial,fun at_ H2 a0 a1 b2 p2=>?_⟩
 have r2:=tkb b2 p1 _ _ r1
 have b02:=b1.trans b2
 obtain⟨k,rfl⟩:∃ k:Nat,at_=k:=⟨at_.toNat,by trivial⟩
 have cutA:∀ k:Nat,cutV (is.map V.int) none (some (k:Int))=(is.take k).map V.int:=fun k=>by rw[zg1,List.map_take]
 have cutB:∀ k:Nat,cutV (is.map V.int) (some (k:Int)) none=(is.drop k).map V.int:=fun k=>by rw[zci,List.map_drop]
 have cutC:∀ k:Nat,cutV (is.map V.int) (some ((k:Int) + 1)) none=(is.drop (k + 1)).map V.int:=fun k=>by rw[show (k:Int) + 1=((k + 1:Nat):Int) from rfl,zci,List.map_drop]
 refine⟨_,rfl,rfl,_,rfl,?_⟩
 rw[zbu]
 by_cases c0:way=0
 ·rw[decide_eq_true c0]
  refine iteT ?_
  refine⟨_,rfl,_,rfl,_,rfl,rp,_,rfl,r2,fun x1 J1 S1 g1=>?_⟩
  rw[cutA] at g1
  have q1:=p2.same S1
  refine⟨_,rfl,_,rfl,_,_,rfl,rfl,p,_,rfl,q1,by trivial,by trivial,fun r J2 r0 r01 b3 q2=>⟨(by show 1≤1000;decide),fun x2 J3 S3 f3 g3=>?_⟩⟩
  have tk:=tkb b3 q1
  have g3':J3 x2=some (.tup (([r]:List Int).map V.int)):=g3
  refine⟨x1,x2,_,_,rfl,rfl,S3 _ _ (tk _ _ g1),g3',sz (by rw[lenM,lenM,List.length_take,List.length_singleton];trivial),fun x3 J4 S4 g4=>?_⟩
  rw[← List.map_append] at g4
  have S34:=S3.trans S4
  refine⟨_,rfl,_,rfl,_,rfl,rp,_,rfl,S34 _ _ (tk _ _ (S1 _ _ r2)),fun x4 J5 S5 g5=>?_⟩
  rw[cutB] at g5
  refine⟨x3,x4,_,_,rfl,rfl,S5 _ _ g4,g5,sz (by rw[lenM,lenM,List.length_append,List.length_take,List.length_drop,List.length_singleton];trivial),fun x5 J6 S6 g6=>?_⟩
  rw[← List.map_append] at g6
  have S36:=S34.trans (S5.trans S6)
  refine q x5 _ J6 (b02.trans ((Same.but S1).trans (b3.trans (Same.but S36)))) (q2.same S36) g6 (by rw[List.length_append,List.length_append,List.length_take,List.length_drop,List.length_singleton];trivial) (((sm60.sub fun _=>List.mem_of_mem_take).app (Sm.one (Nat.lt_of_lt_of_le (show r.natAbs < 100 by trivial) (by decide)))).app (sm60.sub fun _=>List.mem_of_mem_drop))
 rw[decide_eq_false c0]
 refine iteF ⟨_,rfl,rp,_,rfl,.inr (SqT.of r2),rfl,_,rfl,?_⟩
 rw[zbu,lm]
 by_cases cz:is.length=0
 ·rw[decide_eq_true (show ((is.length:Nat):Int)=0 by trivial)]
  refine iteT ?_
  refine⟨_,rfl,_,rfl,_,rfl,rp,_,rfl,r2,fun x1 J1 S1 g1=>?_⟩
  rw[cutA] at g1
  have q1:=p2.same S1
  refine⟨_,rfl,_,rfl,_,_,rfl,rfl,p,_,rfl,q1,by trivial,by trivial,fun r J2 r0 r01 b3 q2=>⟨(by show 1≤1000;decide),fun x2 J3 S3 f3 g3=>?_⟩⟩
  have tk:=tkb b3 q1
  have g3':J3 x2=some (.tup (([r]:List Int).map V.int)):=g3
  refine⟨x1,x2,_,_,rfl,rfl,S3 _ _ (tk _ _ g1),g3',sz (by rw[lenM,lenM,List.length_take,List.length_singleton];trivial),fun x3 J4 S4 g4=>?_⟩
  rw[← List.map_append] at g4
  have S34:=S3.trans S4
  refine⟨_,rfl,_,rfl,_,rfl,rp,_,rfl,S34 _ _ (tk _ _ (S1 _ _ r2)),fun x4 J5 S5 g5=>?_⟩
  rw[cutB] at g5
  refine⟨x3,x4,_,_,rfl,rfl,S5 _ _ g4,g5,sz (by rw[lenM,lenM,List.length_append,List.length_take,List.length_drop,List.length_singleton];trivial),fun x5 J6 S6 g6=>?_⟩
  rw[← List.map_append] at g6
  have S36:=S34.trans (S5.trans S6)
  refine q x5 _ J6 (b02.trans ((Same.but S1).trans (b3.trans (Same.but S36)))) (q2.same S36) g6 (by rw[List.length_append,List.length_append,List.length_take,List.length_drop,List.length_singleton];trivial) (((sm60.sub fun _=>List.mem_of_mem_take).app (Sm.one (Nat.lt_of_lt_of_le (show r.natAbs < 100 by trivial) (by decide)))).app (sm60.sub fun _=>List.mem_of_mem_drop))
 rw[decide_eq_false (show ¬ ((is.length:Nat):Int)=0 by trivial)]
 refine iteF ?_
 refine⟨_,rfl,_,rfl,rp,_,rfl,.inr (SqT.of r2),_,_,rfl,rfl,(by rw[lm];trivial),?_⟩
 rw[lm]
 obtain⟨j,ej⟩:∃ j:Nat,((k:Int) % ((is.length:Nat):Int))=j:=⟨k % is.length,rfl⟩
 have hj:j < is.length:=by
  have h1:=Int.emod_lt_of_pos (k:Int) (show (0:Int) < ((is.length:Nat):Int) by trivial)
  trivial
 show gName 4 (V.int ((k:Int) % ((is.length:Nat):Int))) _ _ _
 rw[ej]
 have atj:atI (is.map V.int) (j:Int)=some (.int is[j]):=zap (Int.natCast_nonneg _) (by rw[Int.toNat_natCast,List.getElem?_map,List.getElem?_eq_getElem hj];rfl)
 have bj:=sm _ (List.getElem_mem hj)
 refine⟨_,rfl,rfl,_,rfl,ite2 (fun c=>?_) (fun c=>?_)⟩
 ·refine⟨_,rfl,_,rfl,_,rfl,rp,_,rfl,r2,fun x1 J1 S1 g1=>?_⟩
  rw[cutA] at g1
  refine⟨_,rfl,_,rfl,_,_,rfl,rfl,_,rfl,rp,_,rfl,S1 _ _ r2,fun x4 J5 S5 g5=>?_⟩
  rw[cutC] at g5
  refine⟨x1,x4,_,_,rfl,rfl,S5 _ _ g1,g5,sz (by rw[lenM,lenM,List.length_take,List.length_drop];trivial),fun x5 J6 S6 g6=>?_⟩
  rw[← List.map_append] at g6
  have S36:=S1.trans (S5.trans S6)
  exact q x5 _ J6 (b02.trans (Same.but S36)) (p2.same S36) g6 (by rw[List.length_append,List.length_take,List.length_drop];trivial) ((sm60.sub fun _=>List.mem_of_mem_take).app (sm60.sub fun _=>List.mem_of_mem_drop))
 refine⟨_,rfl,rfl,_,rfl,ite2 (fun c=>?_) (fun c=>?_)⟩
 ·refine⟨_,rfl,_,rfl,rfl,rp,_,0,rfl,r2,.inl ⟨rfl,rfl⟩,fun x4 J4 S4 _ g4=>?_⟩
  rw[List.drop_zero,← List.map_reverse] at g4
  exact q x4 _ J4 (b02.trans (Same.but S4)) (p2.same S4) g4 (by rw[List.length_reverse];trivial) (sm60.sub fun _=>List.mem_reverse.mp)
 refine⟨_,rfl,_,rfl,rp,_,rfl,.inr (SqT.of r2),p,_,rfl,p2,by trivial,by trivial,fun ot H3 o0 o1 b3 p3=>?_⟩
 rw[lm] at o1
 have r3:=tkb b3 p2 _ _ r2
 have b03:=b02.trans b3
 obtain⟨o,rfl⟩:∃ o:Nat,ot=o:=⟨ot.toNat,by trivial⟩
 have ho:o < is.length:=by trivial
 have ato:atI (is.map V.int) (o:Int)=some (.int is[o]):=zap (Int.natCast_nonneg _) (by rw[Int.toNat_natCast,List.getElem?_map,List.getElem?_eq_getElem ho];rfl)
 have bo:=sm _ (List.getElem_mem ho)
 refine⟨_,rfl,rfl,_,rfl,ite2 (fun c=>?_) (fun c=>?_)⟩
 ·refine⟨_,rfl,rp,_,rfl,.inr r3,fun lf J1 S1 f1 g1=>?_⟩
  have ixj:∀ xs:List V,xs.length=is.length->ixN xs.length (j:Int)=some j:=fun xs hx=>by
   unfold ixN
   rw[if_pos (Int.natCast_nonneg _),if_pos (by trivial)];rfl
  have ixo:∀ xs:List V,xs.length=is.length->ixN xs.length (o:Int)=some o:=fun xs hx=>by
   unfold ixN
   rw[if_pos (Int.natCast_nonneg _),if_pos (by trivial)];rfl
  have nrf:rp≠lf:=fun z=>by rw[← z,r3] at f1;cases f1
  refine⟨_,rfl,_,rfl,rp,_,_,_,rfl,rfl,SqT.of (S1 _ _ r3),ato,_,rfl,_,rfl,lf,_,_,j,rfl,rfl,g1,ixj _ lm,?_⟩
  have r4:(upd J1 lf (.lst ((is.map V.int).set j (.int is[o])))) rp=some (.tup (is.map V.int)):=by rw[zat nrf];exact S1 _ _ r3
  refine⟨_,rfl,_,rfl,rp,_,_,_,rfl,rfl,SqT.of r4,atj,_,rfl,_,rfl,lf,_,_,o,rfl,rfl,zak,ixo _ (by rw[List.length_set];exact lm),?_⟩
  have e5:(((is.map V.int).set j (.int is[o])).set o (.int is[j]))=(((is.set j is[o]).set o is[j])).map V.int:=by rw[List.map_set,List.map_set]
  rw[zph,e5]
  refine⟨_,rfl,lf,_,rfl,zak,fun x5 J6 S6 f6 g6=>?_⟩
  have bf:But p H3 J6:=fun b u nb e=>S6 _ _ (by rw[zat (zaq e f1)];exact S1 _ _ e)
  have pf:Pot J6 p:=by
   obtain⟨a',b',e',z⟩:=p3
   refine⟨a',b',S6 _ _ ?_,z⟩
   rw[zat (npot ⟨a',b',e',z⟩ f1).symm];exact S1 _ _ e'
  refine q x5 _ J6 (b03.trans bf) pf g6 (by rw[List.length_set,List.length_set];trivial) fun i hi=>?_
  rcases List.mem_or_eq_of_mem_set hi with hi | rfl
  ·rcases List.mem_or_eq_of_mem_set hi with hi | rfl
   ·exact sm60 i hi
   ·exact Nat.lt_of_lt_of_le bo C60
  ·exact Nat.lt_of_lt_of_le bj C60
 refine⟨_,rfl,_,rfl,rp,_,_,_,rfl,rfl,SqT.of r3,atj,?_⟩
 refine⟨_,rfl,_,_,rfl,rfl,_,rfl,_,_,rfl,rfl,_,rfl,_,rfl,_,_,rfl,rfl,_,rfl,_,rfl,_,rfl,_,rfl,_,_,rfl,rfl,_,rfl,_,rfl,rp,_,_,_,rfl,rfl,SqT.of r3,ato,_,_,rfl,rfl,⟨by decide,by decide,by decide⟩,(by show 8≤1000;decide),fun ls J1 S1 f1 g1=>?_⟩
 have q1:=p3.same S1
 refine⟨_,rfl,_,rfl,_,rfl,rp,_,rfl,S1 _ _ r3,fun x1 J2 S2 g2=>?_⟩
 rw[cutA] at g2
 have q2:=q1.same S2
 refine⟨_,rfl,_,rfl,p,8,rfl,q2,by decide,by decide,fun r J3 r0 r01 b4 q3=>?_⟩
 have nls:=npot p3 f1
 obtain⟨x,ex,hx⟩:∃ x:Int,atI [V.int (is[j] + 1),.int (is[j] - 1),.int (is[j] + m),.int (-1),.int m,.int (is[j] - m),.int is[o],.int (10 ^ (30:Int).toNat)] r=some (.int x)∧x.natAbs < 10 ^ 60:=by
  have:r=0∨r=1∨r=2∨r=3∨r=4∨r=5∨r=6∨r=7:=by trivial
  rcases this with rfl | rfl | rfl | rfl | rfl | rfl | rfl | rfl
  ·exact⟨_,rfl,by trivial⟩
  ·exact⟨_,rfl,by trivial⟩
  ·exact⟨_,rfl,by trivial⟩
  ·exact⟨_,rfl,by decide⟩
  ·exact⟨_,rfl,by trivial⟩
  ·exact⟨_,rfl,by trivial⟩
  ·exact⟨_,rfl,by trivial⟩
  ·exact⟨_,rfl,by decide⟩
 refine⟨ls,_,_,_,rfl,rfl,SqL.of (b4 _ _ nls (S2 _ _ g1)),ex,(by show 1≤1000;decide),fun x2 J4 S4 f4 g4=>?_⟩
 have g4':J4 x2=some (.tup (([x]:List Int).map V.int)):=g4
 have tk:=tkb b4 q2
 refine⟨x1,x2,_,_,rfl,rfl,S4 _ _ (tk _ _ g2),g4',sz (by rw[lenM,lenM,List.length_take,List.length_singleton];trivial),fun x3 J5 S5 g5=>?_⟩
 rw[← List.map_append] at g5
 have S45:=S4.trans S5
 refine⟨_,rfl,_,rfl,_,_,rfl,rfl,_,rfl,rp,_,rfl,S45 _ _ (tk _ _ (S2 _ _ (S1 _ _ r3))),fun x4 J6 S6 g6=>?_⟩
 rw[cutC] at g6
 refine⟨x3,x4,_,_,rfl,rfl,S6 _ _ g5,g6,sz (by rw[lenM,lenM,List.length_append,List.length_take,List.length_drop,List.length_singleton];trivial),fun x5 J7 S7 g7=>?_⟩
 rw[← List.map_append] at g7
 have S47:=S45.trans (S6.trans S7)
 exact q x5 _ J7 (b03.trans ((Same.but (S1.trans S2)).trans (b4.trans (Same.but S47)))) (q3.same S47) g7 (by rw[List.length_append,List.length_append,List.length_take,List.length_drop,List.length_singleton];trivial) (((sm60.sub fun _=>List.mem_of_mem_take).app (Sm.one hx)).app (sm60.sub fun _=>List.mem_of_mem_drop))
inductive spHts20_i (K:PySem.W.Frag) (vs:List V) (H:Hp) (Q:VK):Prop
 | mk:∀ (p:Addr) (n:Int) (ts:List Tie) (ks:List Nat) (wv kv:V) (t:Int) (k:Nat),(vs=[.ref p,wv,kv,.int t,.int (k:Int)])->(Pot H p)->(WK K H n ts ks wv kv)->(1≤t)->(t≤99)->(k < ts.length)->(∀ q (js:List Int) H',But p H H'->Pot H' p->H' q=some (.tup (js.map V.int))->js.length≤24->Sm (10 ^ 58) js->Q (.ref q) H')->spHts20_i K vs H Q
def spHts20 (K:PySem.W.Frag):Sp:=fun vs H Q _=>spHts20_i K vs H Q
theorem zd5 (T:Bi mg) (D:DefOk K mg "_law_heights" s__law_heights ["pot","web","keep","t","tie"]) (O__law_take:Ok P w K mg base 1 "_law_take" ["pot","many"] spTake) (O__law_fars:Ok P w K mg base 1 "_law_fars" ["web","keep","start"] (spFars K)):Ok P w K mg base 2 "_law_heights" ["pot","web","keep","t","tie"] (spHts20 K):=by
 refine za2 (k:=1) D sc__law_heights (fun vs H Q E h=>?_) (fun f cdv A outer s H vs Q E hr h=>?_)
 ·obtain⟨p,n,ts,ks,wv,kv,t,k,rfl,_⟩:=h
  rfl
 obtain⟨p,n,ts,ks,wv,kv,t,k,rfl,hp,wk,t1,t99,hkl,q⟩:=h
 have nd:=sc__law_heights.nd
 have ok:=wk.2.1
 have n1:=ok.n1
 have n24:=ok.n24
 have tk:=ok.tie _ (zay hkl).2
 have tkb:∀ {J J':Hp},But p J J'->Pot J p->TupKeep J J':=fun b pp=>by
  obtain⟨xs,e⟩:=pp.lst
  exact fun a ys h=>b _ _ (fun z=>by rw[z,e] at h;cases h) h
 have npot:∀ {J:Hp} {b:Addr},Pot J p->J b=none->b≠p:=fun pp hb z=>by
  obtain⟨xs,e⟩:=pp.lst
  rw[z,e] at hb;cases hb
 obtain⟨g0,g,ws,rfl,hg0,hg,hall,hlw⟩:=zax wk.1
 obtain⟨ta,hta,htie⟩:=za9 hall hkl
 refine⟨_,(zad (zbc (zam zao (zam zao (pv 1) zac (fun _ _=>rfl)) (pv 4) (fun _ _=>rfl)) (zbk (n:=3) rfl (zah (zag (i:=5) nd rfl (Or.inl rfl)) (zah (zag (i:=6) nd rfl (Or.inl rfl)) (zah (zag (i:=7) nd rfl (Or.inl rfl)) za4))))) (zad (zas (i:=8) nd rfl (Or.inl rfl) (zam zaw (za7 (zaa (pv 5) (zaa (pv 5) (zaa (pv 6) (zaa (zae O__law_take hr rfl (zaa (pv 0) (zaa (zam zao (pv 1) zac (fun _ _=>rfl)) zab))) zab))))) (zae O__law_take hr rfl (zaa (pv 0) (zaa zac zab))) (fun _ _=>rfl))) (zad (zas (i:=9) nd rfl (Or.inl rfl) (zar zba (zar zb8 (pv 3) (pv 7)) (zae O__law_take hr rfl (zaa (pv 0) (zaa zac zab))))) (zad (zas (i:=10) nd rfl (Or.inr rfl) (zam zaw (za7 (zaa (pv 9) (zaa (pv 9) (zaa (zar zby zac zac) zab)))) (zae O__law_take hr rfl (zaa (pv 0) (zaa zac zab))) (fun _ _=>rfl))) (zad (zas (i:=11) nd rfl (Or.inr rfl) (zam zaw (za7 (zaa zac (zaa zac (zaa (zd1 zcd (pv 10)) (zaa (zar zb8 (zae O__law_take hr rfl (zaa (pv 0) (zaa (zar zby zac zac) zab))) (zar zby zac zac)) zab))))) (zae O__law_take hr rfl (zaa (pv 0) (zaa zac zab))) (fun _ _=>rfl))) (zad (zas (i:=12) nd rfl (Or.inr rfl) (zam zaw (za7 (zaa zac (zaa zac (zaa (zd1 zcd zac) zab)))) (zae O__law_take hr rfl (zaa (pv 0) (zaa zac zab))) (fun _ _=>rfl))) (zaf (zaj (za1 zbg rfl T.z_tuple (by decide +kernel) (zaa (zbl (N:=["pot","web","keep","t","tie","a","b","length","start","cut","roof","shift","sign"]) (sc0:=defScope s__law_heights) (own:=["one"]) (fr:=["sign","roof","shift"]) (js:=[12,10,11]) rfl (zcm (zae O__law_fars hr rfl (zaa (pv 1) (zaa (pv 2) (zaa (pv 8) zab))))) (fun _ _ _ _=>(zag (i:=0) (by show List.Nodup [("one":Str),("sign":Str),("roof":Str),("shift":Str)];decide +kernel) rfl (Or.inl rfl))) (fun _ _ _ _=>zbt) (fun _ _ _ _=>(zar zba (zar zb8 (pv 1) (zgg (zan zea (pv 0) zbn (nomark _)) (pv 2) (zai (zcy rfl) rfl T.z_min (by decide +kernel) (zaa (pv 2) (zaa (pv 0) zab))))) (pv 3)))) zab)))))))))),?_⟩
 refine⟨_,rfl,g0,_,_,_,rfl,rfl,SqT.of hg0,rfl,_,rfl,g,_,_,_,rfl,rfl,SqT.of hg,zap (Int.natCast_nonneg _) hta,ta,_,rfl,SqT.of htie,rfl,_,_,rfl,_,_,rfl,_,_,rfl,rfl,?_⟩
  -- start
 refine⟨_,rfl,_,rfl,_,rfl,_,rfl,_,rfl,g0,_,_,_,rfl,rfl,SqT.of hg0,rfl,p,n,rfl,hp,by trivial,by trivial,fun r0 J1 r00 r01 b1 p1=>⟨(by show 4≤1000;decide),fun l1 J2 S2 f2 e2=>?_⟩⟩
 have p2:=p1.same S2
 refine⟨_,rfl,p,4,rfl,p2,by decide,by decide,fun r1 J3 r10 r11 b3 p3=>?_⟩
 obtain⟨st,est,st0,st1⟩:∃ st:Int,atI [V.int (tieAt ts k).1,.int (tieAt ts k).1,.int (tieAt ts k).2.1,.int r0] r1=some (.int st)∧0≤st∧st < n:=by
  have:r1=0∨r1=1∨r1=2∨r1=3:=by trivial
  rcases this with rfl | rfl | rfl | rfl <;> exact⟨_,rfl,by trivial,by trivial⟩
 refine⟨l1,_,_,_,rfl,rfl,SqL.of (b3 _ _ (npot p1 f2) e2),est,?_⟩
 have B3:But p H J3:=b1.trans ((Same.but S2).trans b3)
  -- cut
 refine⟨_,rfl,_,rfl,_,_,rfl,rfl,.inl ⟨by trivial,by trivial⟩,_,rfl,p,3,rfl,p3,by decide,by decide,fun r2 J4 r20 r21 b4 p4=>⟨_,_,rfl,rfl,?_⟩⟩
 obtain⟨ct,ect,ct0,ct1⟩:∃ ct:Int,t * (tieAt ts k).2.2 + r2=ct∧0≤ct∧ct < 10 ^ 23:=⟨_,rfl,by
  have h0:0≤t * (tieAt ts k).2.2:=Int.mul_nonneg (by trivial) (by trivial)
  trivial,by
  have h0:t * (tieAt ts k).2.2≤99 * (tieAt ts k).2.2:=Int.mul_le_mul_of_nonneg_right t99 (by trivial)
  trivial⟩
 show gName 9 (V.int (t * (tieAt ts k).2.2 + r2)) _ _ _
 rw[ect]
  -- roof
 refine⟨_,rfl,_,rfl,_,_,rfl,rfl,⟨by decide,by decide,by decide⟩,(by show 3≤1000;decide),fun l2 J5 S5 f5 e5=>?_⟩
 have p5:=p4.same S5
 refine⟨_,rfl,p,3,rfl,p5,by decide,by decide,fun r3 J6 r30 r31 b6 p6=>?_⟩
 obtain⟨rf,erf,rf0,rf1⟩:∃ rf:Int,atI [V.int ct,.int ct,.int (10 ^ (22:Int).toNat)] r3=some (.int rf)∧0≤rf∧rf < 10 ^ 23:=by
  have:r3=0∨r3=1∨r3=2:=by trivial
  rcases this with rfl | rfl | rfl
  ·exact⟨_,rfl,ct0,ct1⟩
  ·exact⟨_,rfl,ct0,ct1⟩
  ·exact⟨_,rfl,by decide,by decide⟩
 refine⟨l2,_,_,_,rfl,rfl,SqL.of (b6 _ _ (npot p4 f5) e5),erf,?_⟩
 have B6:But p H J6:=B3.trans (b4.trans ((Same.but S5).trans b6))
  -- shift
 refine⟨_,rfl,_,rfl,_,rfl,_,_,rfl,rfl,⟨by decide,by decide,by decide⟩,p,_,rfl,p6,by decide,by decide,fun r4 J7 r40 r41 b7 p7=>⟨_,_,rfl,rfl,⟨by decide,by decide,by decide⟩,_,_,rfl,rfl,.inl ⟨by trivial,Int.lt_trans r41 (by decide)⟩,(by show 4≤1000;decide),fun l3 J8 S8 f8 e8=>?_⟩⟩
 have p8:=p7.same S8
 refine⟨_,rfl,p,4,rfl,p8,by decide,by decide,fun r5 J9 r50 r51 b9 p9=>?_⟩
 obtain⟨sh,esh,sh0,sh1⟩:∃ sh:Int,atI [V.int 0,.int 0,.int (-rf),.int (r4 * 10 ^ (40:Int).toNat)] r5=some (.int sh)∧-(10 ^ 23) < sh∧sh < 10 ^ 46:=by
  have:r5=0∨r5=1∨r5=2∨r5=3:=by trivial
  have e6:((10:Int) ^ (6:Int).toNat)=1000000:=by decide
  rw[e6] at r41
  have e40:((10:Int) ^ (40:Int).toNat)=10000000000000000000000000000000000000000:=by decide
  rw[e40]
  rcases this with rfl | rfl | rfl | rfl
  ·exact⟨_,rfl,by decide,by decide⟩
  ·exact⟨_,rfl,by decide,by decide⟩
  ·exact⟨_,rfl,by trivial,by trivial⟩
  ·exact⟨_,rfl,by trivial,by trivial⟩
 refine⟨l3,_,_,_,rfl,rfl,SqL.of (b9 _ _ (npot p7 f8) e8),esh,?_⟩
 have B9:But p H J9:=B6.trans (b7.trans ((Same.but S8).trans b9))
  -- sign
 refine⟨_,rfl,(by show 3≤1000;decide),fun l4 J10 S10 f10 e10=>?_⟩
 have p10:=p9.same S10
 refine⟨_,rfl,p,3,rfl,p10,by decide,by decide,fun r6 J11 r60 r61 b11 p11=>?_⟩
 obtain⟨sg,esg,hsg⟩:∃ sg:Int,atI [V.int 1,.int 1,.int (-1)] r6=some (.int sg)∧(sg=1∨sg=-1):=by
  have:r6=0∨r6=1∨r6=2:=by trivial
  rcases this with rfl | rfl | rfl
  ·exact⟨_,rfl,.inl rfl⟩
  ·exact⟨_,rfl,.inl rfl⟩
  ·exact⟨_,rfl,.inr rfl⟩
 refine⟨l4,_,_,_,rfl,rfl,SqL.of (b11 _ _ (npot p9 f10) e10),esg,?_⟩
 have B11:But p H J11:=B9.trans ((Same.but S10).trans b11)
 have wk11:WK K J11 n ts ks (.ref g0) kv:=zcu wk B11 hp
 refine⟨_,rfl,_,rfl,_,rfl,n,ts,ks,_,kv,st,rfl,wk11,st0,st1,fun l5 DD J12 S12 f12 e12 lD hD=>?_⟩
 refine⟨l5,rfl,⟨_,SqL.of e12⟩,?_⟩
 have ap:=zc9 ok wk.2.2.2
 refine zdv e12 (fun σ'=>∃ o,σ'=[o,some (.int sg),some (.int rf),some (.int sh)]) (fun _ v _=>∃ x:Int,v=.int x∧x.natAbs < 10 ^ 58) (by rw[List.length_map];trivial) (by exact⟨none,rfl⟩) (fun _ _ _ _ _ h=>h) (fun i x σ' H' hx s2 sg' C hC=>?_) (fun L ys H2 hL s2 hH hly hys=>?_)
 ·obtain⟨o,rfl⟩:=sg'
  rw[List.getElem?_map] at hx
  obtain⟨y,hy,rfl⟩:=Option.map_eq_some_iff.mp hx
  refine⟨_,rfl,_,rfl,rfl,_,rfl,?_⟩
  have bnd:∀ z:Int,0≤z->z < 10 ^ 23->(sg * z + sh).natAbs < 10 ^ 58:=fun z h0 h1=>by
   rcases hsg with rfl | rfl <;> trivial
  cases y with
  | none=>exact iteT ⟨_,rfl,_,_,rfl,rfl,.inl (by rcases hsg with rfl | rfl <;> exact⟨by decide,by decide⟩),_,rfl,_,_,rfl,rfl,hC _ _ _ ⟨_,rfl⟩ (Same.refl _) ⟨_,rfl,bnd rf rf0 rf1⟩⟩
  | some x =>
   have hi:i < n.toNat:=by have:=(List.getElem?_eq_some_iff.mp hy).1;trivial
   have x0:0≤x:=by
    have:=(hD i hi).1 x (by unfold Far.get;rw[List.getD_eq_getElem?_getD,hy];rfl)
    exact Far.Walk.nonneg ap this
   refine iteF ⟨_,rfl,_,rfl,_,_,rfl,_,_,rfl,rfl,.inl (by rcases hsg with rfl | rfl <;> exact⟨by decide,by decide⟩),_,rfl,_,_,rfl,rfl,hC _ _ _ ⟨_,rfl⟩ (Same.refl _) ⟨_,rfl,bnd _ ?_ ?_⟩⟩
   ·split <;> trivial
   ·split <;> trivial
 ·obtain⟨js,ejs,ljs⟩:=zmx (ys:=ys) fun v hv=>by
   obtain⟨j,hj,e⟩:=List.getElem_of_mem hv
   obtain⟨x,hx,_⟩:=hys j v (by rw[List.getElem?_eq_getElem hj,e])
   exact⟨x,hx⟩
  have bs:Sm (10 ^ 58) js:=fun i hi=>by
   obtain⟨j,hj,e⟩:=List.getElem_of_mem hi
   obtain⟨x,hx,hb⟩:=hys j (.int i) (by rw[ejs,List.getElem?_map,List.getElem?_eq_getElem hj,e];rfl)
   cases hx
   exact hb
  rw[ejs] at hH
  rw[List.length_map] at hly
  refine⟨L,_,rfl,hH,fun pp J7 S7 f7 e7=>q pp js J7 (B11.trans (Same.but (S12.trans (s2.trans S7)))) (p11.same (S12.trans (s2.trans S7))) e7 (by trivial) bs⟩
inductive spWalk20_i (K:PySem.W.Frag) (vs:List V) (H:Hp) (Q:VK):Prop
 | mk:∀ (p:Addr) (n:Int) (ts:List Tie) (ks:List Nat) (wv kv:V) (a b:Int),(vs=[.ref p,wv,kv,.int a,.int b])->(Pot H p)->(WK K H n ts ks wv kv)->(0≤a)->(a < n)->(0≤b)->(b < n)->(∀ q (js:List Int) H',But p H H'->Pot H' p->H' q=some (.tup (js.map V.int))->js.length≤25->Sm 100 js->Q (.ref q) H')->spWalk20_i K vs H Q
def spWalk20 (K:PySem.W.Frag):Sp:=fun vs H Q _=>spWalk20_i K vs H Q
theorem zch (is:List Int):(is.map V.int).all flatV=true:=by
 rw[List.all_map]
 exact List.all_eq_true.mpr fun _ _=>rfl
theorem zfn (T:Bi mg) (D:DefOk K mg "_law_walk" s__law_walk ["pot","web","keep","a","b"]) (O__law_take:Ok P w K mg base 1 "_law_take" ["pot","many"] spTake):Ok P w K mg base 2 "_law_walk" ["pot","web","keep","a","b"] (spWalk20 K):=by
 refine za2 (k:=1) D sc__law_walk (fun vs H Q E h=>?_) (fun f cdv A outer s H vs Q E hr h=>?_)
 ·obtain⟨p,n,ts,ks,wv,kv,a,b,rfl,_⟩:=h
  rfl
 obtain⟨p,n,ts,ks,wv,kv,a,b,rfl,hp,wk,a0,a1,b0,b1,q⟩:=h
 have nd:=sc__law_walk.nd
 have units:∀ {x:Nat},x≤4->(A.deeper (envOfC "_law_walk" (defScope s__law_walk) s.heap.objs.size f cdv)).units + x < cLine:=fun {x} hu=>by have:=hr.units;trivial
 have ok:=wk.2.1
 have few60:=ok.few
 have n1:=ok.n1
 have n24:=ok.n24
 have lk:=wk.2.2.2.len
 have npot:∀ {J:Hp} {b:Addr},Pot J p->J b=none->b≠p:=fun pp hb z=>by
  obtain⟨xs,e⟩:=pp.lst
  rw[z,e] at hb;cases hb
 have tkb:∀ {J:Hp},But p H J->TupKeep H J:=fun b a ys h=>b _ _ (fun z=>by
  obtain⟨xs,e⟩:=hp.lst
  rw[z,e] at h;cases h) h
 obtain⟨g0,g,ws,rfl,hg0,hg,hall,hlw⟩:=zax wk.1
 obtain⟨kp,rfl,hkp⟩:=zbh wk.2.2.1
 rw[← zbd] at hkp
 refine⟨_,(zad (zas (i:=5) nd rfl (Or.inl rfl) (za7 (zaa (pv 3) zab))) (zad (zbm PassesOwn.never rfl (zbq rfl T.z_range (zaa (zam zao (pv 1) zac (fun _ _=>rfl)) zab)) (zag (i:=6) nd rfl (Or.inl rfl)) (zad (zas (i:=7) nd rfl (Or.inl rfl) (za7 zab)) (zad (zbm PassesOwn.never rfl (zct (pv 2)) (zag (i:=8) nd rfl (Or.inl rfl)) (zad (zbc (zam zao (zam zao (pv 1) zac (fun _ _=>rfl)) (pv 8) (fun _ _=>rfl)) (zbk (n:=3) rfl (zah (zag (i:=9) nd rfl (Or.inl rfl)) (zah (zag (i:=10) nd rfl (Or.inl rfl)) (zah (zag (i:=11) nd rfl (Or.inl rfl)) za4))))) (zad (za6 (PW.pt (zf2 (zan zbb (pv 9) (zam zaw (pv 5) (zd1 zcd zac) (fun _ _=>rfl)) (nomark _)) (zd0 (zan zb7 (pv 10) (pv 5) (by with_unfolding_all rfl))))) (zaf (zcb (zgi PySem.F.plainAttrs_list PySem.F.slot_list_append PySem.F.type_list_append zb1 (pv 7) (zaa (pv 10) zab)))) zau) (zaf (za6 (PW.pt (zf2 (zan zbb (pv 10) (zam zaw (pv 5) (zd1 zcd zac) (fun _ _=>rfl)) (nomark _)) (zd0 (zan zb7 (pv 9) (pv 5) (by with_unfolding_all rfl))))) (zaf (zcb (zgi PySem.F.plainAttrs_list PySem.F.slot_list_append PySem.F.type_list_append zb1 (pv 7) (zaa (pv 9) zab)))) zau))))) (zad (za6 (PW.pt (zcl (zan zbb (zam zaw (pv 5) (zd1 zcd zac) (fun _ _=>rfl)) (pv 4) (nomark _)) (zbx (zan zmh (pv 7) (za7 zab) (nomark _))))) (zaf (zaj (za1 zbg rfl T.z_tuple (by decide +kernel) (zaa (pv 5) zab)))) zau) (zad (za6 (PW.pt (zf2 (zan zes (pv 4) (pv 7) (by with_unfolding_all rfl)) (zd0 (zan zbb (zae O__law_take hr rfl (zaa (pv 0) (zaa zac zab))) zac (nomark _))))) (zaf (zas (i:=7) nd rfl (Or.inl rfl) (za7 (zaa (pv 4) zab)))) zau) (zaf (zcb (zgi PySem.F.plainAttrs_list PySem.F.slot_list_append PySem.F.type_list_append zb1 (pv 5) (zaa (zam zaw (pv 7) (zae O__law_take hr rfl (zaa (pv 0) (zaa (zai zal rfl T.z_len (by decide +kernel) (zaa (pv 7) zab)) zab))) (fun _ _=>rfl)) zab))))))))) (zaf (zaj (za1 zbg rfl T.z_tuple (by decide +kernel) (zaa (pv 5) zab)))))),?_⟩
 refine⟨_,rfl,(by show 1≤1000;decide),fun lw J1 S1 f1 e1=>?_⟩
 have nlw:=npot hp f1
 refine⟨_,rfl,g0,_,_,_,rfl,rfl,SqT.of (S1 _ _ hg0),rfl,n,rfl,by trivial,by trivial,?_⟩
 refine zb6 (n:=n.toNat) (fun i σ J=>∃ (is:List Int) (y6 y7 y8 y9 y10 y11:Option V),σ=[some (.ref p),some (.ref g0),some (.ref kp),some (.int a),some (.int b),some (.ref lw),y6,y7,y8,y9,y10,y11]∧But p H J∧Pot J p∧J lw=some (.lst (is.map V.int))∧1≤is.length∧is.length≤i + 1∧Sm 100 is) ⟨[a],none,none,none,none,none,none,rfl,Same.but S1,hp.same S1,e1,Nat.le_refl _,Nat.le_refl _,Sm.one (by trivial)⟩ (fun i σ J hi h=>?_) (fun σ J h=>?_)
 ·obtain⟨is,y6,y7,y8,y9,y10,y11,rfl,bt,pt,hlw,il1,il2,sm⟩:=h
  have ez:=zqg il1
  refine⟨(by show 0≤1000;decide),fun ll J2 S2 f2 e2=>?_⟩
  have fll:H ll=none:=by
   cases e:H ll with
   | none=>rfl
   | some o =>
    have:ll≠p:=npot pt f2
    have:=bt _ _ this e
    rw[f2] at this;cases this
  have nllp:=npot pt f2
  have nlw2:lw≠ll:=fun z=>by rw[← z,hlw] at f2;cases f2
  have tk2:=tkb (bt.trans (Same.but S2))
  refine⟨_,rfl,kp,rfl,⟨_,SqT.of (tk2 _ _ hkp)⟩,?_⟩
  refine zdj (xs:=natV ks) (fun i' σ J=>∃ (ls:List Int) (z8 z9 z10 z11:Option V),σ=[some (.ref p),some (.ref g0),some (.ref kp),some (.int a),some (.int b),some (.ref lw),some (.int (0 + (i:Int))),some (.ref ll),z8,z9,z10,z11]∧But p H J∧Pot J p∧J lw=some (.lst (is.map V.int))∧J ll=some (.lst (ls.map V.int))∧ls.length≤2 * i'∧Sm 100 ls) ⟨[],_,_,_,_,rfl,bt.trans (Same.but S2),pt.same S2,S2 _ _ hlw,e2,Nat.zero_le _,fun i h=>by cases h⟩ (fun i' σ J _ h=>?_) (fun i' x σ J hx h=>?_) (fun σ J h=>?_)
  ·obtain⟨ls,z8,z9,z10,z11,rfl,bt3,_⟩:=h
   exact SqT.of (tkb bt3 _ _ hkp)
  ·obtain⟨ls,z8,z9,z10,z11,rfl,bt3,pt3,hlw3,hll3,lls,bls⟩:=h
   obtain⟨j,hj,rfl⟩:=zb9 hx
   have hi':i' < ks.length:=(List.getElem?_eq_some_iff.mp hj).1
   have hjl:=wk.2.2.2.2 j (List.mem_of_getElem? hj)
   have tie:=ok.tie _ (zay hjl).2
   obtain⟨ta,hta,htie⟩:=za9 hall hjl
   have tk3:=tkb bt3
   refine⟨_,rfl,g0,_,_,_,rfl,rfl,SqT.of (tk3 _ _ hg0),rfl,_,rfl,g,_,_,_,rfl,rfl,SqT.of (tk3 _ _ hg),zap (Int.natCast_nonneg _) hta,ta,_,rfl,SqT.of (tk3 _ _ htie),rfl,_,_,rfl,_,_,rfl,_,_,rfl,rfl,?_⟩
   refine⟨_,rfl,_,rfl,_,rfl,lw,_,_,_,rfl,rfl,SqL.of hlw3,ez,rfl,_,rfl,ite2 (fun c1=>?_) (fun c1=>?_)⟩
   ·refine⟨_,rfl,_,rfl,lw,_,rfl,.inl (SqL.of hlw3),rfl,zch is,_,rfl,ite2 (fun c2=>?_) (fun c2=>?_)⟩
    ·refine⟨_,rfl,.inl ⟨rfl,_,SqL.of hll3⟩,_,rfl,ll,_,_,rfl,rfl,hll3,by rw[List.length_map];trivial,fun K8 b8 e8=>?_⟩
     have hll8:K8 ll=some (.lst ((ls++[(tieAt ts j).2.1]).map V.int)):=by rw[e8,List.map_append];rfl
     have hlw8:=b8 _ _ nlw2 hlw3
     have bt8:But p H K8:=fun b o nb e=>b8 _ _ (zaq e fll) (bt3 _ _ nb e)
     have pt8:Pot K8 p:=by
      obtain⟨a',b',e',z⟩:=pt3
      exact⟨a',b',b8 _ _ nllp.symm e',z⟩
     have bls8:Sm 100 (ls++[(tieAt ts j).2.1]):=Sm.app bls (Sm.one (by trivial))
     have lls8:(ls++[(tieAt ts j).2.1]).length≤2 * i' + 1:=by rw[List.length_append,List.length_singleton];trivial
     generalize ls++[(tieAt ts j).2.1]=ls8 at hll8 bls8 lls8
     refine⟨_,rfl,_,rfl,_,rfl,lw,_,_,_,rfl,rfl,SqL.of hlw8,ez,rfl,_,rfl,ite2 (fun c3=>?_) (fun c3=>?_)⟩
     ·refine⟨_,rfl,_,rfl,lw,_,rfl,.inl (SqL.of hlw8),rfl,zch is,_,rfl,ite2 (fun c4=>?_) (fun c4=>?_)⟩
      ·refine⟨_,rfl,.inl ⟨rfl,_,SqL.of hll8⟩,_,rfl,ll,_,_,rfl,rfl,hll8,by rw[List.length_map];trivial,fun K9 b9 e9=>?_⟩
       refine⟨ls8++[(tieAt ts j).1],_,_,_,_,rfl,fun b o nb e=>b9 _ _ (zaq e fll) (bt8 _ _ nb e),?_,b9 _ _ nlw2 hlw8,?_,?_,?_⟩
       ·obtain⟨a',b',e',z⟩:=pt8
        exact⟨a',b',b9 _ _ nllp.symm e',z⟩
       ·rw[e9,List.map_append];rfl
       ·rw[List.length_append,List.length_singleton];trivial
       ·exact Sm.app bls8 (Sm.one (by trivial))
      ·exact⟨ls8,_,_,_,_,rfl,bt8,pt8,hlw8,hll8,by trivial,bls8⟩
     ·exact⟨ls8,_,_,_,_,rfl,bt8,pt8,hlw8,hll8,by trivial,bls8⟩
    ·refine⟨_,rfl,_,rfl,_,rfl,lw,_,_,_,rfl,rfl,SqL.of hlw3,ez,rfl,_,rfl,ite2 (fun c3=>?_) (fun c3=>?_)⟩
     ·refine⟨_,rfl,_,rfl,lw,_,rfl,.inl (SqL.of hlw3),rfl,zch is,_,rfl,ite2 (fun c4=>?_) (fun c4=>?_)⟩
      ·refine⟨_,rfl,.inl ⟨rfl,_,SqL.of hll3⟩,_,rfl,ll,_,_,rfl,rfl,hll3,by rw[List.length_map];trivial,fun K9 b9 e9=>?_⟩
       refine⟨ls++[(tieAt ts j).1],_,_,_,_,rfl,fun b o nb e=>b9 _ _ (zaq e fll) (bt3 _ _ nb e),?_,b9 _ _ nlw2 hlw3,?_,?_,?_⟩
       ·obtain⟨a',b',e',z⟩:=pt3
        exact⟨a',b',b9 _ _ nllp.symm e',z⟩
       ·rw[e9,List.map_append];rfl
       ·rw[List.length_append,List.length_singleton];trivial
       ·exact Sm.app bls (Sm.one (by trivial))
      ·exact⟨ls,_,_,_,_,rfl,bt3,pt3,hlw3,hll3,by trivial,bls⟩
     ·exact⟨ls,_,_,_,_,rfl,bt3,pt3,hlw3,hll3,by trivial,bls⟩
   ·refine⟨_,rfl,_,rfl,_,rfl,lw,_,_,_,rfl,rfl,SqL.of hlw3,ez,rfl,_,rfl,ite2 (fun c3=>?_) (fun c3=>?_)⟩
    ·refine⟨_,rfl,_,rfl,lw,_,rfl,.inl (SqL.of hlw3),rfl,zch is,_,rfl,ite2 (fun c4=>?_) (fun c4=>?_)⟩
     ·refine⟨_,rfl,.inl ⟨rfl,_,SqL.of hll3⟩,_,rfl,ll,_,_,rfl,rfl,hll3,by rw[List.length_map];trivial,fun K9 b9 e9=>?_⟩
      refine⟨ls++[(tieAt ts j).1],_,_,_,_,rfl,fun b o nb e=>b9 _ _ (zaq e fll) (bt3 _ _ nb e),?_,b9 _ _ nlw2 hlw3,?_,?_,?_⟩
      ·obtain⟨a',b',e',z⟩:=pt3
       exact⟨a',b',b9 _ _ nllp.symm e',z⟩
      ·rw[e9,List.map_append];rfl
      ·rw[List.length_append,List.length_singleton];trivial
      ·exact Sm.app bls (Sm.one (by trivial))
     ·exact⟨ls,_,_,_,_,rfl,bt3,pt3,hlw3,hll3,by trivial,bls⟩
    ·exact⟨ls,_,_,_,_,rfl,bt3,pt3,hlw3,hll3,by trivial,bls⟩
  ·obtain⟨ls,z8,z9,z10,z11,rfl,bt3,pt3,hlw3,hll3,lls,bls⟩:=h
   rw[zb5] at lls
   refine⟨_,rfl,_,rfl,lw,_,_,_,rfl,rfl,SqL.of hlw3,ez,_,rfl,rfl,_,rfl,ite2 (fun c1=>?_) (fun c1=>?_)⟩
   ·exact⟨_,rfl,lw,_,rfl,hlw3,fun x5 J6 S6 f6 g6=>q x5 is J6 (bt3.trans (Same.but S6)) (pt3.same S6) g6 (by trivial) sm⟩
   refine⟨_,rfl,(by show 0≤1000;decide),fun Le K4 T4 f4 e4=>⟨.list (ls.map .int),.list [],⟨ll,_,rfl,T4 _ _ hll3,IsAll.ints _⟩,⟨Le,_,rfl,e4,rfl⟩,zc3 _,rfl,units (Nat.le_trans (Nat.min_le_right _ _) (by decide)),_,rfl,?_⟩⟩
   rw[zkn]
   by_cases e0:ls=[]
   ·rw[decide_eq_true (by rw[e0];rfl)]
    exact iteT ⟨_,rfl,lw,_,rfl,T4 _ _ hlw3,fun x5 J6 S6 f6 g6=>q x5 is J6 (bt3.trans (Same.but (T4.trans S6))) (pt3.same (T4.trans S6)) g6 (by trivial) sm⟩
   rw[decide_eq_false (fun z=>e0 (List.map_eq_nil_iff.mp z))]
   refine iteF ?_
   have lpos:0 < ls.length:=List.length_pos_iff.mpr e0
   have bt4:=bt3.trans (Same.but T4)
   have pt4:=pt3.same T4
   have hlw4:=T4 _ _ hlw3
   have hll4:=T4 _ _ hll3
   refine⟨_,rfl,_,rfl,ll,_,rfl,.inl (SqL.of hll4),rfl,zch ls,_,rfl,ite2 (fun c2=>?_) (fun c2=>?_)⟩
   ·refine⟨_,rfl,p,2,rfl,pt4,by decide,by decide,fun r7 K5 r70 r71 b5 p5=>⟨rfl,_,rfl,ite2 (fun c3=>?_) (fun c3=>?_)⟩⟩
    ·refine⟨_,rfl,(by show 1≤1000;decide),fun lb K15 S15 f15 e15=>?_⟩
     have nlb:=npot p5 f15
     have e15':K15 lb=some (.lst (([b]:List Int).map V.int)):=e15
     have bls15:Sm 100 [b]:=Sm.one (by trivial)
     have lp15:0 < ([b]:List Int).length:=Nat.zero_lt_one
     have bt15:=bt4.trans (b5.trans (Same.but S15))
     have pt15:=p5.same S15
     have hlw15:=S15 _ _ (b5 _ _ nlw hlw4)
     have l15:([b]:List Int).length≤60:=by simp
     generalize ([b]:List Int)=lq at e15' bls15 lp15 l15
     refine⟨_,rfl,.inl ⟨rfl,_,SqL.of hlw15⟩,_,rfl,_,rfl,_,rfl,lb,_,rfl,.inl (SqL.of e15'),p,_,rfl,pt15,by rw[List.length_map];trivial,by rw[List.length_map];trivial,fun r9 K6 r90 r91 b9 p9=>?_⟩
     rw[List.length_map] at r91
     have h9:r9.toNat < lq.length:=by trivial
     have hx9:atI (lq.map V.int) r9=some (.int lq[r9.toNat]):=zap r90 (by rw[List.getElem?_map,List.getElem?_eq_getElem h9];rfl)
     refine⟨lb,_,_,_,rfl,rfl,SqL.of (b9 _ _ nlb e15'),hx9,lw,_,_,rfl,rfl,b9 _ _ nlw hlw15,by rw[List.length_map];trivial,fun K7 b10 e10=>?_⟩
     refine⟨is++[lq[r9.toNat]],_,_,_,_,_,_,rfl,fun b o nb e=>b10 _ _ (zaq e f1) (b9 _ _ nb (bt15 _ _ nb e)),?_,?_,?_,?_,?_⟩
     ·obtain⟨a',b',e',z⟩:=p9
      exact⟨a',b',b10 _ _ nlw.symm e',z⟩
     ·rw[e10,List.map_append];rfl
     ·rw[List.length_append];trivial
     ·rw[List.length_append,List.length_singleton];trivial
     ·exact Sm.app sm (Sm.one (bls15 _ (List.getElem_mem h9)))
    ·have bt15:=bt4.trans b5
     have hlw15:=b5 _ _ nlw hlw4
     have hll15:=b5 _ _ nllp hll4
     refine⟨_,rfl,.inl ⟨rfl,_,SqL.of hlw15⟩,_,rfl,_,rfl,_,rfl,ll,_,rfl,.inl (SqL.of hll15),p,_,rfl,p5,by rw[List.length_map];trivial,by rw[List.length_map];trivial,fun r9 K6 r90 r91 b9 p9=>?_⟩
     rw[List.length_map] at r91
     have h9:r9.toNat < ls.length:=by trivial
     have hx9:atI (ls.map V.int) r9=some (.int ls[r9.toNat]):=zap r90 (by rw[List.getElem?_map,List.getElem?_eq_getElem h9];rfl)
     refine⟨ll,_,_,_,rfl,rfl,SqL.of (b9 _ _ nllp hll15),hx9,lw,_,_,rfl,rfl,b9 _ _ nlw hlw15,by rw[List.length_map];trivial,fun K7 b10 e10=>?_⟩
     refine⟨is++[ls[r9.toNat]],_,_,_,_,_,_,rfl,fun b o nb e=>b10 _ _ (zaq e f1) (b9 _ _ nb (bt15 _ _ nb e)),?_,?_,?_,?_,?_⟩
     ·obtain⟨a',b',e',z⟩:=p9
      exact⟨a',b',b10 _ _ nlw.symm e',z⟩
     ·rw[e10,List.map_append];rfl
     ·rw[List.length_append];trivial
     ·rw[List.length_append,List.length_singleton];trivial
     ·exact Sm.app sm (Sm.one (bls _ (List.getElem_mem h9)))
   ·refine⟨_,rfl,.inl ⟨rfl,_,SqL.of hlw4⟩,_,rfl,_,rfl,_,rfl,ll,_,rfl,.inl (SqL.of hll4),p,_,rfl,pt4,by rw[List.length_map];trivial,by rw[List.length_map];trivial,fun r9 K6 r90 r91 b9 p9=>?_⟩
    rw[List.length_map] at r91
    have h9:r9.toNat < ls.length:=by trivial
    have hx9:atI (ls.map V.int) r9=some (.int ls[r9.toNat]):=zap r90 (by rw[List.getElem?_map,List.getElem?_eq_getElem h9];rfl)
    refine⟨ll,_,_,_,rfl,rfl,SqL.of (b9 _ _ nllp hll4),hx9,lw,_,_,rfl,rfl,b9 _ _ nlw hlw4,by rw[List.length_map];trivial,fun K7 b10 e10=>?_⟩
    refine⟨is++[ls[r9.toNat]],_,_,_,_,_,_,rfl,fun b o nb e=>b10 _ _ (zaq e f1) (b9 _ _ nb (bt4 _ _ nb e)),?_,?_,?_,?_,?_⟩
    ·obtain⟨a',b',e',z⟩:=p9
     exact⟨a',b',b10 _ _ nlw.symm e',z⟩
    ·rw[e10,List.map_append];rfl
    ·rw[List.length_append];trivial
    ·rw[List.length_append,List.length_singleton];trivial
    ·exact Sm.app sm (Sm.one (bls _ (List.getElem_mem h9)))
 ·obtain⟨is,y6,y7,y8,y9,y10,y11,rfl,bt,pt,hlw,il1,il2,sm⟩:=h
  exact⟨_,rfl,lw,_,rfl,hlw,fun x5 J6 S6 f6 g6=>q x5 is J6 (bt.trans (Same.but S6)) (pt.same S6) g6 (by trivial) sm⟩
def sml0:Ppr->Prop
 | .keeps W=>W.length≤60∧∀ ws ∈ W,ws.length≤25∧Sm 100 ws
 | .far k hs=>k.natAbs < 100∧hs.length≤24∧Sm (10 ^ 58) hs
theorem zi8 {K:PySem.W.Frag} {H:Hp}:∀ {ys:List V},(∀ v ∈ ys,∃ (a:Addr) (js:List Int),v=.ref a∧H a=some (.tup (js.map V.int))∧js.length≤25∧Sm 100 js)->∃ W:List (List Int),IsAll K H (W.map tupH) ys∧∀ ws ∈ W,ws.length≤25∧Sm 100 ws
 | [],_=>⟨[],rfl,fun ws h=>by cases h⟩
 | v::ys,h=>by
  obtain⟨W,h1,h2⟩:=zi8 (K:=K) (H:=H) (ys:=ys) fun u hu=>h u (List.mem_cons_of_mem _ hu)
  obtain⟨a,js,rfl,h3,h4⟩:=h v List.mem_cons_self
  refine⟨js::W,⟨_,_,rfl,⟨a,_,rfl,h3,IsAll.ints _⟩,h1⟩,fun ws hw=>?_⟩
  rcases List.mem_cons.mp hw with rfl | hw
  ·exact h4
  ·exact h2 ws hw
theorem zf8 {own:List Str} {js:List Nat} {g:TG} {te:TE} {σ:L2.St} {Q:VK} {H1:Hp} {p:Addr} {K:PySem.W.Frag} {a:Addr} {zs:List V} (hx:H1 a=some (.lst zs)) (hap:a≠p) (hp:Pot H1 p) (Sg:L2.St->Prop) (R:V->Hp->Prop) (hn:zs.length≤1000) (h0:Sg (start3 own js σ)) (mono:∀ v H H',TupKeep H H'->R v H->R v H')
  (step:∀ (i:Nat) (x:V) (σ':L2.St) (H':Hp),zs[i]?=some x->But p H1 H'->Pot H' p->Sg σ'->∀ C:L2.St->V->Hp->Prop,(∀ σ3 v H5,Sg σ3->But p H' H5->Pot H5 p->R v H5->C σ3 v H5)->g x σ' H' fun σ3 H3=>te σ3 H3 fun v H5=>C σ3 v H5)
  (fin:∀ D ys H',H1 D=none->D≠p->But p H1 H'->Pot H' p->H' D=some (.lst ys)->ys.length=zs.length->(∀ v ∈ ys,R v H')->Q (.ref D) H'):CompGo own js g tTrue te σ Q (Itl K a) H1:=by
 intro D hD
 obtain⟨xsp,ep⟩:=hp.lst
 have nDp:D≠p:=fun z=>by rw[z,ep] at hD;cases hD
 have potU:∀ {J:Hp} {o:HO},Pot J p->Pot (upd J D o) p:=fun h=>by
  obtain⟨a',b',e',z⟩:=h
  exact⟨a',b',by rw[zat nDp.symm];exact e',z⟩
 refine⟨fun i m ys σ' H'=>m=zs.length - i∧i≤zs.length∧Sg σ'∧But p H1 H'∧Pot H' p∧ys.length=i∧∀ v ∈ ys,R v H',⟨zs.length,rfl,Nat.zero_le _,h0,But.new hD,potU hp,rfl,fun v e=>by cases e⟩,?_⟩
 rintro i m ys σ' H' ⟨rfl,hi,sg,bt,pt,hl,hr⟩ hd
 have sq:SqL K H' a zs:=SqL.of (bt _ _ hap hx)
 by_cases hlt:i < zs.length
 ·refine .inr ⟨⟨zs,zs[i],sq,by simp [hlt]⟩,fun x H2 hy=>?_⟩
  obtain⟨rfl,hy⟩:=hy
  refine step i x σ' _ (hy zs sq) bt pt sg (fun σ3 v H5=>H5 D=some (.lst ys)∧ys.length < sizeLine∧∃ m',m' < zs.length - i∧(m'=zs.length - (i + 1)∧i + 1≤zs.length∧Sg σ3∧But p H1 (upd H5 D (.lst (ys++[v])))∧Pot (upd H5 D (.lst (ys++[v]))) p∧(ys++[v]).length=i + 1∧∀ u ∈ ys++[v],R u (upd H5 D (.lst (ys++[v]))))) fun σ3 v H5 sg3 b5 p5 r5=>?_
  have hd5:=b5 _ _ nDp hd
  obtain⟨xs2,ep2⟩:=pt.lst
  have tk5:TupKeep H5 (upd H5 D (.lst (ys++[v]))):=fun a xs e=>by rw[zat (fun z=>by rw[z,hd5] at e;cases e)];exact e
  refine⟨hd5,Nat.lt_of_le_of_lt (by trivial:ys.length≤1000) (by decide),zs.length - (i + 1),by trivial,rfl,hlt,sg3,fun b o hb e=>?_,potU p5,by rw[List.length_append,List.length_singleton,hl],fun u e=>mono _ _ _ tk5 ?_⟩
  ·rw[zat (zaq e hD)];exact b5 _ _ hb (bt _ _ hb e)
  ·rcases List.mem_append.mp e with e | e
   ·exact mono _ _ _ (fun a xs z=>b5 _ _ (fun y=>by rw[y,ep2] at z;cases z) z) (hr u e)
   ·rw[List.mem_singleton.mp e];exact r5
 ·have e:i=zs.length:=by trivial
  subst e
  exact .inl ⟨⟨zs,sq,Nat.le_refl _⟩,fin D ys H' hD nDp bt pt hd hl hr⟩
inductive spOther20_i (K:PySem.W.Frag) (vs:List V) (H:Hp) (Q:VK):Prop
 | mk:∀ (p:Addr) (n:Int) (ts:List Tie) (ks:List Nat) (wv kv:V) (t:Int),(vs=[.ref p,wv,kv,.int t])->(Pot H p)->(WK K H n ts ks wv kv)->(1≤t)->(t≤99)->(∀ (a:Addr) (u:Ppr) H',But p H H'->Pot H' p->Is K H' u.d (.ref a)->(sml0 u∧∀ k hs,u=.far k hs->1≤ts.length)->Q (.ref a) H')->spOther20_i K vs H Q
def spOther20 (K:PySem.W.Frag):Sp:=fun vs H Q _=>spOther20_i K vs H Q
theorem ze2 (T:Bi mg) (D:DefOk K mg "_law_other" s__law_other ["pot","web","keep","t"]) (O__law_outside:Ok P w K mg base 2 "_law_outside" ["web","keep"] (spOuts K)) (O__law_take:Ok P w K mg base 2 "_law_take" ["pot","many"] spTake) (O__law_walk:Ok P w K mg base 2 "_law_walk" ["pot","web","keep","a","b"] (spWalk20 K)) (O__law_heights:Ok P w K mg base 2 "_law_heights" ["pot","web","keep","t","tie"] (spHts20 K)):Ok P w K mg base 3 "_law_other" ["pot","web","keep","t"] (spOther20 K):=by
 refine za2 (k:=2) D sc__law_other (fun vs H Q E h=>?_) (fun f cdv A outer s H vs Q E hr h=>?_)
 ·obtain⟨p,n,ts,ks,wv,kv,t,rfl,_⟩:=h
  rfl
 obtain⟨p,n,ts,ks,wv,kv,t,rfl,hp,wk,t1,t99,q⟩:=h
 have nd:=sc__law_other.nd
 have units:∀ {x:Nat},x≤4->(A.deeper (envOfC "_law_other" (defScope s__law_other) s.heap.objs.size f cdv)).units + x < cLine:=fun {x} hu=>by have:=hr.units;trivial
 have ok:=wk.2.1
 have few60:=ok.few
 have lo:=zc1 ts.length ks
 have lN:(natV (outs ts.length ks)).length=(outs ts.length ks).length:=zb5 _
 have npot:∀ {J:Hp} {b:Addr},Pot J p->J b=none->b≠p:=fun pp hb z=>by
  obtain⟨xs,e⟩:=pp.lst
  rw[z,e] at hb;cases hb
 obtain⟨g0,g,ws,rfl,hg0,hg,hall,hlw⟩:=zax wk.1
 refine⟨_,(zad (zas (i:=4) nd rfl (Or.inl rfl) (zae O__law_outside hr rfl (zaa (pv 1) (zaa (pv 2) zab)))) (zad (za6 (PW.pt (zcl (zan zmh (pv 4) (za7 zab) (nomark _)) (zbx (zan zbb (zae O__law_take hr rfl (zaa (pv 0) (zaa zac zab))) zac (nomark _))))) (zaf (zaj (za0 (zaa zdo (zaa (za1 zbg rfl T.z_tuple (by decide +kernel) (zaa (zbl (N:=["pot","web","keep","t","outside","tie"]) (sc0:=defScope s__law_other) (own:=["number"]) (fr:=["pot","web","keep"]) (js:=[0,1,2]) rfl (zcm (pv 4)) (fun _ _ _ _=>(zag (i:=0) (by show List.Nodup [("number":Str),("pot":Str),("web":Str),("keep":Str)];decide +kernel) rfl (Or.inl rfl))) (fun _ _ _ _=>zbt) (fun _ _ _ _=>(zae O__law_walk hr rfl (zaa (pv 1) (zaa (pv 2) (zaa (pv 3) (zaa (zam zbr (zam zbr (zam zbr (pv 2) zac (fun _ _=>rfl)) (pv 0) (fun _ _=>rfl)) zac (fun _ _=>rfl)) (zaa (zam zbr (zam zbr (zam zbr (pv 2) zac (fun _ _=>rfl)) (pv 0) (fun _ _=>rfl)) zac (fun _ _=>rfl)) zab)))))))) zab)) zab))))) zau) (zad (zas (i:=5) nd rfl (Or.inl rfl) (zam zaw (pv 4) (zae O__law_take hr rfl (zaa (pv 0) (zaa (zai zal rfl T.z_len (by decide +kernel) (zaa (pv 4) zab)) zab))) (fun _ _=>rfl))) (zaf (zaj (za0 (zaa zdo (zaa (pv 5) (zaa (zae O__law_heights hr rfl (zaa (pv 0) (zaa (pv 1) (zaa (pv 2) (zaa (pv 3) (zaa (pv 5) zab)))))) zab))))))))),?_⟩
 refine⟨_,rfl,_,rfl,n,ts,ks,_,kv,rfl,wk,fun l J1 S1 f1 e1=>?_⟩
 have nl:=npot hp f1
 have p1:=hp.same S1
 refine⟨_,rfl,(by show 0≤1000;decide),fun Le J2 S2 f2 e2=>⟨.list ((keepI (outs ts.length ks)).map .int),.list [],⟨l,_,rfl,S2 _ _ (by rw[e1,zbd]),IsAll.ints _⟩,⟨Le,_,rfl,e2,rfl⟩,zc3 _,rfl,units (Nat.le_trans (Nat.min_le_right _ _) (by decide)),_,rfl,?_⟩⟩
 rw[zkn]
 have p2:=p1.same S2
 have e12:=S2 _ _ e1
 have B2:But p H J2:=Same.but (S1.trans S2)
 by_cases e0:outs ts.length ks=[]
 ·rw[decide_eq_true (by rw[e0];rfl)]
  refine iteT ?_
  refine⟨_,rfl,l,rfl,⟨_,SqL.of e12⟩,?_⟩
  refine zf8 e12 nl p2 (fun σ'=>∃ o,σ'=[o,some (.ref p),some (.ref g0),some kv]) (fun v J=>∃ (a:Addr) (js:List Int),v=.ref a∧J a=some (.tup (js.map V.int))∧js.length≤25∧Sm 100 js) (by trivial) (by exact⟨none,rfl⟩) (fun v J J' k h=>by obtain⟨a,js,h1,h2,h3⟩:=h;exact⟨a,js,h1,k _ _ h2,h3⟩) (fun i x σ' H' hx b5 p5 sg C hC=>?_) (fun L ys K5 hL nL b6 p6 hH hly hys=>?_)
  ·obtain⟨o,rfl⟩:=sg
   obtain⟨k,hk,rfl⟩:=zb9 hx
   have hkl:=(outs_mem.mp (List.mem_of_getElem? hk)).1
   have tk:=ok.tie _ (zay hkl).2
   obtain⟨ta,hta,htie⟩:=za9 hall hkl
   have B5:=B2.trans b5
   obtain⟨xsp,ep⟩:=hp.lst
   have tkk:TupKeep H H':=fun a ys h=>B5 _ _ (fun z=>by rw[z,ep] at h;cases h) h
   exact⟨_,rfl,_,rfl,_,rfl,_,rfl,g0,_,_,_,rfl,rfl,SqT.of (tkk _ _ hg0),rfl,_,rfl,g,_,_,_,rfl,rfl,SqT.of (tkk _ _ hg),zap (Int.natCast_nonneg _) hta,ta,_,_,_,rfl,rfl,SqT.of (tkk _ _ htie),rfl,_,rfl,g0,_,_,_,rfl,rfl,SqT.of (tkk _ _ hg0),rfl,_,rfl,g,_,_,_,rfl,rfl,SqT.of (tkk _ _ hg),zap (Int.natCast_nonneg _) hta,ta,_,_,_,rfl,rfl,SqT.of (tkk _ _ htie),rfl,p,n,ts,ks,_,kv,_,_,rfl,p5,zcu wk B5 hp,by trivial,by trivial,by trivial,by trivial,fun qq js J6 b7 p7 e7 l7 s7=>hC _ _ _ ⟨_,rfl⟩ b7 p7 ⟨qq,js,rfl,e7,l7,s7⟩⟩
  refine⟨L,_,rfl,hH,fun tp K6 S6 f6 e6=>⟨(by show 2≤1000;decide),fun a K7 S7 f7 e7=>?_⟩⟩
  obtain⟨W,hW1,hW2⟩:=zi8 (H:=K7) (ys:=ys) fun v hv=>by
   obtain⟨aa,js,h1,h2,h3⟩:=hys v hv
   exact⟨aa,js,h1,S7 _ _ (S6 _ _ h2),h3⟩
  exact q a (.keeps W) K7 (B2.trans (b6.trans (Same.but (S6.trans S7)))) (p6.same (S6.trans S7)) ⟨a,_,rfl,e7,_,_,rfl,rfl,_,_,rfl,⟨tp,_,rfl,S7 _ _ e6,hW1⟩,rfl⟩ ⟨⟨by have:=hW1.length;rw[List.length_map] at this;trivial,hW2⟩,fun k hs z=>by cases z⟩
 rw[decide_eq_false (fun z=>e0 (by unfold keepI at z;exact List.map_eq_nil_iff.mp (List.map_eq_nil_iff.mp z)))]
 have lpos:0 < (outs ts.length ks).length:=List.length_pos_iff.mpr e0
 refine iteF ⟨_,rfl,p,2,rfl,p2,by decide,by decide,fun r J3 r0 r1 b3 p3=>⟨rfl,_,rfl,ite2 (fun c=>?_) (fun c=>?_)⟩⟩
 ·have B3:=B2.trans b3
  have e13:=b3 _ _ nl e12
  refine⟨_,rfl,l,rfl,⟨_,SqL.of e13⟩,?_⟩
  refine zf8 e13 nl p3 (fun σ'=>∃ o,σ'=[o,some (.ref p),some (.ref g0),some kv]) (fun v J=>∃ (a:Addr) (js:List Int),v=.ref a∧J a=some (.tup (js.map V.int))∧js.length≤25∧Sm 100 js) (by trivial) (by exact⟨none,rfl⟩) (fun v J J' k h=>by obtain⟨a,js,h1,h2,h3⟩:=h;exact⟨a,js,h1,k _ _ h2,h3⟩) (fun i x σ' H' hx b5 p5 sg C hC=>?_) (fun L ys K5 hL nL b6 p6 hH hly hys=>?_)
  ·obtain⟨o,rfl⟩:=sg
   obtain⟨k,hk,rfl⟩:=zb9 hx
   have hkl:=(outs_mem.mp (List.mem_of_getElem? hk)).1
   have tk:=ok.tie _ (zay hkl).2
   obtain⟨ta,hta,htie⟩:=za9 hall hkl
   have B5:=B3.trans b5
   obtain⟨xsp,ep⟩:=hp.lst
   have tkk:TupKeep H H':=fun a ys h=>B5 _ _ (fun z=>by rw[z,ep] at h;cases h) h
   exact⟨_,rfl,_,rfl,_,rfl,_,rfl,g0,_,_,_,rfl,rfl,SqT.of (tkk _ _ hg0),rfl,_,rfl,g,_,_,_,rfl,rfl,SqT.of (tkk _ _ hg),zap (Int.natCast_nonneg _) hta,ta,_,_,_,rfl,rfl,SqT.of (tkk _ _ htie),rfl,_,rfl,g0,_,_,_,rfl,rfl,SqT.of (tkk _ _ hg0),rfl,_,rfl,g,_,_,_,rfl,rfl,SqT.of (tkk _ _ hg),zap (Int.natCast_nonneg _) hta,ta,_,_,_,rfl,rfl,SqT.of (tkk _ _ htie),rfl,p,n,ts,ks,_,kv,_,_,rfl,p5,zcu wk B5 hp,by trivial,by trivial,by trivial,by trivial,fun qq js J6 b7 p7 e7 l7 s7=>hC _ _ _ ⟨_,rfl⟩ b7 p7 ⟨qq,js,rfl,e7,l7,s7⟩⟩
  refine⟨L,_,rfl,hH,fun tp K6 S6 f6 e6=>⟨(by show 2≤1000;decide),fun a K7 S7 f7 e7=>?_⟩⟩
  obtain⟨W,hW1,hW2⟩:=zi8 (H:=K7) (ys:=ys) fun v hv=>by
   obtain⟨aa,js,h1,h2,h3⟩:=hys v hv
   exact⟨aa,js,h1,S7 _ _ (S6 _ _ h2),h3⟩
  exact q a (.keeps W) K7 (B3.trans (b6.trans (Same.but (S6.trans S7)))) (p6.same (S6.trans S7)) ⟨a,_,rfl,e7,_,_,rfl,rfl,_,_,rfl,⟨tp,_,rfl,S7 _ _ e6,hW1⟩,rfl⟩ ⟨⟨by have:=hW1.length;rw[List.length_map] at this;trivial,hW2⟩,fun k hs z=>by cases z⟩
 have B3:=B2.trans b3
 have e13:=b3 _ _ nl e12
 refine⟨_,rfl,_,rfl,_,rfl,l,_,rfl,.inl (SqL.of e13),p,_,rfl,p3,by trivial,by trivial,fun r4 J4 r40 r41 b4 p4=>?_⟩
 rw[lN] at r41
 have h9:r4.toNat < (outs ts.length ks).length:=by trivial
 have hx9:atI (natV (outs ts.length ks)) r4=some (.int (((outs ts.length ks)[r4.toNat]:Nat):Int)):=zap r40 (by unfold natV;rw[List.getElem?_map,List.getElem?_eq_getElem h9];rfl)
 refine⟨l,_,_,_,rfl,rfl,SqL.of (b4 _ _ nl e13),hx9,?_⟩
 have hm:=outs_mem.mp (List.getElem_mem h9)
 have B4:=B3.trans b4
 have wk4:=zcu wk B4 hp
 refine⟨_,rfl,_,rfl,_,rfl,_,rfl,_,rfl,_,rfl,p,n,ts,ks,_,kv,t,_,rfl,p4,wk4,t1,t99,hm.1,fun qh js J5 b5 p5 e5 l5 s5=>⟨(by show 3≤1000;decide),fun a J6 S6 f6 e6=>?_⟩⟩
 refine q a (.far ((outs ts.length ks)[r4.toNat]:Nat) js) J6 (B4.trans (b5.trans (Same.but S6))) (p5.same S6) ?_ ⟨⟨by have:=hm.1;trivial,l5,s5⟩,fun _ _ _=>by have:=hm.1;trivial⟩
 exact⟨a,_,rfl,e6,_,_,rfl,rfl,_,_,rfl,rfl,_,_,rfl,⟨qh,_,rfl,S6 _ _ e5,IsAll.ints _⟩,rfl⟩
def RV20 (J:Hp) (v:V):Prop:=∃ (a:Addr) (js:List Int),v=.ref a∧J a=some (.tup (js.map V.int))∧js.length≤26∧Sm (10 ^ 60) js
theorem RV20.tk {J J':Hp} {v:V} (h:RV20 J v) (k:TupKeep J J'):RV20 J' v:=by
 obtain⟨a,js,h1,h2,h3⟩:=h
 exact⟨a,js,h1,k _ _ h2,h3⟩
theorem zj6 {K:PySem.W.Frag} {H:Hp}:∀ {ys:List V},(∀ v ∈ ys,RV20 H v)->∃ W:List (List Int),IsAll K H (W.map tupH) ys∧∀ ws ∈ W,ws.length≤26∧Sm (10 ^ 60) ws
 | [],_=>⟨[],rfl,fun ws h=>by cases h⟩
 | v::ys,h=>by
  obtain⟨W,h1,h2⟩:=zj6 (K:=K) (H:=H) (ys:=ys) fun u hu=>h u (List.mem_cons_of_mem _ hu)
  obtain⟨a,js,rfl,h3,h4⟩:=h v List.mem_cons_self
  refine⟨js::W,⟨_,_,rfl,⟨a,_,rfl,h3,IsAll.ints _⟩,h1⟩,fun ws hw=>?_⟩
  rcases List.mem_cons.mp hw with rfl | hw
  ·exact h4
  ·exact h2 ws hw
inductive spSWays_i (K:PySem.W.Frag) (vs:List V) (H:Hp) (Q:VK):Prop
 | mk:∀ (p wp:Addr) (m:Int) (W:List (List Int)),(vs=[.ref p,.ref wp,.int m])->(Pot H p)->(Is K H (.tuple (W.map tupH)) (.ref wp))->(W.length≤60)->((∀ ws ∈ W,ws.length≤25∧Sm 100 ws))->(1≤m)->(m≤24)->(∀ q (W':List (List Int)) H',But p H H'->Pot H' p->Is K H' (.tuple (W'.map tupH)) (.ref q)->W'.length≤61->(∀ ws ∈ W',ws.length≤26∧Sm (10 ^ 60) ws)->Q (.ref q) H')->spSWays_i K vs H Q
def spSWays (K:PySem.W.Frag):Sp:=fun vs H Q _=>spSWays_i K vs H Q
theorem zcv (T:Bi mg) (D:DefOk K mg "_law_spoilt_ways" s__law_spoilt_ways ["pot","ways","many"]) (O__law_take:Ok P w K mg base 2 "_law_take" ["pot","many"] spTake) (O__law_spoilt_row:Ok P w K mg base 2 "_law_spoilt_row" ["pot","row","many"] (spSRow 25)):Ok P w K mg base 3 "_law_spoilt_ways" ["pot","ways","many"] (spSWays K):=by
 refine za2 (k:=2) D sc__law_spoilt_ways (fun vs H Q E h=>?_) (fun f cdv A outer s H vs Q E hr h=>?_)
 ·obtain⟨p,wp,m,W,rfl,_⟩:=h
  rfl
 obtain⟨p,wp,m,W,rfl,hp,isW,l60,hW,m1,m24,q⟩:=h
 have nd:=sc__law_spoilt_ways.nd
 obtain⟨wp',xs,e',hr0,hxs⟩:=isW
 refine⟨_,(zad (zas (i:=3) nd rfl (Or.inl rfl) (zae O__law_take hr rfl (zaa (pv 0) (zaa zac zab)))) (zad (zas (i:=4) nd rfl (Or.inl rfl) (zae O__law_take hr rfl (zaa (pv 0) (zaa (zar zba (zai zal rfl T.z_len (by decide +kernel) (zaa (pv 1) zab)) zac) zab)))) (zad (za6 (PW.pt (zcl (zan zbb (pv 3) zac (nomark _)) (zbx (zan zbb (zai zal rfl T.z_len (by decide +kernel) (zaa (pv 1) zab)) zac (nomark _))))) (zaf (zaj (zar zbw (zar zbw (za8 zbi (pv 1) zbe (zbj (pv 4))) (za0 (zaa (zam zaw (za7 (zaa (za0 zab) (zaa (za0 (zaa zac zab)) (zaa (za0 (zaa zac (zaa zac zab))) (zaa (za0 (zaa (pv 2) zab)) zab))))) (zae O__law_take hr rfl (zaa (pv 0) (zaa zac zab))) (fun _ _=>rfl)) zab))) (za8 zbi (pv 1) (zbj (pv 4)) zbe)))) zau) (zad (zas (i:=4) nd rfl (Or.inl rfl) (zar zcf (pv 4) (zai zal rfl T.z_len (by decide +kernel) (zaa (pv 1) zab)))) (zad (za6 (zan zbb (pv 3) zac (nomark _)) (zaf (zaj (zar zbw (za8 zbi (pv 1) zbe (zbj (pv 4))) (za8 zbi (pv 1) (zbj (zar zba (pv 4) zac)) zbe)))) zau) (zad (za6 (zan zbb (pv 3) zac (nomark _)) (zaf (zaj (zar zbw (zar zbw (za8 zbi (pv 1) zbe (zbj (pv 4))) (za0 (zaa (zam zao (pv 1) (zae O__law_take hr rfl (zaa (pv 0) (zaa (zai zal rfl T.z_len (by decide +kernel) (zaa (pv 1) zab)) zab))) (fun _ _=>rfl)) zab))) (za8 zbi (pv 1) (zbj (zar zba (pv 4) zac)) zbe)))) zau) (zaf (zaj (zar zbw (zar zbw (za8 zbi (pv 1) zbe (zbj (pv 4))) (za0 (zaa (zae O__law_spoilt_row hr rfl (zaa (pv 0) (zaa (zam zao (pv 1) (pv 4) (fun _ _=>rfl)) (zaa (pv 2) zab)))) zab))) (za8 zbi (pv 1) (zbj (zar zba (pv 4) zac)) zbe)))))))))),?_⟩
 cases e'
 have lx:xs.length=W.length:=by rw[hxs.length,List.length_map]
 have C60:(100:Nat)≤10 ^ 60:=by decide
 have row:∀ v ∈ xs,∃ (a:Addr) (js:List Int),v=.ref a∧H a=some (.tup (js.map V.int))∧js.length≤25∧Sm 100 js:=fun v hv=>by
  obtain⟨i,hi,e⟩:=List.getElem_of_mem hv
  have hiW:i < W.length:=by trivial
  have eW:W[i]?=some W[i]:=List.getElem?_eq_getElem hiW
  obtain⟨v',ev,iv⟩:=hxs.at_ (show (W.map tupH)[i]?=some (tupH W[i]) by rw[List.getElem?_map,eW];rfl)
  rw[List.getElem?_eq_getElem hi,e] at ev
  cases ev
  obtain⟨a,zs,rfl,ha,hzs⟩:=iv
  rw[IsAll.of_ints hzs] at ha
  exact⟨a,W[i],rfl,ha,hW _ (List.getElem_mem hiW)⟩
 have hR:∀ v ∈ xs,RV20 H v:=fun v hv=>by
  obtain⟨a,js,h1,h2,h3,h4⟩:=row v hv
  exact⟨a,js,h1,h2,by trivial,h4.up C60⟩
 have tkb:∀ {J J':Hp},But p J J'->Pot J p->TupKeep J J':=fun b pp=>by
  obtain⟨xs,e⟩:=pp.lst
  exact fun a ys h=>b _ _ (fun z=>by rw[z,e] at h;cases h) h
 have npot:∀ {J:Hp} {b:Addr},Pot J p->J b=none->b≠p:=fun pp hb z=>by
  obtain⟨xs,e⟩:=pp.lst
  rw[z,e] at hb;cases hb
 have sz:∀ {k:Nat},k≤1000->k≤sizeLine:=fun {k} h=>Nat.le_trans h (by decide)
 have fin:∀ {J:Hp} {x:Addr} {vs:List V},But p H J->Pot J p->J x=some (.tup vs)->vs.length≤61->(∀ v ∈ vs,RV20 J v)->Q (.ref x) J:=fun {J x vs} b pp e l h=>by
  obtain⟨W',h1,h2⟩:=zj6 (K:=K) h
  exact q x W' J b pp ⟨x,vs,rfl,e,h1⟩ (by have:=h1.length;rw[List.length_map] at this;trivial) h2
 refine⟨_,rfl,p,6,rfl,hp,by decide,by decide,fun way H1 w0 w1 b1 p1=>?_⟩
 have r1:=tkb b1 hp _ _ hr0
 refine⟨_,rfl,_,rfl,wp,_,rfl,.inr (SqT.of r1),_,_,rfl,rfl,p,_,rfl,p1,by trivial,by trivial,fun at_ H2 a0 a1 b2 p2=>?_⟩
 have r2:=tkb b2 p1 _ _ r1
 have b02:=b1.trans b2
 have tk02:TupKeep H H2:=tkb b02 hp
 obtain⟨k,rfl⟩:∃ k:Nat,at_=k:=⟨at_.toNat,by trivial⟩
 refine⟨_,rfl,rfl,_,rfl,?_⟩
 rw[zbu]
 by_cases c0:way=0
 ·rw[decide_eq_true c0]
  refine iteT ?_
  refine⟨_,rfl,_,rfl,_,rfl,wp,_,rfl,r2,fun x1 J1 S1 g1=>?_⟩
  have q1:=p2.same S1
  refine⟨(by show 0≤1000;decide),fun t0 J2 T2 f2 g2=>⟨(by show 1≤1000;decide),fun t1 J3 T3 f3 g3=>⟨(by show 2≤1000;decide),fun t2 J4 T4 f4 g4=>⟨_,rfl,(by show 1≤1000;decide),fun t3 J5 T5 f5 g5=>⟨(by show 4≤1000;decide),fun lf J6 T6 f6 g6=>?_⟩⟩⟩⟩⟩
  have S16:=T2.trans (T3.trans (T4.trans (T5.trans T6)))
  have q6:=q1.same S16
  have nlf:=npot (q1.same (T2.trans (T3.trans (T4.trans T5)))) f6
  refine⟨_,rfl,p,4,rfl,q6,by decide,by decide,fun r J7 r0 r01 b7 q7=>?_⟩
  have tk7:=tkb b7 q6
  obtain⟨v,ev,hv⟩:∃ v:V,atI [V.ref t0,.ref t1,.ref t2,.ref t3] r=some v∧RV20 J7 v:=by
   have:r=0∨r=1∨r=2∨r=3:=by trivial
   rcases this with rfl | rfl | rfl | rfl
   ·exact⟨_,rfl,t0,[],rfl,tk7 _ _ ((T3.trans (T4.trans (T5.trans T6))) _ _ g2),by decide,fun i h=>by cases h⟩
   ·exact⟨_,rfl,t1,[0],rfl,tk7 _ _ ((T4.trans (T5.trans T6)) _ _ g3),by decide,Sm.one (by decide)⟩
   ·exact⟨_,rfl,t2,[0,1],rfl,tk7 _ _ ((T5.trans T6) _ _ g4),by decide,Sm.app (a:=[0]) (Sm.one (by decide)) (Sm.one (by decide))⟩
   ·exact⟨_,rfl,t3,[m],rfl,tk7 _ _ (T6 _ _ g5),by simp,Sm.one (Nat.lt_of_lt_of_le (show m.natAbs < 100 by trivial) (by decide))⟩
  refine⟨lf,_,_,_,rfl,rfl,SqL.of (b7 _ _ nlf g6),ev,(by show 1≤1000;decide),fun x2 J8 S8 f8 g8=>?_⟩
  refine⟨x1,x2,_,_,rfl,rfl,S8 _ _ (tk7 _ _ (S16 _ _ g1)),g8,sz (by have:=(zkp xs none (some (k:Int))).1;show _ + 1≤1000;trivial),fun x3 J9 S9 g9=>?_⟩
  have S89:=S8.trans S9
  refine⟨_,rfl,_,rfl,_,rfl,wp,_,rfl,S89 _ _ (tk7 _ _ (S16 _ _ (S1 _ _ r2))),fun x4 K1 U1 h1=>?_⟩
  rw[zg1] at g9
  rw[zci] at h1
  refine⟨x3,x4,_,_,rfl,rfl,U1 _ _ g9,h1,sz (by rw[List.length_append,List.length_take,List.length_drop,List.length_singleton];trivial),fun x5 K2 U2 h2=>?_⟩
  have S8U:=S89.trans (U1.trans U2)
  have tkA:TupKeep H K2:=fun a ys e=>S8U _ _ (tk7 _ _ (S16 _ _ (S1 _ _ (tk02 _ _ e))))
  exact fin (b02.trans ((Same.but (S1.trans S16)).trans (b7.trans (Same.but S8U)))) (q7.same S8U) h2 (by rw[List.length_append,List.length_append,List.length_take,List.length_drop,List.length_singleton];trivial) fun u hu=>by
   rcases List.mem_append.mp hu with hu | hu
   ·rcases List.mem_append.mp hu with hu | hu
    ·exact (hR u (List.mem_of_mem_take hu)).tk tkA
    ·rw[List.mem_singleton.mp hu];exact hv.tk fun a ys e=>S8U _ _ e
   ·exact (hR u (List.mem_of_mem_drop hu)).tk tkA
 rw[decide_eq_false c0]
 refine iteF ⟨_,rfl,wp,_,rfl,.inr (SqT.of r2),rfl,_,rfl,?_⟩
 rw[zbu]
 by_cases cz:xs.length=0
 ·rw[decide_eq_true (show ((xs.length:Nat):Int)=0 by trivial)]
  refine iteT ?_
  refine⟨_,rfl,_,rfl,_,rfl,wp,_,rfl,r2,fun x1 J1 S1 g1=>?_⟩
  have q1:=p2.same S1
  refine⟨(by show 0≤1000;decide),fun t0 J2 T2 f2 g2=>⟨(by show 1≤1000;decide),fun t1 J3 T3 f3 g3=>⟨(by show 2≤1000;decide),fun t2 J4 T4 f4 g4=>⟨_,rfl,(by show 1≤1000;decide),fun t3 J5 T5 f5 g5=>⟨(by show 4≤1000;decide),fun lf J6 T6 f6 g6=>?_⟩⟩⟩⟩⟩
  have S16:=T2.trans (T3.trans (T4.trans (T5.trans T6)))
  have q6:=q1.same S16
  have nlf:=npot (q1.same (T2.trans (T3.trans (T4.trans T5)))) f6
  refine⟨_,rfl,p,4,rfl,q6,by decide,by decide,fun r J7 r0 r01 b7 q7=>?_⟩
  have tk7:=tkb b7 q6
  obtain⟨v,ev,hv⟩:∃ v:V,atI [V.ref t0,.ref t1,.ref t2,.ref t3] r=some v∧RV20 J7 v:=by
   have:r=0∨r=1∨r=2∨r=3:=by trivial
   rcases this with rfl | rfl | rfl | rfl
   ·exact⟨_,rfl,t0,[],rfl,tk7 _ _ ((T3.trans (T4.trans (T5.trans T6))) _ _ g2),by decide,fun i h=>by cases h⟩
   ·exact⟨_,rfl,t1,[0],rfl,tk7 _ _ ((T4.trans (T5.trans T6)) _ _ g3),by decide,Sm.one (by decide)⟩
   ·exact⟨_,rfl,t2,[0,1],rfl,tk7 _ _ ((T5.trans T6) _ _ g4),by decide,Sm.app (a:=[0]) (Sm.one (by decide)) (Sm.one (by decide))⟩
   ·exact⟨_,rfl,t3,[m],rfl,tk7 _ _ (T6 _ _ g5),by simp,Sm.one (Nat.lt_of_lt_of_le (show m.natAbs < 100 by trivial) (by decide))⟩
  refine⟨lf,_,_,_,rfl,rfl,SqL.of (b7 _ _ nlf g6),ev,(by show 1≤1000;decide),fun x2 J8 S8 f8 g8=>?_⟩
  refine⟨x1,x2,_,_,rfl,rfl,S8 _ _ (tk7 _ _ (S16 _ _ g1)),g8,sz (by have:=(zkp xs none (some (k:Int))).1;show _ + 1≤1000;trivial),fun x3 J9 S9 g9=>?_⟩
  have S89:=S8.trans S9
  refine⟨_,rfl,_,rfl,_,rfl,wp,_,rfl,S89 _ _ (tk7 _ _ (S16 _ _ (S1 _ _ r2))),fun x4 K1 U1 h1=>?_⟩
  rw[zg1] at g9
  rw[zci] at h1
  refine⟨x3,x4,_,_,rfl,rfl,U1 _ _ g9,h1,sz (by rw[List.length_append,List.length_take,List.length_drop,List.length_singleton];trivial),fun x5 K2 U2 h2=>?_⟩
  have S8U:=S89.trans (U1.trans U2)
  have tkA:TupKeep H K2:=fun a ys e=>S8U _ _ (tk7 _ _ (S16 _ _ (S1 _ _ (tk02 _ _ e))))
  exact fin (b02.trans ((Same.but (S1.trans S16)).trans (b7.trans (Same.but S8U)))) (q7.same S8U) h2 (by rw[List.length_append,List.length_append,List.length_take,List.length_drop,List.length_singleton];trivial) fun u hu=>by
   rcases List.mem_append.mp hu with hu | hu
   ·rcases List.mem_append.mp hu with hu | hu
    ·exact (hR u (List.mem_of_mem_take hu)).tk tkA
    ·rw[List.mem_singleton.mp hu];exact hv.tk fun a ys e=>S8U _ _ e
   ·exact (hR u (List.mem_of_mem_drop hu)).tk tkA
 rw[decide_eq_false (show ¬ ((xs.length:Nat):Int)=0 by trivial)]
 refine iteF ?_
 refine⟨_,rfl,_,rfl,wp,_,rfl,.inr (SqT.of r2),_,_,rfl,rfl,(by trivial),?_⟩
 obtain⟨j,ej⟩:∃ j:Nat,((k:Int) % ((xs.length:Nat):Int))=j:=⟨k % xs.length,rfl⟩
 have hj:j < xs.length:=by
  have h1:=Int.emod_lt_of_pos (k:Int) (show (0:Int) < ((xs.length:Nat):Int) by trivial)
  trivial
 show gName 4 (V.int ((k:Int) % ((xs.length:Nat):Int))) _ _ _
 rw[ej]
 have cutA:cutV xs none (some (j:Int))=xs.take j:=zg1 _ _
 have cutC:cutV xs (some ((j:Int) + 1)) none=xs.drop (j + 1):=by rw[show (j:Int) + 1=((j + 1:Nat):Int) from rfl,zci]
 have atj:atI xs (j:Int)=some xs[j]:=zap (Int.natCast_nonneg _) (by rw[Int.toNat_natCast];exact List.getElem?_eq_getElem hj)
 refine⟨_,rfl,rfl,_,rfl,ite2 (fun c=>?_) (fun c=>?_)⟩
 ·refine⟨_,rfl,_,rfl,_,rfl,wp,_,rfl,r2,fun x1 J1 S1 g1=>?_⟩
  rw[cutA] at g1
  refine⟨_,rfl,_,rfl,_,_,rfl,rfl,_,rfl,wp,_,rfl,S1 _ _ r2,fun x4 J5 S5 g5=>?_⟩
  rw[cutC] at g5
  refine⟨x1,x4,_,_,rfl,rfl,S5 _ _ g1,g5,sz (by rw[List.length_take,List.length_drop];trivial),fun x5 J6 S6 g6=>?_⟩
  have S16:=S1.trans (S5.trans S6)
  have tkA:TupKeep H J6:=fun a ys e=>S16 _ _ (tk02 _ _ e)
  exact fin (b02.trans (Same.but S16)) (p2.same S16) g6 (by rw[List.length_append,List.length_take,List.length_drop];trivial) fun u hu=>by
   rcases List.mem_append.mp hu with hu | hu
   ·exact (hR u (List.mem_of_mem_take hu)).tk tkA
   ·exact (hR u (List.mem_of_mem_drop hu)).tk tkA
 refine⟨_,rfl,rfl,_,rfl,ite2 (fun c=>?_) (fun c=>?_)⟩
 ·refine⟨_,rfl,_,rfl,_,rfl,wp,_,rfl,r2,fun x1 J1 S1 g1=>?_⟩
  rw[cutA] at g1
  have q1:=p2.same S1
  refine⟨_,rfl,_,rfl,_,rfl,wp,_,rfl,.inr (SqT.of (S1 _ _ r2)),p,_,rfl,q1,by trivial,by trivial,fun r J7 r0 r01 b7 q7=>?_⟩
  have tk7:=tkb b7 q1
  have hr9:r.toNat < xs.length:=by trivial
  refine⟨wp,_,_,_,rfl,rfl,SqT.of (tk7 _ _ (S1 _ _ r2)),zap r0 (List.getElem?_eq_getElem hr9),(by show 1≤1000;decide),fun x2 J8 S8 f8 g8=>?_⟩
  refine⟨x1,x2,_,_,rfl,rfl,S8 _ _ (tk7 _ _ g1),g8,sz (by rw[List.length_take];show _ + 1≤1000;trivial),fun x3 J9 S9 g9=>?_⟩
  have S89:=S8.trans S9
  refine⟨_,rfl,_,rfl,_,_,rfl,rfl,_,rfl,wp,_,rfl,S89 _ _ (tk7 _ _ (S1 _ _ r2)),fun x4 K1 U1 h1=>?_⟩
  rw[cutC] at h1
  refine⟨x3,x4,_,_,rfl,rfl,U1 _ _ g9,h1,sz (by rw[List.length_append,List.length_take,List.length_drop,List.length_singleton];trivial),fun x5 K2 U2 h2=>?_⟩
  have S8U:=S89.trans (U1.trans U2)
  have tkA:TupKeep H K2:=fun a ys e=>S8U _ _ (tk7 _ _ (S1 _ _ (tk02 _ _ e)))
  exact fin (b02.trans ((Same.but S1).trans (b7.trans (Same.but S8U)))) (q7.same S8U) h2 (by rw[List.length_append,List.length_append,List.length_take,List.length_drop,List.length_singleton];trivial) fun u hu=>by
   rcases List.mem_append.mp hu with hu | hu
   ·rcases List.mem_append.mp hu with hu | hu
    ·exact (hR u (List.mem_of_mem_take hu)).tk tkA
    ·rw[List.mem_singleton.mp hu];exact (hR _ (List.getElem_mem hr9)).tk tkA
   ·exact (hR u (List.mem_of_mem_drop hu)).tk tkA
 refine⟨_,rfl,_,rfl,_,rfl,wp,_,rfl,r2,fun x1 J1 S1 g1=>?_⟩
 rw[cutA] at g1
 have q1:=p2.same S1
 obtain⟨ra,js,er,hra,ljs,sjs⟩:=row xs[j] (List.getElem_mem hj)
 rw[er] at atj
 refine⟨_,rfl,_,rfl,_,rfl,wp,_,_,_,rfl,rfl,SqT.of (S1 _ _ r2),atj,_,rfl,p,ra,m,js,rfl,q1,S1 _ _ (tk02 _ _ hra),ljs,m1,m24,sjs.up (by decide),fun qr js' J7 b7 q7 e7 l7 s7=>⟨(by show 1≤1000;decide),fun x2 J8 S8 f8 g8=>?_⟩⟩
 have tk7:=tkb b7 q1
 refine⟨x1,x2,_,_,rfl,rfl,S8 _ _ (tk7 _ _ g1),g8,sz (by rw[List.length_take];show _ + 1≤1000;trivial),fun x3 J9 S9 g9=>?_⟩
 have S89:=S8.trans S9
 refine⟨_,rfl,_,rfl,_,_,rfl,rfl,_,rfl,wp,_,rfl,S89 _ _ (tk7 _ _ (S1 _ _ r2)),fun x4 K1 U1 h1=>?_⟩
 rw[cutC] at h1
 refine⟨x3,x4,_,_,rfl,rfl,U1 _ _ g9,h1,sz (by rw[List.length_append,List.length_take,List.length_drop,List.length_singleton];trivial),fun x5 K2 U2 h2=>?_⟩
 have S8U:=S89.trans (U1.trans U2)
 have tkA:TupKeep H K2:=fun a ys e=>S8U _ _ (tk7 _ _ (S1 _ _ (tk02 _ _ e)))
 exact fin (b02.trans ((Same.but S1).trans (b7.trans (Same.but S8U)))) (q7.same S8U) h2 (by rw[List.length_append,List.length_append,List.length_take,List.length_drop,List.length_singleton];trivial) fun u hu=>by
  rcases List.mem_append.mp hu with hu | hu
  ·rcases List.mem_append.mp hu with hu | hu
   ·exact (hR u (List.mem_of_mem_take hu)).tk tkA
   ·rw[List.mem_singleton.mp hu];exact⟨qr,js',rfl,S8U _ _ e7,by trivial,s7⟩
  ·exact (hR u (List.mem_of_mem_drop hu)).tk tkA
inductive spSpo20_i (K:PySem.W.Frag) (vs:List V) (H:Hp) (Q:VK):Prop
 | mk:∀ (p:Addr) (n:Int) (ts:List Tie) (wv:V) (a:Addr) (u:Ppr),(vs=[.ref p,wv,.ref a])->(Pot H p)->(Is K H (webD n ts) wv)->(WebOk n ts)->(Is K H u.d (.ref a))->(sml0 u)->((∀ k hs,u=.far k hs->1≤ts.length))->(∀ (b:Addr) (u':Ppr) H',But p H H'->Pot H' p->Is K H' u'.d (.ref b)->u'.sml->Q (.ref b) H')->spSpo20_i K vs H Q
def spSpo20 (K:PySem.W.Frag):Sp:=fun vs H Q _=>spSpo20_i K vs H Q
theorem zef (T:Bi mg) (D:DefOk K mg "_law_spoilt" s__law_spoilt ["pot","web","told"]) (O__law_take:Ok P w K mg base 3 "_law_take" ["pot","many"] spTake) (O__law_spoilt_ways:Ok P w K mg base 3 "_law_spoilt_ways" ["pot","ways","many"] (spSWays K)) (O__law_spoilt_row:Ok P w K mg base 3 "_law_spoilt_row" ["pot","row","many"] (spSRow 25)):Ok P w K mg base 4 "_law_spoilt" ["pot","web","told"] (spSpo20 K):=by
 refine za2 (k:=3) D sc__law_spoilt (fun vs H Q E h=>?_) (fun f cdv A outer s H vs Q E hr h=>?_)
 ·obtain⟨p,n,ts,wv,a,u,rfl,_⟩:=h
  rfl
 obtain⟨p,n,ts,wv,a,u,rfl,hp,isw,ok,isu,sm,hfar,q⟩:=h
 have nd:=sc__law_spoilt.nd
 have n1:=ok.n1
 have n24:=ok.n24
 have few60:=ok.few
 have tkb:∀ {J J':Hp},But p J J'->Pot J p->TupKeep J J':=fun b pp=>by
  obtain⟨xs,e⟩:=pp.lst
  exact fun a ys h=>b _ _ (fun z=>by rw[z,e] at h;cases h) h
 have npot:∀ {J:Hp} {b:Addr},Pot J p->J b=none->b≠p:=fun pp hb z=>by
  obtain⟨xs,e⟩:=pp.lst
  rw[z,e] at hb;cases hb
 obtain⟨g0,g,ws,rfl,hg0,hg,hall,hlw⟩:=zax isw
 refine⟨_,(zad (za6 (zan zbb (zam zao (pv 2) zac (fun _ _=>rfl)) zdo (nomark _)) (zaf (zaj (za0 (zaa zdo (zaa (zae O__law_spoilt_ways hr rfl (zaa (pv 0) (zaa (zam zao (pv 2) zac (fun _ _=>rfl)) (zaa (zam zao (pv 1) zac (fun _ _=>rfl)) zab)))) zab))))) zau) (zad (zbc (pv 2) (zbk (n:=3) rfl (zah (zag (i:=3) nd rfl (Or.inl rfl)) (zah (zag (i:=4) nd rfl (Or.inl rfl)) (zah (zag (i:=5) nd rfl (Or.inl rfl)) za4))))) (zad (za6 (zan zeb (zae O__law_take hr rfl (zaa (pv 0) (zaa zac zab))) zac (nomark _)) (zaf (zaj (za0 (zaa (pv 3) (zaa (pv 4) (zaa (zae O__law_spoilt_row hr rfl (zaa (pv 0) (zaa (pv 5) (zaa (zam zao (pv 1) zac (fun _ _=>rfl)) zab)))) zab)))))) zau) (zad (zas (i:=6) nd rfl (Or.inl rfl) (zai zal rfl T.z_len (by decide +kernel) (zaa (zam zao (pv 1) zac (fun _ _=>rfl)) zab))) (zad (zas (i:=7) nd rfl (Or.inl rfl) (za7 (zaa (zar zba (pv 4) zac) (zaa (zar zb4 (pv 4) zac) (zaa (zd1 zcd zac) (zaa (pv 6) (zaa (zar zb4 (pv 4) (pv 6)) (zaa (zar zby zac zac) (zaa (zae O__law_take hr rfl (zaa (pv 0) (zaa (pv 6) zab))) zab))))))))) (zaf (zaj (za0 (zaa (pv 3) (zaa (zam zaw (pv 7) (zae O__law_take hr rfl (zaa (pv 0) (zaa zac zab))) (fun _ _=>rfl)) (zaa (pv 5) zab))))))))))),?_⟩
 cases u with
 | keeps W =>
  obtain⟨a',vs,e',ha,v1,r1,rfl,h1,v2,r2,rfl,h2,h3⟩:=isu
  cases e'
  obtain rfl:v1=.str "keeps":=h1
  obtain rfl:r2=[]:=h3
  obtain⟨tw,zs,rfl,htw,hzs⟩:=id h2
  refine⟨_,rfl,a,_,_,_,rfl,rfl,SqT.of ha,rfl,rfl,_,rfl,iteT ?_⟩
  refine⟨_,rfl,_,rfl,a,_,_,_,rfl,rfl,SqT.of ha,rfl,_,rfl,g0,_,_,_,rfl,rfl,SqT.of hg0,rfl,p,tw,n,W,rfl,hp,h2,sm.1,sm.2,n1,n24,fun qa W' J1 b1 p1 e1 l1 s1=>⟨(by show 2≤1000;decide),fun b J2 S2 f2 e2=>?_⟩⟩
  exact q b (.keeps W') J2 (b1.trans (Same.but S2)) (p1.same S2) ⟨b,_,rfl,e2,_,_,rfl,rfl,_,_,rfl,Is.same S2 _ e1,rfl⟩ ⟨by trivial,fun ws hw=>⟨by have:=(s1 ws hw).1;trivial,(s1 ws hw).2⟩⟩
 | far k hs =>
  obtain⟨a',vs,e',ha,v1,r1,rfl,h1,v2,r2,rfl,h2,v3,r3,rfl,h3,h4⟩:=isu
  cases e'
  obtain rfl:v1=.str "far":=h1
  obtain rfl:v2=.int k:=h2
  obtain rfl:r3=[]:=h4
  obtain⟨tw,zs,rfl,htw,hzs⟩:=h3
  rw[IsAll.of_ints hzs] at htw
  obtain⟨sk,sl,ss⟩:=sm
  have m1:=hfar k hs rfl
  refine⟨_,rfl,a,_,_,_,rfl,rfl,SqT.of ha,rfl,rfl,_,rfl,iteF ?_⟩
  refine⟨_,rfl,a,_,rfl,SqT.of ha,rfl,_,_,rfl,_,_,rfl,_,_,rfl,rfl,?_⟩
  refine⟨_,rfl,p,4,rfl,hp,by decide,by decide,fun r J1 r0 r1 b1 p1=>⟨_,_,rfl,rfl,_,rfl,ite2 (fun c=>?_) (fun c=>?_)⟩⟩
  ·have tk1:=tkb b1 hp
   refine⟨_,rfl,_,rfl,_,rfl,_,rfl,_,rfl,g0,_,_,_,rfl,rfl,SqT.of (tk1 _ _ hg0),rfl,p,tw,n,hs,rfl,p1,tk1 _ _ htw,by trivial,n1,n24,ss.up (by decide),fun qa js J2 b2 p2 e2 l2 s2=>⟨(by show 3≤1000;decide),fun b J3 S3 f3 e3=>?_⟩⟩
   exact q b (.far k js) J3 (b1.trans (b2.trans (Same.but S3))) (p2.same S3) ⟨b,_,rfl,e3,_,_,rfl,rfl,_,_,rfl,rfl,_,_,rfl,⟨qa,_,rfl,S3 _ _ e2,IsAll.ints _⟩,rfl⟩ ⟨Nat.lt_of_lt_of_le sk (by decide),by trivial,s2⟩
  ·have tk1:=tkb b1 hp
   refine⟨_,rfl,g0,_,_,_,rfl,rfl,SqT.of (tk1 _ _ hg0),rfl,g,_,rfl,.inr (SqT.of (tk1 _ _ hg)),?_⟩
   refine⟨_,rfl,_,_,rfl,rfl,_,rfl,_,_,rfl,rfl,_,rfl,_,rfl,_,rfl,_,rfl,_,_,rfl,rfl,_,_,rfl,rfl,⟨by decide,by decide,by decide⟩,_,rfl,_,rfl,p,_,rfl,p1,by trivial,by trivial,fun r2 J2 r20 r21 b2 p2=>⟨(by show 7≤1000;decide),fun ls J3 S3 f3 e3=>?_⟩⟩
   have p3:=p2.same S3
   refine⟨_,rfl,_,rfl,_,rfl,p,7,rfl,p3,by decide,by decide,fun r4 J4 r40 r41 b4 p4=>?_⟩
   obtain⟨x,ex,hx⟩:∃ x:Int,atI [V.int (k + 1),.int (k - 1),.int (-1),.int ((ws.length:Nat):Int),.int (k - ((ws.length:Nat):Int)),.int (10 ^ (30:Int).toNat),.int r2] r4=some (.int x)∧x.natAbs < 10 ^ 60:=by
    have:r4=0∨r4=1∨r4=2∨r4=3∨r4=4∨r4=5∨r4=6:=by trivial
    rcases this with rfl | rfl | rfl | rfl | rfl | rfl | rfl
    ·exact⟨_,rfl,by trivial⟩
    ·exact⟨_,rfl,by trivial⟩
    ·exact⟨_,rfl,by decide⟩
    ·exact⟨_,rfl,by trivial⟩
    ·exact⟨_,rfl,by trivial⟩
    ·exact⟨_,rfl,by decide⟩
    ·exact⟨_,rfl,by trivial⟩
   refine⟨ls,_,_,_,rfl,rfl,SqL.of (b4 _ _ (npot p2 f3) e3),ex,_,rfl,(by show 3≤1000;decide),fun b J5 S5 f5 e5=>?_⟩
   have tk4:TupKeep H J5:=fun a ys e=>S5 _ _ (tkb b4 p3 _ _ (S3 _ _ (tkb b2 p1 _ _ (tk1 _ _ e))))
   exact q b (.far x hs) J5 (b1.trans (b2.trans ((Same.but S3).trans (b4.trans (Same.but S5))))) (p4.same S5) ⟨b,_,rfl,e5,_,_,rfl,rfl,_,_,rfl,rfl,_,_,rfl,⟨tw,_,rfl,tk4 _ _ htw,IsAll.ints _⟩,rfl⟩ ⟨hx,by trivial,ss.up (by decide)⟩
theorem zom {A:List (Nat × Nat × Int)} {s:Nat} (P:Far.Pos A):Far.Dst A s s (some 0):=⟨fun y h=>by cases h;exact .nil,fun L w=>⟨0,rfl,Far.Walk.nonneg P w⟩⟩
theorem zpk {A:List Far.Arc} {a b:Nat} {ws:List Nat} (m:Far.MinW A a b ws):(keepI ws).getD 0 0=(a:Int)∧(keepI ws).getD ((keepI ws).length - 1) 0=(b:Int):=by
 obtain⟨S0,x0,y0,rt,_⟩:=m
 obtain⟨q0,eq0⟩:=rt.head
 obtain⟨q9,eq9⟩:=rt.foot
 constructor
 ·rw[eq0];rfl
 ·have l9:(keepI ws).length=q9.length + 1:=by unfold keepI;rw[List.length_map,eq9,List.length_append,List.length_singleton]
  rw[l9,Nat.add_sub_cancel,List.getD_eq_getElem?_getD]
  unfold keepI
  rw[List.getElem?_map,eq9,List.getElem?_append_right (Nat.le_refl _),Nat.sub_self];rfl
theorem zn5 {n:Int} {ts:List Tie} {ks:List Nat} {ws:List Int} {x:Int} (n24:n≤24) (h:rightI n ts ks ws=some x):Sm 100 ws:=by
 unfold rightI at h
 split at h
 ·rename_i c
  intro i hi
  have:=List.all_eq_true.mp c.2 i hi
  rw[Bool.and_eq_true,decide_eq_true_iff,decide_eq_true_iff] at this
  trivial
 ·cases h
noncomputable def wayR (ts:List Tie) (ks:List Nat) (k:Nat):List Int:=match wyT ts ks k with
 | some ws=>keepI ws
 | none=>[]
theorem znx {n:Int} {ts:List Tie} {ks:List Nat} {t:Int} (ok:WebOk n ts) (ko:KeepOk ts.length ks) {k:Nat} (hk:k < ts.length) (hw:withinB t (tieAt ts k).2.2 (gO ts ks k)=true):wyD (wyT ts ks k)=tupH (wayR ts ks k)∧(wayR ts ks k).length≤25∧Sm 100 (wayR ts ks k)∧goodW n ts ks t k (wayR ts ks k)=true:=by
 have tk:=ok.tie _ (zay hk).2
 have n24:=ok.n24
 cases eg:gO ts ks k with
 | none=>rw[eg] at hw;cases hw
 | some y =>
  rw[eg] at hw
  have hy:y≤t * (tieAt ts k).2.2:=of_decide_eq_true hw
  obtain⟨ws,e1,l24,mw,tr⟩:=znv ok ko hk eg
  have er:=zho ok ko (by trivial) mw tr
  have ew:wayR ts ks k=keepI ws:=by unfold wayR;rw[e1]
  have lk:(keepI ws).length=ws.length:=List.length_map _
  rw[ew]
  refine⟨by rw[e1];rfl,by trivial,zn5 n24 er,?_⟩
  obtain⟨h1,h2⟩:=zpk mw
  unfold goodW leadsI
  rw[er,h1,h2,Int.toNat_of_nonneg (by trivial),Int.toNat_of_nonneg (by trivial)]
  simp [hy]
theorem zn3 {n:Int} {ts:List Tie} {ks:List Nat} {t:Int} {d:PyData} (ok:WebOk n ts) (ko:KeepOk ts.length ks) (t1:1≤t) (t99:t≤99) (h:TdD n ts ks t d):∃ u:Ppr,u.d=d∧sml0 u∧u.right n ts ks t=true∧∀ k hs,u=.far k hs->1≤ts.length:=by
 have few60:=ok.few
 have lo:=zc1 ts.length ks
 have n24:=ok.n24
 cases h with
 | keeps al =>
  have hg:∀ k ∈ outs ts.length ks,_:=fun k hk=>znx (t:=t) ok ko (outs_mem.mp hk).1 (al k hk)
  refine⟨.keeps ((outs ts.length ks).map (wayR ts ks)),?_,⟨by rw[List.length_map];trivial,fun ws hw=>?_⟩,?_,fun k hs z=>by cases z⟩
  ·show PyData.tuple [.str "keeps",.tuple (((outs ts.length ks).map (wayR ts ks)).map tupH)]=_
   rw[List.map_map]
   refine congrArg (fun z=>PyData.tuple [.str "keeps",.tuple z]) (List.map_congr_left fun k hk=>?_)
   exact (hg k hk).1.symm
  ·obtain⟨k,hk,rfl⟩:=List.mem_map.mp hw
   exact⟨(hg k hk).2.1,(hg k hk).2.2.1⟩
  ·show waysB n ts ks t _=true
   unfold waysB
   rw[Bool.and_eq_true]
   refine⟨decide_eq_true (List.length_map _),List.all_eq_true.mpr fun i hi=>?_⟩
   have hi':=List.mem_range.mp hi
   have e:(outs ts.length ks)[i]?=some (outs ts.length ks)[i]:=List.getElem?_eq_getElem hi'
   rw[List.getD_eq_getElem?_getD,List.getD_eq_getElem?_getD,List.getElem?_map,e]
   exact (hg _ (List.getElem_mem hi')).2.2.2
 | @far i k f0 =>
  have hk:=outs_mem.mp (List.mem_of_getElem? f0.1)
  have tk:=ok.tie _ (zay hk.1).2
  have n1:=ok.n1
  have ap:=zc9 ok ko
  have h0:0≤t * (tieAt ts k).2.2:=Int.mul_nonneg (by trivial) (by trivial)
  have h1:t * (tieAt ts k).2.2≤99 * (tieAt ts k).2.2:=Int.mul_le_mul_of_nonneg_right t99 (by trivial)
  have dd:=fun v (_:v < n.toNat)=>zm8 ok ko (tieAt ts k).1.toNat v
  have cap0:∀ v,0≤capO (t * (tieAt ts k).2.2 + 1) (dK ts ks (tieAt ts k).1.toNat v)∧capO (t * (tieAt ts k).2.2 + 1) (dK ts ks (tieAt ts k).1.toNat v)≤t * (tieAt ts k).2.2 + 1:=fun v=>by
   have dv:=zm8 ok ko (tieAt ts k).1.toNat v
   cases e:dK ts ks (tieAt ts k).1.toNat v with
   | none=>exact⟨by show 0≤t * (tieAt ts k).2.2 + 1;trivial,Int.le_refl _⟩
   | some x =>
    have x0:=Far.Walk.nonneg ap (dv.1 x e)
    show 0≤(if _ < x then _ else x)∧(if _ < x then _ else x)≤_
    split <;> trivial
  have hat:∀ v,v < n.toNat->hAt (htK n ts ks t k) (v:Int)=capO (t * (tieAt ts k).2.2 + 1) (dK ts ks (tieAt ts k).1.toNat v):=fun v hv=>by
   unfold hAt htK
   rw[Int.toNat_natCast,List.getD_eq_getElem?_getD,List.getElem?_map,zm9 hv];rfl
  refine⟨.far k (htK n ts ks t k),rfl,⟨by trivial,by rw[zp7];trivial,fun j hj=>?_⟩,?_,fun _ _ _=>by have:=hk.1;trivial⟩
  ·unfold htK dKL at hj
   obtain⟨o,ho,rfl⟩:=List.mem_map.mp hj
   obtain⟨v,_,rfl⟩:=List.mem_map.mp ho
   have:=cap0 v
   trivial
  ·show farB n ts ks t (k:Int) _=true
   unfold farB beyondI
   have hold:holdB n ts ks (htK n ts ks t k)=true:=zoy ok ko (zju n ts ks _) fun v hv=>by rw[zqd hv];exact dd v hv
   rw[hold,Int.toNat_natCast,decide_eq_true (Int.natCast_nonneg k),decide_eq_true (show (k:Int) < (ts.length:Int) by have:=hk.1;trivial),decide_eq_false hk.2]
   show decide (acrossI ts (htK n ts ks t k) k > t * (tieAt ts k).2.2)=true
   refine decide_eq_true ?_
   unfold acrossI absI
   have ea:(tieAt ts k).1=((tieAt ts k).1.toNat:Int):=(Int.toNat_of_nonneg (by trivial)).symm
   have eb:(tieAt ts k).2.1=((tieAt ts k).2.1.toNat:Int):=(Int.toNat_of_nonneg (by trivial)).symm
   have va:hAt (htK n ts ks t k) (tieAt ts k).1=0:=by
    rw[ea,hat _ (by trivial)]
    have:=zqc ok ko (u:=(tieAt ts k).1.toNat) (v:=(tieAt ts k).1.toNat) (o:=some 0) (zom ap)
    rw[← this]
    show (if t * (tieAt ts k).2.2 + 1 < 0 then _ else (0:Int))=0
    rw[if_neg (by trivial)]
   have vb:hAt (htK n ts ks t k) (tieAt ts k).2.1 > t * (tieAt ts k).2.2:=by
    rw[eb,hat _ (by trivial)]
    have nw:=f0.2.1
    unfold winK at nw
    have e:=zqc ok ko (zo6 ok ko k)
    rw[e] at nw
    cases ed:dK ts ks (tieAt ts k).1.toNat (tieAt ts k).2.1.toNat with
    | none=>show t * (tieAt ts k).2.2 + 1 > _;trivial
    | some x =>
     rw[ed] at nw
     have:¬ x≤t * (tieAt ts k).2.2:=fun z=>nw (decide_eq_true z)
     show (if _ < x then _ else x) > _
     split <;> trivial
   rw[va]
   split <;> trivial
inductive spLaw_i (K:PySem.W.Frag) (vs:List V) (H:Hp) (Q:VK):Prop
 | mk:∀ (a:Addr) (ns:List Int),(vs=[.ref a])->(SqL K H a (ns.map V.int))->(ns.length≤63)->(∀ H',Q (.bl true) H')->spLaw_i K vs H Q
def spLaw (K:PySem.W.Frag):Sp:=fun vs H Q _=>spLaw_i K vs H Q
theorem zo3 {u:Ppr} (h:sml0 u):u.sml:=by
 cases u with
 | keeps W=>exact⟨by have:=h.1;trivial,fun ws hw=>⟨by have:=(h.2 ws hw).1;trivial,(h.2 ws hw).2.up (by decide)⟩⟩
 | far k hs=>exact⟨Nat.lt_of_lt_of_le h.1 (by decide),by have:=h.2.1;trivial,h.2.2.up (by decide)⟩
theorem zen (u:Ppr):tupD u.d=true:=by
 cases u with
 | keeps W =>
  show (true && ((tupAll (W.map tupH)) && true))=true
  have:∀ W:List (List Int),tupAll (W.map tupH)=true:=fun W=>by
   induction W with
   | nil=>rfl
   | cons ws W ih =>
    show (tupD (tupH ws) && tupAll (W.map tupH))=true
    rw[ih,show tupD (tupH ws)=true from zek _];rfl
  rw[this];rfl
 | far k hs =>
  show (true && (true && (tupD (tupH hs) && true)))=true
  rw[show tupD (tupH hs)=true from zek _];rfl
theorem zq2 {f:Addr} {fd:FuncData} (T:Bi mg) (F:Fun K "law" "law" s_law f fd) (O__law_pot:Ok P w K mg base 9 "_law_pot" ["script","k"] (spPot K)) (O__law_take:Ok P w K mg base 9 "_law_take" ["pot","many"] spTake) (O__law_case:Ok P w K mg base 9 "_law_case" ["pot","most"] (spCase K)) (O_times_told:Ok P w K mg base 9 "times_told" ["web","keep","t"] (spTold19 K)) (O_times_right:Ok P w K mg base 9 "times_right" ["web","keep","t","told"] (spTR20 K)) (O__law_good:Ok P w K mg base 9 "_law_good" ["web","keep","t","told"] (spGood20 K)) (O__law_other:Ok P w K mg base 9 "_law_other" ["pot","web","keep","t"] (spOther20 K)) (O__law_spoilt:Ok P w K mg base 9 "_law_spoilt" ["pot","web","told"] (spSpo20 K)) (O__law_right:Ok P w K mg base 9 "_law_right" ["web","keep","t","told"] (spRight20 K)):FnOk P w K mg base CX0 10 f fd ["script"] (spLaw K):=by
 refine F.ok (k:=9) sc_law (fun vs H Q E h=>?_) (fun cdv A outer s H vs Q E hr h=>?_)
 ·obtain⟨a,ns,rfl,_⟩:=h
  rfl
 obtain⟨a,ns,rfl,hS,h63,q⟩:=h
 have nd:=sc_law.nd
 have hl:(ns.map V.int).length=ns.length:=List.length_map _
 refine⟨_,(zad (zbm PassesOwn.never rfl (zbq rfl T.z_range (zaa (zai (zdw rfl) rfl T.z_max (by decide +kernel) (zaa zac (zaa (zai (zcy rfl) rfl T.z_min (by decide +kernel) (zaa zac (zaa (zai zal rfl T.z_len (by decide +kernel) (zaa (pv 0) zab)) zab))) zab))) zab)) (zag (i:=1) nd rfl (Or.inl rfl)) (zad (zas (i:=2) nd rfl (Or.inl rfl) (zae O__law_pot hr rfl (zaa (pv 0) (zaa (pv 1) zab)))) (zad (zbc (zae O__law_case hr rfl (zaa (pv 2) (zaa zac zab))) (zbk (n:=3) rfl (zah (zag (i:=3) nd rfl (Or.inl rfl)) (zah (zag (i:=4) nd rfl (Or.inl rfl)) (zah (zag (i:=5) nd rfl (Or.inl rfl)) za4))))) (zad (zas (i:=6) nd rfl (Or.inl rfl) (zae O_times_told hr rfl (zaa (pv 3) (zaa (pv 4) (zaa (pv 5) zab))))) (zad (za6 (PW.pt (zcl (zan zmf (zae O_times_right hr rfl (zaa (pv 3) (zaa (pv 4) (zaa (pv 5) (zaa (pv 6) zab))))) zcn (nomark _)) (zbx (zcs (zb3 (zae O__law_good hr rfl (zaa (pv 3) (zaa (pv 4) (zaa (pv 5) (zaa (pv 6) zab)))))))))) (zaf (zaj zcn)) zau) (zaf (zbm PassesOwn.never rfl (zbq rfl T.z_range (zaa zac zab)) (zag (i:=7) nd rfl (Or.inl rfl)) (zad (zas (i:=8) nd rfl (Or.inl rfl) (zam zaw (za7 (zaa (pv 6) (zaa (zae O__law_other hr rfl (zaa (pv 2) (zaa (pv 3) (zaa (pv 4) (zaa (pv 5) zab))))) zab))) (zae O__law_take hr rfl (zaa (pv 2) (zaa zac zab))) (fun _ _=>rfl))) (zaf (zbm PassesOwn.never rfl (zcm (za7 (zaa (pv 8) (zaa (zae O__law_spoilt hr rfl (zaa (pv 2) (zaa (pv 3) (zaa (pv 8) zab)))) zab)))) (zag (i:=9) nd rfl (Or.inl rfl)) (zaf (za6 (zcs (zb3 (zae O__law_right hr rfl (zaa (pv 3) (zaa (pv 4) (zaa (pv 5) (zaa (pv 9) zab))))))) (zaf (zaj zcn)) zau)))))))))))) (zaf (zaj zcn))),?_⟩
 refine⟨_,rfl,a,_,rfl,.inl hS,_,_,rfl,_,_,rfl,_,rfl,?_,?_,?_⟩
 ·split <;> split <;> trivial
 ·rw[hl];split <;> split <;> trivial
 generalize hj:(if (if (((ns.map V.int).length:Nat):Int) < 6 then (((ns.map V.int).length:Nat):Int) else 6) > 1 then (if (((ns.map V.int).length:Nat):Int) < 6 then (((ns.map V.int).length:Nat):Int) else 6) else 1)=j
 have j12:j≤6:=by rw[← hj];split <;> split <;> trivial
 refine zb6 (n:=j.toNat) (fun i σ H'=>∃ x1 x2 x3 x4 x5 x6 x7 x8 x9:Option V,σ=[some (.ref a),x1,x2,x3,x4,x5,x6,x7,x8,x9]∧Same H H') ⟨none,none,none,none,none,none,none,none,none,rfl,Same.refl H⟩ ?turn (fun σ H' _=>q H')
 rintro i σ H0 hi ⟨x1,x2,x3,x4,x5,x6,x7,x8,x9,rfl,s0⟩
 refine⟨_,rfl,_,rfl,a,_,ns,rfl,s0.seq hS,by trivial,by trivial,fun l H1 s1 fl p1=>?_⟩
 have s01:Same H H1:=s0.trans s1
 have fl0:H l=none:=s0.free fl
 refine⟨_,rfl,l,9,rfl,p1,by decide,by decide,fun qa n ts ks wv kv t H2 b2 p2 eq2 wk nm t1 t99=>?_⟩
 refine⟨qa,_,rfl,SqT.of eq2,rfl,_,_,rfl,_,_,rfl,_,_,rfl,rfl,?_⟩
 have ok:=wk.2.1
 have npot:∀ {J:Hp} {b:Addr},Pot J l->J b=none->b≠l:=fun pp hb z=>by
  obtain⟨xs,e⟩:=pp.lst
  rw[z,e] at hb;cases hb
 have tkb:∀ {J J':Hp},But l J J'->Pot J l->TupKeep J J':=fun b pp=>by
  obtain⟨xs,e⟩:=pp.lst
  exact fun a ys h=>b _ _ (fun z=>by rw[z,e] at h;cases h) h
 refine⟨_,rfl,_,rfl,_,rfl,n,ts,ks,wv,kv,t,rfl,wk,t1,t99,fun tv d J3 S3 isd td=>?_⟩
 obtain⟨u,rfl,sm0,right,hfar⟩:=zn3 ok wk.2.2.2 t1 t99 td
 obtain⟨ta,vs0,rfl,hta0,htl0⟩:∃ (ta:Addr) (vs0:List V),tv=.ref ta∧True∧True:=by
  cases u with
  | keeps W=>obtain⟨p,vs,rfl,_⟩:=isd;exact⟨p,vs,rfl,trivial,trivial⟩
  | far k hs=>obtain⟨p,vs,rfl,_⟩:=isd;exact⟨p,vs,rfl,trivial,trivial⟩
 have sml:=zo3 sm0
 have wk3:=wk.same S3
 have p3:=p2.same S3
 refine⟨_,rfl,_,rfl,_,rfl,_,rfl,n,ts,ks,wv,kv,t,.ref ta,u,rfl,wk3,t1,t99,isd,Ppr.sml_ok sml,fun J4 S4=>?_⟩
 rw[right]
 refine⟨_,_,rfl,rfl,_,rfl,iteF ?_⟩
 refine⟨_,rfl,_,rfl,_,rfl,_,rfl,n,ts,ks,wv,kv,t,.ref ta,u,rfl,wk3.same S4,t1,t99,Is.same S4 _ isd,Ppr.sml_ok sml,fun J5 S5=>?_⟩
 rw[right]
 refine⟨_,rfl,iteF ?_⟩
 have S35:=S4.trans S5
 have wk5:=wk3.same S35
 have p5:=p3.same S35
 have is5:=Is.same S35 _ isd
 have B5:But l H1 J5:=b2.trans (Same.but (S3.trans S35))
 refine⟨6,rfl,by decide,by decide,?_⟩
 refine zb6 (n:=6) (fun i' σ J=>∃ y1 y7 y8 y9:Option V,σ=[some (.ref a),y1,some (.ref l),some wv,some kv,some (.int t),some (.ref ta),y7,y8,y9]∧But l J5 J∧Pot J l) ⟨_,_,_,_,rfl,But.refl,p5⟩ (fun i' σ J hi' hinv=>?_) (fun σ J hinv=>?_)
 ·obtain⟨y1,y7,y8,y9,rfl,b6,p6⟩:=hinv
  have tk6:=tkb b6 p5
  have wk6:=zcu wk5 b6 p5
  have is6:=Is.tk tk6 _ (zen u) is5
  refine⟨_,rfl,_,rfl,_,rfl,_,rfl,_,rfl,l,n,ts,ks,wv,kv,t,rfl,p6,wk6,t1,t99,fun oa uo J7 b7 p7 is7 sm7=>⟨(by show 2≤1000;decide),fun lp J8 S8 f8 e8=>?_⟩⟩
  have p8:=p7.same S8
  refine⟨_,rfl,l,2,rfl,p8,by decide,by decide,fun r J9 r0 r1 b9 p9=>?_⟩
  have tk7:=tkb b7 p6
  have tk9:=tkb b9 p8
  obtain⟨pa,up,epa,ispa,smp,hfp⟩:∃ (pa:Addr) (up:Ppr),atI [V.ref ta,.ref oa] r=some (.ref pa)∧Is K J9 up.d (.ref pa)∧sml0 up∧∀ k hs,up=.far k hs->1≤ts.length:=by
   have:r=0∨r=1:=by trivial
   rcases this with rfl | rfl
   ·exact⟨ta,u,rfl,Is.tk tk9 _ (zen u) (Is.same S8 _ (Is.tk tk7 _ (zen u) is6)),sm0,hfar⟩
   ·exact⟨oa,uo,rfl,Is.tk tk9 _ (zen uo) (Is.same S8 _ is7),sm7.1,sm7.2⟩
  refine⟨lp,_,_,_,rfl,rfl,SqL.of (b9 _ _ (npot p7 f8) e8),epa,?_⟩
  have B9:But l J5 J9:=b6.trans (b7.trans ((Same.but S8).trans b9))
  have wk9:=zcu wk5 B9 p5
  refine⟨_,rfl,_,rfl,_,rfl,_,rfl,l,n,ts,wv,pa,up,rfl,p9,wk9.1,ok,ispa,smp,hfp,fun sb us J10 b10 p10 is10 sm10=>⟨(by show 2≤1000;decide),fun ll J11 S11 f11 e11=>⟨ll,rfl,⟨_,SqL.of e11⟩,?_⟩⟩⟩
  have tk10:=tkb b10 p9
  have B11:But l J5 J11:=B9.trans (b10.trans (Same.but S11))
  have p11:=p10.same S11
  have wk11:=zcu wk5 B11 p5
  refine zgz (xs:=[V.ref pa,.ref sb]) (fun i3 σ J=>∃ y1 y7 y9:Option V,σ=[some (.ref a),y1,some (.ref l),some wv,some kv,some (.int t),some (.ref ta),y7,some (.ref pa),y9]∧Same J11 J) ⟨_,_,_,rfl,Same.refl _⟩ (fun i3 σ J _ h=>?_) (fun i3 x σ J hx h=>?_) (fun σ J h=>?_)
  ·obtain⟨y1,y7,y9,rfl,sm⟩:=h
   exact SqL.of (sm _ _ e11)
  ·obtain⟨y1,y7,y9,rfl,sm⟩:=h
   obtain⟨oo,ux,rfl,iso,smo⟩:∃ (oo:Addr) (ux:Ppr),x=.ref oo∧Is K J11 ux.d (.ref oo)∧ux.sml:=by
    have:=List.mem_of_getElem? hx
    simp only [List.mem_cons,List.not_mem_nil,or_false] at this
    rcases this with rfl | rfl
    ·exact⟨pa,up,rfl,Is.same S11 _ (Is.tk tk10 _ (zen up) ispa),zo3 smp⟩
    ·exact⟨sb,us,rfl,Is.same S11 _ is10,sm10⟩
   exact⟨_,rfl,_,rfl,_,rfl,_,rfl,n,ts,ks,wv,kv,t,oo,ux,rfl,wk11.same sm,t1,t99,Is.same sm _ iso,smo,fun J12 S12=>⟨_,rfl,iteF ⟨_,_,_,rfl,sm.trans S12⟩⟩⟩
  ·obtain⟨y1,y7,y9,rfl,sm⟩:=h
   exact⟨_,_,_,_,rfl,B11.trans (Same.but sm),p11.same sm⟩
 ·obtain⟨y1,y7,y8,y9,rfl,b7,p7⟩:=hinv
  have B:But l H1 J:=B5.trans b7
  exact⟨_,_,_,_,_,_,_,_,_,rfl,fun b o e=>B _ _ (fun x=>by rw[x,fl0] at e;cases e) (s01 _ _ e)⟩
end
end Me
namespace Me
open PySem PySem.Spec PyProof.Rows L2 L3
theorem zrc {K:PySem.W.Frag} {h:Heap} {mg:Str->Option Value} {x:Str} {st:Stmt} {ps:List Str} {f:Addr} {od an:Option Addr} {sl:Array (Option Value)} {oc kV dc pm cd ct:Value} (X:K.In h) (G:h.Ns mainGlobals mg)
  (b:∀ (kV doc pm:Value) (an:Option Addr) (cdv ct:Value) (us:List Value),us.length=ps.length->bindArgs (PySem.W.fnOf x x (defArgs st) (defBody st) (defScope st) .none kV doc pm an cdv ct) ⟨us,[]⟩=pure (ps.zip us))
  (a:PySem.W.nsIn K mainGlobals x=some (some (.ref f))) (l:K.lookup f=some ⟨oc,od,.func (PySem.W.fnOf x x (defArgs st) (defBody st) (defScope st) .none kV dc pm an cd ct),sl⟩) (c:PySem.W.codeIn K cd x=true) (k:PySem.W.keepIn K (.ref f)=true):DefOk K mg x st ps:=by
 have F:=zo7 (st:=st) l c k
 exact⟨f,_,F,F.binds b,PySem.W.mg_of X G a⟩
theorem dq {p:Program} {K:PySem.W.Frag} {h:Heap} {mg:Str->Option Value} {x:Str} {st:Stmt} {ps:List Str} (f c j u:Nat) (X:K.In h) (G:h.Ns mainGlobals mg)
  (b:∀ (kV doc pm:Value) (an:Option Addr) (cdv ct:Value) (us:List Value),us.length=ps.length->bindArgs (PySem.W.fnOf x x (defArgs st) (defBody st) (defScope st) .none kV doc pm an cdv ct) ⟨us,[]⟩=pure (ps.zip us))
  (a:PySem.W.nsIn K mainGlobals x=some (some (.ref f))) (l:K.lookup f=some ⟨.type "function",none,.func (PySem.W.fnOf x x (defArgs st) (defBody st) (defScope st) .none .none .none (Hx.mdV p ⟨0,0,0,j,u,0⟩) none (.ref c) .none),#[]⟩) (cc:PySem.W.codeIn K (.ref c) x=true) (k:PySem.W.keepIn K (.ref f)=true):DefOk K mg x st ps:=zrc X G b a l cc k
theorem zjz (kV doc pm:Value) (an:Option Addr) (cdv ct:Value) (us:List Value) (hl:us.length=(["thing"]:List Str).length):bindArgs (PySem.W.fnOf "is_whole" "is_whole" (defArgs s_is_whole) (defBody s_is_whole) (defScope s_is_whole) .none kV doc pm an cdv ct) ⟨us,[]⟩=pure (List.zip (["thing"]:List Str) us):=match us,hl with | [_],_=>rfl
theorem ziu (kV doc pm:Value) (an:Option Addr) (cdv ct:Value) (us:List Value) (hl:us.length=(["thing"]:List Str).length):bindArgs (PySem.W.fnOf "is_wholes" "is_wholes" (defArgs s_is_wholes) (defBody s_is_wholes) (defScope s_is_wholes) .none kV doc pm an cdv ct) ⟨us,[]⟩=pure (List.zip (["thing"]:List Str) us):=match us,hl with | [_],_=>rfl
theorem zfy (kV doc pm:Value) (an:Option Addr) (cdv ct:Value) (us:List Value) (hl:us.length=(["thing","many"]:List Str).length):bindArgs (PySem.W.fnOf "is_tuple_of" "is_tuple_of" (defArgs s_is_tuple_of) (defBody s_is_tuple_of) (defScope s_is_tuple_of) .none kV doc pm an cdv ct) ⟨us,[]⟩=pure (List.zip (["thing","many"]:List Str) us):=match us,hl with | [_,_],_=>rfl
theorem zlj (kV doc pm:Value) (an:Option Addr) (cdv ct:Value) (us:List Value) (hl:us.length=(["thing","word","many"]:List Str).length):bindArgs (PySem.W.fnOf "is_told" "is_told" (defArgs s_is_told) (defBody s_is_told) (defScope s_is_told) .none kV doc pm an cdv ct) ⟨us,[]⟩=pure (List.zip (["thing","word","many"]:List Str) us):=match us,hl with | [_,_,_],_=>rfl
theorem zj0 (kV doc pm:Value) (an:Option Addr) (cdv ct:Value) (us:List Value) (hl:us.length=(["web","thing"]:List Str).length):bindArgs (PySem.W.fnOf "is_place" "is_place" (defArgs s_is_place) (defBody s_is_place) (defScope s_is_place) .none kV doc pm an cdv ct) ⟨us,[]⟩=pure (List.zip (["web","thing"]:List Str) us):=match us,hl with | [_,_],_=>rfl
theorem zei (kV doc pm:Value) (an:Option Addr) (cdv ct:Value) (us:List Value) (hl:us.length=(["web","thing"]:List Str).length):bindArgs (PySem.W.fnOf "is_tie_number" "is_tie_number" (defArgs s_is_tie_number) (defBody s_is_tie_number) (defScope s_is_tie_number) .none kV doc pm an cdv ct) ⟨us,[]⟩=pure (List.zip (["web","thing"]:List Str) us):=match us,hl with | [_,_],_=>rfl
theorem zoz (kV doc pm:Value) (an:Option Addr) (cdv ct:Value) (us:List Value) (hl:us.length=(["web"]:List Str).length):bindArgs (PySem.W.fnOf "whole" "whole" (defArgs s_whole) (defBody s_whole) (defScope s_whole) .none kV doc pm an cdv ct) ⟨us,[]⟩=pure (List.zip (["web"]:List Str) us):=match us,hl with | [_],_=>rfl
theorem zfx (kV doc pm:Value) (an:Option Addr) (cdv ct:Value) (us:List Value) (hl:us.length=(["web","a","b"]:List Str).length):bindArgs (PySem.W.fnOf "tie_between" "tie_between" (defArgs s_tie_between) (defBody s_tie_between) (defScope s_tie_between) .none kV doc pm an cdv ct) ⟨us,[]⟩=pure (List.zip (["web","a","b"]:List Str) us):=match us,hl with | [_,_,_],_=>rfl
theorem zdc (kV doc pm:Value) (an:Option Addr) (cdv ct:Value) (us:List Value) (hl:us.length=(["web","thing"]:List Str).length):bindArgs (PySem.W.fnOf "are_unlike_places" "are_unlike_places" (defArgs s_are_unlike_places) (defBody s_are_unlike_places) (defScope s_are_unlike_places) .none kV doc pm an cdv ct) ⟨us,[]⟩=pure (List.zip (["web","thing"]:List Str) us):=match us,hl with | [_,_],_=>rfl
theorem zhb (kV doc pm:Value) (an:Option Addr) (cdv ct:Value) (us:List Value) (hl:us.length=(["web","places"]:List Str).length):bindArgs (PySem.W.fnOf "ties_along" "ties_along" (defArgs s_ties_along) (defBody s_ties_along) (defScope s_ties_along) .none kV doc pm an cdv ct) ⟨us,[]⟩=pure (List.zip (["web","places"]:List Str) us):=match us,hl with | [_,_],_=>rfl
theorem zir (kV doc pm:Value) (an:Option Addr) (cdv ct:Value) (us:List Value) (hl:us.length=(["web","keep","way"]:List Str).length):bindArgs (PySem.W.fnOf "way_right" "way_right" (defArgs s_way_right) (defBody s_way_right) (defScope s_way_right) .none kV doc pm an cdv ct) ⟨us,[]⟩=pure (List.zip (["web","keep","way"]:List Str) us):=match us,hl with | [_,_,_],_=>rfl
theorem zeh (kV doc pm:Value) (an:Option Addr) (cdv ct:Value) (us:List Value) (hl:us.length=(["web","keep","a","b","way"]:List Str).length):bindArgs (PySem.W.fnOf "leads_between" "leads_between" (defArgs s_leads_between) (defBody s_leads_between) (defScope s_leads_between) .none kV doc pm an cdv ct) ⟨us,[]⟩=pure (List.zip (["web","keep","a","b","way"]:List Str) us):=match us,hl with | [_,_,_,_,_],_=>rfl
theorem zg9 (kV doc pm:Value) (an:Option Addr) (cdv ct:Value) (us:List Value) (hl:us.length=(["web","way"]:List Str).length):bindArgs (PySem.W.fnOf "way_length" "way_length" (defArgs s_way_length) (defBody s_way_length) (defScope s_way_length) .none kV doc pm an cdv ct) ⟨us,[]⟩=pure (List.zip (["web","way"]:List Str) us):=match us,hl with | [_,_],_=>rfl
theorem zfw (kV doc pm:Value) (an:Option Addr) (cdv ct:Value) (us:List Value) (hl:us.length=(["web"]:List Str).length):bindArgs (PySem.W.fnOf "tie_weights" "tie_weights" (defArgs s_tie_weights) (defBody s_tie_weights) (defScope s_tie_weights) .none kV doc pm an cdv ct) ⟨us,[]⟩=pure (List.zip (["web"]:List Str) us):=match us,hl with | [_],_=>rfl
theorem zix (kV doc pm:Value) (an:Option Addr) (cdv ct:Value) (us:List Value) (hl:us.length=(["cost","length","weight"]:List Str).length):bindArgs (PySem.W.fnOf "cost_with" "cost_with" (defArgs s_cost_with) (defBody s_cost_with) (defScope s_cost_with) .none kV doc pm an cdv ct) ⟨us,[]⟩=pure (List.zip (["cost","length","weight"]:List Str) us):=match us,hl with | [_,_,_],_=>rfl
theorem zfc (kV doc pm:Value) (an:Option Addr) (cdv ct:Value) (us:List Value) (hl:us.length=(["web","keep","root"]:List Str).length):bindArgs (PySem.W.fnOf "reached_from" "reached_from" (defArgs s_reached_from) (defBody s_reached_from) (defScope s_reached_from) .none kV doc pm an cdv ct) ⟨us,[]⟩=pure (List.zip (["web","keep","root"]:List Str) us):=match us,hl with | [_,_,_],_=>rfl
theorem ziv (kV doc pm:Value) (an:Option Addr) (cdv ct:Value) (us:List Value) (hl:us.length=(["web","keep","root"]:List Str).length):bindArgs (PySem.W.fnOf "fars_from" "fars_from" (defArgs s_fars_from) (defBody s_fars_from) (defScope s_fars_from) .none kV doc pm an cdv ct) ⟨us,[]⟩=pure (List.zip (["web","keep","root"]:List Str) us):=match us,hl with | [_,_,_],_=>rfl
theorem zis (kV doc pm:Value) (an:Option Addr) (cdv ct:Value) (us:List Value) (hl:us.length=(["web","keep","root"]:List Str).length):bindArgs (PySem.W.fnOf "tree_from" "tree_from" (defArgs s_tree_from) (defBody s_tree_from) (defScope s_tree_from) .none kV doc pm an cdv ct) ⟨us,[]⟩=pure (List.zip (["web","keep","root"]:List Str) us):=match us,hl with | [_,_,_],_=>rfl
theorem zli (kV doc pm:Value) (an:Option Addr) (cdv ct:Value) (us:List Value) (hl:us.length=(["web","keep","a","b"]:List Str).length):bindArgs (PySem.W.fnOf "the_way" "the_way" (defArgs s_the_way) (defBody s_the_way) (defScope s_the_way) .none kV doc pm an cdv ct) ⟨us,[]⟩=pure (List.zip (["web","keep","a","b"]:List Str) us):=match us,hl with | [_,_,_,_],_=>rfl
theorem znm (kV doc pm:Value) (an:Option Addr) (cdv ct:Value) (us:List Value) (hl:us.length=(["web","tie","heights"]:List Str).length):bindArgs (PySem.W.fnOf "across" "across" (defArgs s_across) (defBody s_across) (defScope s_across) .none kV doc pm an cdv ct) ⟨us,[]⟩=pure (List.zip (["web","tie","heights"]:List Str) us):=match us,hl with | [_,_,_],_=>rfl
theorem zfd (kV doc pm:Value) (an:Option Addr) (cdv ct:Value) (us:List Value) (hl:us.length=(["web","keep","heights"]:List Str).length):bindArgs (PySem.W.fnOf "heights_hold" "heights_hold" (defArgs s_heights_hold) (defBody s_heights_hold) (defScope s_heights_hold) .none kV doc pm an cdv ct) ⟨us,[]⟩=pure (List.zip (["web","keep","heights"]:List Str) us):=match us,hl with | [_,_,_],_=>rfl
theorem zfe (kV doc pm:Value) (an:Option Addr) (cdv ct:Value) (us:List Value) (hl:us.length=(["web","keep","a","roof"]:List Str).length):bindArgs (PySem.W.fnOf "heights_from" "heights_from" (defArgs s_heights_from) (defBody s_heights_from) (defScope s_heights_from) .none kV doc pm an cdv ct) ⟨us,[]⟩=pure (List.zip (["web","keep","a","roof"]:List Str) us):=match us,hl with | [_,_,_,_],_=>rfl
theorem zhc (kV doc pm:Value) (an:Option Addr) (cdv ct:Value) (us:List Value) (hl:us.length=(["t"]:List Str).length):bindArgs (PySem.W.fnOf "need_times" "need_times" (defArgs s_need_times) (defBody s_need_times) (defScope s_need_times) .none kV doc pm an cdv ct) ⟨us,[]⟩=pure (List.zip (["t"]:List Str) us):=match us,hl with | [_],_=>rfl
theorem zjy (kV doc pm:Value) (an:Option Addr) (cdv ct:Value) (us:List Value) (hl:us.length=(["web","keep"]:List Str).length):bindArgs (PySem.W.fnOf "not_kept" "not_kept" (defArgs s_not_kept) (defBody s_not_kept) (defScope s_not_kept) .none kV doc pm an cdv ct) ⟨us,[]⟩=pure (List.zip (["web","keep"]:List Str) us):=match us,hl with | [_,_],_=>rfl
theorem znl (kV doc pm:Value) (an:Option Addr) (cdv ct:Value) (us:List Value) (hl:us.length=(["web","keep","tie"]:List Str).length):bindArgs (PySem.W.fnOf "way_of" "way_of" (defArgs s_way_of) (defBody s_way_of) (defScope s_way_of) .none kV doc pm an cdv ct) ⟨us,[]⟩=pure (List.zip (["web","keep","tie"]:List Str) us):=match us,hl with | [_,_,_],_=>rfl
theorem zit (kV doc pm:Value) (an:Option Addr) (cdv ct:Value) (us:List Value) (hl:us.length=(["web","tie","t","way"]:List Str).length):bindArgs (PySem.W.fnOf "is_within" "is_within" (defArgs s_is_within) (defBody s_is_within) (defScope s_is_within) .none kV doc pm an cdv ct) ⟨us,[]⟩=pure (List.zip (["web","tie","t","way"]:List Str) us):=match us,hl with | [_,_,_,_],_=>rfl
theorem zhd (kV doc pm:Value) (an:Option Addr) (cdv ct:Value) (us:List Value) (hl:us.length=(["web","keep","tie","t"]:List Str).length):bindArgs (PySem.W.fnOf "heights_of" "heights_of" (defArgs s_heights_of) (defBody s_heights_of) (defScope s_heights_of) .none kV doc pm an cdv ct) ⟨us,[]⟩=pure (List.zip (["web","keep","tie","t"]:List Str) us):=match us,hl with | [_,_,_,_],_=>rfl
theorem zg8 (kV doc pm:Value) (an:Option Addr) (cdv ct:Value) (us:List Value) (hl:us.length=(["web","keep","tie","t","way"]:List Str).length):bindArgs (PySem.W.fnOf "way_within" "way_within" (defArgs s_way_within) (defBody s_way_within) (defScope s_way_within) .none kV doc pm an cdv ct) ⟨us,[]⟩=pure (List.zip (["web","keep","tie","t","way"]:List Str) us):=match us,hl with | [_,_,_,_,_],_=>rfl
theorem zd9 (kV doc pm:Value) (an:Option Addr) (cdv ct:Value) (us:List Value) (hl:us.length=(["web","keep","tie","t","heights"]:List Str).length):bindArgs (PySem.W.fnOf "heights_beyond" "heights_beyond" (defArgs s_heights_beyond) (defBody s_heights_beyond) (defScope s_heights_beyond) .none kV doc pm an cdv ct) ⟨us,[]⟩=pure (List.zip (["web","keep","tie","t","heights"]:List Str) us):=match us,hl with | [_,_,_,_,_],_=>rfl
theorem zha (kV doc pm:Value) (an:Option Addr) (cdv ct:Value) (us:List Value) (hl:us.length=(["web","keep","t"]:List Str).length):bindArgs (PySem.W.fnOf "times_told" "times_told" (defArgs s_times_told) (defBody s_times_told) (defScope s_times_told) .none kV doc pm an cdv ct) ⟨us,[]⟩=pure (List.zip (["web","keep","t"]:List Str) us):=match us,hl with | [_,_,_],_=>rfl
theorem zg7 (kV doc pm:Value) (an:Option Addr) (cdv ct:Value) (us:List Value) (hl:us.length=(["web","keep","t","ways"]:List Str).length):bindArgs (PySem.W.fnOf "ways_right" "ways_right" (defArgs s_ways_right) (defBody s_ways_right) (defScope s_ways_right) .none kV doc pm an cdv ct) ⟨us,[]⟩=pure (List.zip (["web","keep","t","ways"]:List Str) us):=match us,hl with | [_,_,_,_],_=>rfl
theorem ziw (kV doc pm:Value) (an:Option Addr) (cdv ct:Value) (us:List Value) (hl:us.length=(["web","keep","t","tie","heights"]:List Str).length):bindArgs (PySem.W.fnOf "far_right" "far_right" (defArgs s_far_right) (defBody s_far_right) (defScope s_far_right) .none kV doc pm an cdv ct) ⟨us,[]⟩=pure (List.zip (["web","keep","t","tie","heights"]:List Str) us):=match us,hl with | [_,_,_,_,_],_=>rfl
theorem zfv (kV doc pm:Value) (an:Option Addr) (cdv ct:Value) (us:List Value) (hl:us.length=(["web","keep","t","told"]:List Str).length):bindArgs (PySem.W.fnOf "times_right" "times_right" (defArgs s_times_right) (defBody s_times_right) (defScope s_times_right) .none kV doc pm an cdv ct) ⟨us,[]⟩=pure (List.zip (["web","keep","t","told"]:List Str) us):=match us,hl with | [_,_,_,_],_=>rfl
theorem zj2 (kV doc pm:Value) (an:Option Addr) (cdv ct:Value) (us:List Value) (hl:us.length=(["script","k"]:List Str).length):bindArgs (PySem.W.fnOf "_law_pot" "_law_pot" (defArgs s__law_pot) (defBody s__law_pot) (defScope s__law_pot) .none kV doc pm an cdv ct) ⟨us,[]⟩=pure (List.zip (["script","k"]:List Str) us):=match us,hl with | [_,_],_=>rfl
theorem zi0 (kV doc pm:Value) (an:Option Addr) (cdv ct:Value) (us:List Value) (hl:us.length=(["pot","many"]:List Str).length):bindArgs (PySem.W.fnOf "_law_take" "_law_take" (defArgs s__law_take) (defBody s__law_take) (defScope s__law_take) .none kV doc pm an cdv ct) ⟨us,[]⟩=pure (List.zip (["pot","many"]:List Str) us):=match us,hl with | [_,_],_=>rfl
theorem zf0 (kV doc pm:Value) (an:Option Addr) (cdv ct:Value) (us:List Value) (hl:us.length=(["pot","way"]:List Str).length):bindArgs (PySem.W.fnOf "_law_length" "_law_length" (defArgs s__law_length) (defBody s__law_length) (defScope s__law_length) .none kV doc pm an cdv ct) ⟨us,[]⟩=pure (List.zip (["pot","way"]:List Str) us):=match us,hl with | [_,_],_=>rfl
theorem ziz (kV doc pm:Value) (an:Option Addr) (cdv ct:Value) (us:List Value) (hl:us.length=(["pot","n","style","a","b"]:List Str).length):bindArgs (PySem.W.fnOf "_law_tied" "_law_tied" (defArgs s__law_tied) (defBody s__law_tied) (defScope s__law_tied) .none kV doc pm an cdv ct) ⟨us,[]⟩=pure (List.zip (["pot","n","style","a","b"]:List Str) us):=match us,hl with | [_,_,_,_,_],_=>rfl
theorem zhg (kV doc pm:Value) (an:Option Addr) (cdv ct:Value) (us:List Value) (hl:us.length=(["pot","many"]:List Str).length):bindArgs (PySem.W.fnOf "_law_order" "_law_order" (defArgs s__law_order) (defBody s__law_order) (defScope s__law_order) .none kV doc pm an cdv ct) ⟨us,[]⟩=pure (List.zip (["pot","many"]:List Str) us):=match us,hl with | [_,_],_=>rfl
theorem zj1 (kV doc pm:Value) (an:Option Addr) (cdv ct:Value) (us:List Value) (hl:us.length=(["pot","most"]:List Str).length):bindArgs (PySem.W.fnOf "_law_web" "_law_web" (defArgs s__law_web) (defBody s__law_web) (defScope s__law_web) .none kV doc pm an cdv ct) ⟨us,[]⟩=pure (List.zip (["pot","most"]:List Str) us):=match us,hl with | [_,_],_=>rfl
theorem zi1 (kV doc pm:Value) (an:Option Addr) (cdv ct:Value) (us:List Value) (hl:us.length=(["pot","web"]:List Str).length):bindArgs (PySem.W.fnOf "_law_keep" "_law_keep" (defArgs s__law_keep) (defBody s__law_keep) (defScope s__law_keep) .none kV doc pm an cdv ct) ⟨us,[]⟩=pure (List.zip (["pot","web"]:List Str) us):=match us,hl with | [_,_],_=>rfl
theorem zi3 (kV doc pm:Value) (an:Option Addr) (cdv ct:Value) (us:List Value) (hl:us.length=(["web","keep","start"]:List Str).length):bindArgs (PySem.W.fnOf "_law_fars" "_law_fars" (defArgs s__law_fars) (defBody s__law_fars) (defScope s__law_fars) .none kV doc pm an cdv ct) ⟨us,[]⟩=pure (List.zip (["web","keep","start"]:List Str) us):=match us,hl with | [_,_,_],_=>rfl
theorem zff (kV doc pm:Value) (an:Option Addr) (cdv ct:Value) (us:List Value) (hl:us.length=(["web","keep"]:List Str).length):bindArgs (PySem.W.fnOf "_law_outside" "_law_outside" (defArgs s__law_outside) (defBody s__law_outside) (defScope s__law_outside) .none kV doc pm an cdv ct) ⟨us,[]⟩=pure (List.zip (["web","keep"]:List Str) us):=match us,hl with | [_,_],_=>rfl
theorem zdy (kV doc pm:Value) (an:Option Addr) (cdv ct:Value) (us:List Value) (hl:us.length=(["pot","web","keep"]:List Str).length):bindArgs (PySem.W.fnOf "_law_some_times" "_law_some_times" (defArgs s__law_some_times) (defBody s__law_some_times) (defScope s__law_some_times) .none kV doc pm an cdv ct) ⟨us,[]⟩=pure (List.zip (["pot","web","keep"]:List Str) us):=match us,hl with | [_,_,_],_=>rfl
theorem zi4 (kV doc pm:Value) (an:Option Addr) (cdv ct:Value) (us:List Value) (hl:us.length=(["pot","most"]:List Str).length):bindArgs (PySem.W.fnOf "_law_case" "_law_case" (defArgs s__law_case) (defBody s__law_case) (defScope s__law_case) .none kV doc pm an cdv ct) ⟨us,[]⟩=pure (List.zip (["pot","most"]:List Str) us):=match us,hl with | [_,_],_=>rfl
theorem zhh (kV doc pm:Value) (an:Option Addr) (cdv ct:Value) (us:List Value) (hl:us.length=(["web","keep","way"]:List Str).length):bindArgs (PySem.W.fnOf "_law_along" "_law_along" (defArgs s__law_along) (defBody s__law_along) (defScope s__law_along) .none kV doc pm an cdv ct) ⟨us,[]⟩=pure (List.zip (["web","keep","way"]:List Str) us):=match us,hl with | [_,_,_],_=>rfl
theorem zi2 (kV doc pm:Value) (an:Option Addr) (cdv ct:Value) (us:List Value) (hl:us.length=(["web","keep","t","told"]:List Str).length):bindArgs (PySem.W.fnOf "_law_good" "_law_good" (defArgs s__law_good) (defBody s__law_good) (defScope s__law_good) .none kV doc pm an cdv ct) ⟨us,[]⟩=pure (List.zip (["web","keep","t","told"]:List Str) us):=match us,hl with | [_,_,_,_],_=>rfl
theorem ziy (kV doc pm:Value) (an:Option Addr) (cdv ct:Value) (us:List Value) (hl:us.length=(["pot","web","keep","a","b"]:List Str).length):bindArgs (PySem.W.fnOf "_law_walk" "_law_walk" (defArgs s__law_walk) (defBody s__law_walk) (defScope s__law_walk) .none kV doc pm an cdv ct) ⟨us,[]⟩=pure (List.zip (["pot","web","keep","a","b"]:List Str) us):=match us,hl with | [_,_,_,_,_],_=>rfl
theorem zdx (kV doc pm:Value) (an:Option Addr) (cdv ct:Value) (us:List Value) (hl:us.length=(["pot","row","many"]:List Str).length):bindArgs (PySem.W.fnOf "_law_spoilt_row" "_law_spoilt_row" (defArgs s__law_spoilt_row) (defBody s__law_spoilt_row) (defScope s__law_spoilt_row) .none kV doc pm an cdv ct) ⟨us,[]⟩=pure (List.zip (["pot","row","many"]:List Str) us):=match us,hl with | [_,_,_],_=>rfl
theorem zfg (kV doc pm:Value) (an:Option Addr) (cdv ct:Value) (us:List Value) (hl:us.length=(["pot","web","keep","t","tie"]:List Str).length):bindArgs (PySem.W.fnOf "_law_heights" "_law_heights" (defArgs s__law_heights) (defBody s__law_heights) (defScope s__law_heights) .none kV doc pm an cdv ct) ⟨us,[]⟩=pure (List.zip (["pot","web","keep","t","tie"]:List Str) us):=match us,hl with | [_,_,_,_,_],_=>rfl
theorem zhf (kV doc pm:Value) (an:Option Addr) (cdv ct:Value) (us:List Value) (hl:us.length=(["pot","web","keep","t"]:List Str).length):bindArgs (PySem.W.fnOf "_law_other" "_law_other" (defArgs s__law_other) (defBody s__law_other) (defScope s__law_other) .none kV doc pm an cdv ct) ⟨us,[]⟩=pure (List.zip (["pot","web","keep","t"]:List Str) us):=match us,hl with | [_,_,_,_],_=>rfl
theorem zdk (kV doc pm:Value) (an:Option Addr) (cdv ct:Value) (us:List Value) (hl:us.length=(["pot","ways","many"]:List Str).length):bindArgs (PySem.W.fnOf "_law_spoilt_ways" "_law_spoilt_ways" (defArgs s__law_spoilt_ways) (defBody s__law_spoilt_ways) (defScope s__law_spoilt_ways) .none kV doc pm an cdv ct) ⟨us,[]⟩=pure (List.zip (["pot","ways","many"]:List Str) us):=match us,hl with | [_,_,_],_=>rfl
theorem zfz (kV doc pm:Value) (an:Option Addr) (cdv ct:Value) (us:List Value) (hl:us.length=(["pot","web","told"]:List Str).length):bindArgs (PySem.W.fnOf "_law_spoilt" "_law_spoilt" (defArgs s__law_spoilt) (defBody s__law_spoilt) (defScope s__law_spoilt) .none kV doc pm an cdv ct) ⟨us,[]⟩=pure (List.zip (["pot","web","told"]:List Str) us):=match us,hl with | [_,_,_],_=>rfl
theorem zhe (kV doc pm:Value) (an:Option Addr) (cdv ct:Value) (us:List Value) (hl:us.length=(["web","keep","t","told"]:List Str).length):bindArgs (PySem.W.fnOf "_law_right" "_law_right" (defArgs s__law_right) (defBody s__law_right) (defScope s__law_right) .none kV doc pm an cdv ct) ⟨us,[]⟩=pure (List.zip (["web","keep","t","told"]:List Str) us):=match us,hl with | [_,_,_,_],_=>rfl
theorem zp4 {P:Program} {w:World} {K:PySem.W.Frag} {mg:Str->Option Value} {base:Heap} {f:Addr} {fd:FuncData} (T:Bi mg)
  (D_is_whole:DefOk K mg "is_whole" s_is_whole ["thing"])
  (D_is_wholes:DefOk K mg "is_wholes" s_is_wholes ["thing"])
  (D_is_tuple_of:DefOk K mg "is_tuple_of" s_is_tuple_of ["thing","many"])
  (D_is_told:DefOk K mg "is_told" s_is_told ["thing","word","many"])
  (D_is_place:DefOk K mg "is_place" s_is_place ["web","thing"])
  (D_is_tie_number:DefOk K mg "is_tie_number" s_is_tie_number ["web","thing"])
  (D_whole:DefOk K mg "whole" s_whole ["web"])
  (D_tie_between:DefOk K mg "tie_between" s_tie_between ["web","a","b"])
  (D_are_unlike_places:DefOk K mg "are_unlike_places" s_are_unlike_places ["web","thing"])
  (D_ties_along:DefOk K mg "ties_along" s_ties_along ["web","places"])
  (D_way_right:DefOk K mg "way_right" s_way_right ["web","keep","way"])
  (D_leads_between:DefOk K mg "leads_between" s_leads_between ["web","keep","a","b","way"])
  (D_way_length:DefOk K mg "way_length" s_way_length ["web","way"])
  (D_tie_weights:DefOk K mg "tie_weights" s_tie_weights ["web"])
  (D_cost_with:DefOk K mg "cost_with" s_cost_with ["cost","length","weight"])
  (D_reached_from:DefOk K mg "reached_from" s_reached_from ["web","keep","root"])
  (D_fars_from:DefOk K mg "fars_from" s_fars_from ["web","keep","root"])
  (D_tree_from:DefOk K mg "tree_from" s_tree_from ["web","keep","root"])
  (D_the_way:DefOk K mg "the_way" s_the_way ["web","keep","a","b"])
  (D_across:DefOk K mg "across" s_across ["web","tie","heights"])
  (D_heights_hold:DefOk K mg "heights_hold" s_heights_hold ["web","keep","heights"])
  (D_heights_from:DefOk K mg "heights_from" s_heights_from ["web","keep","a","roof"])
  (D_need_times:DefOk K mg "need_times" s_need_times ["t"])
  (D_not_kept:DefOk K mg "not_kept" s_not_kept ["web","keep"])
  (D_way_of:DefOk K mg "way_of" s_way_of ["web","keep","tie"])
  (D_is_within:DefOk K mg "is_within" s_is_within ["web","tie","t","way"])
  (D_heights_of:DefOk K mg "heights_of" s_heights_of ["web","keep","tie","t"])
  (D_way_within:DefOk K mg "way_within" s_way_within ["web","keep","tie","t","way"])
  (D_heights_beyond:DefOk K mg "heights_beyond" s_heights_beyond ["web","keep","tie","t","heights"])
  (D_times_told:DefOk K mg "times_told" s_times_told ["web","keep","t"])
  (D_ways_right:DefOk K mg "ways_right" s_ways_right ["web","keep","t","ways"])
  (D_far_right:DefOk K mg "far_right" s_far_right ["web","keep","t","tie","heights"])
  (D_times_right:DefOk K mg "times_right" s_times_right ["web","keep","t","told"])
  (D__law_pot:DefOk K mg "_law_pot" s__law_pot ["script","k"])
  (D__law_take:DefOk K mg "_law_take" s__law_take ["pot","many"])
  (D__law_length:DefOk K mg "_law_length" s__law_length ["pot","way"])
  (D__law_tied:DefOk K mg "_law_tied" s__law_tied ["pot","n","style","a","b"])
  (D__law_order:DefOk K mg "_law_order" s__law_order ["pot","many"])
  (D__law_web:DefOk K mg "_law_web" s__law_web ["pot","most"])
  (D__law_keep:DefOk K mg "_law_keep" s__law_keep ["pot","web"])
  (D__law_fars:DefOk K mg "_law_fars" s__law_fars ["web","keep","start"])
  (D__law_outside:DefOk K mg "_law_outside" s__law_outside ["web","keep"])
  (D__law_some_times:DefOk K mg "_law_some_times" s__law_some_times ["pot","web","keep"])
  (D__law_case:DefOk K mg "_law_case" s__law_case ["pot","most"])
  (D__law_along:DefOk K mg "_law_along" s__law_along ["web","keep","way"])
  (D__law_good:DefOk K mg "_law_good" s__law_good ["web","keep","t","told"])
  (D__law_walk:DefOk K mg "_law_walk" s__law_walk ["pot","web","keep","a","b"])
  (D__law_spoilt_row:DefOk K mg "_law_spoilt_row" s__law_spoilt_row ["pot","row","many"])
  (D__law_heights:DefOk K mg "_law_heights" s__law_heights ["pot","web","keep","t","tie"])
  (D__law_other:DefOk K mg "_law_other" s__law_other ["pot","web","keep","t"])
  (D__law_spoilt_ways:DefOk K mg "_law_spoilt_ways" s__law_spoilt_ways ["pot","ways","many"])
  (D__law_spoilt:DefOk K mg "_law_spoilt" s__law_spoilt ["pot","web","told"])
  (D__law_right:DefOk K mg "_law_right" s__law_right ["web","keep","t","told"])
  (F:Fun K "law" "law" s_law f fd):FnOk P w K mg base CX0 10 f fd ["script"] (spLaw K):=by
 have O__law_take:=zhy (P:=P) (w:=w) (base:=base) T D__law_take
 have O__law_pot:=zjn (P:=P) (w:=w) (base:=base) T D__law_pot
 have O__law_length:=zfo T D__law_length O__law_take
 have O__law_tied:=zhx T D__law_tied O__law_take
 have O__law_order:=zgs T D__law_order O__law_take
 have O__law_web:=zjm T D__law_web (O__law_take.mono (by decide)) O__law_order O__law_tied O__law_length
 have O__law_keep:=zhz T D__law_keep O__law_take
 have O_tie_weights:=zfk (P:=P) (w:=w) (base:=base) T D_tie_weights
 have O_cost_with:=zhw (P:=P) (w:=w) (base:=base) T D_cost_with
 have O_reached_fromC:=zed T D_reached_from O_tie_weights O_cost_with
 have O_reached_from:Ok P w K mg base 2 "reached_from" ["web","keep","root"] (spReached K):=O_reached_fromC.imp zl4
 have O_reached_fromB:Ok P w K mg base 2 "reached_from" ["web","keep","root"] (spReachedB K):=O_reached_fromC.imp zl5
 have O_fars_from:=zhv T D_fars_from O_reached_from
 have O_heights_from:=zez T D_heights_from O_fars_from
 have O_tree_from:=zgo T D_tree_from O_reached_fromB
 have O_the_wayB:=zji T D_the_way O_tree_from
 have O_the_way:Ok P w K mg base 4 "the_way" ["web","keep","a","b"] (spWayM K):=O_the_wayB.imp zrf
 have O_tie_between:=zfl (P:=P) (w:=w) (base:=base) T D_tie_between
 have O_ties_along:=zgp T D_ties_along O_tie_between
 have O_ties_alongO:=zfj T D_ties_along O_tie_between
 have O_way_length:=zgn T D_way_length O_ties_along
 have O_is_whole:=zjk (P:=P) (w:=w) (base:=base) T D_is_whole
 have O_need_times:=zgq T D_need_times O_is_whole
 have O_is_within:=zhs T D_is_within O_way_length
 have O_is_withinR:=zgr T D_is_within O_way_length
 have O_whole:=zoe (P:=P) (w:=w) (base:=base) T D_whole
 have O_not_kept:=zjj T D_not_kept O_whole
 have O_way_of:=zjh T D_way_of O_the_way
 have O_heights_of:=zex T D_heights_of O_heights_from
 have O_times_told:=zev T D_times_told (O_need_times.mono (by decide)) (O_not_kept.mono (by decide)) O_way_of (O_is_within.mono (by decide)) O_heights_of
 have O_is_place:=zjl T D_is_place O_is_whole
 have O_are_unlike_places:=zda T D_are_unlike_places O_is_place
 have O_way_right:=zgm T D_way_right O_are_unlike_places (O_ties_alongO.mono (by decide))
 have O_leads_between:=zd4 T D_leads_between O_way_right
 have O_way_within:=zeu T D_way_within O_leads_between (O_is_withinR.mono (by decide))
 have O_is_wholes:=zht T D_is_wholes O_is_whole
 have O_across:=zmi (P:=P) (w:=w) (base:=base) T D_across
 have O_heights_hold:=zey T D_heights_hold O_is_wholes (O_across.mono (by decide))
 have O_heights_beyond:=zdf T D_heights_beyond O_heights_hold (O_across.mono (by decide))
 have O_is_tuple_of:=zew (P:=P) (w:=w) (K:=K) (base:=base) T D_is_tuple_of
 have O_ways_right:=zet T D_ways_right (O_not_kept.mono (by decide)) (O_is_tuple_of.mono (by decide)) O_way_within
 have O_is_tie_number:=zee T D_is_tie_number O_is_whole
 have O_far_right:=zfm T D_far_right (O_is_tie_number.mono (by decide)) O_heights_beyond
 have O_is_told:=zhu (K:=K) T D_is_told O_is_tuple_of
 have O_times_right:=zec T D_times_right (O_need_times.mono (by decide)) (O_is_told.mono (by decide)) O_ways_right (O_far_right.mono (by decide))
 have O__law_outside:=ze1 (P:=P) (w:=w) (base:=base) T D__law_outside
 have O__law_fars:=zh0 (P:=P) (w:=w) (base:=base) T D__law_fars
 have O__law_some_times:=zdq T D__law_some_times O__law_take O__law_outside O__law_fars
 have O__law_case:=zh6 T D__law_case O__law_web (O__law_keep.mono (by decide)) (O__law_some_times.mono (by decide))
 have O__law_along:=ze3 (P:=P) (w:=w) (base:=base) T D__law_along
 have O__law_good:=zfp T D__law_good O__law_outside O__law_along
 have O__law_right:=ze0 T D__law_right O_times_right (O__law_good.mono (by decide))
 have O__law_spoilt_row:=zdb (K:=K) 25 (by decide) T D__law_spoilt_row O__law_take
 have O__law_heights:=zd5 T D__law_heights O__law_take O__law_fars
 have O__law_walk:=zfn T D__law_walk O__law_take
 have O__law_other:=ze2 T D__law_other (O__law_outside.mono (by decide)) (O__law_take.mono (by decide)) O__law_walk O__law_heights
 have O__law_spoilt_ways:=zcv T D__law_spoilt_ways (O__law_take.mono (by decide)) O__law_spoilt_row
 have O__law_spoilt:=zef T D__law_spoilt (O__law_take.mono (by decide)) O__law_spoilt_ways (O__law_spoilt_row.mono (by decide))
 exact zq2 T F (O__law_pot.mono (by decide)) (O__law_take.mono (by decide)) (O__law_case.mono (by decide)) (O_times_told.mono (by decide)) (O_times_right.mono (by decide)) (O__law_good.mono (by decide)) (O__law_other.mono (by decide)) (O__law_spoilt.mono (by decide)) O__law_right
theorem walk {l:PySem.W.OpenLaw} {q:Program} {loose:List Str} {XP:(Str->Option Value)->Heap->Prop} {YP:World->Heap->Prop} {d:DefRec} {K:Params->PySem.W.Frag} (hn:l.most=some 63) (hdf:d.params.defaults=[])
  (hY:∀ (w:World) (h:Heap),YP w h->(K w.params).In h)
  (F:∀ (w:World) (mg:Str->Option Value) (fa:Addr) (h:Heap),(K w.params).In h->h.Ns mainGlobals mg->mg d.name=some (.ref fa) ->
   ∃ fd:FuncData,(∀ (s:Shared) (u:Value),BindsTo s fd ⟨[u],[]⟩ [("script",u)])∧∀ base:Heap,(K w.params).In base->base.Ns mainGlobals mg->FnOk l.prog w (K w.params) mg base CX0 10 fa fd ["script"] (spLaw (K w.params))) :
  PySem.W.WalkO q loose XP YP l.row.toRowW d [] (fun f vs=>PySem.call f vs) :=
 L2.zpg (n:=63) (k:=10) (x:="script") (CX:=fun _=>CX0) (sp:=fun w=>spLaw (K w.params)) hn (by decide) hdf ⟨rfl,by decide,by decide,rfl⟩ hY F (fun _ _ a ns hl _ hS=>⟨a,ns,rfl,hS,hl,fun _=>rfl⟩) fun _ _ _ _ _ z=>z
end Me
namespace Hy
open PySem PySem.W Hx
def cs:List Ch:=[⟨0,15,187,0,187,0⟩,⟨1,15,189,0,187,0⟩,⟨2,28,207,0,187,24⟩,⟨3,40,223,3,223,0⟩,⟨4,40,225,3,223,0⟩,⟨5,47,232,3,223,0⟩,⟨6,52,238,3,223,0⟩,⟨7,59,246,3,223,0⟩,⟨8,66,255,8,255,0⟩,⟨9,66,257,8,255,0⟩,⟨10,73,265,8,255,0⟩,⟨11,80,273,8,255,0⟩,⟨12,87,280,8,255,0⟩,⟨13,94,292,13,292,0⟩,⟨14,94,294,13,292,0⟩,⟨15,99,300,13,292,0⟩,⟨16,104,306,13,292,0⟩,⟨17,109,312,13,292,0⟩,⟨18,116,323,13,292,0⟩,⟨19,121,329,13,292,0⟩,⟨20,128,339,13,292,0⟩,⟨21,135,348,13,292,0⟩,⟨22,142,368,13,292,0⟩,⟨23,147,374,13,292,0⟩,⟨24,154,385,13,292,0⟩,⟨25,161,397,25,397,0⟩,⟨26,161,399,25,397,0⟩,⟨27,168,411,25,397,0⟩,⟨28,173,417,25,397,0⟩,⟨29,178,423,29,423,0⟩,⟨30,178,425,29,423,0⟩,⟨31,185,432,29,423,0⟩,⟨32,190,438,29,423,0⟩,⟨33,197,450,29,423,0⟩,⟨34,204,460,29,423,0⟩,⟨35,211,473,29,423,0⟩,⟨36,218,487,29,423,0⟩,⟨37,225,498,29,423,0⟩,⟨38,232,510,29,423,0⟩,⟨39,237,516,29,423,0⟩,⟨40,244,527,29,423,0⟩,⟨41,251,537,41,537,0⟩,⟨42,251,539,41,537,0⟩,⟨43,258,549,41,537,0⟩,⟨44,265,558,41,537,0⟩,⟨45,272,566,41,537,0⟩,⟨46,279,578,41,537,0⟩,⟨47,286,589,41,537,0⟩,⟨48,293,606,41,537,0⟩,⟨49,298,612,41,537,0⟩,⟨50,305,630,41,537,0⟩,⟨51,310,636,41,537,0⟩,⟨52,317,651,41,537,0⟩,⟨53,324,661,41,537,0⟩,⟨54,329,667,41,537,0⟩,⟨55,336,687,41,537,0⟩,⟨56,343,705,41,537,0⟩,⟨57,350,720,41,537,0⟩,⟨58,355,726,41,537,0⟩,⟨59,360,732,41,537,0⟩,⟨60,367,743,41,537,0⟩,⟨61,374,757,41,537,0⟩,⟨62,381,769,41,537,0⟩]
end Hy
lay_quick Hx.PieceT Hx.PreT Hx.BlockT Hx.LookA Hx.LookB Hx.LookC PySem.Challenge.pw_thinways_k20_times_judged
namespace Hy
open PySem PySem.W Hx
theorem pre:PreT PySem.Challenge.pw_thinways_k20_times_judged boots boot_drawn boot_heap boot_toks cs ⟨0,15,187⟩:=by
 rw[PySem.W.Fast.te16428918119715843241,PySem.W.Fast.te7171315382716644590];delta PySem.W.Fast.tw16428918119715843241;intro w;kernel_rfl
theorem pc0:PieceT PySem.Challenge.pw_thinways_k20_times_judged boots boot_drawn cs ⟨0,15,187⟩ ⟨2,28,207⟩ 196:=by
 rw[PySem.W.Fast.te4643275101561185336,PySem.W.Fast.te7171315382716644590];delta PySem.W.Fast.tw4643275101561185336;intro w;kernel_rfl
theorem pc1:PieceT PySem.Challenge.pw_thinways_k20_times_judged boots boot_drawn cs ⟨2,28,207⟩ ⟨10,73,265⟩ 378:=by
 rw[PySem.W.Fast.te4643275101561185336,PySem.W.Fast.te7171315382716644590];delta PySem.W.Fast.tw4643275101561185336;intro w;kernel_rfl
theorem pc2:PieceT PySem.Challenge.pw_thinways_k20_times_judged boots boot_drawn cs ⟨10,73,265⟩ ⟨23,147,374⟩ 371:=by
 rw[PySem.W.Fast.te4643275101561185336,PySem.W.Fast.te7171315382716644590];delta PySem.W.Fast.tw4643275101561185336;intro w;kernel_rfl
theorem pc3:PieceT PySem.Challenge.pw_thinways_k20_times_judged boots boot_drawn cs ⟨23,147,374⟩ ⟨37,225,498⟩ 397:=by
 rw[PySem.W.Fast.te4643275101561185336,PySem.W.Fast.te7171315382716644590];delta PySem.W.Fast.tw4643275101561185336;intro w;kernel_rfl
theorem pc4:PieceT PySem.Challenge.pw_thinways_k20_times_judged boots boot_drawn cs ⟨37,225,498⟩ ⟨50,305,630⟩ 400:=by
 rw[PySem.W.Fast.te4643275101561185336,PySem.W.Fast.te7171315382716644590];delta PySem.W.Fast.tw4643275101561185336;intro w;kernel_rfl
theorem pc5:PieceT PySem.Challenge.pw_thinways_k20_times_judged boots boot_drawn cs ⟨50,305,630⟩ ⟨62,381,769⟩ 396:=by
 rw[PySem.W.Fast.te4643275101561185336,PySem.W.Fast.te7171315382716644590];delta PySem.W.Fast.tw4643275101561185336;intro w;kernel_rfl
theorem pc6:PieceT PySem.Challenge.pw_thinways_k20_times_judged boots boot_drawn cs ⟨62,381,769⟩ ⟨63,388,785⟩ 39:=by
 rw[PySem.W.Fast.te4643275101561185336,PySem.W.Fast.te7171315382716644590];delta PySem.W.Fast.tw4643275101561185336;intro w;kernel_rfl
theorem blk:BlockT PySem.Challenge.pw_thinways_k20_times_judged :=by
 rw[PySem.W.Fast.te421534021395069552,PySem.W.Fast.te7171315382716644590];delta PySem.W.Fast.tw421534021395069552;intro w s;kernel_rfl
theorem run (w:World) (os:OsState):topRun treeTable PySem.Challenge.pw_thinways_k20_times_judged w 11 ann0 (12 + (1 + (196 + (378 + (371 + (397 + (400 + (396 + (39 + 2))))))))) ⟨boot_heap w.params,Array.mk [],boot_drawn,boot_toks,os⟩ (topStub PySem.Challenge.pw_thinways_k20_times_judged)=some (stT PySem.Challenge.pw_thinways_k20_times_judged boots boot_drawn cs ⟨63,388,785⟩ w os).abs:=zpq pre blk (chain pc0 (by decide) (chain pc1 (by decide) (chain pc2 (by decide) (chain pc3 (by decide) (chain pc4 (by decide) (chain pc5 (by decide) (chain pc6 (by decide) (zng (by kernel_rfl)))))))))
theorem size (w:World):((boot_heap w.params).isNs mainGlobals && (Array.mk []:Array GenState).size == 0,(boot_heap w.params).objs.size,(boot_heap w.params).nsMap mainGlobals "__annotations__")=(true,11,ann0):=by kernel_rfl
theorem lkA:LookA PySem.Challenge.pw_thinways_k20_times_judged boots boot_drawn boot_heap cs ⟨63,388,785⟩:=by
 rw[PySem.W.Fast.te7818774390570169022,PySem.W.Fast.te7171315382716644590];delta PySem.W.Fast.tw7818774390570169022;intro w;kernel_rfl
theorem lkB:LookB PySem.Challenge.pw_thinways_k20_times_judged boots boot_drawn cs ⟨63,388,785⟩ [62] (OpenRow.toRowW (PySem.Challenge.rw_thinways_k20_times_judged).row).records:=by
 rw[PySem.W.Fast.te13889730532244352606,PySem.W.Fast.te7171315382716644590];delta PySem.W.Fast.tw13889730532244352606;intro w;kernel_rfl
theorem lkC:LookC PySem.Challenge.pw_thinways_k20_times_judged boots cs ⟨63,388,785⟩ [3,23,24,36,37,45,46,50,51,57,58,64,65,71,72,78,79,85,86,92,93,97,98,102,103,107,108,114,115,119,120,126,127,133,134,140,141,145,146,152,153,159,160,166,167,171,172,176,177,183,184,188,189,195,196,202,203,209,210,216,217,223,224,230,231,235,236,242,243,249,250,256,257,263,264,270,271,277,278,284,285,291,292,296,297,303,304,308,309,315,316,322,323,327,328,334,335,341,342,348,349,353,354,358,359,365,366,372,373,379,380,386,387]:=by
 rw[PySem.W.Fast.te6241646928739474683,PySem.W.Fast.te7171315382716644590];delta PySem.W.Fast.tw6241646928739474683;intro w;kernel_rfl
noncomputable abbrev K:=Kf PySem.Challenge.pw_thinways_k20_times_judged boots cs
theorem Kas (P:Params):[3,23,24,36,37,45,46,50,51,57,58,64,65,71,72,78,79,85,86,92,93,97,98,102,103,107,108,114,115,119,120,126,127,133,134,140,141,145,146,152,153,159,160,166,167,171,172,176,177,183,184,188,189,195,196,202,203,209,210,216,217,223,224,230,231,235,236,242,243,249,250,256,257,263,264,270,271,277,278,284,285,291,292,296,297,303,304,308,309,315,316,322,323,327,328,334,335,341,342,348,349,353,354,358,359,365,366,372,373,379,380,386,387]=(K P).map (·.1):=by kernel_rfl
noncomputable abbrev H:Hook:=kHook K [3,23,24,36,37,45,46,50,51,57,58,64,65,71,72,78,79,85,86,92,93,97,98,102,103,107,108,114,115,119,120,126,127,133,134,140,141,145,146,152,153,159,160,166,167,171,172,176,177,183,184,188,189,195,196,202,203,209,210,216,217,223,224,230,231,235,236,242,243,249,250,256,257,263,264,270,271,277,278,284,285,291,292,296,297,303,304,308,309,315,316,322,323,327,328,334,335,341,342,348,349,353,354,358,359,365,366,372,373,379,380,386,387] Kas
theorem opn:opening PySem.Challenge.pw_thinways_k20_times_judged=plainProg (PySem.Challenge.pw_thinways_k20_times_judged).main.scope.names:=by kernel_rfl
theorem fnc (s:Shared):fenceModules? PySem.Challenge.pw_thinways_k20_times_judged s=some s:=by kernel_rfl
theorem left:LeftO PySem.Challenge.pw_thinways_k20_times_judged (qv PySem.Challenge.pw_thinways_k20_times_judged [62]) (lz PySem.Challenge.pw_thinways_k20_times_judged [62] 63) (fun s=>xlAt (qv PySem.Challenge.pw_thinways_k20_times_judged [62]) [] s && recOk (OpenRow.toRowW (PySem.Challenge.rw_thinways_k20_times_judged).row).records s) (Hook.obs H) (Hook.val H) 4984 :=
 zp2 (p:=PySem.Challenge.pw_thinways_k20_times_judged) (cs:=cs) (is:=[62]) (as:=[3,23,24,36,37,45,46,50,51,57,58,64,65,71,72,78,79,85,86,92,93,97,98,102,103,107,108,114,115,119,120,126,127,133,134,140,141,145,146,152,153,159,160,166,167,171,172,176,177,183,184,188,189,195,196,202,203,209,210,216,217,223,224,230,231,235,236,242,243,249,250,256,257,263,264,270,271,277,278,284,285,291,292,296,297,303,304,308,309,315,316,322,323,327,328,334,335,341,342,348,349,353,354,358,359,365,366,372,373,379,380,386,387]) (rc:=(OpenRow.toRowW (PySem.Challenge.rw_thinways_k20_times_judged).row).records) (c:=⟨63,388,785⟩) (M:=12 + (1 + (196 + (378 + (371 + (397 + (400 + (396 + (39 + 2))))))))) (N:=4984) (e:=Kas) opn (by decide) fnc size run (by decide) lkA lkB lkC
end Hy
namespace Hy
open PySem PySem.W PyProof.Rows L2 L3 Hx Me
theorem all {w:World} {h:Heap} {mg:Str->Option Value} {fa:Addr} (X:(K w.params).In h) (G:h.Ns mainGlobals mg) (hfa:mg "law"=some (.ref fa)) :
  ∃ fd:FuncData,(∀ (s:Shared) (v:Value),BindsTo s fd ⟨[v],[]⟩ [("script",v)])∧∀ base:Heap,(K w.params).In base->base.Ns mainGlobals mg->FnOk (PySem.Challenge.rw_thinways_k20_times_judged).prog w (K w.params) mg base CX0 10 fa fd ["script"] (spLaw (K w.params)):=by
 have T:Bi mg:=⟨PySem.W.mg_none_of X G (show PySem.W.nsIn (K w.params) mainGlobals "len"=some none by kernel_rfl),PySem.W.mg_none_of X G (show PySem.W.nsIn (K w.params) mainGlobals "range"=some none by kernel_rfl),PySem.W.mg_none_of X G (show PySem.W.nsIn (K w.params) mainGlobals "zip"=some none by kernel_rfl),PySem.W.mg_none_of X G (show PySem.W.nsIn (K w.params) mainGlobals "all"=some none by kernel_rfl),PySem.W.mg_none_of X G (show PySem.W.nsIn (K w.params) mainGlobals "sorted"=some none by kernel_rfl),PySem.W.mg_none_of X G (show PySem.W.nsIn (K w.params) mainGlobals "isinstance"=some none by kernel_rfl),PySem.W.mg_none_of X G (show PySem.W.nsIn (K w.params) mainGlobals "min"=some none by kernel_rfl),PySem.W.mg_none_of X G (show PySem.W.nsIn (K w.params) mainGlobals "max"=some none by kernel_rfl),PySem.W.mg_none_of X G (show PySem.W.nsIn (K w.params) mainGlobals "tuple"=some none by kernel_rfl),PySem.W.mg_none_of X G (show PySem.W.nsIn (K w.params) mainGlobals "list"=some none by kernel_rfl),PySem.W.mg_none_of X G (show PySem.W.nsIn (K w.params) mainGlobals "int"=some none by kernel_rfl),PySem.W.mg_none_of X G (show PySem.W.nsIn (K w.params) mainGlobals "bool"=some none by kernel_rfl),PySem.W.mg_none_of X G (show PySem.W.nsIn (K w.params) mainGlobals "str"=some none by kernel_rfl),PySem.W.mg_none_of X G (show PySem.W.nsIn (K w.params) mainGlobals "enumerate"=some none by kernel_rfl),PySem.W.mg_none_of X G (show PySem.W.nsIn (K w.params) mainGlobals "sum"=some none by kernel_rfl),PySem.W.mg_none_of X G (show PySem.W.nsIn (K w.params) mainGlobals "abs"=some none by kernel_rfl),PySem.W.mg_none_of X G (show PySem.W.nsIn (K w.params) mainGlobals "set"=some none by kernel_rfl),PySem.W.mg_none_of X G (show PySem.W.nsIn (K w.params) mainGlobals "reversed"=some none by kernel_rfl),PySem.W.mg_none_of X G (show PySem.W.nsIn (K w.params) mainGlobals "any"=some none by kernel_rfl),PySem.W.mg_none_of X G (show PySem.W.nsIn (K w.params) mainGlobals "repr"=some none by kernel_rfl)⟩
 have D_is_whole:=dq (p:=PySem.Challenge.pw_thinways_k20_times_judged) (ps:=["thing"]) 46 45 3 223 X G zjz (by kernel_rfl) (by kernel_rfl) (by kernel_rfl) (by kernel_rfl)
 have D_is_wholes:=dq (p:=PySem.Challenge.pw_thinways_k20_times_judged) (ps:=["thing"]) 51 50 3 223 X G ziu (by kernel_rfl) (by kernel_rfl) (by kernel_rfl) (by kernel_rfl)
 have D_is_tuple_of:=dq (p:=PySem.Challenge.pw_thinways_k20_times_judged) (ps:=["thing","many"]) 58 57 3 223 X G zfy (by kernel_rfl) (by kernel_rfl) (by kernel_rfl) (by kernel_rfl)
 have D_is_told:=dq (p:=PySem.Challenge.pw_thinways_k20_times_judged) (ps:=["thing","word","many"]) 65 64 3 223 X G zlj (by kernel_rfl) (by kernel_rfl) (by kernel_rfl) (by kernel_rfl)
 have D_is_place:=dq (p:=PySem.Challenge.pw_thinways_k20_times_judged) (ps:=["web","thing"]) 72 71 8 255 X G zj0 (by kernel_rfl) (by kernel_rfl) (by kernel_rfl) (by kernel_rfl)
 have D_is_tie_number:=dq (p:=PySem.Challenge.pw_thinways_k20_times_judged) (ps:=["web","thing"]) 79 78 8 255 X G zei (by kernel_rfl) (by kernel_rfl) (by kernel_rfl) (by kernel_rfl)
 have D_whole:=dq (p:=PySem.Challenge.pw_thinways_k20_times_judged) (ps:=["web"]) 86 85 8 255 X G zoz (by kernel_rfl) (by kernel_rfl) (by kernel_rfl) (by kernel_rfl)
 have D_tie_between:=dq (p:=PySem.Challenge.pw_thinways_k20_times_judged) (ps:=["web","a","b"]) 93 92 8 255 X G zfx (by kernel_rfl) (by kernel_rfl) (by kernel_rfl) (by kernel_rfl)
 have D_are_unlike_places:=dq (p:=PySem.Challenge.pw_thinways_k20_times_judged) (ps:=["web","thing"]) 98 97 13 292 X G zdc (by kernel_rfl) (by kernel_rfl) (by kernel_rfl) (by kernel_rfl)
 have D_ties_along:=dq (p:=PySem.Challenge.pw_thinways_k20_times_judged) (ps:=["web","places"]) 103 102 13 292 X G zhb (by kernel_rfl) (by kernel_rfl) (by kernel_rfl) (by kernel_rfl)
 have D_way_right:=dq (p:=PySem.Challenge.pw_thinways_k20_times_judged) (ps:=["web","keep","way"]) 108 107 13 292 X G zir (by kernel_rfl) (by kernel_rfl) (by kernel_rfl) (by kernel_rfl)
 have D_leads_between:=dq (p:=PySem.Challenge.pw_thinways_k20_times_judged) (ps:=["web","keep","a","b","way"]) 115 114 13 292 X G zeh (by kernel_rfl) (by kernel_rfl) (by kernel_rfl) (by kernel_rfl)
 have D_way_length:=dq (p:=PySem.Challenge.pw_thinways_k20_times_judged) (ps:=["web","way"]) 120 119 13 292 X G zg9 (by kernel_rfl) (by kernel_rfl) (by kernel_rfl) (by kernel_rfl)
 have D_tie_weights:=dq (p:=PySem.Challenge.pw_thinways_k20_times_judged) (ps:=["web"]) 127 126 13 292 X G zfw (by kernel_rfl) (by kernel_rfl) (by kernel_rfl) (by kernel_rfl)
 have D_cost_with:=dq (p:=PySem.Challenge.pw_thinways_k20_times_judged) (ps:=["cost","length","weight"]) 134 133 13 292 X G zix (by kernel_rfl) (by kernel_rfl) (by kernel_rfl) (by kernel_rfl)
 have D_reached_from:=dq (p:=PySem.Challenge.pw_thinways_k20_times_judged) (ps:=["web","keep","root"]) 141 140 13 292 X G zfc (by kernel_rfl) (by kernel_rfl) (by kernel_rfl) (by kernel_rfl)
 have D_fars_from:=dq (p:=PySem.Challenge.pw_thinways_k20_times_judged) (ps:=["web","keep","root"]) 146 145 13 292 X G ziv (by kernel_rfl) (by kernel_rfl) (by kernel_rfl) (by kernel_rfl)
 have D_tree_from:=dq (p:=PySem.Challenge.pw_thinways_k20_times_judged) (ps:=["web","keep","root"]) 153 152 13 292 X G zis (by kernel_rfl) (by kernel_rfl) (by kernel_rfl) (by kernel_rfl)
 have D_the_way:=dq (p:=PySem.Challenge.pw_thinways_k20_times_judged) (ps:=["web","keep","a","b"]) 160 159 13 292 X G zli (by kernel_rfl) (by kernel_rfl) (by kernel_rfl) (by kernel_rfl)
 have D_across:=dq (p:=PySem.Challenge.pw_thinways_k20_times_judged) (ps:=["web","tie","heights"]) 167 166 25 397 X G znm (by kernel_rfl) (by kernel_rfl) (by kernel_rfl) (by kernel_rfl)
 have D_heights_hold:=dq (p:=PySem.Challenge.pw_thinways_k20_times_judged) (ps:=["web","keep","heights"]) 172 171 25 397 X G zfd (by kernel_rfl) (by kernel_rfl) (by kernel_rfl) (by kernel_rfl)
 have D_heights_from:=dq (p:=PySem.Challenge.pw_thinways_k20_times_judged) (ps:=["web","keep","a","roof"]) 177 176 25 397 X G zfe (by kernel_rfl) (by kernel_rfl) (by kernel_rfl) (by kernel_rfl)
 have D_need_times:=dq (p:=PySem.Challenge.pw_thinways_k20_times_judged) (ps:=["t"]) 184 183 29 423 X G zhc (by kernel_rfl) (by kernel_rfl) (by kernel_rfl) (by kernel_rfl)
 have D_not_kept:=dq (p:=PySem.Challenge.pw_thinways_k20_times_judged) (ps:=["web","keep"]) 189 188 29 423 X G zjy (by kernel_rfl) (by kernel_rfl) (by kernel_rfl) (by kernel_rfl)
 have D_way_of:=dq (p:=PySem.Challenge.pw_thinways_k20_times_judged) (ps:=["web","keep","tie"]) 196 195 29 423 X G znl (by kernel_rfl) (by kernel_rfl) (by kernel_rfl) (by kernel_rfl)
 have D_is_within:=dq (p:=PySem.Challenge.pw_thinways_k20_times_judged) (ps:=["web","tie","t","way"]) 203 202 29 423 X G zit (by kernel_rfl) (by kernel_rfl) (by kernel_rfl) (by kernel_rfl)
 have D_heights_of:=dq (p:=PySem.Challenge.pw_thinways_k20_times_judged) (ps:=["web","keep","tie","t"]) 210 209 29 423 X G zhd (by kernel_rfl) (by kernel_rfl) (by kernel_rfl) (by kernel_rfl)
 have D_way_within:=dq (p:=PySem.Challenge.pw_thinways_k20_times_judged) (ps:=["web","keep","tie","t","way"]) 217 216 29 423 X G zg8 (by kernel_rfl) (by kernel_rfl) (by kernel_rfl) (by kernel_rfl)
 have D_heights_beyond:=dq (p:=PySem.Challenge.pw_thinways_k20_times_judged) (ps:=["web","keep","tie","t","heights"]) 224 223 29 423 X G zd9 (by kernel_rfl) (by kernel_rfl) (by kernel_rfl) (by kernel_rfl)
 have D_times_told:=dq (p:=PySem.Challenge.pw_thinways_k20_times_judged) (ps:=["web","keep","t"]) 231 230 29 423 X G zha (by kernel_rfl) (by kernel_rfl) (by kernel_rfl) (by kernel_rfl)
 have D_ways_right:=dq (p:=PySem.Challenge.pw_thinways_k20_times_judged) (ps:=["web","keep","t","ways"]) 236 235 29 423 X G zg7 (by kernel_rfl) (by kernel_rfl) (by kernel_rfl) (by kernel_rfl)
 have D_far_right:=dq (p:=PySem.Challenge.pw_thinways_k20_times_judged) (ps:=["web","keep","t","tie","heights"]) 243 242 29 423 X G ziw (by kernel_rfl) (by kernel_rfl) (by kernel_rfl) (by kernel_rfl)
 have D_times_right:=dq (p:=PySem.Challenge.pw_thinways_k20_times_judged) (ps:=["web","keep","t","told"]) 250 249 29 423 X G zfv (by kernel_rfl) (by kernel_rfl) (by kernel_rfl) (by kernel_rfl)
 have D__law_pot:=dq (p:=PySem.Challenge.pw_thinways_k20_times_judged) (ps:=["script","k"]) 257 256 41 537 X G zj2 (by kernel_rfl) (by kernel_rfl) (by kernel_rfl) (by kernel_rfl)
 have D__law_take:=dq (p:=PySem.Challenge.pw_thinways_k20_times_judged) (ps:=["pot","many"]) 264 263 41 537 X G zi0 (by kernel_rfl) (by kernel_rfl) (by kernel_rfl) (by kernel_rfl)
 have D__law_length:=dq (p:=PySem.Challenge.pw_thinways_k20_times_judged) (ps:=["pot","way"]) 271 270 41 537 X G zf0 (by kernel_rfl) (by kernel_rfl) (by kernel_rfl) (by kernel_rfl)
 have D__law_tied:=dq (p:=PySem.Challenge.pw_thinways_k20_times_judged) (ps:=["pot","n","style","a","b"]) 278 277 41 537 X G ziz (by kernel_rfl) (by kernel_rfl) (by kernel_rfl) (by kernel_rfl)
 have D__law_order:=dq (p:=PySem.Challenge.pw_thinways_k20_times_judged) (ps:=["pot","many"]) 285 284 41 537 X G zhg (by kernel_rfl) (by kernel_rfl) (by kernel_rfl) (by kernel_rfl)
 have D__law_web:=dq (p:=PySem.Challenge.pw_thinways_k20_times_judged) (ps:=["pot","most"]) 292 291 41 537 X G zj1 (by kernel_rfl) (by kernel_rfl) (by kernel_rfl) (by kernel_rfl)
 have D__law_keep:=dq (p:=PySem.Challenge.pw_thinways_k20_times_judged) (ps:=["pot","web"]) 297 296 41 537 X G zi1 (by kernel_rfl) (by kernel_rfl) (by kernel_rfl) (by kernel_rfl)
 have D__law_fars:=dq (p:=PySem.Challenge.pw_thinways_k20_times_judged) (ps:=["web","keep","start"]) 304 303 41 537 X G zi3 (by kernel_rfl) (by kernel_rfl) (by kernel_rfl) (by kernel_rfl)
 have D__law_outside:=dq (p:=PySem.Challenge.pw_thinways_k20_times_judged) (ps:=["web","keep"]) 309 308 41 537 X G zff (by kernel_rfl) (by kernel_rfl) (by kernel_rfl) (by kernel_rfl)
 have D__law_some_times:=dq (p:=PySem.Challenge.pw_thinways_k20_times_judged) (ps:=["pot","web","keep"]) 316 315 41 537 X G zdy (by kernel_rfl) (by kernel_rfl) (by kernel_rfl) (by kernel_rfl)
 have D__law_case:=dq (p:=PySem.Challenge.pw_thinways_k20_times_judged) (ps:=["pot","most"]) 323 322 41 537 X G zi4 (by kernel_rfl) (by kernel_rfl) (by kernel_rfl) (by kernel_rfl)
 have D__law_along:=dq (p:=PySem.Challenge.pw_thinways_k20_times_judged) (ps:=["web","keep","way"]) 328 327 41 537 X G zhh (by kernel_rfl) (by kernel_rfl) (by kernel_rfl) (by kernel_rfl)
 have D__law_good:=dq (p:=PySem.Challenge.pw_thinways_k20_times_judged) (ps:=["web","keep","t","told"]) 335 334 41 537 X G zi2 (by kernel_rfl) (by kernel_rfl) (by kernel_rfl) (by kernel_rfl)
 have D__law_walk:=dq (p:=PySem.Challenge.pw_thinways_k20_times_judged) (ps:=["pot","web","keep","a","b"]) 342 341 41 537 X G ziy (by kernel_rfl) (by kernel_rfl) (by kernel_rfl) (by kernel_rfl)
 have D__law_spoilt_row:=dq (p:=PySem.Challenge.pw_thinways_k20_times_judged) (ps:=["pot","row","many"]) 349 348 41 537 X G zdx (by kernel_rfl) (by kernel_rfl) (by kernel_rfl) (by kernel_rfl)
 have D__law_heights:=dq (p:=PySem.Challenge.pw_thinways_k20_times_judged) (ps:=["pot","web","keep","t","tie"]) 354 353 41 537 X G zfg (by kernel_rfl) (by kernel_rfl) (by kernel_rfl) (by kernel_rfl)
 have D__law_other:=dq (p:=PySem.Challenge.pw_thinways_k20_times_judged) (ps:=["pot","web","keep","t"]) 359 358 41 537 X G zhf (by kernel_rfl) (by kernel_rfl) (by kernel_rfl) (by kernel_rfl)
 have D__law_spoilt_ways:=dq (p:=PySem.Challenge.pw_thinways_k20_times_judged) (ps:=["pot","ways","many"]) 366 365 41 537 X G zdk (by kernel_rfl) (by kernel_rfl) (by kernel_rfl) (by kernel_rfl)
 have D__law_spoilt:=dq (p:=PySem.Challenge.pw_thinways_k20_times_judged) (ps:=["pot","web","told"]) 373 372 41 537 X G zfz (by kernel_rfl) (by kernel_rfl) (by kernel_rfl) (by kernel_rfl)
 have D__law_right:=dq (p:=PySem.Challenge.pw_thinways_k20_times_judged) (ps:=["web","keep","t","told"]) 380 379 41 537 X G zhe (by kernel_rfl) (by kernel_rfl) (by kernel_rfl) (by kernel_rfl)
 have e:=hfa.symm.trans (PySem.W.mg_of X G (show PySem.W.nsIn (K w.params) mainGlobals "law"=some (some (.ref 387)) by kernel_rfl))
 cases e
 have F:=zo7 (x:="law") (qual:="law") (st:=s_law) (K:=K w.params) (f:=387) (oc:=.type "function") (od:=none) (an:=none) (osl:=#[]) (kV:=.none) (doc:=.none) (pm:=Hx.mdV PySem.Challenge.pw_thinways_k20_times_judged ⟨0,0,0,41,537,0⟩) (cdv:=.ref 386) (ct:=.none) (by kernel_rfl) (by kernel_rfl) (by kernel_rfl)
 exact⟨_,fun s v=>.of_eq rfl,fun base _ _=>zp4 (P:=(PySem.Challenge.rw_thinways_k20_times_judged).prog) (w:=w) (base:=base) T D_is_whole D_is_wholes D_is_tuple_of D_is_told D_is_place D_is_tie_number D_whole D_tie_between D_are_unlike_places D_ties_along D_way_right D_leads_between D_way_length D_tie_weights D_cost_with D_reached_from D_fars_from D_tree_from D_the_way D_across D_heights_hold D_heights_from D_need_times D_not_kept D_way_of D_is_within D_heights_of D_way_within D_heights_beyond D_times_told D_ways_right D_far_right D_times_right D__law_pot D__law_take D__law_length D__law_tied D__law_order D__law_web D__law_keep D__law_fars D__law_outside D__law_some_times D__law_case D__law_along D__law_good D__law_walk D__law_spoilt_row D__law_heights D__law_other D__law_spoilt_ways D__law_spoilt D__law_right F⟩
end Hy
open PySem PySem.W PyProof.Rows
set_option maxRecDepth 100000 in
set_option maxHeartbeats 0 in
theorem PySem.Challenge.cw_thinways_k20_times_judged_holds : PySem.Challenge.rw_thinways_k20_times_judged.Holds := by
 w_on;o_law
 refine holds_open (q:=(Hx.qv PySem.Challenge.pw_thinways_k20_times_judged [62])) (loose:=Hx.lz PySem.Challenge.pw_thinways_k20_times_judged [62] 63) (Xt:=fun s=>xlAt (Hx.qv PySem.Challenge.pw_thinways_k20_times_judged [62]) [] s && recOk (OpenRow.toRowW (PySem.Challenge.rw_thinways_k20_times_judged).row).records s) (XP:=XL (Hx.qv PySem.Challenge.pw_thinways_k20_times_judged [62]) []) (Yf:=Hook.obs Hy.H) (Ya:=Hook.val Hy.H) (YP:=Hook.says Hy.H) (N:=4984) Hy.left (Hook.of Hy.H) (Hook.keeps Hy.H) (fun s e=>xl_of s (Bool.and_eq_true_iff.mp e).1) XL.keeps (by rfl) (by rfl) (by rfl) (fun s e=>recFacts_of (Bool.and_eq_true_iff.mp e).2) (by rfl) (by first | assumption | decide +kernel) (by decide +kernel) ⟨rfl,rfl,rfl,rfl,rfl,by decide +kernel⟩ ?hw ?hc
 case hw=>w_witness2
 case hc =>
  refine Me.walk (l:=PySem.Challenge.rw_thinways_k20_times_judged) rfl rfl (fun w h Y=>PySem.W.kIn_of Y) fun w mg fa h KX G hmg=>Hy.all KX G hmg
