import PyProof.Rows.All
import Wide.All
import OpenK.AllK
import Wide.FinOn
import Lean
import PyProof.EqAt
import PyProof.EqKinds
import PyProof.TupleCall
import KE.KSortTup
import PyProof.ZipIter
import PyProof.TupleIter
import PyProof.WalksMore
import PyProof.Rows.TupIter
import PyProof.EnumIter
import PyProof.EnumFor
import PyProof.EnumStmt
import PyProof.ReprRoads
import PyProof.Rows.SeqMore
import PyProof.ListMulRoad
import PyProof.FactsAll.tuple_2
import PyProof.FactsAll.tuple_3
import PyProof.Rows.Tup
import PyProof.ListRange
import PyProof.TupleOfSeq
import PyProof.SumAny
import PyProof.ConsumeS
import PyProof.Rows.CallKwBuiltin
import KE.KLam
import KE.KSortKey
import PyProof.AutoSeq1
import KE.KListMore
import PyProof.FactsAll.subtypes_4
import PyProof.SetRoads
import PyProof.Rows.SetFrom
import PyProof.WalkInts
import PyProof.DictDisplay
import PyProof.ReprBulk
import PyProof.Conv_int_bool
import PyProof.DictWalks
import PySem.Challenge.RW_thinways_k44_whole_none_has_fewer
set_option Elab.async false
set_option linter.all false
set_option maxRecDepth 100000
def ufk:=@decide_eq_true
def ufl:=@of_decide_eq_true
def ufm:=@decide_eq_false
def ufn:=@of_decide_eq_false
def ufo:=@if_pos
def ufp:=@if_neg
open PySem.Challenge renaming pw_thinways_k44_whole_none_has_fewer→a7, rw_thinways_k44_whole_none_has_fewer→m8
open PySem.W renaming Frag→a8, mg_none_of→p7, nsIn→u7, kla_obj→z9, fnOf→uau, tabIn→uaz, keepIn→ua3, kia_one→ua4, codeIn→ubq, tabObj→uci, kla_fn→ucz, cellsFrom_some→udb, findIn→udn, CodeHd→udo, methodObj→ud3, envX→ud5, instObj→uei, noTabs→ueu, lookIn→uev, mg_of→ue3, kla_codeExpr→ufg, kla_callFunE→ufh
open PySem renaming wpAny_bind→a9, Value→c9, Shared→d6, wpAny_pure→i9, Addr→j4, Program→m3, mainGlobals→m7, wpAny→o8, sizeLine→o9, PyData→r6, Around→v6, mem_of_lookup→v8, model→w8, World→uac, starEach→uah, wpAny_field→uaq, wpAny_setField_rec→uat, wpAny_holding→uaw, wpAny_callSpecial?_slot→uax, wpAny_mono→ua7, wpAny_call_entry→ua9, wpAny_truthy_bool→ubc, sizeLine_eq→ubd, FuncData→ubf, wpAny_newObj_type→ubk, Expr→ubl, Stmt→ubm, wpAny_seqItems→ub0, wpAny_Call_Name_kw→ub4, wpAny_passesOwn→ub8, Scope→ucd, wpAny_pyIter_list→ucp, codeAny_mono→ucu, wpAny_newList→uc1, wpAny_loadPart'→uc8, wpAny_attempt→udu, wpAny_execs_nil→ud2, wpAny_rule→ud4, wpAny_updateSeq_pair→uea, wpAny_newFunctionEnv→ueb, wpAny_newTuple→uef, wpAny_letGo→ueh, wpAny_standAt→ues, wpAny_onRaise→uet, call_meets→ue2, wpAny_typeOf→ue6, concat_meets→ue7, noFill_tuple_add→ufc
open PySem.Heap renaming get?_push_of_some→b7, lt_size→i8, get?_push_size→j0, get?_update_other→ua8, size_push→uba, ExtBut→udf
open List renaming getElem?_eq_getElem→c6, length_map→c7, getD_eq_getElem?_getD→d3, range→d7, length_append→g9, size_toArray→h9, getElem?_eq_some_iff→i0, mem_cons_self→i3, mem_singleton→i5, mem_of_getElem?→i6, getElem?_map→j5, mem_cons_of_mem→j7, length_range→j9, mem_cons→k8, replicate→k9, mem_range→l9, mem_append→m5, mem_append_right→m9, mem_map→o7, length_replicate→v5, not_mem_nil→w6, mem_filter→z0, getElem?_append_right→uaa, mem_append_left→uab, length_singleton→uaf, getElem?_eq_none→uag, getElem?_append_left→uai, lookup_cons→uaj, nodup_append→uak, map_map→uam, map_append→uao, all_eq_true→uap, pairwise_map→uar, perm_ext_iff_of_nodup→uav, getElem?_range→ua2, nodup_cons→ua5, length_set→ua6, append_nil→ubb, length_cons→ube, map_cons→ubg, getElem?_cons_succ→ubh, filter_sublist→ubj, getD→ubo, replicate_succ→ubs, map_congr_left→ubt, take_length→ubw, take_of_length_le→uby, reverse_cons→ub5, ext_getElem?→ub6, append_assoc→ub7, ext_getElem→uca, getElem_of_mem→ucc, getElem?_replicate→ucf, flatten_cons→ucl, mem_iff_getElem?→ucm, length_filter_le→ucn, length_take→uco, perm_cons_erase→ucs, pairwise_append→uct, reverse_append→ucv, of_mem_zip→ucw, length_pos_iff→ucx, filterMap_cons→ucy, zip_cons_cons→uc3, pairwise_iff_getElem→uc6, drop_eq_getElem_cons→uc7, nodup_range→udg, mem_flatMap→udh, length_drop→udi, countP_cons→udj, pairwise_lt_range→udk, getElem?_set_self→udl, toArray→udp, take_append_drop→udq, range_succ→udr, mem_of_mem_erase→uds, countP_mono_left→udt, reverse_reverse→udx, mem_of_mem_take→udy, getElem?_set_ne→udz, map_id→ud1, pairwise_cons→ud6, filterMap_map→ud7, take_sublist→ueg, all_map→uek, map_snd_zip→uen, getElem_mem→ueo, any_eq_true→uep, nil_append→uey, length_nil→uez, forIn_cons→ue0, getElem?_zip_eq_some→ufa, pairwise_singleton→ufi, getLast_eq_getElem→ufj
open Nat renaming le_refl→d8, ne_of_lt→j6, lt_of_lt_of_le→o3, le_trans→r8, zero_le→uad, lt_irrefl→ubi, lt_of_le_of_lt→ubn, min_le_right→ubx, lt_or_ge→ub2, le_succ→uce, le_add_right→ucr, not_lt_zero→uc0, le_of_lt→uc5, lt_succ_of_lt→udd, le_of_eq→udv, lt_trichotomy→uej, ne_of_gt→uem, succ_le_succ→uew, strongRecOn→ue5
open Bool renaming false_ne_true→i7, and_eq_true→r9, false_eq_true→uay, eq_iff_iff→ub1, true_and→uch, eq_false_iff→uda, or_eq_true→ue1
open Or renaming inl→j8, inr→ue9
open Int renaming natCast_nonneg→o6, toNat_natCast→u4, le_refl→uae, toNat_of_nonneg→uan, le_of_lt→ubu, emod_lt_of_pos→ubz, emod_nonneg→ub3, le_trans→udw, lt_of_le_of_lt→ued, add_right_comm→uee, ne_of_lt→ueq, mul_le_mul_of_nonneg_right→uer, mul_nonneg→uff
open PySem.Str renaming ofString→u5
open Option.some renaming inj→u6
open PySem.F renaming plainAttrs_list→ual, type_list_append→ua0, slot_list_append→ua1, slot_tuple_iterator_next→ub9, slot_enumerate_next→ucq, args_tuple_add_2→uc2, entry_tuple_add→uc9, slot_tuple_add→udc, slot_zip_next→ud0, plain_list_iadd→ue4, args_tuple_iterator_next_1→ue8, entry_tuple_iterator_next→ufd
open PyProof.Rows renaming slot_tuple_getitem→uas, callWith_type1→ubr
open Array renaming length_toList→ubp, mk→ude, getD→ufb
open Option renaming map_eq_some_iff→ubv
open List.Pairwise renaming nil→ucb, imp_of_mem→ud8
open List.Perm renaming refl→ucg
open PySem.PyData renaming canLayAll0→ucj, strOk→uck, eqv→uc4, int→udm, depth→uec, depthAll→uel
open Array.Perm renaming refl→ud9
open PySem.Heap.SameBut renaming update→uex
open List.Nodup renaming sublist→ufe
local macro_rules | `(tactic| ac_rfl) => `(tactic| first | exact (fun _ _ _ _ _ _ us hl => match us, hl with | [_], _ => rfl) | exact (fun _ _ _ _ _ _ us hl => match us, hl with | [_, _], _ => rfl) | exact (fun _ _ _ _ _ _ us hl => match us, hl with | [_, _, _], _ => rfl) | exact (fun _ _ _ _ _ _ us hl => match us, hl with | [_, _, _, _], _ => rfl) | exact (fun _ _ _ _ _ _ us hl => match us, hl with | [_, _, _, _, _], _ => rfl) | exact (fun _ _ _ _ _ _ us hl => match us, hl with | [_, _, _, _, _, _], _ => rfl) | exact (fun _ _ _ _ _ _ us hl => match us, hl with | [_, _, _, _, _, _, _], _ => rfl))
local macro_rules | `(tactic| left) => `(tactic| first | lia | omega)
local macro_rules | `(tactic| symm) => `(tactic| decide +kernel)
local macro_rules | `(tactic| right) => `(tactic| exact ⟨rfl, rfl, rfl, by decide +kernel, rfl, by decide +kernel, by decide +kernel⟩)
namespace L2
open PySem PySem.Spec PyProof.Rows
abbrev Key:=Sum Int Str
def keyIs:Key->c9->Bool
 | .inl k,v=>Value.isInt k v
 | .inr x,v=>Value.isStrOf x v
def keyH (w:uac):Key->Int
 | .inl k=>hashInt k
 | .inr x=>hashStr w x
theorem cN:∀ {k:Key}{v:c9},keyIs k v=true->(∃ i t,k=Sum.inl i/\v=Value.int i t)\/(∃ x t,k=Sum.inr x/\v=Value.str x t)
 | .inl i,v,h=>by
  obtain⟨t,e⟩:=Value.isInt_shape (k:=i) (v:=v) h
  exact .inl ⟨i,t,rfl,e⟩
 | .inr x,v,h=>by
  obtain⟨t,e⟩:=Value.isStrOf_shape (x:=x) (v:=v) h
  exact .inr ⟨x,t,rfl,e⟩
theorem zbc (a b:Int):decide ((Sum.inl a:Key)=Sum.inl b)=(a==b):=by
 by_cases e:a=b
 ·subst e;simp
 ·have h:¬ (Sum.inl a:Key)=Sum.inl b:=λ q=>e (Sum.inl.inj q)
  rw[ufm h]
  exact (beq_eq_false_iff_ne.mpr e).symm
theorem za9 (a b:Str):decide ((Sum.inr a:Key)=Sum.inr b)=decide (a=b):=by
 by_cases e:a=b
 ·subst e;simp
 ·have h:¬ (Sum.inr a:Key)=Sum.inr b:=λ q=>e (Sum.inr.inj q)
  rw[ufm h,ufm e]
theorem zbb (a:Int)(b:Str):decide ((Sum.inl a:Key)=Sum.inr b)=false:=ufm (λ q=>nomatch q)
theorem zba (a:Str)(b:Int):decide ((Sum.inr a:Key)=Sum.inl b)=false:=ufm (λ q=>nomatch q)
def mixKind (prog:m3)(w:uac):PySem.KeyKind prog w Key where
 is:=keyIs
 hash:=keyH w
 inj:=λ v a b ha hb=>by
  rcases cN ha with ⟨i,t,rfl,rfl⟩ | ⟨x,t,rfl,rfl⟩
  ·rcases cN hb with ⟨j,u,rfl,e⟩ | ⟨y,u,rfl,e⟩
   ·injection e with e1 _;rw[e1]
   ·exact nomatch e
  ·rcases cN hb with ⟨j,u,rfl,e⟩ | ⟨y,u,rfl,e⟩
   ·exact nomatch e
   ·injection e with e1 _;rw[e1]
 byValue:=λ k v h=>by
  rcases cN h with ⟨i,t,rfl,rfl⟩ | ⟨x,t,rfl,rfl⟩ <;> rfl
 pyHash:=λ hv h=>by
  rcases cN hv with ⟨i,t,rfl,rfl⟩ | ⟨x,t,rfl,rfl⟩
  ·exact wpAny_pyHash_int h
  ·exact wpAny_pyHash_str h
 eqBool:=λ hu hv h=>by
  rcases cN hu with ⟨i,t,rfl,rfl⟩ | ⟨x,t,rfl,rfl⟩
  ·rcases cN hv with ⟨j,u,rfl,rfl⟩ | ⟨y,u,rfl,rfl⟩
   ·rw[zbc] at h;exact wpAny_eqBool_int h
   ·rw[zbb] at h;exact SeqAt.EqAt.int_str i t y u _ _ _ _ h
  ·rcases cN hv with ⟨j,u,rfl,rfl⟩ | ⟨y,u,rfl,rfl⟩
   ·rw[zba] at h;exact SeqAt.EqAt.str_int x t j u _ _ _ _ h
   ·rw[za9] at h;exact wpAny_eqBool_str h
 «strs»:=λ k x t v h=>by
  rcases cN h with ⟨i,u,rfl,e⟩ | ⟨y,u,rfl,e⟩
  ·exact nomatch e
  ·injection e with e1 _
   subst e1
   cases v <;> rfl
end L2
namespace L2
open PySem PySem.Spec PyProof.Rows
inductive V where
 | non | bl (b:Bool) | int (i:Int) | str (x:Str) | byt (b:Array UInt8) | flt (b:UInt64) | ref (a:j4) | ty (n:String)
 deriving DecidableEq
def RelV:V->c9->Prop
 | .non,u=>u=Value.none
 | .bl b,u=>u=Value.bool b
 | .int i,u=>∃ t,u=Value.int i t
 | .str x,u=>∃ t,u=Value.str x t
 | .byt b,u=>∃ t,u=Value.bytes b t
 | .flt b,u=>∃ t,u=Value.float b t
 | .ref a,u=>u=Value.ref a
 | .ty n,u=>u=Value.type n
abbrev Vals:List V->List c9->Prop:=Paired RelV
theorem Vals.length {xs:List V}{us:List c9}(r:Vals xs us):xs.length=us.length:=Paired.length r
theorem Vals.get:∀ {xs:List V}{us:List c9}{i:Nat}{x:V},Vals xs us->xs[i]?=some x->∃ u,us[i]?=some u/\RelV x u
 | _,_,_,_,.nil,e=>by simp at e
 | _,_,0,_,.cons r _,e=>by simp at e;subst e;exact⟨_,rfl,r⟩
 | _,_,i+1,x,.cons _ t,e=>by
  obtain⟨u,h1,h2⟩:=Vals.get (i:=i) (x:=x) t (by simpa using e)
  exact⟨u,by simpa using h1,h2⟩
theorem Vals.set {x:V}{u:c9}(r:RelV x u):∀ {xs:List V}{us:List c9}(i:Nat),Vals xs us->Vals (xs.set i x) (us.set i u)
 | _,_,_,.nil=>.nil
 | _,_,0,.cons _ t=>.cons r t
 | _,_,i+1,.cons q t=>.cons q (Vals.set r i t)
theorem Vals.append:∀ {xs ys:List V}{us ws:List c9},Vals xs us->Vals ys ws->Vals (xs++ys) (us++ws)
 | _,_,_,_,.nil,s=>s
 | _,_,_,_,.cons r t,s=>.cons r (Vals.append t s)
theorem Vals.take:∀ {xs:List V}{us:List c9}(n:Nat),Vals xs us->Vals (xs.take n) (us.take n)
 | _,_,0,_=>.nil
 | _,_,_+1,.nil=>.nil
 | _,_,n+1,.cons r t=>.cons r (Vals.take n t)
theorem Vals.drop:∀ {xs:List V}{us:List c9}(n:Nat),Vals xs us->Vals (xs.drop n) (us.drop n)
 | _,_,0,r=>r
 | _,_,_+1,.nil=>.nil
 | _,_,n+1,.cons _ t=>Vals.drop n t
def RelO:Option V->Option c9->Prop
 | some v,some u=>RelV v u
 | none,none=>True
 | _,_=>False
def KV {κ:Type}:List (κ × V)->List (κ × c9)->Prop:=Paired λ (p:κ × V) (q:κ × c9)=>p.1=q.1/\RelV p.2 q.2
def kV:Key->V
 | .inl i=>.int i
 | .inr x=>.str x
inductive HO where
  | lst (xs:List V)
  | tup (xs:List V)
  | dK (kvs:List (Key × V)) | dT (kvs:List (List Key × V))
  | set (S:Int->Bool) (n:Nat)
  | ins (C dx:j4) (fs:List (Str × V))
  | own (x:j4)
  | xd (fs:List (Str × V))
  | met (f x:j4)
  | rng (lo hi:Int)
  | frz (o:Obj) (u:HO)
  | tbl (ps:Array c9)
  | ext (φ:Heap->Prop)
abbrev Hp:=j4->Option HO
def upd (H:Hp)(a:j4)(o:HO):Hp:=λ b=>if b=a then some o else H b
theorem aM {H:Hp}{a:j4}{o:HO}:upd H a o a=some o:=by unfold upd;rw[ufo rfl]
theorem aK {H:Hp}{a b:j4}{o:HO}(h:b≠a):upd H a o b=H b:=by unfold upd;rw[ufp h]
theorem nG {H:Hp}{a:j4}{o u:HO}:upd (upd H a o) a u=upd H a u:=by
 funext b;unfold upd;split <;> rfl
theorem aY {H:Hp}{a b:j4}{o:HO}(h:H a=some o)(h':H b=none):a≠b:=by
 intro e;subst e;rw[h] at h';cases h'
section
variable (P:m3)(w:uac)
def TupN (h:Heap)(a:j4)(items:Array c9):Prop:=∃ o,h.get? a=some o/\o.cls=.type "tuple"/\(∃ n,o.data=.seq items n)/\o.dict=none
theorem TupN.tup {h:Heap}{a:j4}{items:Array c9}(x:TupN h a items):IsTup h a items:=let ⟨o,e,c,d,_⟩:=x;⟨o,e,c,d⟩
theorem TupN.new (h:Heap)(items:Array c9):TupN (h.push { cls:=.type "tuple",data:=.seq items }) h.objs.size items:=⟨_,j0 _ rfl,rfl,⟨_,rfl⟩,rfl⟩
def ObjOk (H:Hp)(h:Heap)(a:j4):HO->Prop
 | .lst xs=>xs.length<=o9/\∃ (its:List c9)(n:Nat),Vals xs its/\h.get? a=some { cls:=.type "list",data:=.seq its.toArray n }
 | .tup xs=>xs.length<=o9/\∃ its:List c9,Vals xs its/\TupN h a its.toArray
 | .dK kvs=>kvs.length<=o9/\(a==sysModules)=false/\∃ vs,KV kvs vs/\h.DictOf (mixKind P w) a vs
 | .dT kvs => kvs.length <= o9 /\ (a==sysModules) = false /\ ∃ xs : List (List Key × j4 × c9),
     Paired (λ (p:List Key × V) (q:List Key × j4 × c9)=>p.1=q.1/\H q.2.1=some (.tup (p.1.map kV))/\RelV p.2 q.2.2) kvs xs /\
     ∃ o es ep,h.get? a=some o/\o.ExactDict/\o.data=.dict es ep/\es.toList=xs.map (entryOfKey (tupleKind (mixKind P w)))/\(xs.map (·.1)).Nodup
 | .set S n=>h.SetOf (intKind P w) a S n
 | .ins C dx fs => H dx = some (.own a) /\ fs.length <= 1000 /\ dx ≠ a /\ h.get? a = some (uei C dx) /\
     ∃ mA,h.Ns1 dx mA/\(∀ f,RelO (fs.lookup f) (mA f))/\PySem.Within mA (fs.map (·.1))
 | .own _=>∃ o,h.get? a=some o
 | .xd fs=>∃ mA,h.Ns1 a mA/\∀ f,RelO (fs.lookup f) (mA f)
 | .rng lo hi=>∃ t u v,h.get? a=some { cls:=.type "range",data:=.fields #[.int lo t,.int hi u,.int 1 v] }
 | .frz o u=>h.get? a=some o/\ObjOk H h a u
 | .tbl ps=>h.get? a=some { cls:=.none,data:=.fields ps }
 | .met f x=>h.get? a=some (ud3 (.ref f) (.ref x))
 | .ext φ=>φ h/\(∃ o,h.get? a=some o)/\∀ h1 h2:Heap,φ h1->(∀ o,h1.get? a=some o->h2.get? a=some o)->φ h2
def HOk (H:Hp)(h:Heap):Prop:=∀ a o,H a=some o->ObjOk P w H h a o
end
section
variable {P:m3}{w:uac}{H H':Hp}{h h':Heap}{a:j4}{o:HO}
theorem ObjOk.lt (x:ObjOk P w H h a o):a<h.objs.size:=by
 cases o with
 | lst xs=>obtain⟨_,_,_,_,e⟩:=x;exact i8 e
 | tup xs=>obtain⟨_,_,_,p⟩:=x;exact p.tup.lt
 | dK kvs=>obtain⟨_,_,_,_,o,_,_,e,_⟩:=x;exact i8 e
 | dT kvs=>obtain⟨_,_,_,_,o,_,_,e,_⟩:=x;exact i8 e
 | set S n=>obtain⟨o,_,_,_,e,_⟩:=x;exact i8 e
 | ins C dx fs=>obtain⟨_,_,_,e,_⟩:=x;exact i8 e
 | own y=>obtain⟨_,e⟩:=x;exact i8 e
 | xd fs=>obtain⟨_,⟨_,_,_,e,_⟩,_⟩:=x;exact i8 e
 | rng lo hi=>obtain⟨_,_,_,e⟩:=x;exact i8 e
 | frz ob u=>obtain⟨e,_⟩:=x;exact i8 e
 | tbl ps=>exact i8 (show h.get? a=some _ from x)
 | met f y=>exact i8 (show h.get? a=some _ from x)
 | ext φ=>obtain⟨_,⟨_,e⟩,_⟩:=x;exact i8 e
theorem Paired.mapP {α β:Type}{F G:α->β->Prop}:∀ {l₁:List α}{l₂:List β},Paired F l₁ l₂->(∀ a b,F a b->G a b)->Paired G l₁ l₂
 | _,_,.nil,_=>.nil
 | _,_,.cons r t,f=>.cons (f _ _ r) (Paired.mapP t f)
theorem ObjOk.stay (x:ObjOk P w H h a o)(k:∀ b u,(b=a\/H b=some (.own a))->h.get? b=some u->h'.get? b=some u)
  (ho:∀ b,H b=some (.own a)->H' b=some (.own a)) (ht:∀ b xs,H b=some (.tup xs)->H' b=some (.tup xs)):ObjOk P w H' h' a o:=by
 induction o with
 | lst xs=>obtain⟨z,its,n,r,e⟩:=x;exact⟨z,its,n,r,k _ _ (.inl rfl) e⟩
 | tup xs=>obtain⟨z,its,r,ob,e,c⟩:=x;exact⟨z,its,r,ob,k _ _ (.inl rfl) e,c⟩
 | dK kvs=>obtain⟨z,y,vs,r,ob,es,ep,e,c⟩:=x;exact⟨z,y,vs,r,ob,es,ep,k _ _ (.inl rfl) e,c⟩
 | dT kvs =>
  obtain⟨z,y,xs,r,ob,es,ep,e,c⟩:=x
  exact⟨z,y,xs,Paired.mapP r λ p q z=>⟨z.1,ht _ _ z.2.1,z.2.2⟩,ob,es,ep,k _ _ (.inl rfl) e,c⟩
 | set S n=>obtain⟨ob,es,ep,t,e,c⟩:=x;exact⟨ob,es,ep,t,k _ _ (.inl rfl) e,c⟩
 | ins C dx fs =>
  obtain⟨d,z,ne,e,mA,⟨od,es,ep,e2,c⟩,r⟩:=x
  exact⟨ho _ d,z,ne,k _ _ (.inl rfl) e,mA,⟨od,es,ep,k _ _ (.inr d) e2,c⟩,r⟩
 | own y=>obtain⟨ob,e⟩:=x;exact⟨ob,k _ _ (.inl rfl) e⟩
 | xd fs=>obtain⟨mA,⟨od,es,ep,e,c⟩,r⟩:=x;exact⟨mA,⟨od,es,ep,k _ _ (.inl rfl) e,c⟩,r⟩
 | rng lo hi=>obtain⟨t,u,v,e⟩:=x;exact⟨t,u,v,k _ _ (.inl rfl) e⟩
 | frz ob u ih=>obtain⟨e,q⟩:=x;exact⟨k _ _ (.inl rfl) e,ih q⟩
 | tbl ps =>
  have e:h.get? a=some { cls:=.none,data:=.fields ps }:=x
  show h'.get? a=some { cls:=.none,data:=.fields ps }
  exact k a _ (.inl rfl) e
 | met f y =>
  have e:h.get? a=some (ud3 (.ref f) (.ref y)):=x
  show h'.get? a=some (ud3 (.ref f) (.ref y))
  exact k a _ (.inl rfl) e
 | ext φ=>obtain⟨p,⟨o,e⟩,st⟩:=x;exact⟨st _ _ p λ o q=>k _ _ (.inl rfl) q,⟨o,k _ _ (.inl rfl) e⟩,st⟩
theorem HOk.lt (x:HOk P w H h)(e:H a=some o):a<h.objs.size:=(x a o e).lt
theorem HOk.fresh (x:HOk P w H h)(e:h.objs.size<=a):H a=none:=by
 cases q:H a with
 | none=>rfl
 | some u=>exact absurd (o3 (x.lt q) e) (ubi _)
theorem HOk.kept (x:HOk P w H h)(k:∀ b u,h.get? b=some u->h'.get? b=some u):HOk P w H h':=λ a o e =>
 (x a o e).stay (λ b u _ q=>k b u q) (λ _ q=>q) λ _ _ q=>q
theorem HOk.laid (x:HOk P w H h)(k:∀ b u,h.get? b=some u->h'.get? b=some u)(hp:h.objs.size<=a)(new:ObjOk P w (upd H a o) h' a o):HOk P w (upd H a o) h':=λ b u e=>by
 have hn:=x.fresh hp
 by_cases hb:b=a
 ·subst hb;rw[aM] at e;cases e;exact new
 ·rw[aK hb] at e
  exact (x b u e).stay (λ c v _ q=>k c v q) (λ c q=>by rw[aK (aY q hn)];exact q) λ c xs q=>by rw[aK (aY q hn)];exact q
end
def Rd (H:Hp)(a:j4)(u:HO):Prop:=H a=some u\/∃ o,H a=some (.frz o u)
theorem Rd.ok {P:m3}{w:uac}{H:Hp}{h:Heap}{a:j4}{u:HO}(r:Rd H a u)(x:HOk P w H h):ObjOk P w H h a u:=by
 rcases r with r | ⟨o,r⟩
 ·exact x a u r
 ·obtain⟨_,q⟩:=x a _ r
  exact q
def Mut:Option HO->Prop
 | some (.lst _)=>True
 | some (.dK _)=>True
 | some (.dT _)=>True
 | some (.set _ _)=>True
 | some (.ins _ _ _)=>True
 | some (.ext _)=>True
 | _=>False
section
variable {P:m3}{w:uac}{H:Hp}{h h':Heap}{x e:j4}{o':HO}
theorem HOk.write (ok:HOk P w H h)(mu:Mut (H x))(he:e=x\/H e=some (.own x))(k:∀ b u,b≠e->h.get? b=some u->h'.get? b=some u)(heo:∃ u,h'.get? e=some u)
  (new:ObjOk P w (upd H x o') h' x o'):HOk P w (upd H x o') h':=λ b u q=>by
 have nown:∀ c y,H c=some (.own y)->c≠x:=λ c y r z=>by subst z;rw[r] at mu;exact mu
 have ntup:∀ c xs,H c=some (.tup xs)->c≠x:=λ c xs r z=>by subst z;rw[r] at mu;exact mu
 by_cases hb:b=x
 ·subst hb;rw[aM] at q;cases q;exact new
 ·rw[aK hb] at q
  by_cases hbe:b=e
  ·have q':H b=some (.own x):=by
    rcases he with z | z
    ·exact absurd (hbe.trans z) hb
    ·rw[hbe];exact z
   rw[q] at q';cases q'
   obtain⟨v,hv⟩:=heo
   exact⟨v,by rw[hbe];exact hv⟩
  ·refine (ok b u q).stay (λ c v hc r=>k c v ?_ r) (λ c r=>by rw[aK (nown c b r)];exact r) λ c xs r=>by rw[aK (ntup c xs r)];exact r
   rcases hc with rfl | hc
   ·exact hbe
   ·rintro rfl
    rcases he with z | z
    ·exact nown c b hc z
    ·rw[hc] at z;cases z;exact hb rfl
end
structure Un (fs ex:List j4)(H H':Hp)(h h':Heap):Prop where
 keep:∀ b o,h.get? b=some o->H b=none->b∉fs->b∉ex->h'.get? b=some o
 slot:∀ b o,h.get? b=some o->H b=none->b∈fs->b∉ex->∃ sl,h'.get? b=some { o with slots:=sl }
 free:∀ b o,h.get? b=some o->H b=none->b∉ex->H' b=none
 there:∀ b o,h.get? b=some o->b∉ex->∃ o',h'.get? b=some o'
 tups:∀ b xs,H b=some (.tup xs)->H' b=some (.tup xs)
 frzs:∀ b o u,H b=some (.frz o u)->H' b=some (.frz o u)
 tbls:∀ b ps,H b=some (.tbl ps)->∃ more,H' b=some (.tbl (ps++more))
section
variable {fs fs' ex ex':List j4}{H H1 H2:Hp}{h h1 h2 h':Heap}{a x e:j4}{o:HO}
theorem Un.any (u:Un fs ex H H1 h h1){b:j4}{ob:Obj}(q:h.get? b=some ob)(n:H b=none)(hx:b∉ex):∃ sl,h1.get? b=some { ob with slots:=sl }:=by
 by_cases hb:b∈fs
 ·exact u.slot b ob q n hb hx
 ·exact⟨ob.slots,u.keep b ob q n hb hx⟩
theorem Un.trans (a:Un fs ex H H1 h h1)(b:Un fs ex H1 H2 h1 h2):Un fs ex H H2 h h2 where
 keep:=λ c ob q n hc hx=>b.keep c ob (a.keep c ob q n hc hx) (a.free c ob q n hx) hc hx
 slot:=λ c ob q n hc hx=>by
  obtain⟨sl,e1⟩:=a.slot c ob q n hc hx
  obtain⟨sl',e2⟩:=b.slot c _ e1 (a.free c ob q n hx) hc hx
  exact⟨sl',e2⟩
 free:=λ c ob q n hx=>by
  obtain⟨o',e1⟩:=a.there c ob q hx
  exact b.free c o' e1 (a.free c ob q n hx) hx
 there:=λ c ob q hx=>by
  obtain⟨o',e1⟩:=a.there c ob q hx
  exact b.there c o' e1 hx
 tups:=λ c xs q=>b.tups c xs (a.tups c xs q)
 frzs:=λ c ob xs q=>b.frzs c ob xs (a.frzs c ob xs q)
 tbls:=λ c ps q=>by
  obtain⟨m1,e1⟩:=a.tbls c ps q
  obtain⟨m2,e2⟩:=b.tbls c _ e1
  exact⟨m1++m2,by rw[e2,Array.append_assoc]⟩
theorem Un.kept (k:∀ b u,h.get? b=some u->h'.get? b=some u):Un fs ex H H h h' :=
 ⟨λ b ob q _ _ _=>k b ob q,λ b ob q _ _ _=>⟨ob.slots,k b ob q⟩,λ _ _ _ n _=>n,λ b ob q _=>⟨ob,k b ob q⟩,λ _ _ q=>q,λ _ _ _ q=>q,λ _ ps q=>⟨#[],by rw[q];simp⟩⟩
theorem Un.refl:Un fs ex H H h h:=Un.kept λ _ _ q=>q
theorem Un.laid (k:∀ b u,h.get? b=some u->h'.get? b=some u)(hp:h.objs.size<=a)(hn:H a=none):Un fs ex H (upd H a o) h h' where
 keep:=λ b u q _ _ _=>k b u q
 slot:=λ b u q _ _ _=>⟨u.slots,k b u q⟩
 free:=λ b u q n _=>by rw[aK (j6 (o3 (i8 q) hp))];exact n
 there:=λ b u q _=>⟨u,k b u q⟩
 tups:=λ b xs q=>by rw[aK (aY q hn)];exact q
 frzs:=λ b u xs q=>by rw[aK (aY q hn)];exact q
 tbls:=λ b ps q=>⟨#[],by rw[aK (aY q hn),q];simp⟩
theorem Un.write (mu:Mut (H x))(he:e=x\/H e=some (.own x))(k:∀ b u,b≠e->h.get? b=some u->h'.get? b=some u)(heo:∃ u,h'.get? e=some u):Un fs ex H (upd H x o) h h':=by
 have hx:∀ b,H b=none->b≠x:=λ b n z=>by subst z;rw[n] at mu;exact mu
 have hb:∀ b,H b=none->b≠e:=λ b n z=>by
  subst z
  rcases he with r | r
  ·exact hx b n r
  ·rw[n] at r;cases r
 have hm:∀ b u,H b=some u->¬ Mut (some u)->b≠x:=λ b u q nm z=>by subst z;rw[q] at mu;exact nm mu
 refine⟨λ b u q n _ _=>k b u (hb b n) q,λ b u q n _ _=>⟨u.slots,k b u (hb b n) q⟩,λ b u q n _=>by rw[aK (hx b n)];exact n,λ b u q _=>?_,
  λ b xs q=>by rw[aK (hm b _ q λ z=>z)];exact q,λ b u xs q=>by rw[aK (hm b _ q λ z=>z)];exact q,λ b ps q=>⟨#[],by rw[aK (hm b _ q λ z=>z),q];simp⟩⟩
 by_cases hbe:b=e
 ·subst hbe;exact heo
 ·exact⟨u,k b u hbe q⟩
end
def trk (h:Heap)(H:Hp):List j4:=(d7 h.objs.size).filter λ a=>(H a).isSome
def hidT (h:Heap)(H:Hp):Heap:=PySem.W.hideAll h (trk h H)
theorem vX (h:Heap)(H:Hp):(hidT h H).objs.size=h.objs.size:=PySem.W.hideAll_size _ _
theorem fY {h:Heap}{H:Hp}{b:j4}{o:Obj}(e:h.get? b=some o)(n:H b=none):(hidT h H).get? b=some o :=
 PySem.W.hideAll_get _ e λ hm=>by
  have q:(H b).isSome=true:=(z0.mp hm).2
  rw[n] at q;simp at q
theorem zN {h:Heap}{H:Hp}{b:j4}{o:Obj}(e:(hidT h H).get? b=some o):h.get? b=some o/\H b=none:=by
 have e':h.get? b=some o:=PySem.W.of_hideAll (trk h H) e
 refine⟨e',?_⟩
 cases q:H b with
 | none=>rfl
 | some x =>
  have hm:b∈trk h H:=z0.mpr ⟨l9.mpr (i8 e'),by simp [q]⟩
  have z:(hidT h H).get? b=none:=PySem.W.hideAll_none (trk h H) hm
  rw[z] at e;cases e
def allNews (g h:Heap)(L:j4):List (j4 × Obj):=(d7 h.objs.size).filterMap λ a=>if a=L\/(g.get? a).isSome=true then none else (h.get? a).map λ o=>(a,o)
def rest (g h:Heap)(L d:j4):List (j4 × Obj):=(allNews g h L).filter λ p=>decide (p.1≠d)
end L2
namespace L2
open PySem PySem.Spec PyProof.Rows
structure Mod (K:a8)(mg:Str->Option c9)(base:Heap):Prop where
 kin:K.In base
 glob:base.Ns m7 mg
 blt:∃ mb,base.Ns builtinsNs mb/\∀ x:Str,x≠"__name__"->mb x=bootBuiltins x
 nolimit:base.NoLimit
structure Cx where
 prog:m3
 w:uac
 K:a8
 mg:Str->Option c9
 base:Heap
 A:v6
 N:List Str
 s₀:d6
 H₀:Hp
 env:Env
 outer:List Env
 stack:List Env
 ex:List j4
 fn:Str->Bool
 calm:Bool
 pn:List (j4 × Obj)
 xe:c9->d6->Prop
def frs (l:List Env):List j4:=l.filterMap (·.frame)
abbrev Cx.fs (X:Cx):List j4:=frs X.outer
def Vis (sc:ucd)(x:Str):Prop:=sc.names.lookup x=some .local\/sc.names.lookup x=some .cell\/sc.names.lookup x=some .free
def Loc (sc:ucd)(x:Str):Prop:=sc.names.lookup x=some .local\/sc.names.lookup x=some .cell
def Look (env:Env)(h:Heap)(m:Str->Option c9)(x:Str)(u:c9):Prop :=
 (env.kindOf x=some .local/\m x=some u)\/((env.kindOf x=some .cell\/env.kindOf x=some .free)/\∃ c,env.cells.lookup x=some c/\h.IsCell c (some u))
structure Cx.Ok (X:Cx):Prop where
 mod:Mod X.K X.mg X.base
 kind:X.env.scope.kind=.function
 glob:X.env.globals=m7
 blt:X.env.builtins=builtinsNs
 above:X.s₀.heap.objs.size<=X.env.locals
 inj:∀ x y c,X.env.cells.lookup x=some c->X.env.cells.lookup y=some c->x=y
 has:∀ x,(X.env.kindOf x=some .cell\/X.env.kindOf x=some .free)->∃ c,X.env.cells.lookup x=some c
 cab:∀ x c,X.fn x=true->X.env.cells.lookup x=some c->X.s₀.heap.objs.size<=c
 hd:X.calm=true->X.A.handled=none
 frames:X.A.frames=some X.stack
 stk:X.stack=X.outer\/(X.stack=X.env::X.outer/\X.env.frame=some X.env.locals)
 exf:∀ b∈X.ex,b≠X.env.locals/\∀ x c,X.env.cells.lookup x=some c->c≠b
 bs:∀ b o,X.base.get? b=some o->X.s₀.heap.get? b=some o/\X.H₀ b=none
 bsz:X.base.objs.size<=X.s₀.heap.objs.size
 noex:∀ b o,X.base.get? b=some o->b∉X.ex
 exfs:∀ b∈X.ex,b∉X.fs
 funs:X.s₀.heap.FunFrames X.base X.outer
 frf:∀ b∈X.fs,X.H₀ b=none
structure Inv (X:Cx)(pins:List (j4 × Obj))(σ:List (Option V))(H:Hp)(s:d6):Prop where
 ok:X.Ok
 os:s.os=X.s₀.os
 bare:AllBare s.gens
 base:Un X.fs X.ex X.H₀ H X.s₀.heap s.heap
 loc:∃ m,s.heap.Ns X.env.locals m/\∀ (i:Nat)(x:Str)(v:V),X.N[i]?=some x->σ[i]?=some (some v)->Vis X.env.scope x->∃ u,RelV v u/\Look X.env s.heap m x u
 cell:∀ x c,X.env.cells.lookup x=some c->∃ v,s.heap.IsCell c v
 free:H X.env.locals=none
 freeC:∀ x c,X.env.cells.lookup x=some c->H c=none
 pin:∀ p∈X.pn++pins,s.heap.get? p.1=some p.2/\H p.1=none/\p.1≠X.env.locals/\p.1∉X.fs/\∀ v,p.2.data≠.cell v
 hok:HOk X.prog X.w H s.heap
 len:σ.length=X.N.length
section
variable {X:Cx}{pins:List (j4 × Obj)}{σ:List (Option V)}{H H':Hp}{s:d6}{h':Heap}
theorem Cx.Ok.nofr (ok:X.Ok){b:j4}{o:Obj}(e:X.base.get? b=some o):b∉X.fs:=λ hb=>by
 have:=(ok.funs.mem hb).1
 rw[e] at this;cases this
theorem Inv.bs (I:Inv X pins σ H s):∀ b o,X.base.get? b=some o->s.heap.get? b=some o/\H b=none:=λ b o e =>
 ⟨I.base.keep b o (I.ok.bs b o e).1 (I.ok.bs b o e).2 (I.ok.nofr e) (I.ok.noex b o e),I.base.free b o (I.ok.bs b o e).1 (I.ok.bs b o e).2 (I.ok.noex b o e)⟩
theorem Inv.bk (I:Inv X pins σ H s):∀ b o,X.base.get? b=some o->s.heap.get? b=some o:=λ b o e=>(I.bs b o e).1
theorem Inv.mod (I:Inv X pins σ H s):Mod X.K X.mg X.base:=I.ok.mod
theorem Inv.kIn (I:Inv X pins σ H s):X.K.In s.heap:=I.ok.mod.kin.keeps I.bk
theorem Inv.lt (I:Inv X pins σ H s):X.env.locals<s.heap.objs.size:=let ⟨_,hn,_⟩:=I.loc;hn.lt
theorem Inv.sz (I:Inv X pins σ H s):X.s₀.heap.objs.size<=s.heap.objs.size:=r8 I.ok.above (uc5 I.lt)
theorem Inv.nofs (I:Inv X pins σ H s){a:j4}(h:s.heap.objs.size<=a):a∉X.fs:=λ hb=>by
 obtain⟨_,o,ho,_⟩:=I.ok.funs.mem hb
 exact absurd (o3 (i8 ho) (r8 I.sz h)) (ubi _)
theorem Inv.cne (I:Inv X pins σ H s):∀ x c,X.env.cells.lookup x=some c->c≠X.env.locals:=λ x c e z=>by
 obtain⟨v,o,ho,hd⟩:=I.cell x c e
 obtain⟨m,⟨o',es,ep,ho',hd',_⟩,_⟩:=I.loc
 rw[z,ho'] at ho;cases ho;rw[hd'] at hd;cases hd
theorem Inv.funs (I:Inv X pins σ H s):s.heap.FunFrames X.base X.outer:=by
 have all:∀ (l:List Env),(∀ b∈frs l,b∈X.fs)->X.s₀.heap.FunFrames X.base l->s.heap.FunFrames X.base l:=by
  intro l
  induction l with
  | nil=>intro _ _;trivial
  | cons env r ih =>
   intro hs hl
   obtain⟨hk,⟨L,o,hf,hn,ho,hd⟩,hr⟩:=hl
   have hL:L∈X.fs:=hs L (by unfold frs;rw[ucy,hf];exact i3)
   obtain⟨sl,e⟩:=I.base.slot L o ho (I.ok.frf L hL) hL λ z=>I.ok.exfs L z hL
   exact⟨hk,⟨L,_,hf,hn,e,hd⟩,ih (λ b hb=>hs b (by unfold frs;rw[ucy,hf];exact j7 _ hb)) hr⟩
 exact all X.outer (λ _ hb=>hb) I.ok.funs
theorem Inv.stack (I:Inv X pins σ H s):s.heap.FunFrames X.base X.stack:=by
 rcases I.ok.stk with e | ⟨e,hf⟩
 ·rw[e];exact I.funs
 ·rw[e]
  obtain⟨m,hn,_⟩:=I.loc
  refine .cons (by rw[I.ok.kind];decide) hf hn ?_ I.funs
  exact Heap.get?_none_of_le (r8 I.ok.bsz I.ok.above)
theorem Inv.stkSub (I:Inv X pins σ H s):∀ b∈frs X.stack,b∈X.env.locals::X.fs:=λ b hb=>by
 rcases I.ok.stk with e | ⟨e,hf⟩
 ·rw[e] at hb;exact j7 _ hb
 ·rw[e] at hb
  unfold frs at hb
  rw[ucy,hf] at hb
  exact hb
theorem Inv.stkFree (I:Inv X pins σ H s):∀ b∈frs X.stack,H b=none:=λ b hb=>by
 rcases k8.mp (I.stkSub b hb) with e | hb
 ·rw[e];exact I.free
 ·obtain⟨_,o,ho,_⟩:=I.ok.funs.mem hb
  exact I.base.free b o ho (I.ok.frf b hb) λ z=>I.ok.exfs b z hb
theorem Inv.step {g':Array GenState}{t':Nat}{d':Drawn}{ch:List j4}(I:Inv X pins σ H s)
  (hch:∀ b∈ch,(b∈X.ex\/X.s₀.heap.objs.size<=b)/\b≠X.env.locals/\(∀ x c,X.env.cells.lookup x=some c->c≠b)/\∀ p∈X.pn++pins,p.1≠b)
  (keep:∀ b o,b≠X.env.locals->b∉X.fs->b∉ch->s.heap.get? b=some o->H b=none->h'.get? b=some o)
  (slot:∀ b o,b≠X.env.locals->b∈X.fs->b∉ch->s.heap.get? b=some o->H b=none->∃ sl,h'.get? b=some { o with slots:=sl }) (free:∀ b o,b∉ch->s.heap.get? b=some o->H b=none->H' b=none)
  (there:∀ b o,b∉ch->s.heap.get? b=some o->∃ o',h'.get? b=some o')
  (tups:∀ b xs,H b=some (.tup xs)->H' b=some (.tup xs)) (frzs:∀ b o u,H b=some (.frz o u)->H' b=some (.frz o u)) (tbls:∀ b ps,H b=some (.tbl ps)->∃ more,H' b=some (.tbl (ps++more)))
  (ns:∀ m,s.heap.Ns X.env.locals m->h'.Ns X.env.locals m) (hok:HOk X.prog X.w H' h') (hg:AllBare g') :
  Inv X pins σ H' { s with heap:=h',gens:=g',drawn:=d',toks:=t' }:=by
 have neL:∀ b o,X.s₀.heap.get? b=some o->b≠X.env.locals:=λ b o e=>j6 (o3 (i8 e) I.ok.above)
 have neC:∀ b o,X.s₀.heap.get? b=some o->b∉X.ex->b∉ch:=λ b o e hx hb=>by
  rcases (hch b hb).1 with z | z
  ·exact hx z
  ·exact absurd (o3 (i8 e) z) (ubi _)
 have cellK:∀ x c,X.env.cells.lookup x=some c->∀ v,s.heap.IsCell c v->h'.IsCell c v:=λ x c e v ⟨o,ho,hd⟩=>by
  have nch:c∉ch:=λ z=>(hch c z).2.2.1 x c e rfl
  by_cases hc:c∈X.fs
  ·obtain⟨sl,q⟩:=slot c o (I.cne x c e) hc nch ho (I.freeC x c e)
   exact⟨_,q,hd⟩
  ·exact⟨o,keep c o (I.cne x c e) hc nch ho (I.freeC x c e),hd⟩
 refine⟨I.ok,I.os,hg,⟨λ b o e n hb hx=>?_,λ b o e n hb hx=>?_,λ b o e n hx=>?_,λ b o e hx=>?_,λ b xs e=>tups b xs (I.base.tups b xs e),λ b o xs e=>frzs b o xs (I.base.frzs b o xs e),λ b ps e=>?_⟩,?_,λ x c e=>?_,?_,λ x c e=>?_,λ p hp=>?_,hok,I.len⟩
 ·exact keep b o (neL b o e) hb (neC b o e hx) (I.base.keep b o e n hb hx) (I.base.free b o e n hx)
 ·obtain⟨sl,e1⟩:=I.base.slot b o e n hb hx
  obtain⟨sl',e2⟩:=slot b _ (neL b o e) hb (neC b o e hx) e1 (I.base.free b o e n hx)
  exact⟨sl',e2⟩
 ·obtain⟨o',e1⟩:=I.base.there b o e hx
  exact free b o' (neC b o e hx) e1 (I.base.free b o e n hx)
 ·obtain⟨o',e1⟩:=I.base.there b o e hx
  exact there b o' (neC b o e hx) e1
 ·obtain⟨m1,e1⟩:=I.base.tbls b ps e
  obtain⟨m2,e2⟩:=tbls b _ e1
  exact⟨m1++m2,by rw[e2,Array.append_assoc]⟩
 ·obtain⟨m,hn,hl⟩:=I.loc
  refine⟨m,ns m hn,λ i x v e1 e2 e3=>?_⟩
  obtain⟨u,r,l⟩:=hl i x v e1 e2 e3
  refine⟨u,r,?_⟩
  rcases l with l | ⟨k,c,e,z⟩
  ·exact .inl l
  ·exact .inr ⟨k,c,e,cellK x c e _ z⟩
 ·obtain⟨v,z⟩:=I.cell x c e
  exact⟨v,cellK x c e v z⟩
 ·obtain⟨m,⟨o,_,_,ho,_⟩,_⟩:=I.loc
  exact free _ o (λ z=>(hch _ z).2.1 rfl) ho I.free
 ·obtain⟨v,o,ho,hd⟩:=I.cell x c e
  exact free c o (λ z=>(hch c z).2.2.1 x c e rfl) ho (I.freeC x c e)
 ·obtain⟨e,n,ne,nf,d⟩:=I.pin p hp
  have nch:p.1∉ch:=λ z=>(hch p.1 z).2.2.2 p hp rfl
  exact⟨keep p.1 p.2 ne nf nch e n,free p.1 p.2 nch e n,ne,nf,d⟩
theorem Inv.un {t':Nat}(I:Inv X pins σ H s)(u:Un X.fs [] H H' s.heap h')(hok:HOk X.prog X.w H' h'):Inv X pins σ H' { s with heap:=h',toks:=t' }:=by
 obtain⟨m,⟨o,es,ep,ho,r⟩,_⟩:=id I.loc
 obtain⟨sl,hL⟩:=u.any ho I.free (by simp)
 exact I.step (g':=s.gens) (d':=s.drawn) (ch:=[]) (λ _ z=>nomatch z) (λ b o _ hb _ e n=>u.keep b o e n hb (by simp)) (λ b o _ hb _ e n=>u.slot b o e n hb (by simp)) (λ b o _ e n=>u.free b o e n (by simp)) (λ b o _ e=>u.there b o e (by simp)) u.tups u.frzs u.tbls (λ m' hm=>by
  obtain⟨o',es',ep',ho',r'⟩:=hm
  rw[ho] at ho';cases ho'
  exact⟨_,es',ep',hL,r'⟩) hok I.bare
theorem Inv.call {g':Array GenState}{t':Nat}{d':Drawn}{ch:List j4}(I:Inv X pins σ H s)(u:Un (frs X.stack) ch H H' s.heap h')(hok:HOk X.prog X.w H' h')(hg:AllBare g')
  (hch:∀ b∈ch,(b∈X.ex\/X.s₀.heap.objs.size<=b)/\b≠X.env.locals/\(∀ x c,X.env.cells.lookup x=some c->c≠b)/\∀ p∈X.pn++pins,p.1≠b) :
  Inv X pins σ H' { s with heap:=h',gens:=g',drawn:=d',toks:=t' }:=by
 obtain⟨m,⟨o,es,ep,ho,r⟩,_⟩:=id I.loc
 obtain⟨sl,hL⟩:=u.any ho I.free λ z=>(hch _ z).2.1 rfl
 exact I.step (ch:=ch) hch (λ b o hL hb hc e n=>u.keep b o e n (λ z=>(k8.mp (I.stkSub b z)).elim hL hb) hc) (λ b o _ _ hc e n=>u.any e n hc) (λ b o hc e n=>u.free b o e n hc) (λ b o hc e=>u.there b o e hc) u.tups u.frzs u.tbls (λ m' hm=>by
  obtain⟨o',es',ep',ho',r'⟩:=hm
  rw[ho] at ho';cases ho'
  exact⟨_,es',ep',hL,r'⟩) hok hg
theorem Inv.turned {t':Nat}{it:j4}(I:Inv X pins σ H s)(k:∀ b o,b≠it->s.heap.get? b=some o->h'.get? b=some o)(hn:H it=none)(hL:it≠X.env.locals)
  (h1:it∈X.ex\/X.s₀.heap.objs.size<=it) (h2:∀ x c,X.env.cells.lookup x=some c->c≠it) (h3:∀ p∈X.pn++pins,p.1≠it):Inv X pins σ H { s with heap:=h',toks:=t' }:=by
 have nit:∀ b u,H b=some u->b≠it:=λ b u e z=>by rw[z,hn] at e;cases e
 refine I.step (g':=s.gens) (d':=s.drawn) (ch:=[it]) (λ b hb=>?_) (λ b o _ _ hc e _=>k b o (λ z=>hc (by simp [z])) e) (λ b o _ _ hc e _=>⟨o.slots,k b o (λ z=>hc (by simp [z])) e⟩) (λ _ _ _ _ n=>n)
  (λ b o hc e=>⟨o,k b o (λ z=>hc (by simp [z])) e⟩) (λ _ _ e=>e) (λ _ _ _ e=>e) (λ b ps e=>⟨#[],by rw[e];simp⟩) (λ m hm=>?_) (λ b u e=>?_) I.bare
 ·have e:b=it:=by simpa using hb
  subst e
  exact⟨h1,hL,h2,h3⟩
 ·obtain⟨o,es,ep,ho,r⟩:=hm
  exact⟨o,es,ep,k _ o (Ne.symm hL) ho,r⟩
 ·refine (I.hok b u e).stay (λ c v hc q=>k c v ?_ q) (λ _ q=>q) λ _ _ q=>q
  rcases hc with z | z
  ·rw[z];exact nit b u e
  ·exact nit c _ z
theorem Inv.tok (I:Inv X pins σ H s)(t:Nat):Inv X pins σ H { s with toks:=t }:=I.un (h':=s.heap) (t':=t) Un.refl I.hok
theorem Inv.kept {t':Nat}(I:Inv X pins σ H s)(k:∀ b u,s.heap.get? b=some u->h'.get? b=some u):Inv X pins σ H { s with heap:=h',toks:=t' }:=I.un (Un.kept k) (I.hok.kept k)
theorem Inv.laid {a:j4}{o:HO}{t':Nat}(I:Inv X pins σ H s)(k:∀ b u,s.heap.get? b=some u->h'.get? b=some u)(hp:s.heap.objs.size<=a)(new:ObjOk X.prog X.w (upd H a o) h' a o) :
  Inv X pins σ (upd H a o) { s with heap:=h',toks:=t' }:=I.un (Un.laid k hp (I.hok.fresh hp)) (I.hok.laid k hp new)
theorem Inv.write {x e:j4}{o:HO}{t':Nat}(I:Inv X pins σ H s)(mu:Mut (H x))(he:e=x\/H e=some (.own x))(k:∀ b u,b≠e->s.heap.get? b=some u->h'.get? b=some u)(heo:∃ u,h'.get? e=some u)
  (new:ObjOk X.prog X.w (upd H x o) h' x o):Inv X pins σ (upd H x o) { s with heap:=h',toks:=t' }:=I.un (Un.write mu he k heo) (I.hok.write mu he k heo new)
theorem Inv.pins_of {pins':List (j4 × Obj)}(I:Inv X pins σ H s)(h:∀ p∈pins',s.heap.get? p.1=some p.2/\H p.1=none/\p.1≠X.env.locals/\p.1∉X.fs/\∀ v,p.2.data≠.cell v):Inv X pins' σ H s :=
 ⟨I.ok,I.os,I.bare,I.base,I.loc,I.cell,I.free,I.freeC,λ p hp=>(m5.mp hp).elim (λ z=>I.pin p (uab _ z)) (h p),I.hok,I.len⟩
theorem mO {N:List Str}(hN:N.Nodup){i j:Nat}{x:Str}(a:N[i]?=some x)(b:N[j]?=some x):i=j:=by
 obtain⟨h1,e1⟩:=i0.mp a
 obtain⟨h2,e2⟩:=i0.mp b
 exact (List.getElem_inj hN).mp (e1.trans e2.symm)
theorem kX {M:Model}{A:v6}{E:c9->d6->Prop}{i:Nat}{x:Str}{v:V}{u:c9}{Q:Unit->d6->Prop}(I:Inv X pins σ H s)(hN:X.N.Nodup)(hi:X.N[i]?=some x)(hx:Loc X.env.scope x)(r:RelV v u)
  (h:∀ s',Inv X pins (σ.set i (some v)) H s'->(∃ a,Heap.SameBut a s.heap s'.heap/\(a=X.env.locals\/X.env.cells.lookup x=some a))->Q () s') (hf:X.fn x=true\/X.env.scope.names.lookup x=some .local:=by first | exact .inl rfl | exact .inr rfl | assumption):o8 M A (storeName X.env x u) Q E s:=by
 obtain⟨m,hn,hl⟩:=id I.loc
 have hcls:(X.env.scope.kind==.class||(X.env.scope.kind==.module&&X.env.locals != X.env.globals))=false:=by rw[I.ok.kind];rfl
 have hiσ:i<σ.length:=by rw[I.len];exact (i0.mp hi).1
 have cne:=I.cne
 have tracked:∀ {a:j4}{h':Heap},(∃ o,s.heap.get? a=some o/\H a=none)->Heap.SameBut a s.heap h'->HOk X.prog X.w H h':=λ {a h'} ha hs b ob e=>by
  obtain⟨_,_,hfree⟩:=ha
  refine (I.hok b ob e).stay (λ c w' hc q=>(hs.2 c ?_).trans q) (λ _ q=>q) λ _ _ q=>q
  rintro rfl
  rcases hc with rfl | hc
  ·rw[hfree] at e;cases e
  ·rw[hfree] at hc;cases hc
 rcases hx with hk | hk
 ·refine wpAny_storeName_local hk hn (λ h' hn' hs=>?_) hcls
  obtain⟨oL,_,_,hoL,_⟩:=id hn
  refine h _ ⟨I.ok,I.os,I.bare,⟨λ b o e n hb hx=>?_,λ b o e n hb hx=>?_,I.base.free,λ b o e hx=>?_,I.base.tups,I.base.frzs,I.base.tbls⟩,⟨_,hn',λ j y v' e1 e2 e3=>?_⟩,λ y c e=>?_,I.free,I.freeC,λ p hp=>?_,tracked ⟨oL,hoL,I.free⟩ hs,by simpa using I.len⟩ ⟨_,hs,.inl rfl⟩
  ·exact (hs.2 b (j6 (o3 (i8 e) I.ok.above))).trans (I.base.keep b o e n hb hx)
  ·obtain⟨sl,e1⟩:=I.base.slot b o e n hb hx
   exact⟨sl,(hs.2 b (j6 (o3 (i8 e) I.ok.above))).trans e1⟩
  ·obtain⟨o',e1⟩:=I.base.there b o e hx
   exact⟨o',(hs.2 b (j6 (o3 (i8 e) I.ok.above))).trans e1⟩
  ·by_cases hj:j=i
   ·subst hj
    rw[hi] at e1;cases e1
    rw[udl hiσ] at e2
    cases e2
    exact⟨u,r,.inl ⟨hk,by simp⟩⟩
   ·rw[udz (Ne.symm hj)] at e2
    obtain⟨u',r',q⟩:=hl j y v' e1 e2 e3
    refine⟨u',r',?_⟩
    rcases q with ⟨k,e⟩ | ⟨k,c,e,z⟩
    ·refine .inl ⟨k,?_⟩
     have:y≠x:=λ e=>hj (mO hN e1 (e ▸ hi))
     simp [this,e]
    ·exact .inr ⟨k,c,e,z.sameBut hs (cne y c e)⟩
  ·obtain⟨w',z⟩:=I.cell y c e
   exact⟨w',z.sameBut hs (cne y c e)⟩
  ·obtain⟨e,n,ne,nf,d⟩:=I.pin p hp
   exact⟨(hs.2 p.1 ne).trans e,n,ne,nf,d⟩
 ·have hfn:X.fn x=true:=by
   rcases hf with z | z
   ·exact z
   ·rw[z] at hk;cases hk
  obtain⟨c,hc⟩:=I.ok.has x (.inl hk)
  obtain⟨w',z⟩:=I.cell x c hc
  refine wpAny_storeName_cell I.ok.kind hk hc z (λ h' hc' hs=>?_)
  obtain⟨oc,hoc,hocd⟩:=id z
  refine h { s with heap:=h' } ⟨I.ok,I.os,I.bare,⟨λ b o e n hb hx=>?_,λ b o e n hb hx=>?_,I.base.free,λ b o e hx=>?_,I.base.tups,I.base.frzs,I.base.tbls⟩,⟨m,hn.sameBut hs (Ne.symm (cne x c hc)),λ j y v' e1 e2 e3=>?_⟩,λ y c' e=>?_,I.free,I.freeC,λ p hp=>?_,tracked ⟨oc,hoc,I.freeC x c hc⟩ hs,by simpa using I.len⟩ ⟨c,hs,.inr hc⟩
  ·exact (hs.2 b (j6 (o3 (i8 e) (I.ok.cab x c hfn hc)))).trans (I.base.keep b o e n hb hx)
  ·obtain⟨sl,e1⟩:=I.base.slot b o e n hb hx
   exact⟨sl,(hs.2 b (j6 (o3 (i8 e) (I.ok.cab x c hfn hc)))).trans e1⟩
  ·obtain⟨o',e1⟩:=I.base.there b o e hx
   exact⟨o',(hs.2 b (j6 (o3 (i8 e) (I.ok.cab x c hfn hc)))).trans e1⟩
  ·by_cases hj:j=i
   ·subst hj
    rw[hi] at e1;cases e1
    rw[udl hiσ] at e2
    cases e2
    exact⟨u,r,.inr ⟨.inl hk,c,hc,hc'⟩⟩
   ·rw[udz (Ne.symm hj)] at e2
    obtain⟨u',r',q⟩:=hl j y v' e1 e2 e3
    refine⟨u',r',?_⟩
    rcases q with q | ⟨k,c',e,z'⟩
    ·exact .inl q
    ·refine .inr ⟨k,c',e,z'.sameBut hs ?_⟩
     rintro rfl
     exact hj (mO hN e1 (I.ok.inj _ _ _ e hc ▸ hi))
  ·by_cases hcc:c'=c
   ·subst hcc;exact⟨_,hc'⟩
   ·obtain⟨w2,z2⟩:=I.cell y c' e
    exact⟨w2,z2.sameBut hs hcc⟩
  ·obtain⟨e,n,ne,nf,d⟩:=I.pin p hp
   refine⟨(hs.2 p.1 ?_).trans e,n,ne,nf,d⟩
   intro q
   rw[q,hoc] at e
   have q':oc=p.2:=u6 e
   exact d w' (by rw[← q'];exact hocd)
theorem mH {M:Model}{A:v6}{E:c9->d6->Prop}{i:Nat}{x:Str}{v:V}{u:c9}{Q:Unit->d6->Prop}(I:Inv X pins σ H s)(hN:X.N.Nodup)(hi:X.N[i]?=some x)(hx:Loc X.env.scope x)(r:RelV v u)
  (h:∀ s',Inv X pins (σ.set i (some v)) H s'->Q () s') (hf:X.fn x=true\/X.env.scope.names.lookup x=some .local:=by first | exact .inl rfl | exact .inr rfl | assumption):o8 M A (storeName X.env x u) Q E s :=
 kX I hN hi hx r (λ s' I' _=>h s' I') hf
theorem Inv.call' {s':d6}{ch:List j4}(I:Inv X pins σ H s)(ho:s'.os=s.os)(u:Un (frs X.stack) ch H H' s.heap s'.heap)(hok:HOk X.prog X.w H' s'.heap)(hg:AllBare s'.gens)
  (hch:∀ b∈ch,(b∈X.ex\/X.s₀.heap.objs.size<=b)/\b≠X.env.locals/\(∀ x c,X.env.cells.lookup x=some c->c≠b)/\∀ p∈X.pn++pins,p.1≠b):Inv X pins σ H' s':=by
 obtain⟨h',g',d',t',o'⟩:=s'
 have e:o'=s.os:=ho
 subst e
 exact I.call (g':=g') (t':=t') (d':=d') u hok hg hch
end
abbrev XK:=c9->Option j4->Hp->Prop
abbrev St:=List (Option V)
abbrev VK:=V->Hp->Prop
abbrev TE:=St->Hp->VK->Prop
abbrev TT:=St->Hp->(Bool->Hp->Prop)->Prop
abbrev TA:=St->Hp->(List V->Hp->Prop)->Prop
structure Ends where
 nx:St->Hp->Prop
 rt:VK
 bk:St->Hp->Prop:=λ _ _=>False
 ct:St->Hp->Prop:=λ _ _=>False
abbrev TS:=Ends->St->Hp->Prop
def EP (X:Cx)(pins:List (j4 × Obj))(σ:St)(Q:VK)(u:c9)(s':d6):Prop:=∃ v H',Inv X pins σ H' s'/\RelV v u/\Q v H'
def TP (X:Cx)(pins:List (j4 × Obj))(σ:St)(Q:Bool->Hp->Prop)(b:Bool)(s':d6):Prop:=∃ H',Inv X pins σ H' s'/\Q b H'
def AP (X:Cx)(pins:List (j4 × Obj))(σ:St)(Q:List V->Hp->Prop)(us:List c9)(s':d6):Prop:=∃ vs H',Inv X pins σ H' s'/\Vals vs us/\Q vs H'
def SP (X:Cx)(pins:List (j4 × Obj))(D:Ends)(f:Flow)(s':d6):Prop :=
 match f with
 | .next=>∃ σ' H',Inv X pins σ' H' s'/\D.nx σ' H'
 | .brk=>∃ σ' H',Inv X pins σ' H' s'/\D.bk σ' H'
 | .cont=>∃ σ' H',Inv X pins σ' H' s'/\D.ct σ' H'
 | .ret u=>∃ v σ' H',Inv X pins σ' H' s'/\RelV v u/\D.rt v H'
def PE (X:Cx)(e:ubl)(t:TE):Prop :=
 ∀ (pins:List (j4 × Obj))(s:d6)(σ:St)(H:Hp)(Q:VK),Inv X pins σ H s->t σ H Q->o8 (w8 X.prog X.w) X.A (eval e X.env) (EP X pins σ Q) X.xe s
def PT (X:Cx)(e:ubl)(t:TT):Prop :=
 ∀ (pins:List (j4 × Obj))(s:d6)(σ:St)(H:Hp)(Q:Bool->Hp->Prop),Inv X pins σ H s->t σ H Q->o8 (w8 X.prog X.w) X.A (isTrue e X.env (eval e X.env)) (TP X pins σ Q) X.xe s
def PW (X:Cx)(e:ubl)(t:TT):Prop :=
 ∀ (whole:Sem c9)(pins:List (j4 × Obj))(s:d6)(σ:St)(H:Hp)(Q:Bool->Hp->Prop),Inv X pins σ H s->t σ H Q->o8 (w8 X.prog X.w) X.A (isTrue e X.env whole) (TP X pins σ Q) X.xe s
theorem PW.pt {X:Cx}{e:ubl}{t:TT}(h:PW X e t):PT X e t:=h _
def PA (X:Cx)(es:List ubl)(t:TA):Prop :=
 ∀ (pos:Pos)(pins:List (j4 × Obj))(s:d6)(σ:St)(H:Hp)(Q:List V->Hp->Prop),Inv X pins σ H s->t σ H Q->o8 (w8 X.prog X.w) X.A (spliced (backTo pos (uah es X.env))) (AP X pins σ Q) X.xe s
def PS (X:Cx)(st:ubm)(t:TS):Prop :=
 ∀ (pins:List (j4 × Obj))(s:d6)(σ:St)(H:Hp)(D:Ends),Inv X pins σ H s->t D σ H->o8 (w8 X.prog X.w) X.A (exec st X.env) (SP X pins D) X.xe s
def PSs (X:Cx)(st:List ubm)(t:TS):Prop :=
 ∀ (pins:List (j4 × Obj))(s:d6)(σ:St)(H:Hp)(D:Ends),Inv X pins σ H s->t D σ H->o8 (w8 X.prog X.w) X.A (execs st X.env) (SP X pins D) X.xe s
theorem thn {α:Type}{t:Sem α}{Q Q':α->d6->Prop}{M:Model}{A:v6}{E:c9->d6->Prop}{s:d6}(h:o8 M A t Q E s)(hQ:∀ a s,Q a s->Q' a s):o8 M A t Q' E s:=ua7 h hQ λ _ _ x=>x
end L2
namespace L2
open PySem PySem.Spec PyProof.Rows
section
variable {X:Cx}
inductive EVar (σ:L2.St)(i:Nat)(Q:V->Prop):Prop
 | mk:∀ v,(σ[i]?=some (some v))->Q v->EVar σ i Q
inductive EBl (x:V)(Q:Bool->Prop):Prop
 | mk:∀ c,(x=.bl c)->Q c->EBl x Q
inductive EInt (x:V)(Q:Int->Prop):Prop
 | mk:∀ i,(x=.int i)->Q i->EInt x Q
inductive ERef (x:V)(Q:j4->Prop):Prop
 | mk:∀ a,(x=.ref a)->Q a->ERef x Q
inductive EOne (vs:List V)(Q:Int->Prop):Prop
 | mk:∀ j,(vs=[.int j])->Q j->EOne vs Q
inductive ETwo (vs:List V)(Q:V->V->Prop):Prop
 | mk:∀ v w,(vs=[v,w])->Q v w->ETwo vs Q
def tVar (i:Nat):TE:=λ σ H Q=>EVar σ i λ v=>Q v H
def tC (v:V):TE:=λ _ H Q=>Q v H
theorem oG {i:Nat}{x:Str}{pos:Pos}(hN:X.N[i]?=some x)(hv:Vis X.env.scope x)(hd:(x==("__debug__":Str))=false:=by decide)(hcd:(x==("__classdict__":Str))=false:=by decide):PE X (.Name x pos) (tVar i):=by
 intro pins s σ H Q I h
 obtain⟨v,e,h⟩:=h
 obtain⟨m,hn,hl⟩:=I.loc
 obtain⟨u,r,l⟩:=hl i x v hN e hv
 have fin:EP X pins σ Q u s:=⟨v,H,I,r,h⟩
 rcases l with ⟨hk,hm⟩ | ⟨hk,c,hc,hcell⟩
 ·exact wpAny_Name (wpAny_loadName_local I.ok.kind hk hn hm fin) hd
 ·rcases hk with hk | hk
  ·exact wpAny_Name (wpAny_loadName_cell I.ok.kind hk hc hcell fin) hd
  ·exact wpAny_Name (wpAny_loadName_free I.ok.kind hk hc hcell fin hcd) hd
theorem aC {i j pos}:PE X (.Constant (.int i) j pos) (tC (.int i)):=λ _ _ _ H _ I h=>wpAny_Constant_int ⟨.int i,H,I.tok _,⟨_,rfl⟩,h⟩
theorem cD {b j pos}:PE X (.Constant (.bool b) j pos) (tC (.bl b)):=λ _ _ _ H _ I h=>Constant_bool ⟨.bl b,H,I,rfl,h⟩
theorem bE {j pos}:PE X (.Constant .none j pos) (tC .non):=λ _ _ _ H _ I h=>Constant_none ⟨.non,H,I,rfl,h⟩
theorem bO {x j pos}:PE X (.Constant (.str x) j pos) (tC (.str x)):=λ _ _ _ H _ I h=>Calls.Constant_str ⟨.str x,H,I.tok _,⟨_,rfl⟩,h⟩
def Gl (X:Cx)(x:Str):Prop:=X.env.kindOf x=some .globalImplicit
theorem nU {E:c9->d6->Prop}{pins:List (j4 × Obj)}{s:d6}{σ:St}{H:Hp}{x:Str}{u:c9}{pos:Pos}{Q:c9->d6->Prop}(I:Inv X pins σ H s)(hg:Gl X x)(hm:X.mg x=some u)(h:Q u s)
  (hd:(x==("__debug__":Str))=false:=by decide):o8 (w8 X.prog X.w) X.A (eval (.Name x pos) X.env) Q E s :=
 Calls.Name_function_global I.ok.kind hg (Calls.loadGlobal_global (by rw[I.ok.glob];exact I.mod.glob.keeps I.bk) hm h) hd
theorem dN {E:c9->d6->Prop}{pins:List (j4 × Obj)}{s:d6}{σ:St}{H:Hp}{x:Str}{u:c9}{pos:Pos}{Q:c9->d6->Prop}(I:Inv X pins σ H s)(hg:Gl X x)(hm:X.mg x=none)(hv:bootBuiltins x=some u)(h:Q u s)
  (hn:x≠"__name__":=by decide) (hd:(x==("__debug__":Str))=false:=by decide):o8 (w8 X.prog X.w) X.A (eval (.Name x pos) X.env) Q E s:=by
 obtain⟨mb,h1,h2⟩:=I.mod.blt
 exact Calls.Name_function_global I.ok.kind hg (Calls.loadGlobal_builtin (by rw[I.ok.glob];exact I.mod.glob.keeps I.bk) hm (by rw[I.ok.blt];exact h1.keeps I.bk) ((h2 x hn).trans hv) h) hd
theorem gG {x:Str}{v:V}{u:c9}{pos:Pos}(hg:Gl X x)(hm:X.mg x=none)(hv:bootBuiltins x=some u)(r:RelV v u)(hn:x≠"__name__":=by decide)(hd:(x==("__debug__":Str))=false:=by decide):PE X (.Name x pos) (tC v) :=
 λ _ _ _ H _ I h=>dN I hg hm hv ⟨v,H,I,r,h⟩ hn hd
variable {a b:ubl}{ta tb:TE}{pos:Pos}
def tB (t:TE):TT:=λ σ H Q=>t σ H λ x H1=>EBl x λ c=>Q c H1
theorem bL {e:ubl}{t:TE}(h:PE X e t)(he:∀ whole,isTrue e X.env whole=(do let v ← whole;standAt e.pos;holding [v] (truthy v)):=by intro _;rfl):PT X e (tB t):=by
 intro pins s σ H Q I hw
 refine isTrue_plain (thn (h pins s σ H _ I hw) λ v s1 ⟨x,H1,I1,r1,q1⟩=>?_) (he _)
 obtain⟨d,rfl,q⟩:=q1
 cases r1
 exact ubc ⟨H1,I1,q⟩
variable {tA tB':TT}{rest:List ubl}
def tAnd (t u:TT):TT:=λ σ H Q=>t σ H λ c H1=>if c=true then u σ H1 Q else Q false H1
def tOr (t u:TT):TT:=λ σ H Q=>t σ H λ c H1=>if c=true then Q true H1 else u σ H1 Q
def tNot (t:TT):TT:=λ σ H Q=>t σ H λ c H1=>Q (!c) H1
theorem zF (ha:PT X a tA):PW X (.BoolOp .And [a] pos) tA:=by
 intro wh pins s σ H Q I h
 refine isTrue_and (thn (ha pins s σ H Q I h) λ c s1 e=>?_)
 cases c with
 | true=>exact isTrue_and_nil e
 | false=>exact e
theorem bZ (ha:PT X a tA):PW X (.BoolOp .Or [a] pos) tA:=by
 intro wh pins s σ H Q I h
 refine isTrue_or (thn (ha pins s σ H Q I h) λ c s1 e=>?_)
 cases c with
 | false=>exact isTrue_or_nil e
 | true=>exact e
theorem zaw (ha:PT X a tA)(hb:PW X (.BoolOp .And (b::rest) pos) tB'):PW X (.BoolOp .And (a::b::rest) pos) (tAnd tA tB'):=by
 intro wh pins s σ H Q I h
 refine isTrue_and (thn (ha pins s σ H _ I h) λ c s1 ⟨H1,I1,q1⟩=>?_)
 cases c with
 | true=>exact hb wh pins s1 σ H1 Q I1 q1
 | false=>exact⟨H1,I1,q1⟩
theorem bW (ha:PT X a tA)(hb:PW X (.BoolOp .Or (b::rest) pos) tB'):PW X (.BoolOp .Or (a::b::rest) pos) (tOr tA tB'):=by
 intro wh pins s σ H Q I h
 refine isTrue_or (thn (ha pins s σ H _ I h) λ c s1 ⟨H1,I1,q1⟩=>?_)
 cases c with
 | true=>exact⟨H1,I1,q1⟩
 | false=>exact hb wh pins s1 σ H1 Q I1 q1
theorem cA (ha:PT X a tA):PT X (.UnaryOp .Not a pos) (tNot tA):=by
 intro pins s σ H Q I h
 exact isTrue_not (ha pins s σ H (λ c H1=>Q (!c) H1) I h)
def tAndV (ta tb:TE):TE:=λ σ H Q=>ta σ H λ x H1=>EBl x λ c=>if c=true then tb σ H1 Q else Q (.bl false) H1
def tOrV (ta tb:TE):TE:=λ σ H Q=>ta σ H λ x H1=>EBl x λ c=>if c=true then Q (.bl true) H1 else tb σ H1 Q
def tNotV (ta:TE):TE:=λ σ H Q=>ta σ H λ x H1=>EBl x λ c=>Q (.bl (!c)) H1
theorem bV {op} {t:TE} (h:PE X a t):PE X (.BoolOp op [a] pos) t:=λ pins s σ H Q I hw=>BoolOp_one (h pins s σ H Q I hw)
theorem cG (ha:PE X a ta)(hb:PE X (.BoolOp .And (b::rest) pos) tb):PE X (.BoolOp .And (a::b::rest) pos) (tAndV ta tb):=by
 intro pins s σ H Q I h
 refine BoolOp_and (thn (ha pins s σ H _ I h) λ v s1 ⟨x,H1,I1,r1,q1⟩=>?_)
 obtain⟨c,rfl,q1⟩:=q1
 cases r1
 refine ubc ?_
 cases c with
 | true=>exact hb pins s1 σ H1 Q I1 q1
 | false=>exact⟨.bl false,H1,I1,rfl,q1⟩
theorem jT (ha:PE X a ta)(hb:PE X (.BoolOp .Or (b::rest) pos) tb):PE X (.BoolOp .Or (a::b::rest) pos) (tOrV ta tb):=by
 intro pins s σ H Q I h
 refine BoolOp_or (thn (ha pins s σ H _ I h) λ v s1 ⟨x,H1,I1,r1,q1⟩=>?_)
 obtain⟨c,rfl,q1⟩:=q1
 cases r1
 refine ubc ?_
 cases c with
 | false=>exact hb pins s1 σ H1 Q I1 q1
 | true=>exact⟨.bl true,H1,I1,rfl,q1⟩
theorem za0 (ha:PE X a ta):PE X (.UnaryOp .Not a pos) (tNotV ta):=by
 intro pins s σ H Q I h
 refine UnaryOp_ (thn (ha pins s σ H _ I h) λ v s1 ⟨x,H1,I1,r1,q1⟩=>?_)
 obtain⟨c,rfl,q1⟩:=q1
 cases r1
 exact not_of (ubc ⟨.bl (!c),H1,I1,rfl,q1⟩)
def tIf (t:TT)(ta tb:TE):TE:=λ σ H Q=>t σ H λ c H1=>if c=true then ta σ H1 Q else tb σ H1 Q
theorem dX {c:ubl}(hc:PT X c tA)(ha:PE X a ta)(hb:PE X b tb):PE X (.IfExp c a b pos) (tIf tA ta tb):=by
 intro pins s σ H Q I h
 refine wpAny_IfExp (thn (hc pins s σ H _ I h) λ d s1 ⟨H1,I1,q1⟩=>?_)
 cases d with
 | true=>exact ha pins s1 σ H1 Q I1 q1
 | false=>exact hb pins s1 σ H1 Q I1 q1
end
end L2
namespace L2
open PySem PySem.Spec PyProof.Rows
def SqL (K:a8)(H:Hp)(a:j4)(xs:List V):Prop :=
 Rd H a (.lst xs) \/
  ∃ (o:Obj)(its:Array c9)(n:Nat),K.lookup a=some o/\o.cls=.type "list"/\o.dict=none/\o.data=.seq its n/\its.size<=o9/\Vals xs its.toList
def SqT (K:a8)(H:Hp)(a:j4)(xs:List V):Prop :=
 Rd H a (.tup xs) \/
  ∃ (o:Obj)(its:Array c9)(n:Nat),K.lookup a=some o/\o.cls=.type "tuple"/\o.data=.seq its n/\its.size<=o9/\Vals xs its.toList
def absV:c9->Option V
 | .none=>some .non
 | .bool b=>some (.bl b)
 | .int i _=>some (.int i)
 | .str x _=>some (.str x)
 | .bytes b _=>some (.byt b)
 | .float b _=>some (.flt b)
 | .ref a=>some (.ref a)
 | .type n=>some (.ty n)
 | _=>none
theorem RelV.abs {x:V}{u:c9}(r:RelV x u):absV u=some x:=by
 cases x with
 | non=>cases r;rfl
 | bl _=>cases r;rfl
 | int _=>obtain⟨t,rfl⟩:=r;rfl
 | str _=>obtain⟨t,rfl⟩:=r;rfl
 | byt _=>obtain⟨t,rfl⟩:=r;rfl
 | flt _=>obtain⟨t,rfl⟩:=r;rfl
 | ref _=>cases r;rfl
 | ty _=>cases r;rfl
theorem RelV.inj {x y:V}{u:c9}(r:RelV x u)(q:RelV y u):x=y:=u6 (r.abs.symm.trans q.abs)
theorem Vals.inj:∀ {xs ys:List V}{us:List c9},Vals xs us->Vals ys us->xs=ys
 | _,_,_,.nil,.nil=>rfl
 | _,_,_,.cons r t,.cons r' t'=>by rw[r.inj r',Vals.inj t t']
section
variable {X:Cx}{pins:List (j4 × Obj)}{σ:St}{H:Hp}{s:d6}{a:j4}{xs ys:List V}
theorem SqL.of {K:a8}(h:H a=some (.lst xs)):SqL K H a xs:=.inl (.inl h)
theorem SqT.of {K:a8}(h:H a=some (.tup xs)):SqT K H a xs:=.inl (.inl h)
theorem Inv.list (I:Inv X pins σ H s)(h:SqL X.K H a xs):∃ its:List c9,Vals xs its/\PlainL s.heap a its.toArray/\xs.length<=o9:=by
 rcases h with h | ⟨o,its,n,hk,hc,hd,hs,hz,r⟩
 ·obtain⟨z,its,n,r,e⟩:=h.ok I.hok
  exact⟨its,r,⟨_,n,e,rfl,rfl,rfl⟩,z⟩
 ·refine⟨its.toList,r,⟨o,n,I.kIn a o hk,hc,hd,by simpa using hs⟩,?_⟩
  have e:=r.length
  simp only [ubp] at e
  left
theorem Inv.tuple (I:Inv X pins σ H s)(h:SqT X.K H a xs):∃ its:List c9,Vals xs its/\IsTup s.heap a its.toArray/\xs.length<=o9:=by
 rcases h with h | ⟨o,its,n,hk,hc,hs,hz,r⟩
 ·obtain⟨z,its,r,p⟩:=h.ok I.hok
  exact⟨its,r,p.tup,z⟩
 ·refine⟨its.toList,r,⟨o,I.kIn a o hk,hc,n,by simpa using hs⟩,?_⟩
  have e:=r.length
  simp only [ubp] at e
  left
theorem Inv.list_inj (I:Inv X pins σ H s)(h:SqL X.K H a xs)(h':SqL X.K H a ys):xs=ys:=by
 obtain⟨its,r,⟨o,n,e,_,_,d⟩,_⟩:=I.list h
 obtain⟨its',r',⟨o',n',e',_,_,d'⟩,_⟩:=I.list h'
 rw[e] at e';cases e'
 rw[d] at d'
 injection d' with d1 _
 have:its=its':=by simpa using congrArg Array.toList d1
 subst this
 exact r.inj r'
theorem Inv.tuple_inj (I:Inv X pins σ H s)(h:SqT X.K H a xs)(h':SqT X.K H a ys):xs=ys:=by
 obtain⟨its,r,⟨o,e,_,n,d⟩,_⟩:=I.tuple h
 obtain⟨its',r',⟨o',e',_,n',d'⟩,_⟩:=I.tuple h'
 rw[e] at e';cases e'
 rw[d] at d'
 injection d' with d1 _
 have:its=its':=by simpa using congrArg Array.toList d1
 subst this
 exact r.inj r'
end
abbrev Cx.wish (X:Cx)(E:c9->d6->Prop):Cx:={ X with xe:=E }
abbrev Cx.nox (X:Cx):Cx:=X.wish λ _ _=>False
theorem Cx.Ok.wish {X:Cx}(ok:X.Ok)(E:c9->d6->Prop):(X.wish E).Ok :=
 ⟨ok.mod,ok.kind,ok.glob,ok.blt,ok.above,ok.inj,ok.has,ok.cab,ok.hd,ok.frames,ok.stk,ok.exf,ok.bs,ok.bsz,ok.noex,ok.exfs,ok.funs,ok.frf⟩
theorem Cx.Ok.unwish {X:Cx}{E:c9->d6->Prop}(ok:(X.wish E).Ok):X.Ok :=
 ⟨ok.mod,ok.kind,ok.glob,ok.blt,ok.above,ok.inj,ok.has,ok.cab,ok.hd,ok.frames,ok.stk,ok.exf,ok.bs,ok.bsz,ok.noex,ok.exfs,ok.funs,ok.frf⟩
section
variable {X:Cx}{pins:List (j4 × Obj)}{σ:St}{H:Hp}{s:d6}{E:c9->d6->Prop}
theorem Inv.wish (I:Inv X pins σ H s)(E:c9->d6->Prop):Inv (X.wish E) pins σ H s:=⟨I.ok.wish E,I.os,I.bare,I.base,I.loc,I.cell,I.free,I.freeC,I.pin,I.hok,I.len⟩
theorem Inv.unwish (I:Inv (X.wish E) pins σ H s):Inv X pins σ H s:=⟨I.ok.unwish,I.os,I.bare,I.base,I.loc,I.cell,I.free,I.freeC,I.pin,I.hok,I.len⟩
theorem SP.unwish {D:Ends}{f:Flow}{s':d6}(h:SP (X.wish E) pins D f s'):SP X pins D f s':=by
 cases f with
 | next=>obtain⟨σ',H',I,q⟩:=h;exact⟨σ',H',I.unwish,q⟩
 | brk=>obtain⟨σ',H',I,q⟩:=h;exact⟨σ',H',I.unwish,q⟩
 | cont=>obtain⟨σ',H',I,q⟩:=h;exact⟨σ',H',I.unwish,q⟩
 | ret u=>obtain⟨v,σ',H',I,r,q⟩:=h;exact⟨v,σ',H',I.unwish,r,q⟩
theorem PSs.nox {st:List ubm}{t:TS}(h:PSs X.nox st t):PSs X st t:=λ pins s σ H D I hw =>
 ua7 (h pins s σ H D (I.wish _) hw) (λ _ _ q=>q.unwish) λ _ _ z=>False.elim z
end
section
variable {X:Cx}{st:ubm}{rest:List ubm}{t u:TS}{e:ubl}{te:TE}{pos:Pos}
def tNext:TS:=λ D σ H=>D.nx σ H
def tSeq (t u:TS):TS:=λ D σ H=>t { D with nx:=u D } σ H
theorem aR:PSs X [] tNext:=λ _ _ σ H _ I h=>ud2 ⟨σ,H,I,h⟩
theorem aD (h1:PS X st t)(h2:PSs X rest u):PSs X (st::rest) (tSeq t u):=by
 intro pins s σ H D I h
 refine wpAny_execs_cons (thn (h1 pins s σ H { D with nx:=u D } I h) λ f s1 q=>?_)
 cases f with
 | next =>
  obtain⟨σ',H',I',q⟩:=q
  exact h2 pins s1 σ' H' D I' q
 | ret v=>exact q
 | brk=>exact q
 | cont=>exact q
theorem aE (h1:PS X st t):PSs X [st] t:=by
 intro pins s σ H D I h
 refine wpAny_execs_cons (thn (h1 pins s σ H D I h) λ f s1 q=>?_)
 cases f with
 | next=>exact ud2 q
 | ret v=>exact q
 | brk=>exact q
 | cont=>exact q
def tCont:TS:=λ D σ H=>D.ct σ H
theorem sX:PS X (.Continue pos) tCont:=λ _ _ σ H _ I h=>wpAny_Continue ⟨σ,H,I,h⟩
theorem Inv.quiet {pins:List (j4 × Obj)}{σ:St}{H:Hp}{s:d6}(I:Inv X pins σ H s):interactive X.env=false:=by simp [interactive,I.ok.kind]
def tDrop (te:TE):TS:=λ D σ H=>te σ H λ _ H1=>D.nx σ H1
theorem bX (he:PE X e te)(hs:swapsWith e none pos.line X.env=pure false:=by rfl):PS X (.Expr e pos) (tDrop te):=by
 intro pins s σ H D I h
 exact wpAny_Expr_any (thn (he pins s σ H _ I h) λ v s1 ⟨x,H1,I1,r1,q1⟩=>⟨σ,H1,I1,q1⟩) I.quiet hs
def tRet (te:TE):TS:=λ D σ H=>te σ H D.rt
theorem aH (he:PE X e te):PS X (.Return (some e) pos) (tRet te):=by
 intro pins s σ H D I h
 exact wpAny_Return_some (thn (he pins s σ H _ I h) λ v s1 ⟨x,H1,I1,r1,q1⟩=>⟨x,σ,H1,I1,r1,q1⟩)
def tIfS (c:TT)(t u:TS):TS:=λ D σ H=>c σ H λ b H1=>if b=true then t D σ H1 else u D σ H1
theorem aS {c:ubl}{a b:List ubm}{tc:TT}(hc:PT X c tc)(ha:PSs X a t)(hb:PSs X b u):PS X (.If c a b pos) (tIfS tc t u):=by
 intro pins s σ H D I h
 refine wpAny_If (thn (hc pins s σ H _ I h) λ d s1 ⟨H1,I1,q1⟩=>?_)
 cases d with
 | true=>exact ha pins s1 σ H1 D I1 q1
 | false=>exact hb pins s1 σ H1 D I1 q1
def tNever:TS:=λ _ _ _=>False
theorem mL:PS X st tNever:=λ _ _ _ _ _ _ h=>h.elim
end
abbrev TG:=V->St->Hp->(St->Hp->Prop)->Prop
abbrev TGs:=List V->St->Hp->(St->Hp->Prop)->Prop
def PG (X:Cx)(target:ubl)(t:TG):Prop :=
 ∀ (pins:List (j4 × Obj))(s:d6)(σ:St)(H:Hp)(v:V)(u:c9)(Q:St->Hp->Prop),Inv X pins σ H s->RelV v u->t v σ H Q ->
  o8 (w8 X.prog X.w) X.A (assign target X.env u) (λ _ s'=>∃ σ' H',Inv X pins σ' H' s'/\Q σ' H') X.xe s
def PGs (X:Cx)(ts:List ubl)(t:TGs):Prop :=
 ∀ (pins:List (j4 × Obj))(s:d6)(σ:St)(H:Hp)(vs:List V)(us:List c9)(Q:St->Hp->Prop),Inv X pins σ H s->Vals vs us->t vs σ H Q ->
  o8 (w8 X.prog X.w) X.A (assignInOrder ((assignEach ts X.env).map (·.2)) us) (λ _ s'=>∃ σ' H',Inv X pins σ' H' s'/\Q σ' H') X.xe s
abbrev TSet:=V->V->V->Hp->(Hp->Prop)->Prop
def PSet (X:Cx)(t:TSet):Prop :=
 ∀ (pins:List (j4 × Obj))(s:d6)(σ:St)(H:Hp)(o i v:V)(ov iv u:c9)(Q:Hp->Prop),Inv X pins σ H s->RelV o ov->RelV i iv->RelV v u->t o i v H Q ->
  o8 (w8 X.prog X.w) X.A (setItem ov iv u) (λ _ s'=>∃ H',Inv X pins σ H' s'/\Q H') X.xe s
section
variable {X:Cx}{pos:Pos}
def gName (i:Nat):TG:=λ v σ H Q=>Q (σ.set i (some v)) H
theorem aJ {i:Nat}{x:Str}(hN:X.N.Nodup)(hi:X.N[i]?=some x)(hx:Loc X.env.scope x)(hf:X.fn x=true\/X.env.scope.names.lookup x=some .local:=by first | exact .inl rfl | exact .inr rfl | assumption):PG X (.Name x pos) (gName i):=by
 intro pins s σ H v u Q I r h
 exact wpAny_assign_Name (mH I hN hi hx r (λ s' I'=>⟨_,H,I',h⟩) hf)
def gNil:TGs:=λ vs σ H Q=>vs=[]/\Q σ H
inductive gCons_i (t:TG)(u:TGs)(vs:List V)(σ:L2.St)(H:Hp)(Q:L2.St->Hp->Prop):Prop
 | mk:∀ v r,(vs=v::r)->(t v σ H λ σ' H'=>u r σ' H' Q)->gCons_i t u vs σ H Q
def gCons (t:TG)(u:TGs):TGs:=λ vs σ H Q=>gCons_i t u vs σ H Q
theorem bQ:PGs X [] gNil:=by
 intro pins s σ H vs us Q I r h
 obtain⟨e,h⟩:=h
 subst e
 cases r
 exact assignInOrder_nil ⟨σ,H,I,h⟩
theorem aQ {e:ubl}{es:List ubl}{t:TG}{u:TGs}(h1:PG X e t)(h2:PGs X es u)
  (hs:(assignEach (e::es) X.env).map (·.2)=assign e X.env::(assignEach es X.env).map (·.2):=by rfl):PGs X (e::es) (gCons t u):=by
 intro pins s σ H vs us Q I r h
 obtain⟨v,vr,e1,h⟩:=h
 subst e1
 cases r with
 | cons r rr =>
  rw[hs]
  refine assignInOrder_cons (thn (h1 pins s σ H _ _ _ I r h) λ _ s1 ⟨σ1,H1,I1,q1⟩=>?_)
  exact h2 pins s1 σ1 H1 _ _ Q I1 rr q1
inductive gTup_i (K:a8)(n:Nat)(t:TGs)(v:V)(σ:L2.St)(H:Hp)(Q:L2.St->Hp->Prop):Prop
 | mk:∀ a xs,(v=.ref a)->(SqT K H a xs)->(xs.length=n)->(t xs σ H Q)->gTup_i K n t v σ H Q
def gTup (K:a8)(n:Nat)(t:TGs):TG:=λ v σ H Q=>gTup_i K n t v σ H Q
theorem bS {es:List ubl}{k:Nat}{t:TGs}{n:Nat}(hc:X.calm=true)(h:PGs X es t)
  (hn:(assignEach es X.env).length=n:=by rfl) (hst:(assignEach es X.env).findIdx? (·.1)=none:=by rfl):PG X (.Tuple es k pos) (gTup X.K n t):=by
 intro pins s σ H v u Q I r hw
 obtain⟨a,xs,e1,hq,hl,hw⟩:=hw
 subst e1
 cases r
 obtain⟨its,rv,ht,hz⟩:=I.tuple hq
 refine assign_Tuple_tuple (I.ok.hd hc) ht (by simp [hn,← hl,rv.length]) hst λ h' hx=>?_
 have I1:Inv X pins σ H { s with heap:=h' }:=I.kept (t':=s.toks) λ b o e=>hx b o (j6 (i8 e)) e
 exact h pins _ σ H xs _ Q I1 (by simpa using rv) hw
def gSub (to ti:TE)(t:TSet):TG:=λ v σ H Q=>to σ H λ o H1=>ti σ H1 λ i H2=>t o i v H2 λ H3=>Q σ H3
theorem dJ {o i:ubl}{to ti:TE}{t:TSet}(ho:PE X o to)(hi:PE X i ti)(hs:PSet X t)
  (ha:∀ v,assign (.Subscript o i pos) X.env v=(do
   let ov ← holding [v] (eval o X.env)
   let iv ← holding [v,ov] (eval i X.env)
   standAt pos
   holding [v,ov,iv] (setItem ov iv v)
   release [v,ov,iv] []):=by intro _;rfl):PG X (.Subscript o i pos) (gSub to ti t):=by
 intro pins s σ H v u Q I r h
 rw[ha]
 refine a9 (uaw (thn (ho pins s σ H _ I h) λ ov s1 ⟨x,H1,I1,r1,q1⟩=>?_))
 refine a9 (uaw (thn (hi pins s1 σ H1 _ I1 q1) λ iv s2 ⟨y,H2,I2,r2,q2⟩=>?_))
 refine a9 (ues (a9 (uaw (thn (hs pins s2 σ H2 x y v ov iv u _ I2 r1 r2 r q2) λ _ s3 ⟨H3,I3,q3⟩=>?_))))
 exact wpAny_release ⟨σ,H3,I3,q3⟩
def tAsg (te:TE)(g:TG):TS:=λ D σ H=>te σ H λ x H1=>g x σ H1 D.nx
theorem bK {tg e:ubl}{te:TE}{g:TG}(he:PE X e te)(hg:PG X tg g)(hs:swapsWithSole [tg] e pos.line X.env=pure false:=by rfl)(hw:swappedStores [tg] e X.env=pure none:=by rfl)
  (h1:(assignEach [tg] X.env).map (·.2)=[assign tg X.env]:=by rfl):PS X (.Assign [tg] e pos) (tAsg te g):=by
 intro pins s σ H D I h
 refine wpAny_Assign_stores (thn (he pins s σ H _ I h) λ v s1 ⟨x,H1,I1,r1,q1⟩=>?_) hs hw
 rw[h1]
 exact thn (hg pins s1 σ H1 x v _ I1 r1 q1) λ _ s2 q=>q
theorem aN {i:Nat}{x:Str}{e:ubl}{te:TE}{pos':Pos}(hN:X.N.Nodup)(hi:X.N[i]?=some x)(hx:Loc X.env.scope x)(he:PE X e te)(hs:swapsWith e (some (.Name x pos')) pos.line X.env=pure false:=by rfl)(hf:X.fn x=true\/X.env.scope.names.lookup x=some .local:=by first | exact .inl rfl | exact .inr rfl | assumption) :
  PS X (.Assign [.Name x pos'] e pos) (tAsg te (gName i)):=by
 intro pins s σ H D I h
 refine wpAny_Assign_Name (thn (he pins s σ H _ I h) λ v s1 ⟨y,H1,I1,r1,q1⟩=>?_) hs
 exact mH I1 hN hi hx r1 (λ s2 I2=>⟨_,H1,I2,q1⟩) hf
end
section
variable {X:Cx}{pos:Pos}
def tWhile (c:TT)(tb:TS):TS:=λ D σ H=>∃ W:Nat->St->Hp->Prop,(∃ m,W m σ H)/\∀ m σ H,W m σ H ->
 c σ H λ b H1=>if b=true then ∃ N:St->Hp->Prop,(∀ σ' H',N σ' H'->∃ m',m'<m/\W m' σ' H')/\tb { D with nx:=N,ct:=N,bk:=D.nx } σ H1 else D.nx σ H1
theorem iG {c:ubl}{body:List ubm}{tc:TT}{tb:TS}(hp:PassesOwn (w8 X.prog X.w) X.A X.env X.xe)(hc:PT X c tc)(hb:PSs X body tb):PS X (.While c body [] pos) (tWhile tc tb):=by
 intro pins s σ H D I h
 obtain⟨W,⟨m0,w0⟩,turn⟩:=h
 refine wpAny_While (codeAny_whileLoop (λ n s'=>∃ σ' H',Inv X pins σ' H' s'/\W n σ' H') ?_ m0 ⟨σ,H,I,w0⟩)
 rintro n s1 ⟨σ1,H1,I1,w1⟩
 refine ub8 hp (thn (hc pins s1 σ1 H1 _ I1 (turn n σ1 H1 w1)) λ b s2 ⟨H2,I2,q2⟩=>?_)
 cases b with
 | true =>
  obtain⟨N,hN,q2⟩:=q2
  rw[ufo rfl]
  refine ub8 hp (thn (hb pins s2 σ1 H2 _ I2 q2) λ f s3 q3=>?_)
  cases f with
  | next =>
   obtain⟨σ3,H3,I3,n3⟩:=q3
   obtain⟨m',hm,w3⟩:=hN σ3 H3 n3
   exact⟨m',hm,σ3,H3,I3,w3⟩
  | cont =>
   obtain⟨σ3,H3,I3,n3⟩:=q3
   obtain⟨m',hm,w3⟩:=hN σ3 H3 n3
   exact⟨m',hm,σ3,H3,I3,w3⟩
  | brk=>exact q3
  | ret v=>exact q3
 | false =>
  rw[ufp i7]
  exact ud2 ⟨σ1,H2,I2,q2⟩
end
structure It where
 go:Nat->Hp->Prop
 yld:Nat->Hp->V->Hp->Prop
 stop:Nat->Hp->Prop
def FpOk (X:Cx)(pins:List (j4 × Obj))(H:Hp)(b:j4):Prop :=
 H b=none/\b≠X.env.locals/\b∉X.fs/\(b∈X.ex\/X.s₀.heap.objs.size<=b)/\(∀ x c,X.env.cells.lookup x=some c->c≠b)/\∀ p∈X.pn++pins,p.1≠b
theorem Inv.fpOk {X:Cx}{pins:List (j4 × Obj)}{σ:St}{H H':Hp}{s:d6}{b:j4}(I:Inv X pins σ H s)(hb:s.heap.objs.size<=b)(hn:H' b=none):FpOk X pins H' b:=by
 refine⟨hn,uem (o3 I.lt hb),I.nofs hb,.inr (r8 I.sz hb),λ x c e z=>?_,λ p hp z=>?_⟩
 ·obtain⟨v,q⟩:=I.cell x c e
  exact absurd (o3 q.lt (by rw[z];exact hb)) (ubi _)
 ·exact absurd (o3 (i8 (I.pin p hp).1) (by rw[z];exact hb)) (ubi _)
structure Turn (P:m3)(w:uac)(K:a8)(tg:ubl)(J:It)(fp:List j4)(it:j4)(tn:Nat->Heap->Prop):Prop where
 mem:it∈fp
 obj:∀ i h,tn i h->∀ b∈fp,∃ o,h.get? b=some o/\∀ v,o.data≠.cell v
 keep:∀ i h h',tn i h->(∀ b∈fp,∀ o,h.get? b=some o->h'.get? b=some o)->tn i h'
 item:∀ (X:Cx),X.prog=P->X.w=w->X.K=K->X.calm=true->∀ (i:Nat)(pins:List (j4 × Obj))(s:d6)(σ:St)(H:Hp)(E:c9->d6->Prop),Inv X pins σ H s->(∀ b∈fp,FpOk X pins H b)->tn i s.heap->J.go i H ->
  o8 (w8 P w) X.A (pyNext (.ref it)) (λ r s1=>∃ u,r=some u /\
   o8 (w8 P w) X.A (letOwnedTupleGo tg (.ref it) u) (λ _ s2=>∃ x H',Inv X pins σ H' s2/\RelV x u/\J.yld i H x H'/\tn (i+1) s2.heap/\∀ b∈fp,H' b=none) E s1) E s
 done:∀ (X:Cx),X.prog=P->X.w=w->X.K=K->X.calm=true->∀ (i:Nat)(pins:List (j4 × Obj))(s:d6)(σ:St)(H:Hp)(E:c9->d6->Prop),Inv X pins σ H s->(∀ b∈fp,FpOk X pins H b)->tn i s.heap->J.stop i H ->
  o8 (w8 P w) X.A (pyNext (.ref it)) (λ r s1=>r=none/\Inv X pins σ H s1) E s
 self:∀ (A:v6)(i:Nat)(s:d6)(Q:c9->d6->Prop)(E:c9->d6->Prop),tn i s.heap->Q (.ref it) s->o8 (w8 P w) A (pyIter (.ref it)) Q E s
abbrev TI:=St->Hp->(It->Hp->Prop)->Prop
def PIE (X:Cx)(pins:List (j4 × Obj))(σ:St)(tg:ubl)(R:It->Hp->Prop)(itv:c9)(s2:d6):Prop :=
 ∃ (it:j4)(fp:List j4)(tn:Nat->Heap->Prop)(J:It)(H':Hp),itv=.ref it/\Inv X pins σ H' s2/\Turn X.prog X.w X.K tg J fp it tn/\tn 0 s2.heap/\(∀ b∈fp,FpOk X pins H' b)/\R J H'
def PI (X:Cx)(tg iter:ubl)(wi:TI):Prop :=
 ∀ (pins:List (j4 × Obj))(s:d6)(σ:St)(H:Hp)(R:It->Hp->Prop),Inv X pins σ H s->wi σ H R ->
  o8 (w8 X.prog X.w) X.A (eval iter X.env) (λ v s1=>o8 (w8 X.prog X.w) X.A (pyIter v) (PIE X pins σ tg R) X.xe s1) X.xe s
theorem jU {M:Model}{A:v6}{E:c9->d6->Prop}{s:d6}{tg:ubl}{it:j4}{u:c9}{o:Obj}{n:String}{vs:Array c9}{Q:Unit->d6->Prop}(ho:s.heap.get? it=some o)(hc:o.cls=.type n)(hd:o.data=.fields vs)
  (hn:["enumerate","zip","dict_itemiterator","dict_reverseitemiterator","odict_iterator","itertools.zip_longest","itertools.pairwise"].contains n=false) (hQ:Q () s):o8 M A (letOwnedTupleGo tg (.ref it) u) Q E s:=by
 unfold letOwnedTupleGo
 cases tg <;> first
  | exact i9 hQ
  | (cases u <;> first
      | exact i9 hQ
      | (refine a9 (wpAny_load ho ?_)
         rw[hc,hd]
         show o8 M A (if (["enumerate","zip","dict_itemiterator","dict_reverseitemiterator","odict_iterator","itertools.zip_longest","itertools.pairwise"].contains n&&vs[0]?==some (rawInt _))=true then _ else _) Q E s
         rw[ufp (by intro h;rw[hn,Bool.false_and] at h;cases h)]
         exact i9 hQ))
def Itl (K:a8)(a:j4):It :=
 ⟨λ i H=>∃ xs x,SqL K H a xs/\xs[i]?=some x,λ i H x H'=>H'=H/\∀ xs,SqL K H a xs->xs[i]?=some x,λ i H=>∃ xs,SqL K H a xs/\xs.length<=i⟩
def Itt (K:a8)(a:j4):It :=
 ⟨λ i H=>∃ xs x,SqT K H a xs/\xs[i]?=some x,λ i H x H'=>H'=H/\∀ xs,SqT K H a xs->xs[i]?=some x,λ i H=>∃ xs,SqT K H a xs/\xs.length<=i⟩
def Itr (lo:Int)(n:Nat):It:=⟨λ i _=>i<n,λ i H x H'=>H'=H/\x=.int (lo+i),λ i _=>n<=i⟩
theorem uZ {P:m3}{w:uac}{K:a8}{tg:ubl}(a it:j4):Turn P w K tg (Itl K a) [it] it (λ i h=>h.IsListIter it a i) where
 mem:=by simp
 obj:=λ i h st b hb=>by
  have e:b=it:=by simpa using hb
  subst e
  obtain⟨o,e,c,d⟩:=st
  exact⟨o,e,λ v z=>by rw[d] at z;cases z⟩
 keep:=λ i h h' st k=>st.at λ o e=>k it (by simp) o e
 item:=by
  intro X hP hw hK hc i pins s σ H E I hf st hg
  subst hP hw hK
  obtain⟨xs,x,hq,hx⟩:=hg
  obtain⟨its,rv,p,hz⟩:=I.list hq
  obtain⟨u,hu,ru⟩:=rv.get hx
  obtain⟨f0,f1,f2,f3,f4,f5⟩:=hf it (by simp)
  refine wpAny_pyNext_list_item st p.isList (x:=u) (by simpa using hu) λ h' st' sb=>?_
  have I1:Inv X pins σ H { s with heap:=h' }:=I.turned (t':=s.toks) (λ b o hb e=>(sb.2 b hb).trans e) f0 f1 f3 f4 f5
  obtain⟨o,e,c,d⟩:=id st'
  exact⟨u,rfl,jU (s:={ s with heap:=h' }) e c d (by decide) ⟨x,H,I1,ru,⟨rfl,λ ys hy=>by rw[I.list_inj hy hq];exact hx⟩,st',λ b hb=>(hf b hb).1⟩⟩
 done:=by
  intro X hP hw hK hc i pins s σ H E I hf st hg
  subst hP hw hK
  obtain⟨xs,hq,hx⟩:=hg
  obtain⟨its,rv,p,hz⟩:=I.list hq
  obtain⟨f0,f1,f2,f3,f4,f5⟩:=hf it (by simp)
  have hl:=rv.length
  exact wpAny_pyNext_list_end (I.ok.hd hc) st p.isList (by simp;left) λ h' eb=>⟨rfl,I.turned (t':=s.toks) (λ b o hb e=>eb b o hb e) f0 f1 f3 f4 f5⟩
 self:=λ _ _ _ _ _ st h=>wpAny_pyIter_listiter st h
theorem tZ {P:m3}{w:uac}{K:a8}{tg:ubl}(a it:j4):Turn P w K tg (Itt K a) [it] it (λ i h=>h.IsTupleIter it a i) where
 mem:=by simp
 obj:=λ i h st b hb=>by
  have e:b=it:=by simpa using hb
  subst e
  obtain⟨o,e,c,d⟩:=st
  exact⟨o,e,λ v z=>by rw[d] at z;cases z⟩
 keep:=λ i h h' st k=>st.at λ o e=>k it (by simp) o e
 item:=by
  intro X hP hw hK hc i pins s σ H E I hf st hg
  subst hP hw hK
  obtain⟨xs,x,hq,hx⟩:=hg
  obtain⟨its,rv,p,hz⟩:=I.tuple hq
  obtain⟨u,hu,ru⟩:=rv.get hx
  obtain⟨f0,f1,f2,f3,f4,f5⟩:=hf it (by simp)
  refine wpAny_pyNext_tuple_item st (show s.heap.IsTuple a its.toArray from p) (x:=u) (by simpa using hu) λ h' st' sb=>?_
  have I1:Inv X pins σ H { s with heap:=h' }:=I.turned (t':=s.toks) (λ b o hb e=>(sb.2 b hb).trans e) f0 f1 f3 f4 f5
  obtain⟨o,e,c,d⟩:=id st'
  exact⟨u,rfl,jU (s:={ s with heap:=h' }) e c d (by decide) ⟨x,H,I1,ru,⟨rfl,λ ys hy=>by rw[I.tuple_inj hy hq];exact hx⟩,st',λ b hb=>(hf b hb).1⟩⟩
 done:=by
  intro X hP hw hK hc i pins s σ H E I hf st hg
  subst hP hw hK
  obtain⟨xs,hq,hx⟩:=hg
  obtain⟨its,rv,p,hz⟩:=I.tuple hq
  obtain⟨f0,f1,f2,f3,f4,f5⟩:=hf it (by simp)
  have hl:=rv.length
  exact wpAny_pyNext_tuple_end (I.ok.hd hc) st (show s.heap.IsTuple a its.toArray from p) (by simp;left) λ h' eb=>⟨rfl,I.turned (t':=s.toks) (λ b o hb e=>eb b o hb e) f0 f1 f3 f4 f5⟩
 self:=λ _ _ _ _ _ st h=>wpAny_pyIter_tupleiter st h
theorem uA {P:m3}{w:uac}{K:a8}{tg:ubl}(it:j4)(lo:Int)(n:Nat):Turn P w K tg (Itr lo n) [it] it (λ i h=>IsRangeIter h it (lo+(i:Nat)*1) ((n:Int)-(i:Nat)) 1) where
 mem:=by simp
 obj:=λ i h st b hb=>by
  have e:b=it:=by simpa using hb
  subst e
  exact⟨_,st,λ v z=>by
   have z':Data.fields _=Data.cell v:=z
   cases z'⟩
 keep:=λ i h h' st k=>k it (by simp) _ st
 item:=by
  intro X hP hw hK hc i pins s σ H E I hf st hg
  subst hP hw hK
  obtain⟨f0,f1,f2,f3,f4,f5⟩:=hf it (by simp)
  have W:=Walks.range (prog:=X.prog) (w:=X.w) (I.ok.hd hc) it lo 1 n
  refine W.item i s _ _ hg st λ v h' tk hv st' kk=>?_
  obtain⟨t,rfl⟩:=hv
  have I1:Inv X pins σ H { s with heap:=h',toks:=tk }:=I.turned (λ b o hb e=>kk b o (by simpa using hb) e) f0 f1 f3 f4 f5
  refine⟨_,rfl,jU (s:={ s with heap:=h',toks:=tk }) (n:="range_iterator") st' rfl rfl (by decide) ⟨.int (lo+i),H,I1,⟨t,?_⟩,⟨rfl,rfl⟩,st',λ b hb=>(hf b hb).1⟩⟩
  rw[Int.mul_one]
 done:=by
  intro X hP hw hK hc i pins s σ H E I hf st hg
  subst hP hw hK
  obtain⟨f0,f1,f2,f3,f4,f5⟩:=hf it (by simp)
  exact wpAny_pyNext_range_end (I.ok.hd hc) st (by have:n<=i:=hg;left) λ h' eb=>⟨rfl,I.turned (t':=s.toks) (λ b o hb e=>eb b o hb e) f0 f1 f3 f4 f5⟩
 self:=λ _ _ _ _ _ st h=>wpAny_pyIter_rangeiter st h
end L2
namespace L2
open PySem PySem.Spec PyProof.Rows
section
variable {X:Cx}{tg:ubl}
def iList (K:a8)(tl:TE):TI:=λ σ H R=>tl σ H λ x H1=>ERef x λ a=>(∃ xs,SqL K H1 a xs)/\R (Itl K a) H1
def iTup (K:a8)(tl:TE):TI:=λ σ H R=>tl σ H λ x H1=>ERef x λ a=>(∃ xs,SqT K H1 a xs)/\R (Itt K a) H1
theorem bU {l:ubl}{tl:TE}(hl:PE X l tl):PI X tg l (iList X.K tl):=by
 intro pins s σ H R I h
 refine thn (hl pins s σ H _ I h) λ v s1 ⟨x,H1,I1,r1,q1⟩=>?_
 obtain⟨a,e,⟨xs,hq⟩,q⟩:=q1
 subst e
 cases r1
 obtain⟨its,rv,p,hz⟩:=I1.list hq
 refine ucp p.isList ?_
 refine⟨s1.heap.objs.size,[s1.heap.objs.size],_,_,H1,rfl,I1.kept (t':=s1.toks) λ b o e=>b7 _ e,uZ a _,⟨_,j0 _ rfl,rfl,rfl⟩,λ b hb=>?_,q⟩
 have e:b=s1.heap.objs.size:=by simpa using hb
 subst e
 exact I1.fpOk (d8 _) (I1.hok.fresh (d8 _))
theorem cC {l:ubl}{tl:TE}(hl:PE X l tl):PI X tg l (iTup X.K tl):=by
 intro pins s σ H R I h
 refine thn (hl pins s σ H _ I h) λ v s1 ⟨x,H1,I1,r1,q1⟩=>?_
 obtain⟨a,e,⟨xs,hq⟩,q⟩:=q1
 subst e
 cases r1
 obtain⟨its,rv,p,hz⟩:=I1.tuple hq
 refine wpAny_pyIter_tuple (show s1.heap.IsTuple a its.toArray from p) ?_
 refine⟨s1.heap.objs.size,[s1.heap.objs.size],_,_,H1,rfl,I1.kept (t':=s1.toks) λ b o e=>b7 _ e,tZ a _,⟨_,j0 _ rfl,rfl,rfl⟩,λ b hb=>?_,q⟩
 have e:b=s1.heap.objs.size:=by simpa using hb
 subst e
 exact I1.fpOk (d8 _) (I1.hok.fresh (d8 _))
theorem xA {pins:List (j4 × Obj)}{σ:St}{H:Hp}{s:d6}{R:It->Hp->Prop}{E:c9->d6->Prop}{lo hi:Int}{t u v:Tok}{tk:Nat}(I:Inv X pins σ H s)(h1:-(2^62)<=lo)(h2:lo<2^62)(h3:-(2^62)<=hi)(h4:hi<2^62)
  (q:R (Itr lo (hi-lo).toNat) H):o8 (w8 X.prog X.w) X.A (pyIter (.ref s.heap.objs.size)) (PIE X pins σ tg R) E { s with heap:=s.heap.push { cls:=.type "range",data:=.fields #[.int lo t,.int hi u,.int 1 v] },toks:=tk }:=by
 refine wpAny_pyIter_range (IsRange.new ..) (small_one h1 h2 h3 h4) ?_
 have I1:Inv X pins σ H { s with heap:=s.heap.push { cls:=.type "range",data:=.fields #[.int lo t,.int hi u,.int 1 v] },toks:=tk }:=I.kept λ b o e=>b7 _ e
 refine⟨(s.heap.push { cls:=.type "range",data:=.fields #[.int lo t,.int hi u,.int 1 v] }).objs.size,[(s.heap.push { cls:=.type "range",data:=.fields #[.int lo t,.int hi u,.int 1 v] }).objs.size],_,_,H,rfl,
  I1.kept (t':=tk) λ b o e=>b7 _ e,uA _ lo (hi-lo).toNat,?_,λ b hb=>?_,q⟩
 ·have e1:lo+((0:Nat):Int)*1=lo:=by simp
  have e2:(((hi-lo).toNat:Nat):Int)-((0:Nat):Int)=Builtin.Range.rangeSize lo hi 1:=by rw[rangeSize_one];split <;> left
  show IsRangeIter _ _ (lo+((0:Nat):Int)*1) ((((hi-lo).toNat:Nat):Int)-((0:Nat):Int)) 1
  rw[e1,e2]
  exact j0 _ rfl
 ·have e:b=(s.heap.push { cls:=.type "range",data:=.fields #[.int lo t,.int hi u,.int 1 v] }).objs.size:=by simpa using hb
  subst e
  exact I1.fpOk (d8 _) (I1.hok.fresh (d8 _))
def iRng1 (ta:TA):TI:=λ σ H R=>ta σ H λ vs H1=>EOne vs λ j=>-(2^62)<=j/\j<2^62/\R (Itr 0 j.toNat) H1
theorem dR {a:ubl}{ta:TA}{p pos:Pos}(hg:Gl X "range")(hm:X.mg "range"=none)(ha:PA X [a] ta)(hs:uah [a] X.env=[(false,eval a X.env)]:=by rfl):PI X tg (.Call (.Name "range" p) [a] [] pos) (iRng1 ta):=by
 intro pins s σ H R I h
 refine Call_ (dN I hg hm boot_range (ubr (thn (ha pos pins s σ H _ I h) λ us s1 ⟨vs,H1,I1,r1,q1⟩=>?_) hs rfl))
 obtain⟨j,e,q1,q2,q⟩:=q1
 subst e
 cases r1 with
 | cons r rr =>
  cases rr
  obtain⟨t,rfl⟩:=r
  exact call_range_1 (xA I1 (by left) (by left) q1 q2 (by simpa using q))
def tFor (wi:TI)(g:TG)(tb:TS):TS:=λ D σ H=>wi σ H λ J H1=>∃ W:Nat->Nat->St->Hp->Prop,(∃ m,W 0 m σ H1)/\∀ i m σ H,W i m σ H ->
 (J.stop i H/\D.nx σ H)\/(J.go i H/\∃ N:St->Hp->Prop,(∀ σ' H',N σ' H'->∃ m',m'<m/\W (i+1) m' σ' H')/\∀ x H',J.yld i H x H'->g x σ H' λ σ2 H2=>tb { D with nx:=N,ct:=N,bk:=D.nx } σ2 H2)
def pinsAt (fp:List j4)(h:Heap):List (j4 × Obj):=fp.filterMap λ b=>(h.get? b).map λ o=>(b,o)
theorem fN {fp:List j4}{h:Heap}{b:j4}{o:Obj}(hb:b∈fp)(e:h.get? b=some o):(b,o)∈pinsAt fp h:=List.mem_filterMap.mpr ⟨b,hb,by rw[e];rfl⟩
theorem vM {fp:List j4}{h:Heap}{p:j4 × Obj}(hp:p∈pinsAt fp h):p.1∈fp/\h.get? p.1=some p.2:=by
 obtain⟨b,hb,e⟩:=List.mem_filterMap.mp hp
 cases q:h.get? b with
 | none=>rw[q] at e;cases e
 | some o =>
  rw[q] at e
  have e':(b,o)=p:=u6 e
  subst e'
  exact⟨hb,q⟩
theorem Inv.pinned {pins:List (j4 × Obj)}{σ:St}{H:Hp}{s:d6}{fp:List j4}(I:Inv X pins σ H s)(hf:∀ b∈fp,FpOk X pins H b)(ho:∀ b∈fp,∃ o,s.heap.get? b=some o/\∀ v,o.data≠.cell v):Inv X (pins++pinsAt fp s.heap) σ H s :=
 I.pins_of λ p hp=>(m5.mp hp).elim (λ z=>I.pin p (m9 _ z)) λ z=>by
  obtain⟨hb,e⟩:=vM z
  obtain⟨f0,f1,f2,_⟩:=hf p.1 hb
  obtain⟨o,e',d⟩:=ho p.1 hb
  rw[e] at e';cases e'
  exact⟨e,f0,f1,f2,d⟩
theorem Inv.unpinned {pins pl:List (j4 × Obj)}{σ:St}{H:Hp}{s:d6}(I:Inv X (pins++pl) σ H s):Inv X pins σ H s:=I.pins_of λ p hp=>I.pin p (m9 _ (uab _ hp))
theorem bM {iter:ubl}{body:List ubm}{wi:TI}{g:TG}{tb:TS}{pos:Pos}(hp:PassesOwn (w8 X.prog X.w) X.A X.env X.xe)(hc:X.calm=true)(hi:PI X tg iter wi)(hg:PG X tg g)(hb:PSs X body tb)
  (hs:∀ x,foldedSetIterable iter X.env x=pure x:=by intro _;rfl):PS X (.For tg iter body [] pos) (tFor wi g tb):=by
 intro pins s σ H D I h
 refine wpAny_For (thn (hi pins s σ H _ I h) λ v s1 h1=>thn h1 λ itv s2 h2=>?_) hs
 obtain⟨it,fp,tn,J,H2,e,I2,T,st2,f2,W,⟨m0,w0⟩,turn⟩:=h2
 subst e
  -- what stays true of the iterator's objects through the loop
 have stat:∀ {H':Hp},(∀ b∈fp,H' b=none)->∀ b∈fp,FpOk X pins H' b:=λ hn b hb=>⟨hn b hb,(f2 b hb).2⟩
 refine codeAny_forLoop_any (λ n s'=>∃ i σ' H',Inv X pins σ' H' s'/\tn i s'.heap/\(∀ b∈fp,H' b=none)/\W i n σ' H') ?_ m0 ⟨0,σ,H2,I2,st2,λ b hb=>(f2 b hb).1,w0⟩
 rintro n s3 ⟨i,σ3,H3,I3,st3,fr3,w3⟩
 rcases turn i n σ3 H3 w3 with ⟨stop,qn⟩ | ⟨go,N,hN,step⟩
 ·refine ub8 hp (thn (T.done X rfl rfl rfl hc i pins s3 σ3 H3 X.xe I3 (stat fr3) st3 stop) λ r s4 ⟨hr,I4⟩=>?_)
  subst hr
  exact ud2 ⟨σ3,H3,I4,qn⟩
 ·refine ub8 hp (thn (T.item X rfl rfl rfl hc i pins s3 σ3 H3 X.xe I3 (stat fr3) st3 go) λ r s4 ⟨u,hr,h4⟩=>?_)
  subst hr
  refine ub8 hp (thn h4 λ _ s5 ⟨x,H5,I5,r5,y5,st5,fr5⟩=>?_)
  have I5':=I5.pinned (stat fr5) (T.obj _ _ st5)
  refine ub8 hp (thn (hg _ s5 σ3 H5 x u _ I5' r5 (step x H5 y5)) λ _ s6 ⟨σ6,H6,I6,q6⟩=>?_)
  refine ub8 hp (thn (hb _ s6 σ6 H6 _ I6 q6) λ f s7 q7=>?_)
  have again:∀ {σ7:St}{H7:Hp},Inv X (pins++pinsAt fp s5.heap) σ7 H7 s7->N σ7 H7->∃ m,m<n/\∃ i σ' H',Inv X pins σ' H' s7/\tn i s7.heap/\(∀ b∈fp,H' b=none)/\W i m σ' H':=λ {σ7 H7} I7 n7=>by
   obtain⟨m',hm,w7⟩:=hN σ7 H7 n7
   refine⟨m',hm,i+1,σ7,H7,I7.unpinned,T.keep _ _ _ st5 λ b hb o e=>(I7.pin (b,o) (m9 _ (m9 _ (fN hb e)))).1,λ b hb=>?_,w7⟩
   obtain⟨o,e,d⟩:=T.obj _ _ st5 b hb
   exact (I7.pin (b,o) (m9 _ (m9 _ (fN hb e)))).2.1
  cases f with
  | next=>obtain⟨σ7,H7,I7,n7⟩:=q7;exact again I7 n7
  | cont=>obtain⟨σ7,H7,I7,n7⟩:=q7;exact again I7 n7
  | brk=>obtain⟨σ7,H7,I7,q7⟩:=q7;exact⟨σ7,H7,I7.unpinned,q7⟩
  | ret v=>obtain⟨x7,σ7,H7,I7,r7,q7⟩:=q7;exact⟨x7,σ7,H7,I7.unpinned,r7,q7⟩
end
theorem dH {K:a8}{a:j4}{xs:List V}{g:TG}{tb:TS}{D:Ends}{σ:St}{H:Hp}(Pv:Nat->St->Hp->Prop)(h0:Pv 0 σ H)(hl:∀ i σ H,i<=xs.length->Pv i σ H->SqL K H a xs)
  (hs:∀ i x σ H,xs[i]?=some x->Pv i σ H->g x σ H λ σ2 H2=>tb { D with nx:=Pv (i+1),ct:=Pv (i+1),bk:=D.nx } σ2 H2) (hd:∀ σ H,Pv xs.length σ H->D.nx σ H) :
  ∃ W:Nat->Nat->St->Hp->Prop,(∃ m,W 0 m σ H)/\∀ i m σ H,W i m σ H ->
   ((Itl K a).stop i H/\D.nx σ H)\/((Itl K a).go i H/\∃ N:St->Hp->Prop,(∀ σ' H',N σ' H'->∃ m',m'<m/\W (i+1) m' σ' H')/\∀ x H',(Itl K a).yld i H x H'->g x σ H' λ σ2 H2=>tb { D with nx:=N,ct:=N,bk:=D.nx } σ2 H2):=by
 refine⟨λ i m σ H=>m=xs.length-i/\i<=xs.length/\Pv i σ H,⟨xs.length,by simp,uad _,h0⟩,?_⟩
 rintro i m σ H ⟨rfl,hi,p⟩
 have q:=hl i σ H hi p
 by_cases hlt:i<xs.length
 ·refine .inr ⟨⟨xs,xs[i],q,by simp [hlt]⟩,Pv (i+1),λ σ' H' p'=>⟨xs.length-(i+1),by left,rfl,hlt,p'⟩,λ x H' y=>?_⟩
  obtain⟨e,y⟩:=y
  subst e
  exact hs i x σ _ (y xs q) p
 ·have e:i=xs.length:=by left
  subst e
  exact .inl ⟨⟨xs,q,d8 _⟩,hd σ H p⟩
theorem fD {K:a8}{a:j4}{xs:List V}{g:TG}{tb:TS}{D:Ends}{σ:St}{H:Hp}(Pv:Nat->St->Hp->Prop)(h0:Pv 0 σ H)(hl:∀ i σ H,i<=xs.length->Pv i σ H->SqT K H a xs)
  (hs:∀ i x σ H,xs[i]?=some x->Pv i σ H->g x σ H λ σ2 H2=>tb { D with nx:=Pv (i+1),ct:=Pv (i+1),bk:=D.nx } σ2 H2) (hd:∀ σ H,Pv xs.length σ H->D.nx σ H) :
  ∃ W:Nat->Nat->St->Hp->Prop,(∃ m,W 0 m σ H)/\∀ i m σ H,W i m σ H ->
   ((Itt K a).stop i H/\D.nx σ H)\/((Itt K a).go i H/\∃ N:St->Hp->Prop,(∀ σ' H',N σ' H'->∃ m',m'<m/\W (i+1) m' σ' H')/\∀ x H',(Itt K a).yld i H x H'->g x σ H' λ σ2 H2=>tb { D with nx:=N,ct:=N,bk:=D.nx } σ2 H2):=by
 refine⟨λ i m σ H=>m=xs.length-i/\i<=xs.length/\Pv i σ H,⟨xs.length,by simp,uad _,h0⟩,?_⟩
 rintro i m σ H ⟨rfl,hi,p⟩
 have q:=hl i σ H hi p
 by_cases hlt:i<xs.length
 ·refine .inr ⟨⟨xs,xs[i],q,by simp [hlt]⟩,Pv (i+1),λ σ' H' p'=>⟨xs.length-(i+1),by left,rfl,hlt,p'⟩,λ x H' y=>?_⟩
  obtain⟨e,y⟩:=y
  subst e
  exact hs i x σ _ (y xs q) p
 ·have e:i=xs.length:=by left
  subst e
  exact .inl ⟨⟨xs,q,d8 _⟩,hd σ H p⟩
theorem eN {lo:Int}{n:Nat}{g:TG}{tb:TS}{D:Ends}{σ:St}{H:Hp}(Pv:Nat->St->Hp->Prop)(h0:Pv 0 σ H)
  (hs:∀ i σ H,i<n->Pv i σ H->g (.int (lo+i)) σ H λ σ2 H2=>tb { D with nx:=Pv (i+1),ct:=Pv (i+1),bk:=D.nx } σ2 H2) (hd:∀ σ H,Pv n σ H->D.nx σ H) :
  ∃ W:Nat->Nat->St->Hp->Prop,(∃ m,W 0 m σ H)/\∀ i m σ H,W i m σ H ->
   ((Itr lo n).stop i H/\D.nx σ H)\/((Itr lo n).go i H/\∃ N:St->Hp->Prop,(∀ σ' H',N σ' H'->∃ m',m'<m/\W (i+1) m' σ' H')/\∀ x H',(Itr lo n).yld i H x H'->g x σ H' λ σ2 H2=>tb { D with nx:=N,ct:=N,bk:=D.nx } σ2 H2):=by
 refine⟨λ i m σ H=>m=n-i/\i<=n/\Pv i σ H,⟨n,by simp,uad _,h0⟩,?_⟩
 rintro i m σ H ⟨rfl,hi,p⟩
 by_cases hlt:i<n
 ·refine .inr ⟨hlt,Pv (i+1),λ σ' H' p'=>⟨n-(i+1),by left,rfl,hlt,p'⟩,λ x H' y=>?_⟩
  obtain⟨e,y⟩:=y
  subst e y
  exact hs i σ _ hlt p
 ·have e:i=n:=by left
  subst e
  exact .inl ⟨d8 _,hd σ H p⟩
end L2
namespace L2
open PySem PySem.Spec PyProof.Rows
abbrev R2:=V->V->Hp->VK->Prop
def OpR (X:Cx)(f:c9->c9->Sem c9)(r:R2):Prop :=
 ∀ (pins:List (j4 × Obj))(s:d6)(σ:St)(H:Hp)(x y:V)(v u:c9)(Q:VK),Inv X pins σ H s->RelV x v->RelV y u->r x y H Q ->
  o8 (w8 X.prog X.w) X.A (f v u) (EP X pins σ Q) X.xe s
def UnR (X:Cx)(f:c9->Sem c9)(r:V->Hp->VK->Prop):Prop :=
 ∀ (pins:List (j4 × Obj))(s:d6)(σ:St)(H:Hp)(x:V)(v:c9)(Q:VK),Inv X pins σ H s->RelV x v->r x H Q ->
  o8 (w8 X.prog X.w) X.A (f v) (EP X pins σ Q) X.xe s
def CallR (X:Cx)(f:c9)(r:List V->Hp->VK->Prop):Prop :=
 ∀ (pins:List (j4 × Obj))(s:d6)(σ:St)(H:Hp)(xs:List V)(us:List c9)(Q:VK),Inv X pins σ H s->Vals xs us->r xs H Q ->
  o8 (w8 X.prog X.w) X.A (call f us) (EP X pins σ Q) X.xe s
def tOp (r:R2)(ta tb:TE):TE:=λ σ H Q=>ta σ H λ x H1=>tb σ H1 λ y H2=>r x y H2 Q
def tUn (r:V->Hp->VK->Prop)(ta:TE):TE:=λ σ H Q=>ta σ H λ x H1=>r x H1 Q
inductive rI_i (C:Int->Int->Prop)(g:Int->Int->V)(x:V)(y:V)(H:Hp)(Q:VK):Prop
 | mk:∀ i j,(x=.int i)->(y=.int j)->(C i j)->(Q (g i j) H)->rI_i C g x y H Q
def rI (C:Int->Int->Prop)(g:Int->Int->V):R2:=λ x y H Q=>rI_i C g x y H Q
inductive rI0_i (g:Int->Int->V)(x:V)(y:V)(H:Hp)(Q:VK):Prop
 | mk:∀ i j,(x=.int i)->(y=.int j)->(Q (g i j) H)->rI0_i g x y H Q
def rI0 (g:Int->Int->V):R2:=λ x y H Q=>rI0_i g x y H Q
inductive rU_i (g:Int->V)(x:V)(H:Hp)(Q:VK):Prop
 | mk:∀ i,(x=.int i)->(Q (g i) H)->rU_i g x H Q
def rU (g:Int->V):V->Hp->VK->Prop:=λ x H Q=>rU_i g x H Q
section
variable {X:Cx}{a b c:ubl}{ta tb tc:TE}{pos:Pos}
theorem binT (ha:PE X a ta)(hb:PE X b tb){pins:List (j4 × Obj)}{s:d6}{σ:St}{H:Hp}{R:V->V->Hp->Prop}(I:Inv X pins σ H s)
  (h:ta σ H λ x H1=>tb σ H1 λ y H2=>R x y H2) {Q:c9->d6->Prop} {f:c9->c9->Sem c9}
  (hf:∀ v u s2 x y H2,Inv X pins σ H2 s2->RelV x v->RelV y u->R x y H2->o8 (w8 X.prog X.w) X.A (f v u) Q X.xe s2) :
  o8 (w8 X.prog X.w) X.A (eval a X.env) (λ v s₁=>o8 (w8 X.prog X.w) X.A (eval b X.env) (λ u s₂=>o8 (w8 X.prog X.w) X.A (f v u) Q X.xe s₂) X.xe s₁) X.xe s:=by
 refine thn (ha pins s σ H _ I h) λ v s1 ⟨x,H1,I1,r1,q1⟩=>?_
 refine thn (hb pins s1 σ H1 _ I1 q1) λ u s2 ⟨y,H2,I2,r2,q2⟩=>?_
 exact hf v u s2 x y H2 I2 r1 r2 q2
theorem aI {op:Operator}{r:R2}(ho:OpR X (binaryOp op) r)(ha:PE X a ta)(hb:PE X b tb):PE X (.BinOp a op b pos) (tOp r ta tb):=by
 intro pins s σ H Q I h
 exact wpAny_BinOp (binT ha hb I h λ v u s2 x y H2 I2 rx ry q=>ho pins s2 σ H2 x y v u Q I2 rx ry q)
theorem gY {op:UnaryOp}{r:V->Hp->VK->Prop}(ho:UnR X (unaryOp op) r)(ha:PE X a ta):PE X (.UnaryOp op a pos) (tUn r ta):=by
 intro pins s σ H Q I h
 exact UnaryOp_ (thn (ha pins s σ H _ I h) λ v s1 ⟨x,H1,I1,r1,q1⟩=>ho pins s1 σ H1 x v Q I1 r1 q1)
theorem opI {f:c9->c9->Sem c9}{C:Int->Int->Prop}{g:Int->Int->Int}
  (rule:∀ (i j:Int)(t u:Tok)(s:d6)(Q:c9->d6->Prop)(E:c9->d6->Prop),C i j->Q (.int (g i j) s.toks) { s with toks:=s.toks+1 }->o8 (w8 X.prog X.w) X.A (f (.int i t) (.int j u)) Q E s) :
  OpR X f (rI C λ i j=>.int (g i j)):=by
 intro pins s σ H x y v u Q I rx ry h
 obtain⟨i,j,rfl,rfl,hc,q⟩:=h
 obtain⟨t,rfl⟩:=rx
 obtain⟨t',rfl⟩:=ry
 exact rule i j t t' s _ _ hc ⟨.int (g i j),H,I.tok _,⟨_,rfl⟩,q⟩
theorem opI0 {f:c9->c9->Sem c9}{g:Int->Int->Int}
  (rule:∀ (i j:Int)(t u:Tok)(s:d6)(Q:c9->d6->Prop)(E:c9->d6->Prop),Q (.int (g i j) s.toks) { s with toks:=s.toks+1 }->o8 (w8 X.prog X.w) X.A (f (.int i t) (.int j u)) Q E s) :
  OpR X f (rI0 λ i j=>.int (g i j)):=by
 intro pins s σ H x y v u Q I rx ry h
 obtain⟨i,j,rfl,rfl,q⟩:=h
 obtain⟨t,rfl⟩:=rx
 obtain⟨t',rfl⟩:=ry
 exact rule i j t t' s _ _ ⟨.int (g i j),H,I.tok _,⟨_,rfl⟩,q⟩
theorem opB0 {f:c9->c9->Sem c9}{g:Int->Int->Bool}
  (rule:∀ (i j:Int)(t u:Tok)(s:d6)(Q:c9->d6->Prop)(E:c9->d6->Prop),Q (.bool (g i j)) s->o8 (w8 X.prog X.w) X.A (f (.int i t) (.int j u)) Q E s) :
  OpR X f (rI0 λ i j=>.bl (g i j)):=by
 intro pins s σ H x y v u Q I rx ry h
 obtain⟨i,j,rfl,rfl,q⟩:=h
 obtain⟨t,rfl⟩:=rx
 obtain⟨t',rfl⟩:=ry
 exact rule i j t t' s _ _ ⟨.bl (g i j),H,I,rfl,q⟩
def CDiv (i j:Int):Prop:=0<j/\j<1073741824
def CPow (i j:Int):Prop:=0<=j/\j<=1000000/\i.natAbs<2^64
def CMul (i j:Int):Prop:=(-(2^64)<i/\i<2^64)\/(-(2^64)<j/\j<2^64)
theorem CMul.ok {i j:Int}(h:CMul i j):IntMulOk i j:=by
 rcases h with ⟨h1,h2⟩ | ⟨h1,h2⟩
 ·exact .of_left (intBits_le_64 h1 h2)
 ·exact .of_right (intBits_le_64 h1 h2)
theorem bN:OpR X (binaryOp .Add) (rI0 λ i j=>.int (i+j)):=opI0 λ _ _ _ _ _ _ _ q=>add_int q
theorem cH:OpR X (binaryOp .Sub) (rI0 λ i j=>.int (i-j)):=opI0 λ _ _ _ _ _ _ _ q=>sub_int q
theorem dA:OpR X (binaryOp .Mult) (rI CMul λ i j=>.int (i*j)):=opI λ _ _ _ _ _ _ _ hc q=>mul_int q hc.ok
theorem nT:OpR X (binaryOp .FloorDiv) (rI CDiv λ i j=>.int (i / j)):=opI λ i j _ _ _ _ _ hc q=>by
 have h1:(0:Int)<j:=hc.1
 have h2:j<1073741824:=hc.2
 exact floordiv_int (by left) (by rw[Int.fdiv_eq_ediv_of_nonneg i (by left)];exact q) (.inl (PyProof.noPylong_small (by left)))
theorem cJ:OpR X (binaryOp .Mod) (rI (λ _ j=>0<j) λ i j=>.int (i%j)):=opI λ i j _ _ _ _ _ hc q=>by
 have h1:(0:Int)<j:=hc
 exact mod_int' (by left) (by rw[Int.fmod_eq_emod_of_nonneg i (by left)];exact q)
theorem cI:OpR X (binaryOp .Pow) (rI CPow λ i j=>.int (i^j.toNat)):=opI λ _ _ _ _ _ _ _ hc q=>pow_int_small hc.1 hc.2.1 hc.2.2 q
theorem unI {f:c9->Sem c9}{g:Int->Int}
  (rule:∀ (i:Int)(t:Tok)(s:d6)(Q:c9->d6->Prop)(E:c9->d6->Prop),Q (.int (g i) s.toks) { s with toks:=s.toks+1 }->o8 (w8 X.prog X.w) X.A (f (.int i t)) Q E s) :
  UnR X f (rU λ i=>.int (g i)):=by
 intro pins s σ H x v Q I rx h
 obtain⟨i,rfl,q⟩:=h
 obtain⟨t,rfl⟩:=rx
 exact rule i t s _ _ ⟨.int (g i),H,I.tok _,⟨_,rfl⟩,q⟩
theorem gS:UnR X (unaryOp .USub) (rU λ i=>.int (-i)):=unI λ _ _ _ _ _ q=>neg_int q
end
def scal:V->V->Bool
 | .non,.non=>true | .non,.int _=>true | .int _,.non=>true | .non,.bl _=>true | .bl _,.non=>true | .non,.str _=>true | .str _,.non=>true
 | .int _,.int _=>true | .bl _,.bl _=>true | .str _,.str _=>true | .byt _,.byt _=>true
 | .int _,.str _=>true | .str _,.int _=>true | .bl _,.str _=>true | .str _,.bl _=>true
 | _,_=>false
def rEq:R2:=λ x y H Q=>scal x y=true/\Q (.bl (decide (x=y))) H
def rNe:R2:=λ x y H Q=>scal x y=true/\Q (.bl (!decide (x=y))) H
theorem fF {i j:Int}:decide (V.int i=V.int j)=(i==j):=by
 rw[ub1]
 simp
theorem oN {i j:Bool}:decide (V.bl i=V.bl j)=(i==j):=by
 rw[ub1]
 simp
theorem nX {i j:Str}:decide (V.str i=V.str j)=(i==j):=by
 rw[ub1]
 simp
theorem nY {i j:Array UInt8}:decide (V.byt i=V.byt j)=(i.toList==j.toList):=by
 rw[ub1]
 cases i
 cases j
 simp
section
variable {X:Cx}{a b c:ubl}{ta tb tc:TE}{pos:Pos}
theorem aU {pins:List (j4 × Obj)}{σ:St}{H:Hp}{s:d6}{Q:VK}{k k':Bool}(I:Inv X pins σ H s)(q:Q (.bl k) H)(e:k=k'):EP X pins σ Q (.bool k') s:=by
 subst e
 exact⟨.bl k,H,I,rfl,q⟩
theorem bH:OpR X (compareOp .Eq) rEq:=by
 intro pins s σ H x y v u Q I rx ry h
 obtain⟨hs,q⟩:=h
 cases x with
 | non =>
  cases rx
  cases y with
  | non=>cases ry;exact PySem.EqNone.eq_none_none (aU I q (by simp))
  | bl j=>cases ry;exact PySem.EqNone.eq_none_bool (aU I q (by simp))
  | int j=>obtain⟨t',rfl⟩:=ry;exact PySem.EqNone.eq_none_int (aU I q (by simp))
  | str j=>obtain⟨t',rfl⟩:=ry;exact PySem.EqNone.eq_none_str (aU I q (by simp))
  | _=>exact absurd (show false=true from hs) i7
 | bl i =>
  cases rx
  cases y with
  | non=>cases ry;exact PySem.EqNone.eq_bool_none (aU I q (by simp))
  | bl j=>cases ry;exact eq_bool (aU I q oN)
  | str j=>obtain⟨t',rfl⟩:=ry;exact PySem.EqMixed.eq_bool_str (aU I q (by simp))
  | _=>exact absurd (show false=true from hs) i7
 | int i =>
  obtain⟨t,rfl⟩:=rx
  cases y with
  | non=>cases ry;exact PySem.EqNone.eq_int_none (aU I q (by simp))
  | int j=>obtain⟨t',rfl⟩:=ry;exact eq_int (aU I q fF)
  | str j=>obtain⟨t',rfl⟩:=ry;exact PySem.EqMixed.eq_int_str (aU I q (by simp))
  | _=>exact absurd (show false=true from hs) i7
 | str i =>
  obtain⟨t,rfl⟩:=rx
  cases y with
  | non=>cases ry;exact PySem.EqNone.eq_str_none (aU I q (by simp))
  | bl j=>cases ry;exact PySem.EqMixed.eq_str_bool (aU I q (by simp))
  | int j=>obtain⟨t',rfl⟩:=ry;exact PySem.EqMixed.eq_str_int (aU I q (by simp))
  | str j=>obtain⟨t',rfl⟩:=ry;exact eq_str (aU I q nX)
  | _=>exact absurd (show false=true from hs) i7
 | byt i =>
  obtain⟨t,rfl⟩:=rx
  cases y with
  | byt j=>obtain⟨t',rfl⟩:=ry;exact PySem.W.eq_bytes (aU I q nY)
  | _=>exact absurd (show false=true from hs) i7
 | _=>cases y <;> exact absurd (show false=true from hs) i7
theorem fJ:OpR X (compareOp .NotEq) rNe:=by
 intro pins s σ H x y v u Q I rx ry h
 obtain⟨hs,q⟩:=h
 cases x with
 | non =>
  cases rx
  cases y with
  | non=>cases ry;exact PySem.EqNone.ne_none_none (aU I q (by simp))
  | bl j=>cases ry;exact PySem.EqNone.ne_none_bool (aU I q (by simp))
  | int j=>obtain⟨t',rfl⟩:=ry;exact PySem.EqNone.ne_none_int (aU I q (by simp))
  | str j=>obtain⟨t',rfl⟩:=ry;exact PySem.EqNone.ne_none_str (aU I q (by simp))
  | _=>exact absurd (show false=true from hs) i7
 | bl i =>
  cases rx
  cases y with
  | non=>cases ry;exact PySem.EqNone.ne_bool_none (aU I q (by simp))
  | bl j=>cases ry;exact ne_bool (aU I q (congrArg not oN))
  | str j=>obtain⟨t',rfl⟩:=ry;exact PySem.EqMixed.ne_bool_str (aU I q (by simp))
  | _=>exact absurd (show false=true from hs) i7
 | int i =>
  obtain⟨t,rfl⟩:=rx
  cases y with
  | non=>cases ry;exact PySem.EqNone.ne_int_none (aU I q (by simp))
  | int j=>obtain⟨t',rfl⟩:=ry;exact ne_int (aU I q (congrArg not fF))
  | str j=>obtain⟨t',rfl⟩:=ry;exact PySem.EqMixed.ne_int_str (aU I q (by simp))
  | _=>exact absurd (show false=true from hs) i7
 | str i =>
  obtain⟨t,rfl⟩:=rx
  cases y with
  | non=>cases ry;exact PySem.EqNone.ne_str_none (aU I q (by simp))
  | bl j=>cases ry;exact PySem.EqMixed.ne_str_bool (aU I q (by simp))
  | int j=>obtain⟨t',rfl⟩:=ry;exact PySem.EqMixed.ne_str_int (aU I q (by simp))
  | str j=>obtain⟨t',rfl⟩:=ry;exact ne_str (aU I q (congrArg not nX))
  | _=>exact absurd (show false=true from hs) i7
 | byt i =>
  obtain⟨t,rfl⟩:=rx
  cases y with
  | byt j=>obtain⟨t',rfl⟩:=ry;exact PySem.W.ne_bytes (aU I q (congrArg not nY))
  | _=>exact absurd (show false=true from hs) i7
 | _=>cases y <;> exact absurd (show false=true from hs) i7
theorem cQ:OpR X (compareOp .Lt) (rI0 λ i j=>.bl (decide (i<j))):=opB0 λ _ _ _ _ _ _ _ q=>lt_int q
theorem eE:OpR X (compareOp .LtE) (rI0 λ i j=>.bl (decide (i<=j))):=opB0 λ _ _ _ _ _ _ _ q=>le_int q
theorem cM:OpR X (compareOp .Gt) (rI0 λ i j=>.bl (decide (j<i))):=opB0 λ _ _ _ _ _ _ _ q=>gt_int q
theorem zbm:OpR X (compareOp .GtE) (rI0 λ i j=>.bl (decide (j<=i))):=opB0 λ _ _ _ _ _ _ _ q=>ge_int q
theorem cL:OpR X (compareOp .Is) (λ x y H Q=>y=.non/\Q (.bl (decide (x=.non))) H):=by
 intro pins s σ H x y v u Q I rx ry h
 obtain⟨rfl,q⟩:=h
 cases ry
 refine is_none_gen (aU I q ?_)
 cases x <;> first
  | (cases rx;rfl)
  | (obtain⟨t,rfl⟩:=rx;rfl)
theorem nR:OpR X (compareOp .IsNot) (λ x y H Q=>y=.non/\Q (.bl (!decide (x=.non))) H):=by
 intro pins s σ H x y v u Q I rx ry h
 obtain⟨rfl,q⟩:=h
 cases ry
 refine isnot_none_gen (aU I q ?_)
 cases x <;> first
  | (cases rx;rfl)
  | (obtain⟨t,rfl⟩:=rx;rfl)
theorem nomark (b:ubl){op:CmpOp}(h:op≠.In:=by decide)(h2:op≠.NotIn:=by decide):behindInMarks op b=false:=by
 have e1:(op==CmpOp.In)=false:=by cases op <;> first | rfl | exact absurd rfl h
 have e2:(op==CmpOp.NotIn)=false:=by cases op <;> first | rfl | exact absurd rfl h2
 cases b <;> simp [behindInMarks,e1,e2]
theorem bD {op:CmpOp}{r:R2}(ho:OpR X (compareOp op) r)(ha:PE X a ta)(hb:PE X b tb)(hm:behindInMarks op b=false):PE X (.Compare a [op] [b] pos) (tOp r ta tb):=by
 intro pins s σ H Q I h
 exact wpAny_Compare1 (binT ha hb I h λ v u s2 x y H2 I2 rx ry q=>ho pins s2 σ H2 x y v u Q I2 rx ry q) hm
def tTest (t:TE):TT:=λ σ H Q=>t σ H λ x H'=>EBl x λ k=>Q k H'
theorem aO {op:CmpOp}{r:R2}(ho:OpR X (compareOp op) r)(ha:PE X a ta)(hb:PE X b tb)(hm:behindInMarks op b=false):PT X (.Compare a [op] [b] pos) (tTest (tOp r ta tb)):=by
 intro pins s σ H Q I h
 refine wpAny_isTrue_Compare1 (thn (ha pins s σ H _ I h) λ v s1 ⟨x,H1,I1,r1,q1⟩=>thn (hb pins s1 σ H1 _ I1 q1) λ u s2 ⟨y,H2,I2,r2,q2⟩ =>
  thn (ho pins s2 σ H2 x y v u _ I2 r1 r2 q2) λ c s3 ⟨z,H3,I3,r3,k,e,q3⟩=>?_) hm
 subst e
 cases r3
 exact ubc ⟨H3,I3,q3⟩
def tChain (r r':R2)(ta tb tc:TE):TE:=λ σ H Q=>ta σ H λ x H1=>tb σ H1 λ y H2=>r x y H2 λ z H3=>EBl z λ k=>(if k=true then tc σ H3 λ w' H4=>r' y w' H4 Q else Q (.bl false) H3)
theorem xE {op op':CmpOp}{r r':R2}(ho:OpR X (compareOp op) r)(ho':OpR X (compareOp op') r')(ha:PE X a ta)(hb:PE X b tb)(hc:PE X c tc)
  (hm:lastMarks [op,op'] [b,c]=false:=by with_unfolding_all rfl):PE X (.Compare a [op,op'] [b,c] pos) (tChain r r' ta tb tc):=by
 intro pins s σ H Q I h
 refine Compare_chain (thn (ha pins s σ H _ I h) λ v s1 ⟨x,H1,I1,r1,q1⟩=>chain_link (thn (hb pins s1 σ H1 _ I1 q1) λ u s2 ⟨y,H2,I2,r2,q2⟩ =>
  thn (ho pins s2 σ H2 x y v u _ I2 r1 r2 q2) λ d s3 ⟨z,H3,I3,r3,k,e,q3⟩=>?_)) hm
 subst e
 cases r3
 refine ubc ?_
 cases k with
 | false=>exact ite_ff ⟨.bl false,H3,I3,rfl,q3⟩
 | true=>exact ite_tt (chain_last (thn (hc pins s3 σ H3 _ I3 q3) λ w' s4 ⟨z',H4,I4,r4,q4⟩=>ho' pins s4 σ H4 y z' u w' Q I4 r2 r4 q4))
theorem xB {op op':CmpOp}{r r':R2}(ho:OpR X (compareOp op) r)(ho':OpR X (compareOp op') r')(ha:PE X a ta)(hb:PE X b tb)(hc:PE X c tc)
  (hm:lastMarks [op,op'] [b,c]=false:=by with_unfolding_all rfl):PT X (.Compare a [op,op'] [b,c] pos) (tTest (tChain r r' ta tb tc)):=by
 intro pins s σ H Q I h
 refine isTrue_chain (thn (ha pins s σ H _ I h) λ v s1 ⟨x,H1,I1,r1,q1⟩=>test_link (thn (hb pins s1 σ H1 _ I1 q1) λ u s2 ⟨y,H2,I2,r2,q2⟩ =>
  thn (ho pins s2 σ H2 x y v u _ I2 r1 r2 q2) λ d s3 ⟨z,H3,I3,r3,k,e,q3⟩=>?_)) hm
 subst e
 cases r3
 refine ubc ?_
 cases k with
 | false =>
  obtain⟨k',e',q'⟩:=q3
  cases e'
  exact ite_ff ⟨H3,I3,q'⟩
 | true =>
  refine ite_tt (test_last (thn (hc pins s3 σ H3 _ I3 q3) λ w' s4 ⟨z',H4,I4,r4,q4⟩=>thn (ho' pins s4 σ H4 y z' u w' _ I4 r2 r4 q4) λ d' s5 ⟨z2,H5,I5,r5,k2,e2,q5⟩=>?_))
  subst e2
  cases r5
  exact ubc ⟨H5,I5,q5⟩
theorem line63:(o9:Nat)<2^63:=by rw[ubd];decide
theorem vals1 {x:V}{us:List c9}(r:Vals [x] us):∃ u,us=[u]/\RelV x u:=by
 cases r with
 | cons r1 r2=>cases r2;exact⟨_,rfl,r1⟩
theorem vals2 {x y:V}{us:List c9}(r:Vals [x,y] us):∃ u w',us=[u,w']/\RelV x u/\RelV y w':=by
 cases r with
 | cons r1 r2 =>
  cases r2 with
  | cons r3 r4=>cases r4;exact⟨_,_,rfl,r1,r3⟩
inductive call_abs_i  (xs:List V) (H:Hp) (Q:VK):Prop
 | mk:∀ i,(xs=[.int i])->(Q (.int (if i<0 then -i else i)) H)->call_abs_i xs H Q
theorem yC:CallR X (.builtin "abs") (call_abs_i):=by
 intro pins s σ H xs us Q I r h
 obtain⟨i,rfl,q⟩:=h
 obtain⟨u,rfl,t,rfl⟩:=vals1 r
 exact call_abs_int λ u tk=>⟨.int (if i<0 then -i else i),H,I.tok _,⟨_,rfl⟩,q⟩
theorem iA (hc:X.calm=true):CallR X (.builtin "max") (λ xs H Q=>∃ i j,xs=[.int i,.int j]/\Q (.int (if j>i then j else i)) H):=by
 intro pins s σ H xs us Q I r h
 obtain⟨i,j,rfl,q⟩:=h
 obtain⟨u,w',rfl,⟨t,rfl⟩,⟨t',rfl⟩⟩:=vals2 r
 refine max_two_ints (I.ok.hd hc) λ h' tk k=>⟨_,H,I.kept k,?_,q⟩
 by_cases hj:j>i
 ·rw[ufo hj,ufo hj];exact⟨_,rfl⟩
 ·rw[ufp hj,ufp hj];exact⟨_,rfl⟩
inductive call_min2_i  (xs:List V) (H:Hp) (Q:VK):Prop
 | mk:∀ i j,(xs=[.int i,.int j])->(Q (.int (if j<i then j else i)) H)->call_min2_i xs H Q
theorem dW (hc:X.calm=true):CallR X (.builtin "min") (call_min2_i):=by
 intro pins s σ H xs us Q I r h
 obtain⟨i,j,rfl,q⟩:=h
 obtain⟨u,w',rfl,⟨t,rfl⟩,⟨t',rfl⟩⟩:=vals2 r
 refine min_two_ints (I.ok.hd hc) λ h' tk k=>⟨_,H,I.kept k,?_,q⟩
 by_cases hj:j<i
 ·rw[ufo hj,ufo hj];exact⟨_,rfl⟩
 ·rw[ufp hj,ufp hj];exact⟨_,rfl⟩
end
end L2
namespace L2
open PySem PySem.Spec PyProof.Rows
structure ObjM (h:Heap)(x dx C:j4)(mA:Str->Option c9):Prop where
 obj:h.get? x=some (uei C dx)
 ns:h.Ns1 dx mA
 ne:dx≠x
theorem vR {h:Heap}{dx:j4}{mA:Str->Option c9}(n:h.Ns1 dx mA):∃ od,h.get? dx=some od/\∀ name,uev name od=some (mA name):=by
 obtain⟨o,es,ep,ho,hd,hk,_,hm⟩:=n
 refine⟨o,ho,λ name=>?_⟩
 have e:=hm name
 unfold nsFind findBy at e
 rw[← Array.find?_toList] at e
 unfold uev
 rw[hd]
 dsimp only
 split
 ·rename_i y q
  rw[q] at e
  exact congrArg some e
 ·rename_i q
  rw[q] at e
  have a:es.toList.any (·.refKey)=false:=by
   rw[List.any_eq_false]
   intro y hy
   obtain⟨z,t,hkey⟩:=hk y (Array.mem_toList_iff.mp hy)
   simp [DictEntry.refKey,hkey]
  have a':¬ es.toList.any (·.refKey)=true:=by rw[a];exact i7
  rw[ufp a']
  exact congrArg some e
theorem ObjM.look {h:Heap}{x dx C:j4}{mA:Str->Option c9}(I:ObjM h x dx C mA):∃ od,PySem.W.InstAt h x (uei C dx) C (some od)/\∀ name,uev name od=some (mA name) :=
 let ⟨od,ho,hl⟩:=vR I.ns
 ⟨od,⟨I.obj,rfl,rfl,ho⟩,hl⟩
section
variable {prog:m3}{w:uac}{A:v6}{E:c9->d6->Prop}{s:d6}{K:a8}{x dx C f:j4}{mA:Str->Option c9}{name:Str}{v:c9}
end
section
variable {P:m3}{w:uac}{H H':Hp}{h h':Heap}{a C dx:j4}{fs fs':List (Str × V)}
theorem zZ (hok:HOk P w H h)(e:H a=some (.ins C dx fs)):∃ mA,ObjM h a dx C mA/\(∀ f,RelO (fs.lookup f) (mA f))/\PySem.Within mA (fs.map (·.1))/\fs.length<=1000/\H dx=some (.own a):=by
 obtain⟨d,z,ne,ob,mA,n,r,q⟩:=(show ObjOk P w H h a (.ins C dx fs) from hok a _ e)
 exact⟨mA,⟨ob,n,ne⟩,r,q,z,d⟩
end
structure Cls (K:a8)(C:j4):Prop where
 pg:PySem.W.plainGet K C Str.empty=true
 hd:PySem.W.hasDictIn K C=true
 po:PySem.W.plainOver K C=true
 sa:udn K (.ref C) "__setattr__"=some (some (.builtin "object.__setattr__"))
theorem Cls.get {K:a8}{C:j4}(c:Cls K C)(f:Str):PySem.W.plainGet K C f=true:=c.pg
structure Con (K:a8)(C:j4)(f:Str)(v:V)(u:c9):Prop where
 at_:udn K (.ref C) f=some (some u)
 rel:RelV v u
 get:PySem.W.specialIn K u "__get__"=some none
 cp:PySem.W.copiedNames.contains f=false
section
variable {X:Cx}{pins:List (j4 × Obj)}{σ:St}{H:Hp}{s:d6}{a C dx:j4}{fs:List (Str × V)}{f:Str}{v:V}{A:v6}{E:c9->d6->Prop}
end
section
variable {X:Cx}{o e value:ubl}{f:Str}{pos pos' tpos:Pos}{ta tv:TE}
end
section
variable {X:Cx}{pins:List (j4 × Obj)}{σ:St}{H:Hp}{s:d6}{A:v6}{E:c9->d6->Prop}{Q:c9->d6->Prop}{c:c9}{b:Bool}
inductive TyOf (K:a8)(H:Hp):V->c9->Prop where
 | non:TyOf K H .non (.type "NoneType")
 | bl (x:Bool):TyOf K H (.bl x) (.type "bool")
 | int (i:Int):TyOf K H (.int i) (.type "int")
 | str (x:Str):TyOf K H (.str x) (.type "str")
 | flt (x:UInt64):TyOf K H (.flt x) (.type "float")
 | lst {a:j4} {xs:List V} (e:H a=some (.lst xs)):TyOf K H (.ref a) (.type "list")
 | frz {a:j4} {o:Obj} {xs:List V} (e:H a=some (.frz o (.lst xs))):TyOf K H (.ref a) (.type "list")
 | tup {a:j4} {xs:List V} (e:H a=some (.tup xs)):TyOf K H (.ref a) (.type "tuple")
 | dK {a:j4} {kvs:List (Key × V)} (e:H a=some (.dK kvs)):TyOf K H (.ref a) (.type "dict")
 | dT {a:j4} {kvs:List (List Key × V)} (e:H a=some (.dT kvs)):TyOf K H (.ref a) (.type "dict")
 | ins {a C dx : j4} {fs : List (Str × V)} (e : H a = some (.ins C dx fs)) (cl : Cls K C) (ha : udn K (.ref C) "__class__" = some (some (.builtin "object.__class__")))
     (hn:PySem.W.specialIn K (.builtin "object.__class__") "__get__"=some (some (.builtin "getset_descriptor.__get__"))) (htk:PySem.W.takesIn K (.builtin "object.__class__")=some true)
     (hm:PySem.W.mroIn K C (.type "object")=some true):TyOf K H (.ref a) (.ref C)
theorem vW {x:V}{u t:c9}(I:Inv X pins σ H s)(rx:RelV x u)(ty:TyOf X.K H x t)(e:PySem.W.kitOne X.K t c=some b)(h:∀ tk,Q (.bool b) { s with toks:=tk }) :
  o8 (w8 X.prog X.w) A (call (.builtin "isinstance") [u,c]) Q E s:=by
 cases ty with
 | non=>cases (show u=Value.none from rx);exact ua4 PySem.W.kitx_none I.kIn True.intro e (λ z=>nomatch z) h
 | bl y=>cases (show u=Value.bool y from rx);exact ua4 PySem.W.kitx_bool I.kIn True.intro e (λ z=>nomatch z) h
 | int i=>obtain⟨t,q⟩:=(show ∃ t,u=Value.int i t from rx);cases q;exact ua4 PySem.W.kitx_int I.kIn True.intro e (λ z=>nomatch z) h
 | str y=>obtain⟨t,q⟩:=(show ∃ t,u=Value.str y t from rx);cases q;exact ua4 PySem.W.kitx_str I.kIn True.intro e (λ z=>nomatch z) h
 | flt y=>obtain⟨t,q⟩:=(show ∃ t,u=Value.float y t from rx);cases q;exact ua4 PySem.W.kitx_float I.kIn True.intro e (λ z=>nomatch z) h
 | @lst a xs ea =>
  cases (show u=Value.ref a from rx)
  obtain⟨_,_,n,_,h1⟩:=(show ObjOk X.prog X.w H s.heap a (.lst xs) from I.hok a _ ea)
  exact ua4 PySem.W.kitx_list I.kIn ⟨_,h1,rfl⟩ e (λ z=>nomatch z) h
 | @frz a ob xs ea =>
  cases (show u=Value.ref a from rx)
  obtain⟨_,_,_,n,_,h1⟩:=(show ObjOk X.prog X.w H s.heap a (.frz ob (.lst xs)) from I.hok a _ ea)
  exact ua4 PySem.W.kitx_list I.kIn ⟨_,h1,rfl⟩ e (λ z=>nomatch z) h
 | @tup a xs ea =>
  cases (show u=Value.ref a from rx)
  obtain⟨_,_,_,p⟩:=(show ObjOk X.prog X.w H s.heap a (.tup xs) from I.hok a _ ea)
  obtain⟨o,h1,h2,_⟩:=p
  exact ua4 PySem.W.kitx_tuple I.kIn ⟨o,h1,h2⟩ e (λ z=>nomatch z) h
 | @dK a kvs ea =>
  cases (show u=Value.ref a from rx)
  obtain⟨_,_,vs,_,p⟩:=(show ObjOk X.prog X.w H s.heap a (.dK kvs) from I.hok a _ ea)
  obtain⟨o,es,ep,h1,h2,_⟩:=p
  exact ua4 PySem.W.kitx_dict I.kIn ⟨o,h1,h2.1⟩ e (λ z=>nomatch z) h
 | @dT a kvs ea =>
  cases (show u=Value.ref a from rx)
  obtain⟨_,_,xs,_,o,es,ep,h1,h2,_⟩:=(show ObjOk X.prog X.w H s.heap a (.dT kvs) from I.hok a _ ea)
  exact ua4 PySem.W.kitx_dict I.kIn ⟨o,h1,h2.1⟩ e (λ z=>nomatch z) h
 | @ins a C dx fs ea cl ha hn htk hm =>
  cases (show u=Value.ref a from rx)
  obtain⟨mA,O,_⟩:=zZ I.hok ea
  obtain⟨od,J,_⟩:=O.look
  exact ua4 (PySem.W.kitx_own (cl.get _) cl.hd ha hn htk hm) I.kIn J e (λ z=>nomatch z) h
end
end L2
namespace L2
open PySem PySem.Spec PyProof.Rows
structure Room (k:Nat)(A:v6):Prop where
 hd:A.handled=none
 dp:A.depth+3*k+5<recursionLimit
 un:A.units+16*k+200<cLine
 gd:A.guards=some []
theorem Room.mono {j k:Nat}{A:v6}(r:Room k A)(h:j<=k):Room j A:=⟨r.hd,by have:=r.dp;left,by have:=r.un;left,r.gd⟩
theorem Room.deeper {k:Nat}{A:v6}(r:Room (k+1) A)(env:Env):Room k (A.deeper env) :=
 ⟨r.hd,by have:=r.dp;show A.depth+1+3*k+5<_;left,by have:=r.un;show A.units+3+16*k+200<_;left,r.gd⟩
theorem Room.in1 {k:Nat}{A:v6}(r:Room (k+1) A):Room k A.in1 :=
 ⟨r.hd,by have:=r.dp;show A.depth+3*k+5<_;left,by have:=r.un;show A.units+1+16*k+200<_;left,r.gd⟩
theorem Room.depth {k:Nat}{A:v6}(r:Room k A):A.depth<recursionLimit:=by have:=r.dp;left
theorem Room.units {k:Nat}{A:v6}(r:Room k A):A.units+64<cLine:=by have:=r.un;left
theorem Room.units0 {k:Nat}{A:v6}(r:Room k A):A.units<cLine:=by have:=r.un;left
def tNil:TA:=λ _ H Q=>Q [] H
def tCons (ta:TE)(tr:TA):TA:=λ σ H Q=>ta σ H λ x H1=>tr σ H1 λ xs H2=>Q (x::xs) H2
section
variable {X:Cx}{e:ubl}{es:List ubl}{te:TE}{t:TA}{pos:Pos}
theorem aB:PA X [] tNil:=λ _ _ _ _ H Q I h=>Calls.spliced_nil ⟨[],H,I,.nil,h⟩
theorem aA (ha:PE X e te)(hr:PA X es t)(hs:uah (e::es) X.env=(false,eval e X.env)::uah es X.env:=by rfl):PA X (e::es) (tCons te t):=by
 intro pos pins s σ H Q I h
 rw[hs]
 show o8 _ _ (spliced ((false,eval e X.env)::backTo pos (uah es X.env))) _ _ s
 refine Calls.spliced_cons (thn (ha pins s σ H _ I h) λ u s1 ⟨x,H1,I1,r1,q1⟩=>?_)
 exact thn (hr pos pins s1 σ H1 _ I1 q1) λ us s2 ⟨xs,H2,I2,r2,q2⟩=>⟨x::xs,H2,I2,.cons r1 r2,q2⟩
def tTup (t:TA):TE:=λ σ H Q=>t σ H λ xs H1=>xs.length<=o9/\∀ p,H1 p=none->Q (.ref p) (upd H1 p (.tup xs))
def tLst (t:TA):TE:=λ σ H Q=>t σ H λ xs H1=>xs.length<=o9/\∀ p,H1 p=none->Q (.ref p) (upd H1 p (.lst xs))
theorem oH {x1} (h:PA X es t):PE X (.Tuple es x1 pos) (tTup t):=by
 intro pins s σ H Q I hq
 refine wpAny_Tuple_spliced (thn (h pos pins s σ H _ I hq) λ us s1 ⟨xs,H1,I1,r,z,q⟩=>⟨by rw[← r.length];exact z,?_⟩)
 have hf:H1 s1.heap.objs.size=none:=I1.hok.fresh (d8 _)
 refine⟨.ref s1.heap.objs.size,upd H1 s1.heap.objs.size (.tup xs),I1.laid (t':=s1.toks) (λ b u e=>b7 _ e) (d8 _) ?_,rfl,q _ hf⟩
 exact⟨z,us,r,⟨_,j0 _ rfl,rfl,⟨_,rfl⟩,rfl⟩⟩
theorem dL (h:PA X es t):PE X (.List es pos) (tLst t):=by
 intro pins s σ H Q I hq
 refine wpAny_List_spliced (thn (h pos pins s σ H _ I hq) λ us s1 ⟨xs,H1,I1,r,z,q⟩=>⟨by rw[← r.length];exact z,?_⟩)
 have hf:H1 s1.heap.objs.size=none:=I1.hok.fresh (d8 _)
 refine⟨.ref s1.heap.objs.size,upd H1 s1.heap.objs.size (.lst xs),I1.laid (t':=s1.toks) (λ b u e=>b7 _ e) (d8 _) ?_,rfl,q _ hf⟩
 exact⟨z,us,0,r,j0 _ rfl⟩
end
abbrev Sp:=List V->Hp->VK->XK->Prop
abbrev CXT:=List Env->Hp->d6->XK->c9->d6->Prop
structure Env0 (P:m3)(w:uac)(K:a8)(mg:Str->Option c9)(base:Heap)(A:v6)(outer:List Env)(s:d6)(H:Hp):Prop where
 frames:A.frames=some outer
 mod:Mod K mg base
 bs:∀ b o,base.get? b=some o->s.heap.get? b=some o/\H b=none
 bsz:base.objs.size<=s.heap.objs.size
 funs:s.heap.FunFrames base outer
 frf:∀ b∈frs outer,H b=none
 hok:HOk P w H s.heap
 bare:AllBare s.gens
def CE (outer:List Env)(P:m3)(w:uac)(H:Hp)(s:d6)(Q:VK)(u:c9)(s':d6):Prop :=
 ∃ v H',s'.os=s.os/\AllBare s'.gens/\Un (frs outer) [] H H' s.heap s'.heap/\HOk P w H' s'.heap/\RelV v u/\Q v H'
def CR (CX:CXT)(outer:List Env)(P:m3)(w:uac)(H:Hp)(s:d6)(Q:VK)(E:XK)(r:Result)(s':d6):Prop :=
 match r with
 | .ok (.ret u)=>CE outer P w H s Q u s'
 | .ok _=>False
 | .error e=>CX outer H s E e s'
structure FnOk (P:m3)(w:uac)(K:a8)(mg:Str->Option c9)(base:Heap)(CX:CXT)(k:Nat)(f:j4)(fd:ubf)(ps:List Str)(sp:Sp):Prop where
 len:∀ vs H Q E,sp vs H Q E->vs.length=ps.length
 run:∀ (A:v6)(outer:List Env)(s:d6)(H:Hp)(args:Args)(us:List c9)(vs:List V)(Q:VK)(E:XK),Room k A->Env0 P w K mg base A outer s H->BindsTo s fd args (ps.zip us)->Vals vs us->sp vs H Q E ->
  codeAny (w8 P w) A (.call (.ref f) args) (CR CX outer P w H s Q E) s
theorem FnOk.mono {P:m3}{w:uac}{K:a8}{mg:Str->Option c9}{base:Heap}{CX:CXT}{j k:Nat}{f:j4}{fd:ubf}{ps:List Str}{sp:Sp}(F:FnOk P w K mg base CX j f fd ps sp)(h:j<=k) :
  FnOk P w K mg base CX k f fd ps sp:=⟨F.len,λ A outer s H args us vs Q E hr=>F.run A outer s H args us vs Q E (hr.mono h)⟩
theorem FnOk.imp {P:m3}{w:uac}{K:a8}{mg:Str->Option c9}{base:Heap}{CX:CXT}{k:Nat}{f:j4}{fd:ubf}{ps:List Str}{sp sp':Sp}(F:FnOk P w K mg base CX k f fd ps sp)
  (h:∀ vs H Q E,sp' vs H Q E->sp vs H Q E):FnOk P w K mg base CX k f fd ps sp' :=
 ⟨λ vs H Q E q=>F.len vs H Q E (h _ _ _ _ q),λ A outer s H args us vs Q E hr he hb hv hs=>F.run A outer s H args us vs Q E hr he hb hv (h _ _ _ _ hs)⟩
theorem Env0.in1 {P:m3}{w:uac}{K:a8}{mg:Str->Option c9}{base:Heap}{A:v6}{outer:List Env}{s:d6}{H:Hp}(e:Env0 P w K mg base A outer s H) :
  Env0 P w K mg base A.in1 outer s H:=⟨e.frames,e.mod,e.bs,e.bsz,e.funs,e.frf,e.hok,e.bare⟩
section
variable {X:Cx}{pins:List (j4 × Obj)}{σ:St}{H:Hp}{s s':d6}
theorem Inv.env0 (I:Inv X pins σ H s):Env0 X.prog X.w X.K X.mg X.base X.A X.stack s H :=
 ⟨I.ok.frames,I.ok.mod,I.bs,r8 I.ok.bsz I.sz,I.stack,I.stkFree,I.hok,I.bare⟩
theorem Inv.after {Q:VK}{u:c9}(I:Inv X pins σ H s)(h:CE X.stack X.prog X.w H s Q u s'):EP X pins σ Q u s':=by
 obtain⟨v,H',os,bare,un,hok,r,q⟩:=h
 obtain⟨hh,g,d,t,os'⟩:=s'
 obtain rfl:os'=s.os:=os
 exact⟨v,H',I.call (h':=hh) (g':=g) (d':=d) (t':=t) (ch:=[]) un hok bare (λ b z=>absurd z (by simp)),r,q⟩
end
def tCall (sp:Sp)(dvs:List V)(E:XK)(t:TA):TE:=λ σ H Q=>t σ H λ vs H1=>sp (vs++dvs) H1 Q E
def Binds (K:a8)(fd:ubf)(ps:List Str)(ds:List c9):Prop :=
 ∀ (s:d6)(us:List c9),K.In s.heap->(us++ds).length=ps.length->BindsTo s fd ⟨us,[]⟩ (ps.zip (us++ds))
theorem Binds.all {K:a8}{fd:ubf}{ps:List Str}(h:∀ us:List c9,us.length=ps.length->bindArgs fd ⟨us,[]⟩=pure (ps.zip us)):Binds K fd ps []:=λ s us _ hl=>by
 rw[ubb] at hl ⊢
 exact .of_eq (h us hl)
def Passes (CX:CXT)(X:Cx)(E:XK):Prop:=∀ (pins:List (j4 × Obj))(σ:St)(H:Hp)(s:d6)(e:c9)(s':d6),Inv X pins σ H s->CX X.stack H s E e s'->X.xe e s'
section
variable {X:Cx}{CX:CXT}{k:Nat}{f C:j4}{fd:ubf}{ps:List Str}{sp:Sp}{dvs:List V}{ds:List c9}{E:XK}{x m:Str}{p pos apos:Pos}{e o:ubl}{es:List ubl}{ta:TE}{t:TA}
theorem zau {pins:List (j4 × Obj)}{σ:St}{H:Hp}{s:d6}{Q:VK}{us:List c9}{vs:List V}(F:FnOk X.prog X.w X.K X.mg X.base CX k f fd ps sp)(hr:Room k X.A)(hb:Binds X.K fd ps ds)(hd:Vals dvs ds)(hx:Passes CX X E)
  (I:Inv X pins σ H s) (r:Vals vs us) (h:sp (vs++dvs) H Q E):o8 (w8 X.prog X.w) X.A (call (.ref f) us) (EP X pins σ Q) X.xe s:=by
 have r2:Vals (vs++dvs) (us++ds):=r.append hd
 have hl:(us++ds).length=ps.length:=by rw[← r2.length];exact F.len _ _ _ _ h
 refine wpAny_call (ucu (F.run X.A X.stack s H ⟨us,[]⟩ (us++ds) (vs++dvs) Q E hr I.env0 (hb s us I.kIn hl) r2 h) λ r s' hq=>?_)
 cases r with
 | error e=>exact hx pins σ H s e s' I hq
 | ok fl =>
  cases fl with
  | ret u=>exact I.after hq
  | next=>exact False.elim hq
  | brk=>exact False.elim hq
  | cont=>exact False.elim hq
theorem zK (F:FnOk X.prog X.w X.K X.mg X.base CX k f fd ps sp)(hr:Room k X.A)(hg:Gl X x)(hm:X.mg x=some (.ref f))(hk:ua3 X.K (.ref f)=true)(hb:Binds X.K fd ps ds)(hd:Vals dvs ds)(hx:Passes CX X E)
  (ha:PA X (e::es) t) (hdb:(x==("__debug__":Str))=false:=by decide) (he:uah (e::es) X.env=(false,eval e X.env)::uah es X.env:=by rfl) (hpl:(backTo pos (uah es X.env)).any (·.1)=false:=by rfl) :
  PE X (.Call (.Name x p) (e::es) [] pos) (tCall sp dvs E t):=by
 intro pins s σ H Q I h
 refine ub4 (nU I hg hm ?_ hdb)
 refine PySem.W.callWith_K (h₀:=X.base) I.ok.mod.kin hk (thn (ha pos pins s σ H _ I h) λ us s1 ⟨vs,H1,I1,r,q⟩=>⟨I1.kIn,?_⟩) he hpl
 exact zau F hr hb hd hx I1 r q
structure Mk (K:a8)(C f:j4):Prop where
 makes:PySem.W.makesIn K C=true
 init:udn K (.ref C) "__init__"=some (some (.ref f))
 fn:PySem.W.isFn K (.ref f)=true
 kp:ua3 K (.ref C)=true
end
section
variable {X:Cx}{CX:CXT}{k:Nat}{f C:j4}{fd:ubf}{ps ks:List Str}{sp:Sp}{E:XK}{x m:Str}{p pos apos kpos:Pos}{e o:ubl}{es:List ubl}{kws:List Keyword}{te ta:TE}{t tk:TA}{nm:Option Str}
variable {g:List c9->List c9->List c9}{gV:List V->List V->List V}
end
structure FnScope (N P:List Str)(sc:ucd):Prop where
 kind:sc.kind=.function
 co:sc.isCoroutine=false
 gen:sc.isGenerator=false
 nd:N.Nodup
 pre:N.take P.length=P
 par:∀ x∈P,sc.names.lookup x=some .local\/sc.names.lookup x=some .cell
 nofree:∀ y∈sc.names,y.2≠.free
theorem lR {kindOf:Str->Option NameKind}{x:Str}:∀ {binds:List (Str × c9)}{m:Str->Option c9},(∀ v,(x,v)∉binds)->bindL kindOf binds m x=m x
 | [],_,_=>rfl
 | (n,v)::r,m,h=>by
  unfold bindL
  rw[lR λ w hw=>h w (j7 _ hw)]
  split
  ·have:x≠n:=by rintro rfl;exact h v i3
   simp [this]
  ·rfl
theorem lU {kindOf:Str->Option NameKind}{x:Str}:∀ {binds:List (Str × c9)}{m:Str->Option c9},(∀ v,(x,v)∉binds)->bindC kindOf binds m x=m x
 | [],_,_=>rfl
 | (n,v)::r,m,h=>by
  unfold bindC
  rw[lU λ w hw=>h w (j7 _ hw)]
  split
  ·rfl
  ·have:x≠n:=by rintro rfl;exact h v i3
   simp [this]
theorem lS {kindOf:Str->Option NameKind}{x:Str}{v:c9}:∀ {P:List Str}{vs:List c9}{i:Nat}{m:Str->Option c9},P.Nodup->P[i]?=some x->vs[i]?=some v->kindOf x=some .local ->
  bindL kindOf (P.zip vs) m x=some v
 | [],_,_,_,_,h,_,_=>by simp at h
 | _::_,[],_,_,_,_,h,_=>by simp at h
 | p::P,w::vs,0,m,nd,h1,h2,hk=>by
  simp at h1 h2;subst h1;subst h2
  show bindL kindOf ((p,w)::P.zip vs) m p=_
  unfold bindL
  rw[lR λ v hv=>(ua5.mp nd).1 (ucw hv).1,ufo hk]
  simp
 | p::P,w::vs,i+1,m,nd,h1,h2,hk=>by
  show bindL kindOf ((p,w)::P.zip vs) m x=_
  unfold bindL
  exact lS (i:=i) (ua5.mp nd).2 (by simpa using h1) (by simpa using h2) hk
theorem lV {kindOf:Str->Option NameKind}{x:Str}{v:c9}:∀ {P:List Str}{vs:List c9}{i:Nat}{m:Str->Option c9},P.Nodup->P[i]?=some x->vs[i]?=some v->kindOf x≠some .local ->
  bindC kindOf (P.zip vs) m x=some v
 | [],_,_,_,_,h,_,_=>by simp at h
 | _::_,[],_,_,_,_,h,_=>by simp at h
 | p::P,w::vs,0,m,nd,h1,h2,hk=>by
  simp at h1 h2;subst h1;subst h2
  show bindC kindOf ((p,w)::P.zip vs) m p=_
  unfold bindC
  rw[lU λ v hv=>(ua5.mp nd).1 (ucw hv).1,ufp hk]
  simp
 | p::P,w::vs,i+1,m,nd,h1,h2,hk=>by
  show bindC kindOf ((p,w)::P.zip vs) m x=_
  unfold bindC
  exact lV (i:=i) (ua5.mp nd).2 (by simpa using h1) (by simpa using h2) hk
def start (N:List Str)(vs:List V):St:=vs.map some++k9 (N.length-vs.length) none
def cxOf (CX:CXT)(P:m3)(w:uac)(K:a8)(mg:Str->Option c9)(base:Heap)(N:List Str)(qual:Str)(scope:ucd)(f:j4)(cd:c9)(A:v6)(outer:List Env)(s:d6)(H:Hp)(E:XK):Cx where
 prog:=P
 w:=w
 K:=K
 mg:=mg
 base:=base
 A:=A.deeper (envOfC qual scope s.heap.objs.size f cd)
 N:=N
 s₀:=s
 H₀:=H
 env:=envOfC qual scope s.heap.objs.size f cd
 outer:=outer
 stack:=envOfC qual scope s.heap.objs.size f cd::outer
 ex:=[]
 calm:=true
 fn:=λ _=>true
 pn:=[]
 xe:=λ e s'=>o8 (w8 P w) (A.deeper (envOfC qual scope s.heap.objs.size f cd)) (leaving (envOfC qual scope s.heap.objs.size f cd) e) (λ _ s''=>CX outer H s E e s'') (λ e' s''=>CX outer H s E e' s'') s'
theorem nA {sc:ucd}{n:Nat}{x:Str}(h:sc.names.lookup x=some .cell):∃ c,(cellsFrom n sc.names []).lookup x=some c:=by
 have q:=udb sc.names n [] (.inl h)
 exact Option.isSome_iff_exists.mp q
theorem lK {CX:CXT}{P:m3}{w:uac}{K:a8}{mg:Str->Option c9}{base:Heap}{N ps:List Str}{qual:Str}{scope:ucd}{f:j4}{cd:c9}{A:v6}{outer:List Env}{s s1:d6}{H:Hp}{E:XK}{us:List c9}{vs:List V}
  (S:FnScope N ps scope) (hd:A.handled=none) (e0:Env0 P w K mg base A outer s H) (hl:vs.length=ps.length) (r:Vals vs us)
  (x:InCallC s s.heap.objs.size (bindL (envOfC qual scope s.heap.objs.size f cd).kindOf (ps.zip us) λ _=>none) (cellsFrom (s.heap.objs.size+1) scope.names []) (bindC (envOfC qual scope s.heap.objs.size f cd).kindOf (ps.zip us) λ _=>none) s1) :
  Inv (cxOf CX P w K mg base N qual scope f cd A outer s H E) [] (start N vs) H s1:=by
 have hpl:ps.length<=N.length:=by have:=congrArg List.length S.pre;rw[uco] at this;left
 obtain⟨h1,tk,rfl,hk⟩:=x.done
 have noA:∀ b:j4,b∉(cxOf CX P w K mg base N qual scope f cd A outer s H E).ex:=λ b z=>absurd (show b∈([]:List j4) from z) (by simp)
 refine⟨⟨e0.mod,S.kind,rfl,rfl,d8 _,λ y z c h1 h2=>?_,λ y hy=>?_,λ y c _ h=>?_,λ _=>hd,Around.frames_deeper e0.frames,.inr ⟨rfl,rfl⟩,λ b z=>absurd z (noA b),e0.bs,e0.bsz,λ b _ _=>noA b,λ b z=>absurd z (noA b),e0.funs,e0.frf⟩,
  rfl,e0.bare,Un.kept hk,⟨_,x.toInCall.ns,λ i y v h1 h2 h3=>?_⟩,λ y c h=>⟨_,x.cell y c h⟩,e0.hok.fresh (d8 _),λ y c h=>?_,λ p hp=>absurd (show p∈([]:List (j4 × Obj)) from hp) (by simp),e0.hok.kept hk,?_⟩
 ·exact name_of_addr x.apart (v8 h1) (v8 h2)
 ·have hy:scope.names.lookup y=some .cell\/scope.names.lookup y=some .free:=hy
  rcases hy with hy | hy
  ·exact nA hy
  ·exact absurd rfl (S.nofree _ (v8 hy))
 ·exact uc5 (x.above y c (v8 h))
 ·have hi:i<vs.length:=by
   unfold start at h2
   by_cases hi:i<vs.length
   ·exact hi
   ·rw[uaa (by simpa using hi)] at h2
    rw[ucf] at h2
    split at h2 <;> cases h2
  have ha:vs[i]?=some v:=by
   unfold start at h2
   rw[uai (by simpa using hi),j5] at h2
   cases e:vs[i]? with
   | none=>rw[e] at h2;cases h2
   | some a=>rw[e] at h2;cases h2;rfl
  obtain⟨u,hu,rv⟩:=r.get ha
  have hp:ps[i]?=some y:=by
   rw[← S.pre,List.getElem?_take_of_lt (by left)];exact h1
  have ndP:ps.Nodup:=by rw[← S.pre];exact S.nd.sublist (ueg _ _)
  refine⟨u,rv,?_⟩
  rcases S.par y (i6 hp) with k | k
  ·exact .inl ⟨k,lS ndP hp hu k⟩
  ·obtain⟨c,e⟩:=nA (n:=s.heap.objs.size+1) k
   refine .inr ⟨.inl k,c,e,?_⟩
   have q:=x.cell y c e
   rw[lV ndP hp hu (by show scope.names.lookup y≠_;rw[k];decide)] at q
   exact q
 ·exact e0.hok.fresh (uc5 (x.above y c (v8 h)))
 ·unfold start
  show _=N.length
  rw[g9,c7,v5]
  left
theorem oT {CX:CXT}{P:m3}{w:uac}{K:a8}{mg:Str->Option c9}{base:Heap}{k:Nat}{f:j4}{name qual:Str}{params:Arguments}{body:List ubm}{scope:ucd}{dV kV doc pm cdv ct oc:c9}{an od:Option j4}
  {osl:Array (Option c9)} {N ps:List Str} {sp:Sp} (lk:K.lookup f=some ⟨oc,od,.func (uau name qual params body scope dV kV doc pm an cdv ct),osl⟩) (hcd:ubq K cdv qual=true) (S:FnScope N ps scope)
  (len:∀ vs H Q E,sp vs H Q E->vs.length=ps.length)
  (hbody:∀ (A:v6)(outer:List Env)(s:d6)(H:Hp)(vs:List V)(Q:VK)(E:XK),Room k (A.deeper (envOfC qual scope s.heap.objs.size f cdv))->sp vs H Q E ->
   ∃ t,PSs (cxOf CX P w K mg base N qual scope f cdv A outer s H E) body t/\t { nx:=λ _ H'=>Q .non H',rt:=Q } (start N vs) H) :
  FnOk P w K mg base CX (k+1) f (uau name qual params body scope dV kV doc pm an cdv ct) ps sp:=by
 refine⟨len,λ A outer s H args us vs Q E hr e0 hb r hsp=>?_⟩
 have hl:=len _ _ _ _ hsp
 have KX:K.In s.heap:=e0.mod.kin.keeps λ b o e=>(e0.bs b o e).1
 have lim:s.heap.NoLimit:=e0.mod.nolimit.keeps λ b o e=>(e0.bs b o e).1
 have hkind:∀ y∈ps.zip us,scope.names.lookup y.1=some .local\/(scope.names.lookup y.1=some .cell/\((cellsFrom (s.heap.objs.size+1) scope.names []).lookup y.1).isSome=true):=λ ⟨n,v⟩ hy=>by
  rcases S.par n (ucw hy).1 with q | q
  ·exact .inl q
  ·exact .inr ⟨q,udb _ _ _ (.inl q)⟩
 refine codeAny_call_function hr.depth (KX _ _ lk) rfl S.co S.gen rfl (PySem.W.codeRec_of KX hcd) (hb _ _ _ _ ?_)
 refine wpAny_newFunctionEnv_cells S.kind hkind λ env he s1 x=>?_
 subst he
 refine⟨lim.keeps x.toInCall.keep,codeAny_func ?_⟩
 obtain⟨t,ht,hq⟩:=hbody A outer s H vs Q E (hr.deeper _) hsp
 have I:Inv (cxOf CX P w K mg base N qual scope f cdv A outer s H E) [] (start N vs) H s1:=lK S hr.hd e0 hl r x
 refine ua7 (ht [] s1 (start N vs) H _ I hq) (λ fl s' hs=>?_) λ e s' hs=>hs
 have fin:∀ {σ':St}{H':Hp}{v:V}{u:c9},Inv (cxOf CX P w K mg base N qual scope f cdv A outer s H E) [] σ' H' s'->RelV v u->Q v H'->CE outer P w H s Q u s' :=
  λ {σ' H' v u} J rv q=>⟨v,H',J.os,J.bare,J.base,J.hok,rv,q⟩
 cases fl with
 | ret u =>
  obtain⟨v,σ',H',J,rv,q⟩:=hs
  exact fin J rv q
 | next =>
  obtain⟨σ',H',J,q⟩:=hs
  exact fin (v:=V.non) (u:=Value.none) J rfl q
 | brk =>
  obtain⟨_,_,_,q⟩:=hs
  exact False.elim q
 | cont =>
  obtain⟨_,_,_,q⟩:=hs
  exact False.elim q
end L2
namespace L2
open PySem PySem.Spec PyProof.Rows
section
variable {X:Cx}{x:Str}{p pos:Pos}{e:ubl}{es:List ubl}{t:TA}{id T:String}{r:List V->Hp->VK->Prop}
def tCB (r:List V->Hp->VK->Prop)(t:TA):TE:=λ σ H Q=>t σ H λ vs H1=>r vs H1 Q
theorem aP (hc:CallR X (.builtin id) r)(hg:Gl X x)(hm:X.mg x=none)(hv:bootBuiltins x=some (.builtin id))(ha:PA X (e::es) t)(hn:x≠"__name__":=by decide)(hdb:(x==("__debug__":Str))=false:=by decide)
  (he:uah (e::es) X.env=(false,eval e X.env)::uah es X.env:=by rfl) (hpl:(backTo pos (uah es X.env)).any (·.1)=false:=by rfl):PE X (.Call (.Name x p) (e::es) [] pos) (tCB r t):=by
 intro pins s σ H Q I h
 refine ub4 (dN I hg hm hv ?_ hn hdb)
 exact PyProof.Rows.callWith_builtin1 (thn (ha pos pins s σ H _ I h) λ us s1 ⟨vs,H1,I1,r1,q1⟩=>hc pins s1 σ H1 vs us Q I1 r1 q1) he hpl
theorem bI (hc:CallR X (.type T) r)(hg:Gl X x)(hm:X.mg x=none)(hv:bootBuiltins x=some (.type T))(ha:PA X (e::es) t)(hn:x≠"__name__":=by decide)(hdb:(x==("__debug__":Str))=false:=by decide)
  (he:uah (e::es) X.env=(false,eval e X.env)::uah es X.env:=by rfl) (hpl:(backTo pos (uah es X.env)).any (·.1)=false:=by rfl):PE X (.Call (.Name x p) (e::es) [] pos) (tCB r t):=by
 intro pins s σ H Q I h
 refine ub4 (dN I hg hm hv ?_ hn hdb)
 exact ubr (thn (ha pos pins s σ H _ I h) λ us s1 ⟨vs,H1,I1,r1,q1⟩=>hc pins s1 σ H1 vs us Q I1 r1 q1) he hpl
end
end L2
namespace HT
open PySem PyProof.Rows
def lexLt:List Int->List Int->Bool
 | [],[]=>false
 | [],_::_=>true
 | _::_,[]=>false
 | x::xs,y::ys=>if x=y then lexLt xs ys else decide (x<y)
theorem uI (x y:Int)(xs ys:List Int):lexLt (x::xs) (y::ys)=if x=y then lexLt xs ys else decide (x<y):=rfl
theorem rD:lexLt [] []=false:=rfl
theorem qL (y:Int)(ys:List Int):lexLt [] (y::ys)=true:=rfl
theorem qM (x:Int)(xs:List Int):lexLt (x::xs) []=false:=rfl
theorem xU (A:v6)(s:d6)(a:Int)(t:Tok)(c:Int)(u:Tok):∃ e,SeqAt.EqAt A s (.int a t) (.int c u) e/\(e=true↔a=c) :=
 ⟨(a==c),SeqAt.EqAt.int_int a t c u,by simp⟩
theorem wZ (A:v6)(s:d6)(a:Int)(t:Tok)(c:Int)(u:Tok)(prog:m3)(w:uac)(E:c9->d6->Prop)(Q:c9->d6->Prop)(h:Q (.bool (decide (a<c))) s) :
  o8 (w8 prog w) A (richCompare .Lt (.int a t) (.int c u)) Q E s :=
 (PyProof.Rows.lt_int h:o8 (w8 prog w) A (compareOp .Lt (.int a t) (.int c u)) Q E s)
section
open PySem.SeqAt
open PySem.AutoSeq1 (wpAny_loadPart')
open PySem.MeetsSeq PySem.MeetsSeq2 PySem.MeetsSeq3
theorem qU (l b:j4)(items items2:Array c9)(n n2:Nat)(dd dd2:Option j4)(sl sl2:Array (Option c9))(ns ms:List Int)(hi:IntsAre items.toList ns)(hj:IntsAre items2.toList ms) :
  Meets (Builtin.«tuple.__lt__» ⟨[.ref l,.ref b],[]⟩)
   (λ _ R s=>s.heap.get? l=some { cls:=.type "tuple",dict:=dd,data:=.seq items n,slots:=sl }/\s.heap.get? b=some { cls:=.type "tuple",dict:=dd2,data:=.seq items2 n2,slots:=sl2 } /\
    R (.ok (.ret (.bool (lexLt ns ms)))) s) :=
 .of_wp λ prog w A R s h=>by
  obtain⟨hp,g,d,tk,os⟩:=s;obtain⟨hl,hb,h⟩:=h
  have f2:=AutoSeq1.sub_tuple_tuple
  have z1:items.size=ns.length:=by rw[← hi.length];simp
  have z2:items2.size=ms.length:=by rw[← hj.length];simp
  wp_walk using uc8 hl,uc8 hb,wpAny_forIn_list _ (λ rest b s'=>b.1=none/\s'=⟨hp,g,d,tk,os⟩/\∃ (vs ws:List c9)(ns' ms':List Int),rest=vs.zip ws /\
   IntsAre vs ns'/\IntsAre ws ms'/\ns'.length+items2.size=ms'.length+items.size/\R (.ok (.ret (.bool (lexLt ns' ms')))) ⟨hp,g,d,tk,os⟩) _
  case turn =>
   rintro ⟨y,x⟩ rest b s' ⟨hb',rfl,vs,ws,ns',ms',hz,hvi,hwi,hlen,hR⟩
   cases hvi with
   | nil=>rw[List.zip_nil_left] at hz;cases hz
   | cons a t hvi' =>
    cases hwi with
    | nil=>rw[List.zip_nil_right] at hz;cases hz
    | cons c u hwi' =>
     rw[uc3] at hz
     injection hz with hyx hrest
     injection hyx with hy hx
     subst hy hx
     rw[uI] at hR
     simp only [ube] at hlen
     obtain⟨e,he,hiff⟩:=xU A.in1 ⟨hp,g,d,tk,os⟩ a t c u
     refine a9 (he prog w _ _ ?_)
     cases e with
     | true =>
      rw[ufo (hiff.mp rfl)] at hR
      wp_walk
      exact⟨rfl,rfl,_,_,_,_,hrest,hvi',hwi',by left,hR⟩
     | false =>
      rw[ufp (λ q=>absurd (hiff.mpr q) i7)] at hR
      have hri:=wZ A.in1 ⟨hp,g,d,tk,os⟩ a t c u prog w
      wp_walk using hri
      exact⟨_,rfl,by simpa using hR⟩
  case fin =>
   rintro ⟨b1,b2⟩ s' ⟨hb',rfl,vs,ws,ns',ms',hz,hvi,hwi,hlen,hR⟩
   simp only at hb'
   subst hb'
   have hv:lexLt ns' ms'=decide (items.size<items2.size):=by
    cases hvi with
    | nil =>
     cases hwi with
     | nil =>
      simp only [uez] at hlen
      rw[rD]
      exact (ufm (by left)).symm
     | cons c u hw =>
      simp only [uez,ube] at hlen
      rw[qL]
      exact (ufk (by left)).symm
    | cons a t hv =>
     cases hwi with
     | nil =>
      simp only [uez,ube] at hlen
      rw[qM]
      exact (ufm (by left)).symm
     | cons c u hw =>
      rw[uc3] at hz
      cases hz
   rw[hv] at hR
   wp_walk
   exact⟨_,rfl,by simpa [Builtin.Tuple.tupleCompareSizes] using hR⟩
  case h =>
   exact⟨rfl,rfl,items.toList,items2.toList,ns,ms,rfl,hi,hj,by left,h⟩
end
section
variable {prog:m3}{w:uac}{A:v6}{E:c9->d6->Prop}{s:d6}
theorem uH {l b:j4}{items items2:Array c9}{ns ms:List Int}{Q:c9->d6->Prop}(hl:IsTup s.heap l items)(hb:IsTup s.heap b items2)(hi:IntsAre items.toList ns)(hj:IntsAre items2.toList ms)
  (hu:A.units<cLine) (h:Q (.bool (lexLt ns ms)) s):o8 (w8 prog w) A (compareOp .Lt (.ref l) (.ref b)) Q E s:=by
 obtain⟨⟨cls,dd,data,sl⟩,ho,hc,n,hd⟩:=id hl
 obtain⟨⟨cls2,dd2,data2,sl2⟩,ho2,hc2,n2,hd2⟩:=id hb
 simp only at hc hd hc2 hd2
 subst hc hd hc2 hd2
 exact richCompare_meets_room (op:=.Lt) ⟨_,ho,rfl⟩ ⟨_,ho2,rfl⟩ PySem.F.slot_tuple_lt PySem.F.entry_tuple_lt (PySem.F.args_tuple_lt_2 _ _) (qU l b items items2 n n2 dd dd2 sl sl2 ns ms hi hj)
  ⟨ho,ho2,show Value.bool (lexLt ns ms)≠Value.notImplemented/\Q (.bool (lexLt ns ms)) s from ⟨(λ x=>nomatch x),h⟩⟩ hu
theorem zah {t b:j4}{vs ws:List c9}{Q:c9->d6->Prop}(ht:IsTup s.heap t vs.toArray)(hb:IsTup s.heap b ws.toArray)(hv:vs≠[])
  (h1:ws=[]->Q (.ref t) s) (h2:ws≠[]->Q (.ref s.heap.objs.size) { s with heap:=s.heap.push { cls:=.type "tuple",data:=.seq (vs++ws).toArray } })
  (hsz:vs.length+ws.length<=o9):o8 (w8 prog w) A (binaryOp .Add (.ref t) (.ref b)) Q E s:=by
 obtain⟨⟨cls,dd,data,sl⟩,ho,hc,n,hd⟩:=id ht
 obtain⟨⟨cls2,dd2,data2,sl2⟩,ho2,hc2,n2,hd2⟩:=id hb
 simp only at hc hd hc2 hd2
 subst hc hd hc2 hd2
 have e:vs.toArray++ws.toArray=(vs++ws).toArray:=by simp
 by_cases hw:ws=[]
 ·exact ue7 ⟨_,ho,rfl⟩ ⟨_,ho2,rfl⟩ ufc seq_tuple_add udc uc9 (uc2 _ _)
   (tuple_addW1 t b vs.toArray ws.toArray n n2 dd dd2 sl sl2 (by simpa using hv) (by simp [hw])) ⟨ho,ho2,h1 hw⟩
 ·refine ue7 ⟨_,ho,rfl⟩ ⟨_,ho2,rfl⟩ ufc seq_tuple_add udc uc9 (uc2 _ _)
   (tuple_addW2 t b vs.toArray ws.toArray n n2 dd dd2 sl sl2 (by simpa using hv) (by simpa using hw) (by rw[h9,h9];exact hsz)) ⟨ho,ho2,?_⟩
  rw[e]
  exact h2 hw
def sIx (n d:Nat):Option Int->Nat
 | none=>d
 | some v=>if v<0 then (v+(n:Int)).toNat else min v.toNat n
theorem wY (n d:Nat):sIx n d none=d:=rfl
theorem zB (n d k:Nat):sIx n d (some (k:Int))=min k n:=by
 show (if (k:Int)<0 then ((k:Int)+(n:Int)).toNat else min (k:Int).toNat n)=min k n
 rw[ufp (by left),u4]
theorem zat (n d:Nat)(hd:d<=n)(o:Option Int):sIx n d o<=n:=by
 cases o with
 | none=>exact hd
 | some v =>
  show (if v<0 then (v+(n:Int)).toNat else min v.toNat n)<=n
  by_cases hv:v<0
  ·rw[ufo hv];left
  ·rw[ufp hv];exact ubx _ _
theorem oB (v:Int)(n d:Nat):(if v<0 then max (v+(n:Int)) 0 else min v (n:Int))=((sIx n d (some v):Nat):Int):=by
 show (if v<0 then max (v+(n:Int)) 0 else min v (n:Int))=(((if v<0 then (v+(n:Int)).toNat else min v.toNat n):Nat):Int)
 by_cases hv:v<0
 ·simp only [ufo hv];left
 ·simp only [ufp hv];left
theorem uY (lo hi:Option Int)(n:Nat):Builtin.Slice.sliceAdjust lo hi 1 (n:Int)=(((sIx n 0 lo:Nat):Int),((sIx n n hi:Nat):Int)):=by
 have h1:¬ ((1:Int)<0):=by left
 unfold Builtin.Slice.sliceAdjust
 simp only [h1,if_false]
 refine Prod.ext ?_ ?_
 ·cases lo with
  | none=>rfl
  | some v=>exact oB v n 0
 ·cases hi with
  | none=>rfl
  | some v=>exact oB v n n
theorem uD (i j:Nat):Builtin.Slice.slicePlaces (i:Int) (j:Int) 1=j-i:=by
 unfold Builtin.Slice.slicePlaces
 have h1:(1:Int)>0:=by left
 simp only [h1,if_true,Int.ediv_one]
 split <;> left
theorem kJ {v:c9}{o:Option Int}{Q:Option Int->d6->Prop}(p:IsPart v o)(h:Q o s):o8 (w8 prog w) A (Builtin.Slice.slicePartIndex v) Q E s:=by
 cases p with
 | none=>exact slicePart_none h
 | int i t=>exact slicePart_int h
theorem jX {sl:j4}{vl vu:c9}{lo hi:Option Int}{n:Nat}{Q:Int × Int × Nat->d6->Prop}(hs:s.heap.IsSliceOf sl vl vu .none)(pl:IsPart vl lo)(pu:IsPart vu hi)
  (h:Q (((sIx n 0 lo:Nat):Int),1,sIx n n hi-sIx n 0 lo) s):o8 (w8 prog w) A (Builtin.Slice.sliceApplied (.ref sl) (pure (n:Int))) Q E s:=by
 obtain⟨os,hos,hcs,hds⟩:=id hs
 unfold Builtin.Slice.sliceApplied Builtin.Slice.sliceFields
 refine a9 (a9 (uaq hos hds (x:=vl) rfl (a9 (uaq hos hds (x:=vu) rfl (a9 (uaq hos hds (x:=.none) rfl (i9 ?_)))))))
 refine a9 (slicePart_none ?_)
 show o8 _ _ (if ((1:Int)==0)=true then _ else _) _ _ s
 rw[ufp (by decide)]
 refine a9 (kJ pl (a9 (kJ pu (a9 (i9 ?_)))))
 show o8 _ _ (match Builtin.Slice.sliceAdjust lo hi 1 (n:Int) with | (lo,hi)=>pure (lo,(1:Int),Builtin.Slice.slicePlaces lo hi 1)) _ _ s
 rw[uY lo hi n]
 show o8 _ _ (pure (((sIx n 0 lo:Nat):Int),(1:Int),Builtin.Slice.slicePlaces ((sIx n 0 lo:Nat):Int) ((sIx n n hi:Nat):Int) 1)) _ _ s
 rw[uD]
 exact i9 h
theorem xC (xs:Array c9)(i k:Nat):((d7 k).filterMap λ (m:Nat)=>xs[((i:Int)+(m:Int)*1).toNat]?).toArray=((xs.toList.drop i).take k).toArray:=by
 have e:(λ (m:Nat)=>xs[((i:Int)+(m:Int)*1).toNat]?)=λ m=>xs[i+m]?:=by
  funext m
  have:((i:Int)+(m:Int)*1).toNat=i+m:=by left
  rw[this]
 rw[e]
 have:=pick_run xs i k
 rw[ud7] at this
 have e2:((λ x=>xs[x]?) ∘ λ x=>i+x)=λ m=>xs[i+m]?:=rfl
 rw[e2] at this
 rw[this]
theorem pD {t sl:j4}{items:Array c9}{vl vu:c9}{lo hi:Option Int}{Q:c9->d6->Prop}(ht:IsTup s.heap t items)(hs:s.heap.IsSliceOf sl vl vu .none)(pl:IsPart vl lo)(pu:IsPart vu hi)
  (hw:¬ (sIx items.size 0 lo=0/\sIx items.size items.size hi=items.size))
  (h:Q (.ref s.heap.objs.size) { s with heap:=s.heap.push { cls:=.type "tuple",data:=.seq ((items.toList.drop (sIx items.size 0 lo)).take (sIx items.size items.size hi-sIx items.size 0 lo)).toArray } })
  (hsz:items.size<=o9):o8 (w8 prog w) A (getItem (.ref t) (.ref sl)) Q E s:=by
 have htake:sizeOk (.seq ((items.toList.drop (sIx items.size 0 lo)).take (sIx items.size items.size hi-sIx items.size 0 lo)).toArray):=by
  show ((items.toList.drop (sIx items.size 0 lo)).take (sIx items.size items.size hi-sIx items.size 0 lo)).toArray.size<=o9
  rw[h9,uco,udi,ubp]
  left
 have hj:sIx items.size items.size hi<=items.size:=zat _ _ (d8 _) hi
 obtain⟨os,hos,hcs,hds⟩:=id hs
 have hTs:s.TypeIs (.ref sl) "slice":=⟨os,hos,hcs⟩
 unfold getItem
 try with_reducible refine uaw ?_
 first | refine a9 (i9 ?_) | skip
 refine a9 (wpAny_sequenceKey ht.typeIs (by decide) ?_)
 refine a9 (uax (name:=u5 "__getitem__") ht.typeIs uas
  (ua9 uas ht.typeIs entry_tuple_getitem ?_ (args_tuple_getitem _ _)))
 show o8 _ _ (Builtin.Tuple.tupleItemsOf (.ref t) >>= _) _ _ s
 refine a9 (tupleItemsOf_ ht ?_)
 refine a9 (ue6 hTs ?_)
 rw[ufo (by decide)]
 refine a9 (jX hs pl pu ?_)
 have hno:¬ ((((sIx items.size 0 lo:Nat):Int)==0&&(1:Int)==1&&(sIx items.size items.size hi-sIx items.size 0 lo)==items.size)=true):=by
  intro q
  rw[r9,r9] at q
  have q1:((sIx items.size 0 lo:Nat):Int)=0:=eq_of_beq q.1.1
  have q2:sIx items.size items.size hi-sIx items.size 0 lo=items.size:=eq_of_beq q.2
  exact hw ⟨by left,by left⟩
 show o8 _ _ (if (((sIx items.size 0 lo:Nat):Int)==0&&(1:Int)==1&&(sIx items.size items.size hi-sIx items.size 0 lo)==items.size)=true then _ else _) _ _ s
 rw[ufp hno,xC]
 first
  | exact a9 (m:=Builtin.Tuple.tupleExact _) (ubk (i9 ⟨_,rfl,i9 h⟩) htake)
  | exact a9 (m:=Builtin.Tuple.tupleExact _) (ubk (a9 (i9 (i9 ⟨_,rfl,i9 h⟩))) htake)
  | exact a9 (a9 (m:=Builtin.Tuple.tupleExact _) (ubk (i9 (i9 ⟨_,rfl,i9 h⟩)) htake))
  | exact a9 (a9 (m:=Builtin.Tuple.tupleExact _) (ubk (i9 ⟨_,rfl,i9 h⟩) htake))
end
end HT
namespace L2
open PySem PySem.Spec PyProof.Rows
abbrev TO:=St->Hp->(Option Int->Hp->Prop)->Prop
def PO (X:Cx)(e:Option ubl)(t:TO):Prop :=
 ∀ (pins:List (j4 × Obj))(s:d6)(σ:St)(H:Hp)(Q:Option Int->Hp->Prop),Inv X pins σ H s->t σ H Q ->
  o8 (w8 X.prog X.w) X.A (evalPart e X.env) (λ u s'=>∃ o H',Inv X pins σ H' s'/\IsPart u o/\Q o H') X.xe s
def tNoPart:TO:=λ _ H Q=>Q none H
def tPart (t:TE):TO:=λ σ H Q=>t σ H λ x H1=>EInt x λ i=>Q (some i) H1
theorem dE {ns:List Int}:∀ {us:List c9},Vals (ns.map V.int) us->IntsAre us ns:=by
 induction ns with
 | nil=>intro us r;rw[List.map_nil] at r;cases r;exact .nil
 | cons n ns ih =>
  intro us r
  rw[ubg] at r
  cases r with
  | cons r1 r2 =>
   obtain⟨t,e⟩:=r1
   subst e
   exact .cons n t (ih r2)
section
variable {X:Cx}{e:ubl}{te:TE}{lo hi:Option ubl}{tl th:TO}{pos p2:Pos}
theorem iV:PO X none tNoPart:=by
 intro pins s σ H Q I h
 rw[evalPart_none]
 exact i9 ⟨none,H,I,.none,h⟩
theorem iU (h:PE X e te):PO X (some e) (tPart te):=by
 intro pins s σ H Q I hw
 rw[evalPart_some]
 refine thn (h pins s σ H _ I hw) λ u s1 ⟨x,H1,I1,r1,q1⟩=>?_
 obtain⟨i,rfl,q⟩:=q1
 obtain⟨t,rfl⟩:=r1
 exact⟨some i,H1,I1,.int i t,q⟩
def SlR (X:Cx)(r:V->Option Int->Option Int->Hp->VK->Prop):Prop :=
 ∀ (pins:List (j4 × Obj))(s:d6)(σ:St)(H:Hp)(x:V)(v vl vu:c9)(lo hi:Option Int)(sl:j4)(Q:VK),Inv X pins σ H s->RelV x v->s.heap.IsSliceOf sl vl vu .none->IsPart vl lo->IsPart vu hi->r x lo hi H Q ->
  ∃ T id,typeLookup (.type T) "__getitem__"=pure (some (.builtin id))/\s.TypeIs v T/\o8 (w8 X.prog X.w) X.A (getItem v (.ref sl)) (EP X pins σ Q) X.xe s
def tSl (r:V->Option Int->Option Int->Hp->VK->Prop)(te:TE)(tl th:TO):TE:=λ σ H Q=>te σ H λ x H1=>tl σ H1 λ l H2=>th σ H2 λ u H3=>r x l u H3 Q
theorem iI {r:V->Option Int->Option Int->Hp->VK->Prop}(hr:SlR X r)(he:PE X e te)(hl:PO X lo tl)(hu:PO X hi th):PE X (.Subscript e (.Slice lo hi none p2) pos) (tSl r te tl th):=by
 intro pins s σ H Q I h
 refine Subscript_ (thn (he pins s σ H _ I h) λ v s1 ⟨x,H1,I1,r1,q1⟩=>?_)
 refine wpAny_Slice (thn (hl pins s1 σ H1 _ I1 q1) λ vl s2 ⟨l,H2,I2,pl,q2⟩=>thn (hu pins s2 σ H2 _ I2 q2) λ vu s3 ⟨u,H3,I3,pu,q3⟩=>?_)
 rw[evalPart_none]
 refine i9 ?_
 have I4:Inv X pins σ H3 { s3 with heap:=s3.heap.push { cls:=.type "slice",data:=.fields #[vl,vu,.none] } }:=I3.kept (t':=s3.toks) λ b ob q=>b7 _ q
 obtain⟨T,id,hT,ht,hg⟩:=hr pins { s3 with heap:=s3.heap.push { cls:=.type "slice",data:=.fields #[vl,vu,.none] } } σ H3 x v vl vu l u s3.heap.objs.size Q I4 r1 (Heap.IsSliceOf.new ..) pl pu q3
 show o8 (w8 X.prog X.w) X.A (subscriptTail e (.Slice lo hi none p2) v (.ref s3.heap.objs.size)) (EP X pins σ Q) X.xe { s3 with heap:=s3.heap.push { cls:=.type "slice",data:=.fields #[vl,vu,.none] } }
 exact tail_any (ops:=[.ref s3.heap.objs.size,v]) ht hT hg (by with_unfolding_all rfl)
def cutV (xs:List V)(lo hi:Option Int):List V:=(xs.drop (HT.sIx xs.length 0 lo)).take (HT.sIx xs.length xs.length hi-HT.sIx xs.length 0 lo)
theorem tN (xs:List V)(lo hi:Option Int):(cutV xs lo hi).length<=xs.length:=by
 unfold cutV
 rw[uco,udi]
 left
inductive rSlT_i (K:a8)(x:V)(lo:Option Int)(hi:Option Int)(H:Hp)(Q:VK):Prop
 | mk:∀ a xs,(x=.ref a)->(SqT K H a xs)->(¬ (HT.sIx xs.length 0 lo=0/\HT.sIx xs.length xs.length hi=xs.length))->(∀ p,H p=none->Q (.ref p) (upd H p (.tup (cutV xs lo hi))))->rSlT_i K x lo hi H Q
def rSlT (K:a8):V->Option Int->Option Int->Hp->VK->Prop:=λ x lo hi H Q=>rSlT_i K x lo hi H Q
theorem zar:SlR X (rSlT X.K):=by
 intro pins s σ H x v vl vu lo hi sl Q I rx hs pl pu h
 obtain⟨a,xs,rfl,hx,hw,q⟩:=h
 cases rx
 obtain⟨its,r,ht,hz⟩:=I.tuple hx
 have hlen:its.toArray.size=xs.length:=by rw[h9];exact r.length.symm
 refine⟨"tuple",_,uas.lookup,ht.typeIs,?_⟩
 refine HT.pD ht hs pl pu (by rw[hlen];exact hw) ?_ (by rw[hlen];exact hz)
 rw[hlen]
 refine⟨.ref s.heap.objs.size,_,I.laid (t':=s.toks) (o:=.tup (cutV xs lo hi)) (λ b ob q=>b7 _ q) (d8 _) ?_,rfl,q _ (I.hok.fresh (d8 _))⟩
 exact⟨r8 (tN xs lo hi) hz,_,(r.drop (HT.sIx xs.length 0 lo)).take (HT.sIx xs.length xs.length hi-HT.sIx xs.length 0 lo),TupN.new _ _⟩
inductive rLtT_i (K:a8)(x:V)(y:V)(H:Hp)(Q:VK):Prop
 | mk:∀ a b ns ms,(x=.ref a)->(y=.ref b)->(SqT K H a (ns.map V.int))->(SqT K H b (ms.map V.int))->(Q (.bl (HT.lexLt ns ms)) H)->rLtT_i K x y H Q
def rLtT (K:a8):R2:=λ x y H Q=>rLtT_i K x y H Q
theorem za6 (hu:X.A.units<cLine):OpR X (compareOp .Lt) (rLtT X.K):=by
 intro pins s σ H x y v u Q I rx ry h
 obtain⟨a,b,ns,ms,rfl,rfl,ha,hb,q⟩:=h
 cases rx
 cases ry
 obtain⟨its,r1,p1,_⟩:=I.tuple ha
 obtain⟨its2,r2,p2,_⟩:=I.tuple hb
 have i1:IntsAre its.toArray.toList ns:=dE r1
 have i2:IntsAre its2.toArray.toList ms:=dE r2
 exact HT.uH p1 p2 i1 i2 hu ⟨.bl (HT.lexLt ns ms),H,I,rfl,q⟩
inductive rCatT_i (K:a8)(x:V)(y:V)(H:Hp)(Q:VK):Prop
 | mk:∀ a b xs ys,(x=.ref a)->(y=.ref b)->(SqT K H a xs)->(SqT K H b ys)->(xs≠[])->(xs.length+ys.length<=o9)->((ys=[]->Q (.ref a) H))->((ys≠[]->∀ p,H p=none->Q (.ref p) (upd H p (.tup (xs++ys)))))->rCatT_i K x y H Q
def rCatT (K:a8):R2:=λ x y H Q=>rCatT_i K x y H Q
theorem Vals.nil_iff {xs:List V}{us:List c9}(r:Vals xs us):us=[]↔xs=[]:=by
 cases r with
 | nil=>simp
 | cons _ _=>simp
theorem zM:OpR X (binaryOp .Add) (rCatT X.K):=by
 intro pins s σ H x y v u Q I rx ry h
 obtain⟨a,b,xs,ys,rfl,rfl,ha,hb,hx,hz,q1,q2⟩:=h
 cases rx
 cases ry
 obtain⟨its,r1,p1,_⟩:=I.tuple ha
 obtain⟨its2,r2,p2,_⟩:=I.tuple hb
 refine HT.zah p1 p2 (λ z=>hx (r1.nil_iff.mp z)) (λ z=>⟨.ref a,H,I,rfl,q1 (r2.nil_iff.mp z)⟩) (λ z=>?_) (by rw[← r1.length,← r2.length];exact hz)
 refine⟨.ref s.heap.objs.size,_,I.laid (t':=s.toks) (o:=.tup (xs++ys)) (λ b ob q=>b7 _ q) (d8 _) ?_,rfl,q2 (λ w=>z (r2.nil_iff.mpr w)) _ (I.hok.fresh (d8 _))⟩
 exact⟨by rw[g9];exact hz,_,r1.append r2,TupN.new _ _⟩
end
end L2
namespace L2
open PySem PySem.Spec PyProof.Rows
def ixN (n:Nat)(i:Int):Option Nat:=if 0<=i then (if i<n then some i.toNat else none) else if -(n:Int)<=i then some (i+n).toNat else none
def atI {α:Type}(xs:List α)(i:Int):Option α:=(ixN xs.length i).bind λ j=>xs[j]?
theorem jA {n:Nat}{i:Int}{j:Nat}(h:ixN n i=some j):seqIndex? i n=some j/\j<n/\-(n:Int)<=i/\i<n:=by
 unfold ixN at h
 by_cases h0:0<=i
 ·rw[ufo h0] at h
  by_cases h1:i<n
  ·rw[ufo h1] at h
   have e:i.toNat=j:=u6 h
   exact⟨by rw[seqIndex_of h0 h1,e],by left,by left,h1⟩
  ·rw[ufp h1] at h;cases h
 ·rw[ufp h0] at h
  by_cases h1:-(n:Int)<=i
  ·rw[ufo h1] at h
   have e:(i+n).toNat=j:=u6 h
   exact⟨by rw[seqIndex_neg (by left) h1,e],by left,h1,by left⟩
  ·rw[ufp h1] at h;cases h
theorem oD {α:Type}{xs:List α}{i:Int}{v:α}(h:atI xs i=some v):∃ j,seqIndex? i xs.length=some j/\xs[j]?=some v/\j<xs.length/\-(xs.length:Int)<=i/\i<xs.length:=by
 unfold atI at h
 cases e:ixN xs.length i with
 | none=>rw[e] at h;cases h
 | some j =>
  rw[e] at h
  obtain⟨h1,h2,h3,h4⟩:=jA e
  exact⟨j,h1,h,h2,h3,h4⟩
theorem oC {α:Type}{xs:List α}{j:Nat}{v:α}(h:xs[j]?=some v):atI xs (j:Int)=some v:=by
 have hj:j<xs.length:=(i0.mp h).1
 have e:ixN xs.length (j:Int)=some j:=by
  unfold ixN
  rw[ufo (by left),ufo (by left)];simp
 unfold atI;rw[e];exact h
theorem nE {α:Type}(xs:List α)(v:α):atI (xs++[v]) (-1)=some v:=by
 have hl:(xs++[v]).length=xs.length+1:=by simp
 have e:ixN (xs++[v]).length (-1)=some xs.length:=by
  unfold ixN
  rw[hl,ufp (by decide),ufo (by left)]
  congr 1
  left
 unfold atI
 rw[e]
 show (xs++[v])[xs.length]?=some v
 simp
def PlainIx (b:ubl):Prop:=∀ o i,subscripted b false o i=operate [o,i] (getItem o i)
def IxR (X:Cx)(r:R2):Prop :=
 ∀ (value slice:ubl)(pins:List (j4 × Obj))(s:d6)(σ:St)(H:Hp)(x y:V)(v u:c9)(Q:VK),Inv X pins σ H s->RelV x v->RelV y u->r x y H Q ->
  subscripted slice false v u=operate [v,u] (getItem v u)->o8 (w8 X.prog X.w) X.A (subscriptTail value slice v u) (EP X pins σ Q) X.xe s
def MtR (X:Cx)(id:String)(r:V->List V->Hp->VK->Prop):Prop :=
 ∀ (pins:List (j4 × Obj))(s:d6)(σ:St)(H:Hp)(x:V)(xs:List V)(v:c9)(us:List c9)(Q:VK),Inv X pins σ H s->RelV x v->Vals xs us->r x xs H Q ->
  o8 (w8 X.prog X.w) X.A (call (.builtin id) (v::us)) (EP X pins σ Q) X.xe s
section
variable {X:Cx}{a b:ubl}{ta tb:TE}{pos:Pos}
theorem aG {r:R2}(hr:IxR X r)(ha:PE X a ta)(hb:PE X b tb)(hs:PlainIx b):PE X (.Subscript a b pos) (tOp r ta tb):=by
 intro pins s σ H Q I h
 exact Subscript_ (binT ha hb I h λ v u s2 x y H2 I2 rx ry q=>hr a b pins s2 σ H2 x y v u Q I2 rx ry q (hs _ _))
inductive rIxL_i (K:a8)(x:V)(y:V)(H:Hp)(Q:VK):Prop
 | mk:∀ p xs i v,(x=.ref p)->(y=.int i)->(SqL K H p xs)->(atI xs i=some v)->(Q v H)->rIxL_i K x y H Q
def rIxL (K:a8):R2:=λ x y H Q=>rIxL_i K x y H Q
inductive rIxT_i (K:a8)(x:V)(y:V)(H:Hp)(Q:VK):Prop
 | mk:∀ p xs i v,(x=.ref p)->(y=.int i)->(SqT K H p xs)->(atI xs i=some v)->(Q v H)->rIxT_i K x y H Q
def rIxT (K:a8):R2:=λ x y H Q=>rIxT_i K x y H Q
theorem aX:IxR X (rIxL X.K):=by
 intro value slice pins s σ H x y v u Q I rx ry h hs
 obtain⟨p,xs,i,z,rfl,rfl,hq,he,q⟩:=h
 cases rx
 obtain⟨t,rfl⟩:=ry
 obtain⟨its,r,pl,hz⟩:=I.list hq
 obtain⟨j,h1,h2,h3,h4,h5⟩:=oD he
 obtain⟨w,ew,rw'⟩:=r.get h2
 have hl:=r.length
 have hn:=line63
 have fin:EP X pins σ Q w s:=⟨z,H,I,rw',q⟩
 by_cases h0:0<=i
 ·have hj:i.toNat=j:=by
   rw[seqIndex_of h0 h5] at h1
   exact u6 h1
  exact item_listR pl.isList h0 (by left) (by rw[hj];simpa using ew) fin hs
 ·have hj:(i+(its.toArray.size:Int)).toNat=j:=by
   rw[seqIndex_neg (by left) h4] at h1
   rw[h9,← hl]
   exact u6 h1
  exact subscriptTail_builtinR (x:=w) pl.isList.typeIs slot_list_getitem.lookup
   (wpAny_getItem_list_neg (Q:=λ r s'=>r=w/\EP X pins σ Q r s') pl.isList (by left) (by rw[h9] <;> left) (by left) (by rw[hj];simpa using ew) ⟨rfl,fin⟩) hs
theorem aL:IxR X (rIxT X.K):=by
 intro value slice pins s σ H x y v u Q I rx ry h hs
 obtain⟨p,xs,i,z,rfl,rfl,hq,he,q⟩:=h
 cases rx
 obtain⟨t,rfl⟩:=ry
 obtain⟨its,r,pl,hz⟩:=I.tuple hq
 obtain⟨j,h1,h2,h3,h4,h5⟩:=oD he
 obtain⟨w,ew,rw'⟩:=r.get h2
 have hl:=r.length
 have hn:=line63
 have fin:EP X pins σ Q w s:=⟨z,H,I,rw',q⟩
 exact subscriptTail_builtinR (x:=w) pl.typeIs slot_tuple_getitem.lookup
  (getItem_tuple (j:=j) (Q:=λ r s'=>r=w/\EP X pins σ Q r s') pl (by left) (by left) (by rw[h9,← hl];exact h1) (by simpa using ew) ⟨rfl,fin⟩) hs
theorem uG (its:List c9)(n j:Nat)(u:c9):Obj.mapSeq (·.setIfInBounds j u) { cls:=.type "list",data:=.seq its.toArray n }={ cls:=.type "list",data:=.seq (its.set j u).toArray n }:=by
 simp [Obj.mapSeq]
theorem Inv.lst {pins:List (j4 × Obj)}{σ:St}{H:Hp}{s:d6}{p:j4}{xs:List V}(I:Inv X pins σ H s)(h:H p=some (.lst xs)) :
  ∃ (its:List c9)(n:Nat),Vals xs its/\s.heap.get? p=some { cls:=.type "list",data:=.seq its.toArray n }/\xs.length<=o9:=by
 obtain⟨z,its,n,r,e⟩:=I.hok p _ h
 exact⟨its,n,r,e,z⟩
theorem Inv.lstUpd {pins:List (j4 × Obj)}{σ:St}{H:Hp}{s:d6}{p:j4}{xs ys:List V}{its its':List c9}{n n':Nat}{f:Obj->Obj}(I:Inv X pins σ H s)(h:H p=some (.lst xs))
  (ho:s.heap.get? p=some { cls:=.type "list",data:=.seq its.toArray n }) (hf:f { cls:=.type "list",data:=.seq its.toArray n }={ cls:=.type "list",data:=.seq its'.toArray n' }) (r:Vals ys its') (hz:ys.length<=o9) (t:Nat) :
  Inv X pins σ (upd H p (.lst ys)) { s with heap:=s.heap.update p f,toks:=t }:=by
 have e:(s.heap.update p f).get? p=some { cls:=.type "list",data:=.seq its'.toArray n' }:=by
  rw[Heap.get?_update_self f ho (by rw[hf] <;> rfl),hf]
 refine I.write (x:=p) (e:=p) (by rw[h];trivial) (.inl rfl) (λ b u hb q=>(ua8 _ _ (Ne.symm hb)).trans q) ⟨_,e⟩ ?_
 exact⟨hz,its',n',r,e⟩
inductive rSetL_i  (o:V) (i:V) (v:V) (H:Hp) (Q:Hp->Prop):Prop
 | mk:∀ p xs k j,(o=.ref p)->(i=.int k)->(H p=some (.lst xs))->(ixN xs.length k=some j)->(Q (upd H p (.lst (xs.set j v))))->rSetL_i o i v H Q
def rSetL :V->V->V->Hp->(Hp->Prop)->Prop:=λ o i v H Q=>rSetL_i o i v H Q
theorem dG:PSet X rSetL:=by
 intro pins s σ H o i v ov iv u Q I ro ri rv h
 obtain⟨p,xs,k,j,rfl,rfl,hp,hj,q⟩:=h
 cases ro
 obtain⟨t,rfl⟩:=ri
 obtain⟨its,n,r,ho,hz⟩:=I.lst hp
 obtain⟨h1,h2,h3,h4⟩:=jA hj
 have hl:=r.length
 have hn:=line63
 have I':Inv X pins σ (upd H p (.lst (xs.set j v))) { s with heap:=s.heap.update p (Obj.mapSeq (·.setIfInBounds j u)) } :=
  I.lstUpd hp ho (uG its n j u) (r.set rv j) (by rw[ua6];exact hz) s.toks
 by_cases h0:0<=k
 ·have hk:k.toNat=j:=by
   rw[seqIndex_of h0 h4] at h1
   exact u6 h1
  exact PySem.W.ki_setAt ho h0 (by left) (by rw[h9,← hl];exact h4) (by rw[hk];exact⟨_,I',q⟩)
 ·have hk:(k+(its.toArray.size:Int)).toNat=j:=by
   rw[seqIndex_neg (by left) h3] at h1
   rw[h9,← hl]
   exact u6 h1
  exact PySem.W.ki_setBack ho (by left) (by rw[h9,← hl];exact h3) (by left) (by rw[hk];exact⟨_,I',q⟩)
def flatV:V->Bool
 | .non=>true
 | .bl _=>true
 | .int _=>true
 | .str _=>true
 | _=>false
def eqV:V->V->Bool
 | .non,.non=>true
 | .bl a,.bl b=>a==b
 | .bl a,.int b=>(if a then 1 else 0)==b
 | .int a,.bl b=>a==(if b then 1 else 0)
 | .int a,.int b=>a==b
 | .str a,.str b=>a==b
 | _,_=>false
theorem zbe {A:v6}{s:d6}{y x:V}{u v:c9}(ry:RelV y u)(rx:RelV x v)(fy:flatV y=true)(fx:flatV x=true):SeqAt.EqAt A s u v (eqV y x):=by
 cases y with
 | non =>
  cases ry
  cases x with
  | non=>cases rx;exact SeqAt.EqAt.same _
  | bl b=>cases rx;exact SeqAt.EqAt.none_bool b
  | int b=>obtain⟨t,rfl⟩:=rx;exact SeqAt.EqAt.none_int b t
  | str b=>obtain⟨t,rfl⟩:=rx;exact SeqAt.EqAt.none_str b t
  | _=>exact absurd (show false=true from fx) i7
 | bl a =>
  cases ry
  cases x with
  | non=>cases rx;exact SeqAt.EqAt.bool_none a
  | bl b=>cases rx;exact SeqAt.EqAt.bool_bool a b
  | int b=>obtain⟨t,rfl⟩:=rx;exact SeqAt.EqAt.bool_int a b t
  | str b=>obtain⟨t,rfl⟩:=rx;exact SeqAt.EqAt.bool_str a b t
  | _=>exact absurd (show false=true from fx) i7
 | int a =>
  obtain⟨t',rfl⟩:=ry
  cases x with
  | non=>cases rx;exact SeqAt.EqAt.int_none a t'
  | bl b=>cases rx;exact SeqAt.EqAt.int_bool a t' b
  | int b=>obtain⟨t,rfl⟩:=rx;exact SeqAt.EqAt.int_int a t' b t
  | str b=>obtain⟨t,rfl⟩:=rx;exact SeqAt.EqAt.int_str a t' b t
  | _=>exact absurd (show false=true from fx) i7
 | str a =>
  obtain⟨t',rfl⟩:=ry
  cases x with
  | non=>cases rx;exact SeqAt.EqAt.str_none a t'
  | bl b=>cases rx;exact SeqAt.EqAt.str_bool a t' b
  | int b=>obtain⟨t,rfl⟩:=rx;exact SeqAt.EqAt.str_int a t' b t
  | str b=>obtain⟨t,rfl⟩:=rx;exact SeqAt.EqAt.str_str a t' b t
  | _=>exact absurd (show false=true from fx) i7
 | _=>exact absurd (show false=true from fy) i7
def eqU (x:V)(u:c9):Bool:=match u with
 | .none=>eqV .non x
 | .bool b=>eqV (.bl b) x
 | .int i _=>eqV (.int i) x
 | .str z _=>eqV (.str z) x
 | _=>false
theorem oM {x y:V}{u:c9}(r:RelV y u)(f:flatV y=true):eqU x u=eqV y x:=by
 cases y with
 | non=>cases r;rfl
 | bl b=>cases r;rfl
 | int i=>obtain⟨t,rfl⟩:=r;rfl
 | str z=>obtain⟨t,rfl⟩:=r;rfl
 | _=>exact absurd (show false=true from f) i7
theorem jD {x:V}:∀ {xs:List V}{us:List c9},Vals xs us->xs.all flatV=true->us.any (eqU x)=xs.any λ y=>eqV y x
 | _,_,.nil,_=>rfl
 | y::xs,u::us,.cons r t,f=>by
  rw[List.all_cons,r9] at f
  rw[List.any_cons,List.any_cons,oM r f.1,jD t f.2]
theorem iJ {A:v6}{s:d6}{x:V}{v:c9}(rx:RelV x v)(fx:flatV x=true):∀ {xs:List V}{us:List c9},Vals xs us->xs.all flatV=true->∀ u∈us,SeqAt.EqAt A s u v (eqU x u)
 | _,_,.nil,_=>λ u hu=>by cases hu
 | y::xs,u::us,.cons r t,f=>λ u' hu=>by
  rw[List.all_cons,r9] at f
  rcases k8.mp hu with rfl | hu
  ·rw[oM r f.1];exact zbe r rx f.1 fx
  ·exact iJ rx fx t f.2 u' hu
def inV (x:V)(xs:List V):Bool:=xs.any λ y=>eqV y x
inductive rIn_i (K:a8)(neg:Bool)(x:V)(y:V)(H:Hp)(Q:VK):Prop
 | mk:∀ p xs,(y=.ref p)->((SqL K H p xs\/SqT K H p xs))->(flatV x=true)->(xs.all flatV=true)->(Q (.bl (if neg then !inV x xs else inV x xs)) H)->rIn_i K neg x y H Q
def rIn (K:a8)(neg:Bool):R2:=λ x y H Q=>rIn_i K neg x y H Q
theorem fL:OpR X (compareOp .NotIn) (rIn X.K true):=by
 intro pins s σ H x y v u Q I rx ry h
 obtain⟨p,xs,rfl,hq,fx,fs,q⟩:=h
 cases ry
 rcases hq with hq | hq
 ·obtain⟨its,r,pl,hz⟩:=I.list hq
  refine SeqAt.notIn_listAt (eqU x) pl.isList (λ w hw=>iJ rx fx r fs w (by simpa using hw)) ⟨.bl _,H,I,rfl,?_⟩
  rw[show its.toArray.any (eqU x)=its.any (eqU x) by simp,jD r fs]
  exact q
 ·obtain⟨its,r,pl,hz⟩:=I.tuple hq
  refine SeqAt.notIn_tupleAt (eqU x) pl (λ w hw=>iJ rx fx r fs w (by simpa using hw)) ⟨.bl _,H,I,rfl,?_⟩
  rw[show its.toArray.any (eqU x)=its.any (eqU x) by simp,jD r fs]
  exact q
inductive call_len_seq_i (K:a8)(xs:List V)(H:Hp)(Q:VK):Prop
 | mk:∀ p ys,(xs=[.ref p])->((SqL K H p ys\/SqT K H p ys))->(Q (.int ys.length) H)->call_len_seq_i K xs H Q
theorem bB:CallR X (.builtin "len") (call_len_seq_i X.K):=by
 intro pins s σ H xs us Q I r h
 obtain⟨p,ys,rfl,hq,q⟩:=h
 obtain⟨u,rfl,rx⟩:=vals1 r
 cases rx
 have hn:=line63
 rcases hq with hq | hq
 ·obtain⟨its,r',pl,hz⟩:=I.list hq
  have hlen:=r'.length
  exact Calls.call_len_list pl.isList (by simp only [h9] <;> left) ⟨.int ys.length,H,I.tok _,⟨s.toks+1,by rw[h9,hlen]⟩,q⟩
 ·obtain⟨its,r',pl,hz⟩:=I.tuple hq
  have hlen:=r'.length
  exact len_tuple pl (by simp only [h9] <;> left) ⟨.int ys.length,H,I.tok _,⟨s.toks+1,by rw[h9,hlen]⟩,q⟩
inductive call_tuple_of_i (K:a8)(xs:List V)(H:Hp)(Q:VK):Prop
 | mk:∀ p ys,(xs=[.ref p])->(((SqL K H p ys/\∀ l,H l=none->Q (.ref l) (upd H l (.tup ys)))\/(SqT K H p ys/\Q (.ref p) H)))->call_tuple_of_i K xs H Q
theorem kB:CallR X (.type "tuple") (call_tuple_of_i X.K):=by
 intro pins s σ H xs us Q I r h
 obtain⟨p,ys,rfl,h⟩:=h
 obtain⟨u,rfl,rx⟩:=vals1 r
 cases rx
 rcases h with ⟨hq,q⟩ | ⟨hq,q⟩
 ·obtain⟨its,r',pl,hz⟩:=I.list hq
  have hlen:=r'.length
  refine call_tuple_list pl.isList (λ h' kp=>?_) (by simp only [h9] <;> left)
  have I1:Inv X pins σ H { s with heap:=h' }:=I.kept (t':=s.toks) kp
  have I2:Inv X pins σ (upd H h'.objs.size (.tup ys)) { s with heap:=h'.push { cls:=.type "tuple",data:=.seq its.toArray } } :=
   I1.laid (t':=s.toks) (λ b o e=>b7 _ e) (d8 _) (show ObjOk X.prog X.w _ _ _ (.tup ys) from ⟨hz,its,r',TupN.new _ _⟩)
  exact⟨.ref h'.objs.size,_,I2,rfl,q _ (I1.hok.fresh (d8 _))⟩
 ·obtain⟨its,r',pl,hz⟩:=I.tuple hq
  exact call_tuple_same pl ⟨.ref p,H,I,rfl,q⟩
def tyV (K:a8)(T:String)(x:V)(H:Hp):Prop:=match x with
 | .str _=>T="str"
 | .int _=>T="int"
 | .ref p => (T = "list" /\ ∃ xs, SqL K H p xs) \/ (T = "tuple" /\ ∃ o, K.lookup p = some o /\ o.cls = .type "tuple" /\ o.dict = none) \/
     (T="dict"/\((∃ kvs,H p=some (.dK kvs))\/∃ kvs,H p=some (.dT kvs)))\/(T="set"/\∃ S n,H p=some (.set S n))
 | _=>False
theorem zan {pins:List (j4 × Obj)}{σ:St}{H:Hp}{s:d6}{T:String}{x:V}{v:c9}(I:Inv X pins σ H s)(r:RelV x v)(ty:tyV X.K T x H) :
  s.TypeIs v T/\∀ a,v=.ref a->∃ ob,s.heap.get? a=some ob/\ob.dict=none:=by
 cases x with
 | str z =>
  obtain⟨t,rfl⟩:=r
  cases (show T="str" from ty)
  exact⟨typeIs_str s z t,λ _ e=>nomatch e⟩
 | int i =>
  obtain⟨t,rfl⟩:=r
  cases (show T="int" from ty)
  exact⟨typeIs_int s i t,λ _ e=>nomatch e⟩
 | ref p =>
  cases r
  rcases ty with ⟨rfl,xs,hq⟩ | ⟨rfl,o,hk,hc,hd⟩ | ⟨rfl,hk⟩ | ⟨rfl,S,n,hk⟩
  ·obtain⟨its,_,pl,_⟩:=I.list hq
   refine⟨pl.isList.typeIs,λ a e=>?_⟩
   cases e
   obtain⟨o,n,e,c,hd,_⟩:=pl
   exact⟨o,e,hd⟩
  ·refine⟨⟨o,I.kIn p o hk,hc⟩,λ a e=>?_⟩
   cases e
   exact⟨o,I.kIn _ o hk,hd⟩
  ·have z:∃ o,s.heap.get? p=some o/\o.ExactDict:=by
    rcases hk with ⟨kvs,hk⟩ | ⟨kvs,hk⟩
    ·obtain⟨_,_,_,_,o,_,_,e,ex,_⟩:=I.hok p _ hk
     exact⟨o,e,ex⟩
    ·obtain⟨_,_,_,_,o,_,_,e,ex,_⟩:=I.hok p _ hk
     exact⟨o,e,ex⟩
   obtain⟨o,e,ex⟩:=z
   refine⟨⟨o,e,ex.1⟩,λ a e2=>?_⟩
   cases e2
   exact⟨o,e,ex.2.1⟩
  ·obtain⟨o,_,_,_,e,ex,_⟩:=I.hok p _ hk
   refine⟨⟨o,e,ex.1⟩,λ a e2=>?_⟩
   cases e2
   exact⟨o,e,ex.2.1⟩
 | _=>exact False.elim ty
def tBM (K:a8)(T:String)(r:V->List V->Hp->VK->Prop)(to:TE)(t:TA):TE:=λ σ H Q=>to σ H λ x H1=>tyV K T x H1/\t σ H1 λ xs H2=>r x xs H2 Q
variable {o e:ubl}{es:List ubl}{to:TE}{t:TA}{name:Str}{apos cpos:Pos}{T id:String}{r:V->List V->Hp->VK->Prop}
theorem cP (pa:PlainAttrs T)(slot:Slot T name id)(hty:typeOf (.builtin id)=pure (.type "method_descriptor"))(hm:MtR X id r)(ho:PE X o to)(ha:PA X (e::es) t)
  (hbase:attributeBase o name X.env (eval o X.env)=eval o X.env:=by rfl)
  (hfew:((backTo cpos (uah (e::es) X.env)).all (λ x=>!x.1)&&(backToKw cpos (keywordEach [] X.env)).all (λ x=>x.1.isSome)
  &&decide ((e::es).length+([]:List Keyword).length+(if ([]:List Keyword).isEmpty then 0 else 1)<30))=true:=by rfl)
  (hline:(apos.endLine==cpos.line)=true:=by rfl) (hs:uah (e::es) X.env=(false,eval e X.env)::uah es X.env:=by rfl) (hplain:(backTo cpos (uah es X.env)).any (·.1)=false:=by rfl) :
  PE X (.Call (.Attribute o name apos) (e::es) [] cpos) (tBM X.K T r to t):=by
 intro pins s σ H Q I h
 refine wpAny_Call_method_late hbase hfew hline rfl (thn (ho pins s σ H _ I h) λ v s1 ⟨x,H1,I1,r1,ty,q1⟩=>?_)
 obtain⟨h1,h2⟩:=zan I1 r1 ty
 refine⟨T,id,pa,slot,hty,h1,h2,?_⟩
 have hA:=ha cpos pins s1 σ H1 _ I1 q1
 rw[hs] at hA ⊢
 refine Calls.callWith_builtin (by show (false||(backTo cpos (uah es X.env)).any (·.1))=false;rw[hplain] <;> rfl) (Calls.evalArgs_plain ?_)
 exact thn hA λ us s2 ⟨vs,H2,I2,r2,q2⟩=>hm pins s2 σ H2 x vs v us Q I2 r1 r2 q2
end
end L2
namespace L2
open PySem PySem.Spec PyProof.Rows
def MtM (X:Cx)(id:String)(r:V->List V->Hp->VK->Prop):Prop :=
 ∀ (pins:List (j4 × Obj))(s:d6)(σ:St)(H:Hp)(x:V)(xs:List V)(v:c9)(us:List c9)(Q:VK),Inv X pins σ H s->RelV x v->Vals xs us->r x xs H Q ->
  o8 (w8 X.prog X.w) X.A (call (.builtin id) (v::us)) (EP X pins σ Q) X.xe s
theorem Vals.one:∀ {x:V}{us:List c9},Vals [x] us->∃ u,us=[u]/\RelV x u
 | _,_,.cons r .nil=>⟨_,rfl,r⟩
theorem Vals.two:∀ {x y:V}{us:List c9},Vals [x,y] us->∃ u v,us=[u,v]/\RelV x u/\RelV y v
 | _,_,_,.cons r (.cons q .nil)=>⟨_,_,rfl,r,q⟩
theorem Vals.eraseIdx:∀ {xs:List V}{us:List c9}(i:Nat),Vals xs us->Vals (xs.eraseIdx i) (us.eraseIdx i)
 | _,_,_,.nil=>.nil
 | _,_,0,.cons _ t=>t
 | _,_,i+1,.cons r t=>.cons r (Vals.eraseIdx i t)
theorem Vals.reverse {xs:List V}{us:List c9}(h:Vals xs us):Vals xs.reverse us.reverse:=by
 induction h with
 | nil=>exact .nil
 | cons r t ih=>rw[ub5,ub5];exact Vals.append ih (.cons r .nil)
theorem Vals.rep {xs:List V}{us:List c9}(h:Vals xs us):∀ k:Nat,Vals (k9 k xs).flatten (k9 k us).flatten
 | 0=>.nil
 | k+1=>by
  rw[ubs,ubs,ucl,ucl]
  exact Vals.append h (Vals.rep h k)
theorem lI {α:Type}:∀ (l:List α)(i:Nat),(l.eraseIdx i).length<=l.length
 | [],_=>d8 _
 | _::_,0=>uce _
 | _::r,i+1=>uew (lI r i)
theorem lN (its:List c9):∀ (k:Nat)(acc:List c9),
  List.foldl (λ x1 x2=>x1++x2) acc.toArray (k9 k its.toArray)=(acc++(k9 k its).flatten).toArray
 | 0,acc=>by simp
 | k+1,acc=>by
  have e:acc.toArray++its.toArray=(acc++its).toArray:=by simp
  have e2:(acc++its)++(k9 k its).flatten=acc++(k9 (k+1) its).flatten:=by
   rw[ubs,ucl,ub7]
  rw[← e2,← lN its k (acc++its),← e,ubs,List.foldl_cons]
section
variable {X:Cx}{pins:List (j4 × Obj)}{σ:St}{H:Hp}{s:d6}{l b:j4}{xs ys zs:List V}
theorem Inv.lset {its its':List c9}{n:Nat}{f:Array c9->Array c9}{t':Nat}(I:Inv X pins σ H s)(hH:H l=some (.lst xs))
  (e:s.heap.get? l=some { cls:=.type "list",data:=.seq its.toArray n }) (hf:f its.toArray=its'.toArray) (hv:Vals ys its') (hz:ys.length<=o9) :
  Inv X pins σ (upd H l (.lst ys)) { s with heap:=s.heap.update l (Obj.mapSeq f),toks:=t' }:=by
 have q:=PySem.IsL.update e f
 rw[hf] at q
 refine I.write (x:=l) (e:=l) (by rw[hH];exact trivial) (.inl rfl) (λ b' u hb hu=>(ua8 s.heap (Obj.mapSeq f) (Ne.symm hb)).trans hu) ⟨_,q⟩ ?_
 exact⟨hz,its',_,hv,q⟩
theorem Inv.lnew {its:List c9}{t':Nat}(I:Inv X pins σ H s)(hv:Vals ys its)(hz:ys.length<=o9) :
  Inv X pins σ (upd H s.heap.objs.size (.lst ys)) { s with heap:=s.heap.push { cls:=.type "list",data:=.seq its.toArray },toks:=t' } :=
 I.laid (λ _ _ q=>b7 _ q) (d8 _) ⟨hz,its,0,hv,j0 _ rfl⟩
theorem Inv.fresh (I:Inv X pins σ H s):H s.heap.objs.size=none:=I.hok.fresh (d8 _)
theorem Inv.lstM (I:Inv X pins σ H s)(hH:H l=some (.lst xs)):xs.length<=o9/\∃ (its:List c9)(n:Nat),Vals xs its/\xs.length=its.length/\s.heap.get? l=some { cls:=.type "list",data:=.seq its.toArray n }:=by
 obtain⟨z,its,n,r,e⟩:=I.hok l _ hH
 exact⟨z,its,n,r,r.length,e⟩
theorem notLongL {n:Nat}(h:n<=o9):Builtin.List.listTooLong n=false:=by
 unfold Builtin.List.listTooLong
 exact ufm (by left)
end
section
variable {X:Cx}
inductive rAppend_i  (x:V) (vs:List V) (H:Hp) (Q:VK):Prop
 | mk:∀ l xs y,(x=.ref l)->(vs=[y])->(H l=some (.lst xs))->(xs.length<o9)->(Q .non (upd H l (.lst (xs++[y]))))->rAppend_i x vs H Q
def rAppend :V->List V->Hp->VK->Prop:=λ x vs H Q=>rAppend_i x vs H Q
theorem fT:MtM X "list.append" rAppend:=by
 intro pins s σ H x vs v us Q I rx rv h
 obtain⟨l,xs,y,rfl,rfl,hH,hz,q⟩:=h
 cases rx
 obtain⟨u,rfl,ru⟩:=rv.one
 obtain⟨z,its,n,r,hl,e⟩:=I.lstM hH
 refine ue2 F.slot_list_append ⟨_,e,rfl⟩ F.entry_list_append (F.args_list_append_2 _ _) (PySem.list_append l its.toArray n u (by rw[h9];left)) ⟨e,?_⟩
 refine⟨.non,_,I.lset (its':=its++[u]) hH e (by simp) (r.append (.cons ru .nil)) ?_,rfl,q⟩
 rw[g9,uaf]
 left
inductive rExtend_i  (x:V) (vs:List V) (H:Hp) (Q:VK):Prop
 | mk:∀ l b xs zs,(x=.ref l)->(vs=[.ref b])->(H l=some (.lst xs))->(H b=some (.lst zs))->(xs.length+zs.length<=o9)->(Q .non (upd H l (.lst (xs++zs))))->rExtend_i x vs H Q
def rExtend :V->List V->Hp->VK->Prop:=λ x vs H Q=>rExtend_i x vs H Q
theorem vP:MtM X "list.extend" rExtend:=by
 intro pins s σ H x vs v us Q I rx rv h
 obtain⟨l,b,xs,zs,rfl,rfl,hH,hB,hz,q⟩:=h
 cases rx
 obtain⟨u,rfl,ru⟩:=rv.one
 cases ru
 obtain⟨z,its,n,r,hl,e⟩:=I.lstM hH
 obtain⟨z2,its2,n2,r2,hl2,e2⟩:=I.lstM hB
 have hsz:its.toArray.size+its2.toArray.size<=o9:=by rw[h9,h9];left
 have hlong:¬ (!its.toArray.isEmpty&&Builtin.List.listTooLong (its.toArray.size+its2.toArray.size))=true:=by
  rw[notLongL hsz,Bool.and_false]
  exact i7
 refine ue2 F.slot_list_extend ⟨_,e,rfl⟩ F.entry_list_extend (F.args_list_extend_2 _ _)
  (AutoSeq1.list_extend_list_list_0 l its.toArray n b its2.toArray n2 hlong (by rw[h9];left) (by left)) ⟨e,e2,?_⟩
 refine⟨.non,_,I.lset (its':=its++its2) hH e (by simp) (r.append r2) ?_,rfl,q⟩
 rw[g9]
 left
inductive rPopAt_i  (x:V) (vs:List V) (H:Hp) (Q:VK):Prop
 | mk:∀ l xs i k y,(x=.ref l)->(vs=[.int i])->(H l=some (.lst xs))->(-(2^63)<=i)->(i<2^63)->(seqIndex? i xs.length=some k)->(xs[k]?=some y)->(Q y (upd H l (.lst (xs.eraseIdx k))))->rPopAt_i x vs H Q
def rPopAt :V->List V->Hp->VK->Prop:=λ x vs H Q=>rPopAt_i x vs H Q
theorem xL:MtM X "list.pop" rPopAt:=by
 intro pins s σ H x vs v us Q I rx rv h
 obtain⟨l,xs,i,k,y,rfl,rfl,hH,h1,h2,hk,hy,q⟩:=h
 cases rx
 obtain⟨u,rfl,ru⟩:=rv.one
 obtain⟨t,rfl⟩:=ru
 obtain⟨z,its,n,r,hl,e⟩:=I.lstM hH
 obtain⟨w,hw,rw'⟩:=r.get hy
 refine ue2 F.slot_list_pop ⟨_,e,rfl⟩ F.entry_list_pop (F.args_list_pop_2 _ _)
  (MeetsSeq.list_pop_at l its.toArray n i t k w (fitsIndex_both h1 h2) (by rw[h9,← hl];exact hk) (by rw[← Array.getElem?_toList];exact hw) (by rw[h9];left)) ⟨e,?_⟩
 refine⟨y,_,I.lset (its':=its.eraseIdx k) hH e ?_ (r.eraseIdx k) ?_,rw',q⟩
 ·show its.toArray.eraseIdxIfInBounds k=(its.eraseIdx k).toArray
  rw[List.eraseIdxIfInBounds_toArray]
 ·have:=lI xs k
  left
inductive rRep_i  (x:V) (y:V) (H:Hp) (Q:VK):Prop
 | mk:∀ l k xs,(x=.ref l)->(y=.int k)->(H l=some (.lst xs))->(-(2^63)<=k)->(k<2^63)->(xs.length*k.toNat<=o9)->(∀ p,H p=none->Q (.ref p) (upd H p (.lst (k9 k.toNat xs).flatten)))->rRep_i x y H Q
def rRep :R2:=λ x y H Q=>rRep_i x y H Q
theorem zU {α:Type}(xs:List α)(k:Nat):(k9 k xs).flatten.length=k*xs.length:=by
 induction k with
 | zero=>simp
 | succ k ih=>rw[ubs,ucl,g9,ih,Nat.succ_mul,Nat.add_comm]
theorem za4:OpR X (binaryOp .Mult) rRep:=by
 intro pins s σ H x y v u Q I rx ry h
 obtain⟨l,k,xs,rfl,rfl,hH,h1,h2,hz,q⟩:=h
 cases rx
 obtain⟨t,rfl⟩:=ry
 obtain⟨z,its,n,r,hl,e⟩:=I.lstM hH
 have hlen:its.toArray.size*k.toNat<=o9:=by rw[h9,← hl];exact hz
 have hcap:¬ its.toArray.size*k.toNat>(2^63-1) / 8:=by
  have:(o9:Nat)<=(2^63-1) / 8:=by decide
  left
 have hfit:¬ (!Builtin.List.listFitsIndex k)=true:=by
  rw[fitsIndex_both h1 h2]
  exact i7
 have hlong:¬ Builtin.List.listTooLong (its.toArray.size*k.toNat)=true:=by
  rw[notLongL hlen]
  exact i7
 have hnew:List.foldl (λ x1 x2=>x1++x2) #[] (k9 (if its.toArray.isEmpty=true then 0 else k.toNat) its.toArray)=(k9 k.toNat its).flatten.toArray:=by
  have f0:∀ m:Nat,List.foldl (λ x1 x2=>x1++x2) #[] (k9 m its.toArray)=(k9 m its).flatten.toArray:=λ m=>by
   have:=lN its m []
   rw[uey] at this
   exact this
  rw[f0]
  cases its with
  | nil=>simp
  | cons a r'=>rw[ufp (by simp)]
 refine wpAny_binaryOp_repeat_ref (T:="list") (U:="int") (by decide) ⟨_,e,rfl⟩ (λ s'=>typeIs_int s' k t) noFill_list_mul F.fills_int_mul F.slot_int_rmul repeat_list F.slot_int_index.lookup
  (ue2 F.slot_int_rmul (typeIs_int s k t) F.entry_int_rmul (F.args_int_rmul_2 _ _) (int___rmul___int_list k t l its.toArray n)
   ⟨e,rfl,⟨_,e,rfl⟩,ue2 F.slot_list_mul ⟨_,e,rfl⟩ F.entry_list_mul (F.args_list_mul_2 _ _) (AutoListH.list___mul___list_int_3 l its.toArray n k t hfit hcap hlong) ⟨e,?_⟩⟩)
 rw[hnew]
 exact⟨.ref _,_,I.lnew (t':=s.toks) (r.rep k.toNat) (by rw[zU,Nat.mul_comm];exact hz),rfl,q _ I.fresh⟩
end
section
variable {prog:m3}{w:uac}{A:v6}{E:c9->d6->Prop}{s:d6}
end
section
variable {X:Cx}
end
end L2
namespace Att
open PySem PySem.W PySem.Calls PyProof.Rows
theorem pZ {P:Params}{h:Heap}:∀ (ns:List Int)(vs:List c9),WellAll P h vs (ns.map WData.int)->IntsAre vs ns:=by
 intro ns
 induction ns with
 | nil =>
  intro vs w
  rw[List.map_nil] at w
  cases w
  exact .nil
 | cons n ns ih =>
  intro vs w
  rw[ubg] at w
  cases w with
  | cons a b =>
   cases a
   exact .cons _ _ (ih _ b)
theorem vC {l:OpenLaw}{n:Nat}(hn:l.most=some n){P:Params}{h:Heap}{args:List WData}{vals:List c9}
  (hpre:l.row.toRowW.claim.pre args=true) (hwl:WellAll P h vals args) :
  ∃ a vs ns,vals=[Value.ref a]/\args=[WData.list (ns.map WData.int)]/\h.get? a=some { cls:=.type "list",data:=.seq vs.toArray }/\IntsAre vs ns/\ns.length<=n:=by
 have hsh:WShape.hasAll [] args [.list .int]=true:=(pre_splitW hpre).1
 have hc:l.pre.holds [] { args:=args }=true:=(pre_splitW hpre).2
 obtain⟨d,r,rfl,h1,h2⟩:=hasAllW_cons hsh
 obtain rfl:=hasAllW_nil h2
 obtain⟨xs,rfl,h3⟩:=hasW_list h1
 obtain⟨ns,rfl⟩:=items_int h3
 have hlen:ns.length<=n:=by
  unfold OpenLaw.pre at hc
  have h4:(WTm.not (.lt (.lit (.int (n:Int))) (.len (.arg 0)))).holds [] { args:=[.list (ns.map .int)] }=true:=by
   have h4:=(holds_andW hc).1
   rw[hn] at h4
   exact h4
  have h5:=condW_of h4 (w_not (w_lt w_lit (w_len_list (w_arg rfl))))
  rw[c7] at h5
  refine Nat.le_of_not_lt λ q=>?_
  have q':(n:Int)<((ns.length:Nat):Int):=by left
  first
   | (rw[ufk q'] at h5;exact absurd h5 (by decide))
   | (simp at h5;left)
 cases hwl with
 | cons w1 w2 =>
  cases w2
  cases w1 with
  | list ho hall=>exact⟨_,_,ns,rfl,rfl,ho,pZ ns _ hall,hlen⟩
theorem vH (l:OpenLaw)(args:List WData):l.row.toRowW.claim.post args (.bool true) args=true :=
 postW_of (r:=l.row.toRowW) (X:=(true==true))
  (show WShape.has [] (.bool true) .bool=true by first | rfl | decide | simp [WShape.has,WShape.arms,WShape.armsAll])
  (show (WTm.eq .res (.lit (.bool true))).value [] { args:=args,res:=some (.bool true),after:=args }=some (.bool (true==true)) from w_eq_bool (w_res rfl) w_lit) rfl
theorem attach_call {l:OpenLaw}{n:Nat}{q:m3}{loose:List Str}{XP:(Str->Option c9)->Heap->Prop}{YP:uac->Heap->Prop}{d:DefRec}
  (hn:l.most=some n) (hdf:d.params.defaults=[])
  (call:∀ (w:uac)(s₀ s₁:d6)(mg mb:Str->Option c9)(fa:j4)(o:Obj)(pm cd doc:c9)(a:j4)(vs:List c9)(ns:List Int),
   Ground q loose [] XP w s₀ mg mb s₁.heap->YP w s₁.heap ->
   s₁.heap.get? fa=some o->o.data=.func (docDef d.name d.params d.body d.scope pm cd doc)->s₁.heap.CodeRec cd d.name->mg d.name=some (.ref fa) ->
   s₁.heap.get? a=some { cls:=.type "list",data:=.seq vs.toArray }->IntsAre vs ns->ns.length<=n->s₁.gens=#[] ->
   codeAny (w8 l.prog w) callerA (.call (.ref fa) ⟨[.ref a],[]⟩) (λ r s'=>r=.ok (.ret (.bool true))/\OldK s₁.heap s'.heap/\s'.os=s₁.os/\AllBare s'.gens) s₁) :
  WalkO q loose XP YP l.row.toRowW d [] (λ f vs=>PySem.call f vs):=by
 intro w s₀ s₁ mg mb G Y fa o pm cd doc dV kV ho hd hcd hD hmg hg args vals as hpre hlay hrd hwl hlo
 obtain rfl:dV=.none:=Dflts.none hD hdf
 obtain rfl:kV=.none:=Dflts.noKw hD
 obtain⟨a,vs,ns,rfl,rfl,hobj,hints,hlen⟩:=vC hn hpre hwl
 refine enter_call (ucu (call w s₀ s₁ mg mb fa o pm cd doc a vs ns G Y ho (fd_plain hd) hcd hmg hobj hints hlen hg) λ r s' hq=>?_)
 obtain⟨rfl,h2,h3,h4⟩:=hq
 exact⟨.inl ⟨.bool true,.bool true,[],rfl,λ _=>rfl,.bool true,vH l _,λ _=>⟨ucb,λ _ hm=>(nomatch hm)⟩⟩,h2,h3,h4⟩
section
variable {prog:m3}{w:uac}{A:v6}{E:c9->d6->Prop}{s:d6}{K:Frag}
end
end Att
namespace L2
open PySem PySem.Spec PyProof.Rows
theorem kU:∀ {vs:List c9}{ns:List Int},IntsAre vs ns->Vals (ns.map V.int) vs
 | _,_,.nil=>.nil
 | _,_,.cons n t h=>.cons ⟨t,rfl⟩ (kU h)
end L2
namespace L2
open PySem PySem.Spec PyProof.Rows
end L2
namespace L2
open PySem PySem.Spec PyProof.Rows
def defArgs (s:ubm):Arguments:=match s with
 | .FunctionDef _ a _ _ _ _ _ _ _ _=>a
 | _=>{ posonlyargs:=[],args:=[],vararg:=none,kwonlyargs:=[],kw_defaults:=[],kwarg:=none,defaults:=[] }
def defBody (s:ubm):List ubm:=match s with
 | .FunctionDef _ _ b _ _ _ _ _ _ _=>b
 | _=>[]
def defScope (s:ubm):ucd:=match s with
 | .FunctionDef _ _ _ _ _ _ sc _ _ _=>sc
 | _=>{ kind:=.function,names:=[],isGenerator:=false,isCoroutine:=false }
abbrev CX0:CXT:=λ _ _ _ _ _ _=>False
abbrev E0:XK:=λ _ _ _=>False
theorem pass0 {X:Cx}:Passes CX0 X E0:=λ _ _ _ _ _ _ _ h=>h.elim
structure Fun (K:a8)(x qual:Str)(st:ubm)(f:j4)(fd:ubf):Prop where
 ex:∃ (oc:c9)(od:Option j4)(kV doc pm:c9)(an:Option j4)(cdv ct:c9)(osl:Array (Option c9)),
  fd=uau x qual (defArgs st) (defBody st) (defScope st) .none kV doc pm an cdv ct/\K.lookup f=some ⟨oc,od,.func fd,osl⟩/\ubq K cdv qual=true
 kp:ua3 K (.ref f)=true
section
variable {P:m3}{w:uac}{K:a8}{mg:Str->Option c9}{base:Heap}
theorem Fun.ok {x qual:Str}{st:ubm}{f:j4}{fd:ubf}{N ps:List Str}{k:Nat}{sp:Sp}(F:Fun K x qual st f fd)(S:FnScope N ps (defScope st))(len:∀ vs H Q E,sp vs H Q E->vs.length=ps.length)
  (hbody:∀ (cdv:c9)(A:v6)(outer:List Env)(s:d6)(H:Hp)(vs:List V)(Q:VK)(E:XK),Room k (A.deeper (envOfC qual (defScope st) s.heap.objs.size f cdv))->sp vs H Q E ->
   ∃ t,PSs (cxOf CX0 P w K mg base N qual (defScope st) f cdv A outer s H E).nox (defBody st) t/\t { nx:=λ _ H'=>Q .non H',rt:=Q } (start N vs) H):FnOk P w K mg base CX0 (k+1) f fd ps sp:=by
 obtain⟨oc,od,kV,doc,pm,an,cdv,ct,osl,rfl,lk,hcd⟩:=F.ex
 refine oT lk hcd S len λ A outer s H vs Q E hr hsp=>?_
 obtain⟨t,h,q⟩:=hbody cdv A outer s H vs Q E hr hsp
 exact⟨t,h.nox,q⟩
theorem Fun.binds {x qual:Str}{st:ubm}{f:j4}{fd:ubf}{ps:List Str}(F:Fun K x qual st f fd)
  (h:∀ (kV doc pm:c9)(an:Option j4)(cdv ct:c9)(us:List c9),us.length=ps.length->bindArgs (uau x qual (defArgs st) (defBody st) (defScope st) .none kV doc pm an cdv ct) ⟨us,[]⟩=pure (ps.zip us)):Binds K fd ps []:=by
 obtain⟨oc,od,kV,doc,pm,an,cdv,ct,osl,rfl,lk,hcd⟩:=F.ex
 exact .all (h kV doc pm an cdv ct)
theorem jK {x qual:Str}{st:ubm}{f:j4}{oc:c9}{od an:Option j4}{osl:Array (Option c9)}{kV doc pm cdv ct:c9}(l:K.lookup f=some ⟨oc,od,.func (uau x qual (defArgs st) (defBody st) (defScope st) .none kV doc pm an cdv ct),osl⟩)
  (c:ubq K cdv qual=true) (k:ua3 K (.ref f)=true):Fun K x qual st f (uau x qual (defArgs st) (defBody st) (defScope st) .none kV doc pm an cdv ct):=⟨⟨oc,od,kV,doc,pm,an,cdv,ct,osl,rfl,l,c⟩,k⟩
end
section
variable {X:Cx}
theorem pv (i:Nat){x:Str}{pos:Pos}(hN:X.N[i]?=some x:=by rfl)(hv:Vis X.env.scope x:=by first | exact j8 rfl | exact ue9 (j8 rfl) | exact ue9 (ue9 rfl))(hd:(x==("__debug__":Str))=false:=by decide)
  (hcd:(x==("__classdict__":Str))=false:=by decide):PE X (.Name x pos) (tVar i):=oG hN hv hd hcd
end
theorem iteF {A B:Prop}(h:B):if false=true then A else B:=by
 rw[ufp i7]
 exact h
theorem iteT {A B:Prop}(h:A):if true=true then A else B:=by
 rw[ufo rfl]
 exact h
theorem ite2 {c A B:Prop}[Decidable c](h1:c->A)(h2:¬ c->B):if c then A else B:=by
 by_cases h:c
 ·rw[ufo h]
  exact h1 h
 ·rw[ufp h]
  exact h2 h
theorem iteNS {c A B:Prop}[Decidable c](hc:c)(h:B):if (!decide c)=true then A else B:=by
 rw[ufk hc]
 exact iteF h
def Same (H H':Hp):Prop:=∀ b o,H b=some o->H' b=some o
theorem Same.refl (H:Hp):Same H H:=λ _ _ h=>h
theorem Same.trans {H H1 H2:Hp}(a:Same H H1)(b:Same H1 H2):Same H H2:=λ c o h=>b c o (a c o h)
theorem Same.free {H H':Hp}(e:Same H H'){l:j4}(h:H' l=Option.none):H l=Option.none:=by
 cases q:H l with
 | none=>rfl
 | some o =>
  rw[e l o q] at h
  cases h
end L2
namespace L2
open PySem PySem.Spec PyProof.Rows
section
variable {κ:Type}[DecidableEq κ]
def valV (kvs:List (κ × V))(k:κ):Option V:=(kvs.find? λ kv=>decide (kv.1=k)).map (·.2)
def putK (kvs:List (κ × V))(k:κ)(v:V):List (κ × V) :=
 if (kvs.any λ kv=>decide (kv.1=k))=true then kvs.map (λ kv=>if kv.1=k then (kv.1,v) else kv) else kvs++[(k,v)]
def dropK (kvs:List (κ × V))(k:κ):List (κ × V):=kvs.filter λ kv=>decide (kv.1≠k)
theorem RelO.getD {o:Option V}{u:Option c9}{d:V}{d':c9}(r:RelO o u)(rd:RelV d d'):RelV (o.getD d) (u.getD d'):=by
 cases o with
 | none=>cases u with
  | none=>exact rd
  | some _=>exact (show False from r).elim
 | some _=>cases u with
  | none=>exact (show False from r).elim
  | some _=>exact r
theorem KV.length {kvs:List (κ × V)}{vs:List (κ × c9)}(r:KV kvs vs):kvs.length=vs.length:=Paired.length r
end
abbrev KT (H:Hp):List (List Key × V)->List (List Key × j4 × c9)->Prop:=Paired λ p q=>p.1=q.1/\H q.2.1=some (.tup (p.1.map kV))/\RelV p.2 q.2.2
section
variable {P:m3}{w:uac}{H:Hp}{h:Heap}{a:j4}
end
def DGet (H:Hp)(a:j4)(y:V)(r:Option V):Prop :=
 (∃ kvs k,Rd H a (.dK kvs)/\y=kV k/\r=valV kvs k)\/∃ kvs k b,Rd H a (.dT kvs)/\y=.ref b/\H b=some (.tup (k.map kV))/\r=valV kvs k
def DPut (H:Hp)(a:j4)(y v:V)(H':Hp):Prop :=
 (∃ kvs k,H a=some (.dK kvs)/\y=kV k/\kvs.length<o9/\H'=upd H a (.dK (putK kvs k v))) \/
 ∃ kvs k b,H a=some (.dT kvs)/\y=.ref b/\H b=some (.tup (k.map kV))/\kvs.length<o9/\H'=upd H a (.dT (putK kvs k v))
section
variable {X:Cx}{pins:List (j4 × Obj)}{σ:St}{H:Hp}{s:d6}{a:j4}{y v:V}{u r:c9}{o:Option V}{A:v6}{E:c9->d6->Prop}
end
section
variable {X:Cx}{pins:List (j4 × Obj)}{σ:St}{H:Hp}{s:d6}{a:j4}{kvs:List (Key × V)}{k:Key}{u:c9}{A:v6}{E:c9->d6->Prop}
end
section
variable {X:Cx}{o i e value:ubl}{pos pos' tpos:Pos}{td ty tv:TE}
end
section
variable {X:Cx}{pos:Pos}
end
end L2
set_option maxHeartbeats 4000000
namespace Srt
open PySem PySem.W PyProof.Rows
section
variable {N:Nat}{r:Nat->Int}{cmp:Nat->Nat->(Bool->d6->Prop)->d6->Prop}{s:d6}
def ky (r:Nat->Int)(p:Array Nat)(m:Nat):Int:=r (p.getD m 0)
def Up (r:Nat->Int)(p:Array Nat)(n:Nat):Prop:=∀ i j,i<=j->j<n->ky r p i<=ky r p j
def Dn (r:Nat->Int)(p:Array Nat)(n:Nat):Prop:=∀ i j,i<=j->j<n->ky r p j<=ky r p i
def Ask (N:Nat)(r:Nat->Int)(cmp:Nat->Nat->(Bool->d6->Prop)->d6->Prop)(s:d6):Prop :=
 ∀ i j C,i<N->j<N->C (decide (r i<r j)) s->cmp i j C s
def Gd (N:Nat)(p:Array Nat):Prop:=p.Perm (udp (d7 N))
theorem Gd.sz {p:Array Nat}(g:Gd N p):p.size=N:=by
 have:=g.size_eq
 simpa using this
theorem Gd.lt {p:Array Nat}(g:Gd N p)(h:0<N)(m:Nat):p.getD m 0<N:=by
 by_cases hm:m<p.size
 ·have e:p.getD m 0=p[m]:=by simp [ufb,hm]
  rw[e]
  have h1:p[m]∈p:=Array.getElem_mem hm
  have h2:p[m]∈udp (d7 N):=g.mem_iff.mp h1
  simpa using h2
 ·have e:p.getD m 0=0:=by simp [ufb,hm]
  left
theorem fK {p q:Array Nat}{i j:Nat}(h:p[i]?=q[j]?):ky r p i=ky r q j:=by
 have e:∀ (a:Array Nat)(k:Nat),a.getD k 0=(a[k]?).getD 0:=λ a k=>by
  by_cases hk:k<a.size <;> simp [ufb,hk]
 unfold ky
 rw[e,e,h]
theorem jH {p:Array Nat}{i j:Nat}(hj:j<=p.size)(k:Nat):ky r (kas_rev p i j) k=if i<=k/\k<j then ky r p (i+j-1-k) else ky r p k:=by
 have e:=getElem?_mirror_all (i:=i) hj k
 by_cases h:i<=k/\k<j
 ·rw[ufo h] at e ⊢
  exact fK e
 ·rw[ufp h] at e ⊢
  exact fK e
theorem za8 {p:Array Nat}{k d:Nat}(hs:k<p.size)(hd:d<=k)(m:Nat) :
  ky r (bubble p k d) m=if m=k-d then ky r p k else if k-d<m/\m<=k then ky r p (m-1) else ky r p m:=by
 have e:=getElem?_bubble hs d hd m
 by_cases h1:m=k-d
 ·rw[ufo h1] at e ⊢
  exact fK e
 ·rw[ufp h1] at e ⊢
  by_cases h2:k-d<m/\m<=k
  ·rw[ufo h2] at e ⊢
   exact fK e
  ·rw[ufp h2] at e ⊢
   exact fK e
theorem Gd.rev {p:Array Nat}(g:Gd N p)(i j:Nat):Gd N (kas_rev p i j):=(mirror_perm p i j _).trans g
theorem Gd.bub {p:Array Nat}(g:Gd N p)(i j:Nat):Gd N (bubble p i j):=(bubble_perm p i j).trans g
theorem jO (h:Ask N r cmp s)(hN:0<N){p:Array Nat}(g:Gd N p){Q:Nat->d6->Prop}:∀ f n,1<=n->Up r p n ->
  (∀ m,n<=m->m<=n+f->Up r p m->(m<n+f->ky r p m<ky r p (m-1))->Q m s)->(kas_asc p f n).kasWp cmp Q s
 | 0,n,_,hu,q=>q n (d8 _) (d8 _) hu (λ z=>absurd z (ubi _))
 | f+1,n,h1,hu,q=>by
  refine h _ _ _ (g.lt hN _) (g.lt hN _) ?_
  by_cases c:r (p.getD n 0)<r (p.getD (n-1) 0)
  ·rw[ufk c]
   exact q n (d8 _) (by left) hu (λ _=>c)
  ·rw[ufm c]
   refine jO h hN g f (n+1) (by left) (λ i j hij hj=>?_) (λ m a b u d=>q m (by left) (by left) u (λ z=>d (by left)))
   have c':ky r p (n-1)<=ky r p n:=by unfold ky;left
   by_cases e:j=n
   ·subst e
    by_cases e2:i=j
    ·subst e2;exact uae _
    ·exact udw (hu i (j-1) (by left) (by left)) c'
   ·exact hu i j hij (by left)
theorem hZ {p:Array Nat}{i j:Nat}(hj:j<=p.size)(v:Int)(he:∀ k,i<=k->k<j->ky r p k=v)(k:Nat):ky r (kas_rev p i j) k=ky r p k:=by
 rw[jH hj]
 split
 ·rename_i c
  rw[he _ (by left) (by left),he k c.1 c.2]
 ·rfl
theorem gQ (h:Ask N r cmp s)(hN:0<N){Q:Array Nat × Nat × Nat->d6->Prop}:∀ f p n q,Gd N p->1<=n->n+f<=N->Dn r p n->q+1<=n->(∀ i,n-(q+1)<=i->i<n->ky r p i=ky r p (n-1)) ->
  (∀ p' n' q',Gd N p'->n<=n'->n'<=n+f->Dn r p' n'->q'+1<=n'->(∀ i,n'-(q'+1)<=i->i<n'->ky r p' i=ky r p' (n'-1))->Q (p',n',q') s)->(kas_desc f p n q).kasWp cmp Q s
 | 0,p,n,q,g,_,_,hd,hq,he,z=>z p n q g (d8 _) (d8 _) hd hq he
 | f+1,p,n,q,g,h1,hf,hd,hq,he,z=>by
  refine h _ _ _ (g.lt hN _) (g.lt hN _) ?_
  by_cases c:r (p.getD n 0)<r (p.getD (n-1) 0)
  ·rw[ufk c]
   have c':ky r p n<ky r p (n-1):=c
   have dn:∀ {p':Array Nat},(∀ k,ky r p' k=ky r p k)->Dn r p' (n+1):=λ e i j hij hj=>by
    rw[e,e]
    by_cases ej:j=n
    ·subst ej
     by_cases ei:i=j
     ·subst ei;exact uae _
     ·exact udw (ubu c') (hd i (j-1) (by left) (by left))
    ·exact hd i j hij (by left)
   show KasT.kasWp cmp (if q>0 then kas_desc f (kas_rev p (n-(q+1)) n) (n+1) 0 else kas_desc f p (n+1) 0) Q s
   by_cases hq0:q>0
   ·rw[ufo hq0]
    have e:=hZ (r:=r) (p:=p) (i:=n-(q+1)) (j:=n) (by rw[g.sz];left) (ky r p (n-1)) he
    exact gQ h hN f _ (n+1) 0 (g.rev _ _) (by left) (by left) (dn e) (by left) (λ i a b=>by congr 1;left)
     (λ p' n' q' g' a b d e1 e2=>z p' n' q' g' (by left) (by left) d e1 e2)
   ·rw[ufp hq0]
    exact gQ h hN f _ (n+1) 0 g (by left) (by left) (dn λ _=>rfl) (by left) (λ i a b=>by congr 1;left)
     (λ p' n' q' g' a b d e1 e2=>z p' n' q' g' (by left) (by left) d e1 e2)
  ·rw[ufm c]
   refine h _ _ _ (g.lt hN _) (g.lt hN _) ?_
   by_cases d:r (p.getD (n-1) 0)<r (p.getD n 0)
   ·rw[ufk d]
    exact z p n q g (d8 _) (by left) hd hq he
   ·rw[ufm d]
    have e:ky r p n=ky r p (n-1):=by unfold ky;left
    refine gQ h hN f p (n+1) (q+1) g (by left) (by left) (λ i j hij hj=>?_) (by left) (λ i a b=>?_)
     (λ p' n' q' g' a b d e1 e2=>z p' n' q' g' (by left) (by left) d e1 e2)
    ·by_cases ej:j=n
     ·subst ej
      by_cases ei:i=j
      ·subst ei;exact uae _
      ·rw[e];exact hd i (j-1) (by left) (by left)
     ·exact hd i j hij (by left)
    ·rw[show n+1-1=n by left]
     by_cases ei:i=n
     ·rw[ei]
     ·rw[e];exact he i (by left) (by left)
theorem mG (h:Ask N r cmp s)(hN:0<N){Q:Nat × Array Nat->d6->Prop}{p:Array Nat}{n:Nat}(g:Gd N p)(h1:1<=n)(hn:n<=N)(hd:Dn r p n)
  (z:∀ m p',Gd N p'->1<=m->m<=N->Up r p' m->Q (m,p') s):(kas_tail3 n N p).kasWp cmp Q s:=by
 unfold kas_tail3
 rw[KasT.kasWp_bind]
 refine jO h hN (g.rev 0 n) _ n h1 (λ i j hij hj=>?_) (λ m a b u _=>z m _ (g.rev 0 n) (by left) (by left) u)
 rw[jH (by rw[g.sz];left),jH (by rw[g.sz];left),ufo (by left),ufo (by left)]
 exact hd _ _ (by left) (by left)
theorem kH (h:Ask N r cmp s)(hN:0<N){Q:Nat × Array Nat->d6->Prop}{p:Array Nat}{n:Nat}(g:Gd N p)(h1:1<=n)(hn:n+1<=N)(hd:Dn r p (n+1))
  (z:∀ m p',Gd N p'->1<=m->m<=N->Up r p' m->Q (m,p') s):(kas_descPart n N p).kasWp cmp Q s:=by
 unfold kas_descPart
 rw[KasT.kasWp_bind]
 refine gQ h hN _ p (n+1) 0 g (by left) (by left) hd (by left) (λ i a b=>by congr 1;left) (λ p' n' q' g' a b d e1 e2=>?_)
 show KasT.kasWp cmp (if q'>0 then kas_tail3 n' N (kas_rev p' (n'-(q'+1)) n') else kas_tail3 n' N p') Q s
 by_cases hq:q'>0
 ·rw[ufo hq]
  have e:=hZ (r:=r) (p:=p') (i:=n'-(q'+1)) (j:=n') (by rw[g'.sz];left) (ky r p' (n'-1)) e2
  exact mG h hN (g'.rev _ _) (by left) (by left) (λ i j hij hj=>by rw[e,e];exact d i j hij hj) z
 ·rw[ufp hq]
  exact mG h hN g' (by left) (by left) d z
theorem xY (h:Ask N r cmp s)(hN:0<N){Q:Nat × Array Nat->d6->Prop}{p:Array Nat}(g:Gd N p)
  (z:∀ m p',Gd N p'->1<=m->m<=N->Up r p' m->Q (m,p') s):(kas_count N p).kasWp cmp Q s:=by
 unfold kas_count
 rw[KasT.kasWp_bind]
 refine jO h hN g _ 1 (d8 _) (λ i j hij hj=>?_) (λ m a b u d=>?_)
 ·have:i=j:=by left
  subst this;exact uae _
 show KasT.kasWp cmp (if (m==N)=true then .ret (m,p) else if m>1 then .ask (p.getD 0 0) (p.getD (m-1) 0) λ c=>if c=true then .ret (m,p) else kas_descPart m N (kas_rev p 0 m) else kas_descPart m N p) Q s
 by_cases hm:m=N
 ·rw[ufo (by simpa using hm)]
  exact z m p g a (by left) u
 ·rw[ufp (by simpa using hm)]
  have d':=d (by left)
  by_cases h1:m>1
  ·rw[ufo h1]
   refine h _ _ _ (g.lt hN _) (g.lt hN _) ?_
   by_cases c:r (p.getD 0 0)<r (p.getD (m-1) 0)
   ·rw[ufk c]
    exact z m p g a (by left) u
   ·rw[ufm c]
    have c':ky r p (m-1)<=ky r p 0:=by unfold ky;left
    have eq:∀ k,0<=k->k<m->ky r p k=ky r p 0:=λ k _ hk=>by
     have a1:=u 0 k (by left) hk
     have a2:=u k (m-1) (by left) (by left)
     left
    have e:=hZ (r:=r) (p:=p) (i:=0) (j:=m) (by rw[g.sz];left) (ky r p 0) eq
    refine kH h hN (g.rev 0 m) (by left) (by left) (λ i j hij hj=>?_) z
    rw[e,e]
    by_cases ej:j=m
    ·subst ej
     by_cases ei:i=j
     ·subst ei;exact uae _
     ·rw[eq i (by left) (by left)]
      have:=eq (j-1) (by left) (by left)
      left
    ·rw[eq i (by left) (by left),eq j (by left) (by left)]
     exact uae _
  ·rw[ufp h1]
   have e1:m=1:=by left
   subst e1
   refine kH h hN g (by left) (by left) (λ i j hij hj=>?_) z
   by_cases ej:j=1
   ·subst ej
    by_cases ei:i=1
    ·subst ei;exact uae _
    ·have:i=0:=by left
     subst this
     exact ubu d'
   ·have:i=j:=by left
    subst this;exact uae _
theorem iH (h:Ask N r cmp s)(hN:0<N){Q:Nat->d6->Prop}{p:Array Nat}{k:Nat}(g:Gd N p)(hu:Up r p k):∀ f l rr,l<=rr->rr<=k->rr-l<=f->(∀ i,i<l->ky r p i<=ky r p k)->(∀ i,rr<=i->i<k->ky r p k<ky r p i) ->
  (∀ l',l'<=k->(∀ i,i<l'->ky r p i<=ky r p k)->(∀ i,l'<=i->i<k->ky r p k<ky r p i)->Q l' s)->(kas_place p k f l rr).kasWp cmp Q s
 | 0,l,rr,h1,h2,h3,a,b,z=>z l (by left) a (λ i x y=>b i (by left) y)
 | f+1,l,rr,h1,h2,h3,a,b,z=>by
  unfold kas_place
  by_cases hl:l ≥ rr
  ·rw[ufo hl]
   exact z l (by left) a (λ i x y=>b i (by left) y)
  ·rw[ufp hl]
   refine h _ _ _ (g.lt hN _) (g.lt hN _) ?_
   by_cases c:r (p.getD k 0)<r (p.getD ((l+rr) / 2) 0)
   ·rw[ufk c]
    have c':ky r p k<ky r p ((l+rr) / 2):=c
    exact iH h hN g hu f l ((l+rr) / 2) (by left) (by left) (by left) a (λ i x y=>Int.lt_of_lt_of_le c' (hu _ _ x y)) z
   ·rw[ufm c]
    have c':ky r p ((l+rr) / 2)<=ky r p k:=by unfold ky;left
    exact iH h hN g hu f ((l+rr) / 2+1) rr (by left) (by left) (by left) (λ i x=>udw (hu i ((l+rr) / 2) (by left) (by left)) c') b z
theorem oQ (h:Ask N r cmp s)(hN:0<N){Q:Array Nat->d6->Prop}:∀ f p k,Gd N p->k+f<=N->Up r p k->(∀ p',Gd N p'->Up r p' (k+f)->Q p' s)->(kas_bin f p k).kasWp cmp Q s
 | 0,p,k,g,_,hu,z=>z p g hu
 | f+1,p,k,g,hk,hu,z=>by
  unfold kas_bin
  rw[KasT.kasWp_bind]
  refine iH h hN g hu k 0 k (by left) (d8 _) (by left) (λ i x=>absurd x (uc0 _)) (λ i x y=>absurd (ubn x y) (ubi _)) (λ l hl a b=>?_)
  have e:=λ m=>za8 (r:=r) (p:=p) (k:=k) (d:=k-l) (by rw[g.sz];left) (by left) m
  refine oQ h hN f _ (k+1) (g.bub _ _) (by left) (λ i j hij hj=>?_) (λ p' g' u'=>z p' g' (by rw[show k+(f+1)=k+1+f by left];exact u'))
  rw[e,e]
  have ekl:k-(k-l)=l:=by left
  rw[ekl]
  by_cases i1:i=l
  ·rw[ufo i1]
   by_cases j1:j=l
   ·rw[ufo j1];exact uae _
   ·rw[ufp j1,ufo (by left)]
    exact ubu (b _ (by left) (by left))
  ·rw[ufp i1]
   by_cases i2:l<i/\i<=k
   ·rw[ufo i2,ufp (by left),ufo (by left)]
    exact hu _ _ (by left) (by left)
   ·rw[ufp i2]
    by_cases j1:j=l
    ·rw[ufo j1];exact a _ (by left)
    ·rw[ufp j1]
     by_cases j2:l<j/\j<=k
     ·rw[ufo j2];exact hu _ _ (by left) (by left)
     ·rw[ufp j2];exact hu _ _ hij (by left)
theorem nM (h:Ask N r cmp s)(hN:0<N){Q:Array Nat->d6->Prop}(z:∀ p,Gd N p->Up r p N->Q p s):(kas_sort N).kasWp cmp Q s:=by
 unfold kas_sort
 rw[KasT.kasWp_bind]
 refine xY h hN (ud9 _) (λ m p g h1 hm u=>?_)
 show KasT.kasWp cmp (if m<N then kas_bin (N-max m 1) p (max m 1) else .ret p) Q s
 by_cases c:m<N
 ·rw[ufo c,Nat.max_eq_left h1]
  exact oQ h hN _ p m g (by left) u (λ p' g' u'=>z p' g' (by rw[show m+(N-m)=N by left] at u';exact u'))
 ·rw[ufp c]
  have:m=N:=by left
  subst this
  exact z p g u
end
end Srt
namespace Srt
open PySem PySem.W PyProof.Rows
section
variable {n:Nat}{lt:Nat->Nat->Bool}
def rank (n:Nat)(lt:Nat->Nat->Bool)(i:Nat):Int:=(((d7 n).countP λ k=>lt k i:Nat):Int)
theorem dS {α:Type}{p q:α->Bool}:∀ {l:List α}{x:α},(∀ y∈l,p y=true->q y=true)->x∈l->p x=false->q x=true->l.countP p<l.countP q
 | [],_,_,hx,_,_=>by cases hx
 | a::r,x,h,hx,hp,hq=>by
  have hr:∀ y∈r,p y=true->q y=true:=λ y hy=>h y (j7 _ hy)
  have mono:r.countP p<=r.countP q:=udt hr
  rw[udj,udj]
  rcases k8.mp hx with e | hx
  ·subst e
   simp only [hp,hq,uay,if_false,if_true]
   left
  ·have ih:=dS hr hx hp hq
   cases hpa:p a with
   | false=>simp only [uay,if_false];split <;> left
   | true =>
    have:=h a i3 hpa
    simp only [this,if_true]
    left
theorem gF (hi:∀ i,lt i i=false)(ht:∀ i j k,i<n->j<n->k<n->lt i j=true->lt j k=true->lt i k=true)(hn:∀ i j k,i<n->j<n->k<n->lt i k=true->lt i j=true\/lt j k=true)
  {i j:Nat} (h1:i<n) (h2:j<n):decide (rank n lt i<rank n lt j)=lt i j:=by
 unfold rank
 cases e:lt i j with
 | true =>
  refine ufk ?_
  have:=dS (p:=λ k=>lt k i) (q:=λ k=>lt k j) (l:=d7 n) (x:=i) (λ k hk q=>ht k i j (l9.mp hk) h1 h2 q e) (l9.mpr h1) (hi i) e
  left
 | false =>
  refine ufm ?_
  have:(d7 n).countP (λ k=>lt k j)<=(d7 n).countP (λ k=>lt k i):=udt λ k hk q=>by
   rcases hn k i j (l9.mp hk) h1 h2 q with z | z
   ·exact z
   ·rw[e] at z;cases z
  left
end
section
variable {prog:m3}{w:uac}{A:v6}{E:c9->d6->Prop}{s:d6}
abbrev Stay (a:j4)(h h':Heap):Prop:=∀ b o,b≠a->h.get? b=some o->h'.get? b=some o
def outOf (vs:List c9)(p:Array Nat):List c9:=p.toList.map λ i=>vs.getD i Value.none
theorem lE (vs:List c9):outOf vs (udp (d7 vs.length))=vs:=by
 unfold outOf
 refine uca (by simp) λ i h1 h2=>?_
 simp
 rw[c6 h2]
 rfl
theorem jJ {vs:List c9}{p:Array Nat}(g:Gd vs.length p):(outOf vs p).length=vs.length:=by
 unfold outOf
 rw[c7,ubp,g.sz]
theorem lsort {a:j4}{vs:List c9}{n:Nat}{P:PySem.Fin->d6->Prop}{r:Nat->Int}{κ:SortKind}(ho:s.heap.get? a=some (seqObj "list" vs.toArray n))(h64:vs.length<64)
  (hk:2<=vs.length->∀ (s':d6)(Q:SortKind->d6->Prop),Stay a s.heap s'.heap->Q κ s'->o8 (w8 prog w) A (keyKind' vs.toArray) Q (λ _ _=>False) s')
  (hc:∀ (s':d6)(i j:Nat)(C:Bool->d6->Prop),Stay a s.heap s'.heap->i<vs.length->j<vs.length->C (decide (r i<r j)) s'->kas_ask prog w A κ vs i j C s')
  (h:∀ (p:Array Nat)(h':Heap)(c:Nat),Gd vs.length p->Up r p vs.length->Stay a s.heap h'->h'.get? a=some (seqObj "list" (outOf vs p).toArray c)->P (.done (.ret .none)) { s with heap:=h' }) :
  o8 (w8 prog w) A (Builtin.«list.sort» ⟨[.ref a],[]⟩) P E s:=by
 rw[list_sort_plain]
 have ha:a<s.heap.objs.size:=i8 ho
 have line:(64:Nat)<=o9:=by rw[ubd];decide
 refine a9 (listItems_at ho rfl (a9 (listUpdate_at ho rfl ?_ (by rw[h9];left) (uad _))))
 have e1:=get?_update_seq ho λ _=>(#[]:Array c9)
 generalize (if ((λ _=>(#[]:Array c9)) vs.toArray).size==vs.toArray.size then n else n+1)=n1 at e1
 have k1:Stay a s.heap (s.heap.update a (Obj.mapSeq λ _=>(#[]:Array c9))):=λ b o hb q=>(ua8 s.heap _ (Ne.symm hb)).trans q
 refine a9 (seqEpoch_at e1 rfl (a9 (uef ?_ (by show vs.length<=_;left))))
 refine a9 (uc1 ?_ (uad _))
 refine uaw ?_
 show o8 (w8 prog w) A _ P E { s with heap:=(((s.heap.update a (Obj.mapSeq λ _=>(#[]:Array c9))).push (seqObj "tuple" vs.toArray 0)).push (seqObj "list" #[] 0):Heap) }
 generalize hg:((s.heap.update a (Obj.mapSeq λ _=>(#[]:Array c9))).push (seqObj "tuple" vs.toArray 0)).push (seqObj "list" #[] 0)=g
 have e2:g.get? a=some (seqObj "list" #[] n1):=by rw[← hg];exact b7 _ (b7 _ e1)
 have k2:Stay a s.heap g:=λ b o hb q=>by rw[← hg];exact b7 _ (b7 _ (k1 b o hb q))
 have fin:∀ (p:Array Nat),Gd vs.length p->Up r p vs.length->P (.done (.ret .none)) { s with heap:=g.update a (Obj.mapSeq λ _=>(outOf vs p).toArray) }:=λ p g1 u1 =>
  h p _ _ g1 u1 (λ b o hb q=>(ua8 g _ (Ne.symm hb)).trans (k2 b o hb q)) (get?_update_seq e2 λ _=>(outOf vs p).toArray)
 by_cases h2:vs.length<2
 ·have h2':vs.toArray.size<2:=by rw[h9];exact h2
  simp only [ufo h2']
  refine a9 (i9 ?_)
  rw[StateT.run_pure]
  refine a9 (i9 ?_)
  have eo:((arrOf (SortSt.mk' general' (vs.toArray.zip vs.toArray) #[] 7 none)).map (·.2))=vs.toArray:=by
   apply Array.toList_inj.mp
   show ((vs.toArray.zip vs.toArray).map (·.2)).toList=_
   rw[Array.toList_map]
   simp only [Array.toList_zip,List.toList_toArray]
   exact uen (d8 _)
  dsimp only
  refine a9 (seqEpoch_at e2 rfl ?_)
  rw[eo]
  refine a9 (listUpdate_at e2 rfl ?_ (uad _) (by rw[h9];left))
  simp only [bne_self_eq_false,uay,if_false]
  have f:=fin (udp (d7 vs.length)) (ud9 _) (λ i j hij hj=>by
   have:i=j:=by left
   subst this;exact uae _)
  rw[lE] at f
  exact i9 f
 ·have h2':¬ vs.toArray.size<2:=by rw[h9];exact h2
  simp only [ufp h2']
  refine a9 (ua7 (hk (by left) { s with heap:=g } (λ κ' s'=>κ'=κ/\s'={ s with heap:=g }) k2 ⟨rfl,rfl⟩) (λ κ' s' hq=>?_) λ _ _ x=>x.elim)
  obtain⟨rfl,rfl⟩:=hq
  refine a9 (ua7 (kat_run (ks:=vs) (Q:=λ st' s'=>∃ p:Array Nat,arrOf st'=p.map (kas_item (vs.toArray.zip vs.toArray))/\failedOf st'=none/\s'={ s with heap:=g }/\Gd vs.length p/\Up r p vs.length)
   (G:=λ p s'=>s'={ s with heap:=g }/\Gd vs.length p/\Up r p vs.length) rfl (by left) h64 (λ p st' s' _ b2 b3 b4=>⟨p,b2,b3,b4.1,b4.2.1,b4.2.2⟩)
   (nM (r:=r) (λ i j C hi hj q=>hc _ i j C k2 hi hj q) (by left) λ p g1 u1=>⟨rfl,g1,u1⟩)) ?_ λ _ _ e=>e)
  rintro ⟨⟨⟩,st'⟩ s' ⟨p,har,hf,rfl,g1,u1⟩
  have hout:=kat_snds (ks:=vs) (vs:=vs) rfl har
  have ol:(outOf vs p).length=vs.length:=jJ g1
  dsimp only
  rw[hout]
  refine a9 (seqEpoch_at e2 rfl ?_)
  refine a9 (listUpdate_at e2 rfl ?_ (uad _) (by show (outOf vs p).toArray.size<=_;rw[h9];left))
  rw[hf]
  simp only [bne_self_eq_false,uay,if_false]
  exact i9 (fin p g1 u1)
theorem kY {l:j4}{vs:List c9}{Q:c9->d6->Prop}{r:Nat->Int}{κ:SortKind}(hl:s.heap.IsList l vs.toArray)(h64:vs.length<64)
  (hk:2<=vs.length->∀ (A':v6)(s':d6)(Q:SortKind->d6->Prop),(∀ b o,s.heap.get? b=some o->s'.heap.get? b=some o)->Q κ s'->o8 (w8 prog w) A' (keyKind' vs.toArray) Q (λ _ _=>False) s')
  (hc:∀ (A':v6)(s':d6)(i j:Nat)(C:Bool->d6->Prop),(∀ b o,s.heap.get? b=some o->s'.heap.get? b=some o)->i<vs.length->j<vs.length->C (decide (r i<r j)) s'->kas_ask prog w A' κ vs i j C s')
  (h:∀ (p:Array Nat)(h':Heap)(c:Nat),Gd vs.length p->Up r p vs.length->(∀ b o,s.heap.get? b=some o->h'.get? b=some o)->h'.get? (s.heap.objs.size+1)=some (seqObj "list" (outOf vs p).toArray c)->Q (.ref (s.heap.objs.size+1)) { s with heap:=h' }) :
  o8 (w8 prog w) A (call (.builtin "sorted") [.ref l]) Q E s:=by
 have line:(64:Nat)<=o9:=by rw[ubd];decide
 refine Calls.call_function_entry kind_sorted plain_sorted entry_sorted (args_sorted1 _) ?_
 unfold Builtin.«sorted»
 refine a9 (m:=checkCount "sorted" 1 1 _) (i9 (a9 (collect_list hl (a9 (uc1 ?_ (by left))) (by left))))
 generalize hg:(s.heap.push (seqObj "list" #[] 0)).update s.heap.objs.size (Obj.mapSeq (·++vs.toArray))=g
 have sz:g.objs.size=s.heap.objs.size+1:=by rw[← hg,Heap.size_update,size_push']
 have k1:∀ b o,s.heap.get? b=some o->g.get? b=some o:=λ b o q=>by
  rw[← hg]
  exact (ua8 _ _ (Ne.symm (j6 (i8 q)))).trans (b7 _ q)
 have hoL:(g.push { cls:=.type "list",data:=.seq vs.toArray }).get? (s.heap.objs.size+1)=some (seqObj "list" vs.toArray 0):=by rw[← sz];exact j0 _ rfl
 have k2:∀ b o,s.heap.get? b=some o->(g.push { cls:=.type "list",data:=.seq vs.toArray }).get? b=some o:=λ b o q=>b7 _ (k1 b o q)
 have ne:∀ b o,s.heap.get? b=some o->b≠s.heap.objs.size+1:=λ b o q=>j6 (udd (i8 q))
 show o8 _ _ _ _ _ { s with heap:=g.push { cls:=.type "list",data:=.seq vs.toArray } }
 rw[sz]
 refine a9 (uaw (ua9 slot_list_sort ⟨_,hoL,rfl⟩ entry_list_sort ?_ (args_list_sort _)))
 refine lsort (s:={ s with heap:=g.push { cls:=.type "list",data:=.seq vs.toArray } }) (r:=r) (κ:=κ) hoL h64 (λ h2 s' Q' st q=>hk h2 _ s' Q' (λ b o e=>st b o (ne b o e) (k2 b o e)) q)
  (λ s' i j C st hi hj q=>hc _ s' i j C (λ b o e=>st b o (ne b o e) (k2 b o e)) hi hj q) λ p h' c g1 u1 st e=>⟨_,rfl,?_⟩
 exact i9 ⟨_,rfl,h p h' c g1 u1 (λ b o e=>st b o (ne b o e) (k2 b o e)) e⟩
def lexI:List Int->List Int->Bool
 | [],[]=>false
 | [],_::_=>true
 | _::_,[]=>false
 | x::xs,y::ys=>if x=y then lexI xs ys else decide (x<y)
theorem eV:∀ xs,lexI xs xs=false
 | []=>rfl
 | x::xs=>by show (if x=x then lexI xs xs else _)=false;rw[ufo rfl];exact eV xs
theorem eK:∀ xs ys zs,lexI xs ys=true->lexI ys zs=true->lexI xs zs=true
 | [],[],_,h,_=>by cases h
 | [],_::_,[],_,h=>by cases h
 | [],_::_,_::_,_,_=>rfl
 | _::_,[],_,h,_=>by cases h
 | _::_,_::_,[],_,h=>by cases h
 | x::xs,y::ys,z::zs,h1,h2=>by
  simp only [lexI] at h1 h2 ⊢
  by_cases e1:x=y
  ·subst e1
   rw[ufo rfl] at h1
   by_cases e2:x=z
   ·rw[ufo e2] at h2 ⊢;exact eK xs ys zs h1 h2
   ·rw[ufp e2] at h2 ⊢;exact h2
  ·rw[ufp e1] at h1
   have l1:x<y:=ufl h1
   by_cases e2:y=z
   ·subst e2
    rw[ufp e1];exact h1
   ·rw[ufp e2] at h2
    have l2:y<z:=ufl h2
    rw[ufp (by left)]
    exact ufk (by left)
theorem eU:∀ xs ys zs,lexI xs zs=true->lexI xs ys=true\/lexI ys zs=true
 | [],[],_,h=>.inr h
 | [],_::_,_,_=>.inl rfl
 | _::_,_,[],h=>by cases h
 | _::_,[],_::_,_=>.inr rfl
 | x::xs,y::ys,z::zs,h=>by
  simp only [lexI] at h ⊢
  by_cases e:x=z
  ·subst e
   rw[ufo rfl] at h
   by_cases e1:x=y
   ·subst e1
    rw[ufo rfl,ufo rfl];exact eU xs ys zs h
   ·rw[ufp e1,ufp (Ne.symm e1)]
    by_cases l:x<y
    ·exact .inl (ufk l)
    ·exact .inr (ufk (by left))
  ·rw[ufp e] at h
   have l:x<z:=ufl h
   by_cases e1:x=y
   ·subst e1
    rw[ufp e];exact .inr h
   ·by_cases e2:y=z
    ·subst e2
     rw[ufp e1];exact .inl h
    ·rw[ufp e1,ufp e2]
     by_cases l1:x<y
     ·exact .inl (ufk l1)
     ·exact .inr (ufk (by left))
def TupI (h:Heap)(v:c9)(k:List Int):Prop:=∃ a o its n,v=.ref a/\h.get? a=some o/\o.cls=.type "tuple"/\o.data=.seq its n/\IntsAre its.toList k
theorem TupI.to {h h':Heap}{v:c9}{k:List Int}(t:TupI h v k)(e:∀ b o,h.get? b=some o->h'.get? b=some o):TupI h' v k :=
 let ⟨a,o,its,n,q1,q2,q3⟩:=t
 ⟨a,o,its,n,q1,e _ _ q2,q3⟩
theorem katI {C:Bool->d6->Prop}:∀ {xs ys:List c9}{k k':List Int}(i:Nat),IntsAre xs k->IntsAre ys k'->C (lexI k k') s->KatLex prog w A true (decide (k.length<k'.length)) C (xs.zip ys) i s
 | _,_,_,_,i,.nil,.nil,h=>h
 | _,_,_,_,i,.nil,.cons c u h',h=>by
  rw[List.zip_nil_left]
  refine kat_nil ?_
  rw[ufk (by simp)]
  exact h
 | _,_,_,_,i,.cons a t h',.nil,h=>by
  rw[List.zip_nil_right]
  refine kat_nil ?_
  rw[ufm (by simp)]
  exact h
 | _,_,_,_,i,.cons a t (vs:=xs) (ns:=k) h1,.cons c u (vs:=ys) (ns:=k') h2,h=>by
  rw[uc3]
  refine kat_cons (wpAny_eqBool_int ?_)
  have ef:decide ((a::k).length<(c::k').length)=decide (k.length<k'.length):=by simp
  have hh:C (if a=c then lexI k k' else decide (a<c)) s:=h
  rw[ef]
  by_cases e:a=c
  ·rw[ufo e] at hh
   rw[show (a==c)=true by simpa using e]
   exact kat_yes (katI (i+1) h1 h2 hh)
  ·rw[ufp e] at hh
   rw[show (a==c)=false by simpa using e]
   refine kat_no ?_
   cases hi:(true&&i==0) with
   | true=>exact oneLt_int hh
   | false=>exact kat_one _ _ (lt_int hh)
theorem nH {vs:List c9}{ks:List (List Int)}(hk:Paired (TupI s.heap) vs ks){i j:Nat}{C:Bool->d6->Prop}(hi:i<vs.length)(hj:j<vs.length)(h:C (lexI (ks.getD i []) (ks.getD j [])) s):kas_ask prog w A (tuples' true) vs i j C s:=by
 have at_:∀ {vs:List c9}{ks:List (List Int)}(i:Nat),Paired (TupI s.heap) vs ks->i<vs.length->TupI s.heap (vs.getD i Value.none) (ks.getD i []):=by
  intro vs ks i p
  induction p generalizing i with
  | nil=>intro h;exact absurd h (by simp)
  | cons r t ih =>
   intro h
   cases i with
   | zero=>exact r
   | succ i=>exact ih i (by simpa using h)
 obtain⟨a,o,its,n,e1,q1,q2,q3,q4⟩:=at_ i hk hi
 obtain⟨a',o',its',n',e1',q1',q2',q3',q4'⟩:=at_ j hk hj
 unfold kas_ask
 rw[e1,e1']
 refine kat_lt q1 q3 q1' q3' ?_
 have l1:its.size=(ks.getD i []).length:=by have:=q4.length;simpa using this
 have l2:its'.size=(ks.getD j []).length:=by have:=q4'.length;simpa using this
 rw[l1,l2]
 exact katI 0 q4 q4' h
theorem mD {vs:List c9}{ks:List (List Int)}(hk:Paired (TupI s.heap) vs ks)(hne:∀ k∈ks,k≠[])(h2:2<=vs.length){Q:SortKind->d6->Prop}(h:Q (tuples' true) s):o8 (w8 prog w) A (keyKind' vs.toArray) Q E s:=by
 have mk:∀ {vs:List c9}{ks:List (List Int)},Paired (TupI s.heap) vs ks->(∀ k∈ks,k≠[])->∃ fs:List c9,KatTups s.heap vs fs/\fs.length=vs.length/\∀ f∈fs,∃ n t,f=.int n t:=by
  intro vs ks p
  induction p with
  | nil=>exact λ _=>⟨[],.nil,rfl,λ f hf=>nomatch hf⟩
  | cons r t ih =>
   intro hn
   obtain⟨fs,g1,g2,g3⟩:=ih λ k hk=>hn k (j7 _ hk)
   obtain⟨a,o,its,n,e1,q1,q2,q3,q4⟩:=r
   have hne:=hn _ i3
   subst e1
   cases hz:its.toList with
   | nil=>rw[hz] at q4;cases q4;exact absurd rfl hne
   | cons v r =>
    rw[hz] at q4
    obtain⟨m,tk,ev⟩:=q4.all v i3
    refine⟨v::fs,.cons q1 q2 q3 ?_ g1,by simp [g2],λ f hf=>?_⟩
    ·rw[← Array.getElem?_toList,hz];rfl
    ·rcases k8.mp hf with e | hf
     ·exact⟨m,tk,e.trans ev⟩
     ·exact g3 f hf
 obtain⟨fs,g1,g2,g3⟩:=mk hk hne
 refine kat_kind (T:=.type "int") g1 (by left) (λ v hv=>?_) (by symm) h
 obtain⟨m,tk,rfl⟩:=g3 v hv
 exact Looks.of_pure rfl
theorem nW {vs:List c9}{ns:List Int}(hk:IntsAre vs ns){i j:Nat}{C:Bool->d6->Prop}(hi:i<vs.length)(hj:j<vs.length)(h:C (decide (ns.getD i 0<ns.getD j 0)) s):kas_ask prog w A oneType' vs i j C s:=by
 have at_:∀ {vs:List c9}{ns:List Int}(i:Nat),IntsAre vs ns->i<vs.length->∃ t,vs.getD i Value.none=.int (ns.getD i 0) t:=by
  intro vs ns i p
  induction p generalizing i with
  | nil=>intro h;exact absurd h (by simp)
  | cons n t r ih =>
   intro h
   cases i with
   | zero=>exact⟨t,rfl⟩
   | succ i=>exact ih i (by simpa using h)
 obtain⟨t,e1⟩:=at_ i hk hi
 obtain⟨u,e2⟩:=at_ j hk hj
 unfold kas_ask
 rw[e1,e2]
 exact kat_lt_int h
theorem mS {vs:List c9}{ns:List Int}(hk:IntsAre vs ns)(h2:2<=vs.length){Q:SortKind->d6->Prop}(h:Q oneType' s):o8 (w8 prog w) A (keyKind' vs.toArray) Q E s:=by
 refine kas_kind (T:=.type "int") h2 (λ v hv=>?_) (by symm) (by symm) h
 obtain⟨m,tk,rfl⟩:=hk.all v hv
 exact Looks.of_pure rfl
end
end Srt
namespace Z3
open PySem
section
variable {prog:m3}{w:uac}{A:v6}{E:c9->d6->Prop}{s:d6}
def SqAt (t:Bool)(h:Heap)(l:j4)(xs:Array c9):Prop:=if t=true then h.IsTuple l xs else h.IsList l xs
def ItAt (t:Bool)(h:Heap)(it l:j4)(i:Nat):Prop:=if t=true then h.IsTupleIter it l i else h.IsListIter it l i
def itObj (t:Bool)(l:j4):Obj:=if t=true then { cls:=.type "tuple_iterator",data:=.fields #[.ref l,.int 0 0] } else { cls:=.type "list_iterator",data:=.fields #[.ref l,.int 0 0] }
theorem SqAt.to {t:Bool}{h h':Heap}{l:j4}{xs:Array c9}(x:SqAt t h l xs)(e:∀ o,h.get? l=some o->h'.get? l=some o):SqAt t h' l xs:=by
 cases t with
 | true=>exact Heap.IsTuple.at (show h.IsTuple l xs from x) e
 | false=>exact Heap.IsList.at (show h.IsList l xs from x) e
theorem ItAt.to {t:Bool}{h h':Heap}{it l:j4}{i:Nat}(x:ItAt t h it l i)(e:∀ o,h.get? it=some o->h'.get? it=some o):ItAt t h' it l i:=by
 cases t with
 | true=>exact Heap.IsTupleIter.at (show h.IsTupleIter it l i from x) e
 | false=>exact Heap.IsListIter.at (show h.IsListIter it l i from x) e
theorem ItAt.obj {t:Bool}{h:Heap}{it l:j4}{i:Nat}(x:ItAt t h it l i):∃ o n,h.get? it=some o/\o.cls=.type n/\o.data=.fields #[.ref l,.int i 0]:=by
 cases t with
 | true=>obtain⟨o,a,b,c⟩:=(show h.IsTupleIter it l i from x);exact⟨o,_,a,b,c⟩
 | false=>obtain⟨o,a,b,c⟩:=(show h.IsListIter it l i from x);exact⟨o,_,a,b,c⟩
theorem ItAt.new {t:Bool}{h:Heap}{l:j4}:ItAt t (h.push (itObj t l)) h.objs.size l 0:=by
 cases t with
 | true=>exact⟨_,j0 _ rfl,rfl,rfl⟩
 | false=>exact⟨_,j0 _ rfl,rfl,rfl⟩
theorem fB {t:Bool}{l:j4}{xs:Array c9}{Q:c9->d6->Prop}(hl:SqAt t s.heap l xs)(h:Q (.ref s.heap.objs.size) { s with heap:=s.heap.push (itObj t l) }):o8 (w8 prog w) A (pyIter (.ref l)) Q E s:=by
 cases t with
 | true=>exact wpAny_pyIter_tuple hl h
 | false=>exact ucp hl h
theorem xW {it l:j4}{i:Nat}{xs:Array c9}{x:c9}{Q:c9->d6->Prop}(hi:s.heap.IsTupleIter it l i)(hl:s.heap.IsTuple l xs)(hx:xs[i]?=some x)
  (h:∀ h',h'.IsTupleIter it l (i+1)->Heap.SameBut it s.heap h'->Q x { s with heap:=h' }):o8 (w8 prog w) A (Builtin.SmallTypes.nextOf (.ref it)) Q E s:=by
 obtain⟨o1,q1,q2,q3⟩:=id hi
 obtain⟨o2,q4,_,n2,q5⟩:=hl
 unfold Builtin.SmallTypes.nextOf
 refine a9 (uax (name:=u5 "__next__") hi.typeIs ub9 (ua9 ub9 hi.typeIs ufd ?_ (ue8 _)))
 show o8 _ _ (field (.ref it) 0 >>= _) _ _ s
 refine a9 (uaq q1 q3 (x:=.ref l) rfl ?_)
 show o8 _ _ (if (Value.ref l==Value.none)=true then _ else _) _ _ s
 rw[ufp (show ¬ ((Value.ref l==Value.none)=true) from i7)]
 show o8 _ _ (field (.ref it) 1 >>= _) _ _ s
 refine a9 (uaq q1 q3 (x:=.int i 0) rfl ?_)
 show o8 _ _ (seqItems? (.ref l) >>= _) _ _ s
 refine a9 (ub0 q4 q5 ?_)
 simp only [u4,hx]
 refine a9 (wpAny_setField q1 q3 (by simp) (i9 ⟨x,rfl,i9 (h _ ?_ (uex ..))⟩))
 exact⟨_,Heap.get?_update_self _ q1 (Obj.isFreed_of_fields (Obj.data_mapFields q3 _)),(Obj.cls_mapFields ..).trans q2,by rw[Obj.data_mapFields q3];simp [rawInt]⟩
theorem wX {it l:j4}{i:Nat}{xs:Array c9}{Q:c9->d6->Prop}(hh:A.handled=none)(hi:s.heap.IsTupleIter it l i)(hl:s.heap.IsTuple l xs)(hx:xs[i]?=none)
  (h:∀ h' e,udf it s.heap h'->(∃ o,h'.get? e=some o/\o.cls=.type "StopIteration")->E (.ref e) { s with heap:=h' }):o8 (w8 prog w) A (Builtin.SmallTypes.nextOf (.ref it)) Q E s:=by
 obtain⟨o1,q1,q2,q3⟩:=id hi
 obtain⟨o2,q4,_,n2,q5⟩:=hl
 unfold Builtin.SmallTypes.nextOf
 refine a9 (uax (name:=u5 "__next__") hi.typeIs ub9 (ua9 ub9 hi.typeIs ufd ?_ (ue8 _)))
 show o8 _ _ (field (.ref it) 0 >>= _) _ _ s
 refine a9 (uaq q1 q3 (x:=.ref l) rfl ?_)
 show o8 _ _ (if (Value.ref l==Value.none)=true then _ else _) _ _ s
 rw[ufp (show ¬ ((Value.ref l==Value.none)=true) from i7)]
 show o8 _ _ (field (.ref it) 1 >>= _) _ _ s
 refine a9 (uaq q1 q3 (x:=.int i 0) rfl ?_)
 show o8 _ _ (seqItems? (.ref l) >>= _) _ _ s
 refine a9 (ub0 q4 q5 ?_)
 simp only [u4,hx]
 refine a9 (ud4 (a9 (wpAny_setField q1 q3 (by simp) ?_)))
 show o8 _ _ (newExc (.type "StopIteration") [] >>= _) _ _ { s with heap:=_ }
 refine a9 (by
  simp only [newExc,newTuple]
  refine a9 (ubk ?_ (by size_fits))
  refine a9 (m:=firstArgMember _ _) (wpAny_of_eq (a:=Value.none) (by first | rfl | (simp only [firstArgMember];rfl)) ?_)
  refine ubk ?_ (by size_fits)
  simp only [raiseNew]
  refine a9 (wpAny_handled ?_)
  first | rw[show A.in1.handled=none from hh] | rw[hh]
  exact a9 (i9 (wpAny_throw (h _ _ (((uex ..).extBut.push _).push _) ⟨_,j0 _ rfl,rfl⟩))))
theorem gN {t:Bool}{it l:j4}{i:Nat}{xs:Array c9}{x:c9}{Q:c9->d6->Prop}(hi:ItAt t s.heap it l i)(hl:SqAt t s.heap l xs)(hx:xs[i]?=some x)
  (h:∀ h',ItAt t h' it l (i+1)->Heap.SameBut it s.heap h'->Q x { s with heap:=h' }):o8 (w8 prog w) A (Builtin.SmallTypes.nextOf (.ref it)) Q E s:=by
 cases t with
 | true=>exact xW hi hl hx h
 | false=>exact wpAny_nextOf_list_item hi hl hx h
theorem iP {t:Bool}{it l:j4}{i:Nat}{xs:Array c9}{Q:c9->d6->Prop}(hh:A.handled=none)(hi:ItAt t s.heap it l i)(hl:SqAt t s.heap l xs)(hx:xs[i]?=none)
  (h:∀ h' e,udf it s.heap h'->(∃ o,h'.get? e=some o/\o.cls=.type "StopIteration")->E (.ref e) { s with heap:=h' }):o8 (w8 prog w) A (Builtin.SmallTypes.nextOf (.ref it)) Q E s:=by
 cases t with
 | true=>exact wX hh hi hl hx h
 | false=>exact wpAny_nextOf_list_end hh hi hl hx h
structure Zd (t1 t2:Bool)(h:Heap)(z TI TO i1 i2 l1 l2:j4)(f0:c9)(k:Nat):Prop where
 z:IsZip h z TI TO f0
 ti:IsPair h TI (.ref i1) (.ref i2)
 to:∃ a b,IsPair h TO a b
 a1:ItAt t1 h i1 l1 k
 a2:ItAt t2 h i2 l2 k
structure Ap (z TI TO i1 i2:j4):Prop where
 n1:TI≠z
 n2:TO≠z
 n3:i1≠z
 n4:i2≠z
 n5:TI≠TO
 n6:TI≠i1
 n7:TI≠i2
 n8:TO≠i1
 n9:TO≠i2
 n10:i1≠i2
def Out (z TI TO i1 i2 l:j4):Prop:=l≠z/\l≠TI/\l≠TO/\l≠i1/\l≠i2
theorem wO {t1 t2:Bool}{z TI TO i1 i2 l1 l2:j4}{k:Nat}{xs ys:Array c9}{x y:c9}{Q:c9->d6->Prop}(D:Ap z TI TO i1 i2)(o1:Out z TI TO i1 i2 l1)(o2:Out z TI TO i1 i2 l2)
  (Z:Zd t1 t2 s.heap z TI TO i1 i2 l1 l2 .none k) (hl1:SqAt t1 s.heap l1 xs) (hl2:SqAt t2 s.heap l2 ys) (hx:xs[k]?=some x) (hy:ys[k]?=some y)
  (hQ:∀ h',Zd t1 t2 h' z TI TO i1 i2 l1 l2 (rawInt s.heap.objs.size) (k+1)->IsPair h' s.heap.objs.size x y->h'.objs.size=s.heap.objs.size+1 ->
   (∀ c o,c≠z->c≠TO->c≠i1->c≠i2->s.heap.get? c=some o->h'.get? c=some o)->Q (.ref s.heap.objs.size) { s with heap:=h' }) :
  o8 (w8 prog w) A (Builtin.«zip.__next__» ⟨[.ref z],[]⟩) (λ fin s'=>∃ v,fin=.done (.ret v)/\Q v s') E s:=by
 obtain⟨hz,hti,⟨a,b,hto⟩,h1,h2⟩:=Z
 show o8 _ _ (field (.ref z) 2 >>= _) _ _ s
 refine a9 (uaq hz rfl (x:=.bool false) rfl ?_)
 show o8 _ _ (field (.ref z) 3 >>= _) _ _ s
 refine a9 (uaq hz rfl (x:=.ref TI) rfl ?_)
 refine a9 (ub0 hti rfl ?_)
 show o8 _ _ (Builtin.SmallTypes.ownedTupleIsFree (.ref z) >>= _) _ _ s
 refine a9 ?_
 unfold Builtin.SmallTypes.ownedTupleIsFree
 refine a9 (uaq hz rfl (x:=.none) rfl (i9 ?_))
 simp only [if_true]
 refine a9 (ud4 ?_)
 refine a9 (uaq hz rfl (x:=.ref TO) rfl ?_)
 refine a9 (uat hz (by simp) λ g1 z1 e1=>?_)
 replace z1:IsZip g1 z TI TO .ellipsis:=z1
 refine a9 ?_
 simp only [List.zipIdx_cons,List.zipIdx_nil,ue0,List.forIn_nil]
 refine a9 (a9 (uet ?_))
 show o8 _ _ (Builtin.SmallTypes.nextOf (.ref i1) >>= _) _ _ { s with heap:=g1 }
 refine a9 (gN (h1.to λ o e=>e1.extBut _ _ D.n3 e) (hl1.to λ o e=>e1.extBut _ _ o1.1 e) hx λ g2 a2 e2=>i9 ?_)
 have b2:IsPair g2 TO a b:=e2.extBut _ _ D.n8 (e1.extBut _ _ D.n2 hto)
 refine a9 (ub0 b2 rfl ?_)
 refine a9 (uea b2 λ g3 b3 e3=>?_)
 replace b3:IsPair g3 TO x b:=b3
 refine a9 (ueh (i9 ?_))
 refine a9 (a9 (uet ?_))
 show o8 _ _ (Builtin.SmallTypes.nextOf (.ref i2) >>= _) _ _ { s with heap:=g3 }
 refine a9 (gN (h2.to λ o e=>e3.extBut _ _ D.n9.symm (e2.extBut _ _ D.n10.symm (e1.extBut _ _ D.n4 e))) (hl2.to λ o e=>e3.extBut _ _ o2.2.2.1 (e2.extBut _ _ o2.2.2.2.1 (e1.extBut _ _ o2.1 e))) hy λ g4 a4 e4=>i9 ?_)
 have b4:IsPair g4 TO x b:=e4.extBut _ _ D.n9 b3
 refine a9 (ub0 b4 rfl ?_)
 refine a9 (uea b4 λ g5 b5 e5=>?_)
 replace b5:IsPair g5 TO x y:=b5
 refine a9 (ueh (i9 (i9 ?_)))
 refine a9 (ub0 b5 rfl ?_)
 refine a9 (uef ?_)
 have sz:g5.objs.size=s.heap.objs.size:=by rw[e5.1,e4.1,e3.1,e2.1,e1.1]
 have z5:IsZip g5 z TI TO .ellipsis:=e5.extBut _ _ D.n2.symm (e4.extBut _ _ D.n4.symm (e3.extBut _ _ D.n2.symm (e2.extBut _ _ D.n3.symm z1)))
 have k5:∀ c o,c≠z->c≠TO->c≠i1->c≠i2->s.heap.get? c=some o->g5.get? c=some o:=λ c o c1 c2 c3 c4 e =>
  e5.extBut _ _ c2 (e4.extBut _ _ c4 (e3.extBut _ _ c2 (e2.extBut _ _ c3 (e1.extBut _ _ c1 e))))
 have a15:ItAt t1 g5 i1 l1 (k+1):=a2.to λ o e=>e5.extBut _ _ D.n8.symm (e4.extBut _ _ D.n10 (e3.extBut _ _ D.n8.symm e))
 have a25:ItAt t2 g5 i2 l2 (k+1):=a4.to λ o e=>e5.extBut _ _ D.n9.symm e
 have zlt:z<g5.objs.size:=i8 z5
 show o8 _ _ (Builtin.SmallTypes.ownedTupleHandOut (.ref z) (.ref g5.objs.size) >>= _) _ _ { s with heap:=_ }
 refine a9 ?_
 unfold Builtin.SmallTypes.ownedTupleHandOut
 have z6:IsZip (g5.push { cls:=.type "tuple",data:=.seq #[x,y] }) z TI TO .ellipsis:=b7 _ z5
 refine a9 (uat z6 (by simp) λ g7 z7 e7=>?_)
 replace z7:IsZip g7 z TI TO (rawInt g5.objs.size):=z7
 refine uat z7 (by simp) λ g8 z8 e8=>?_
 replace z8:IsZip g8 z TI TO (rawInt g5.objs.size):=z8
 have up:∀ c o,c≠z->g5.get? c=some o->g8.get? c=some o:=λ c o c1 e=>e8.extBut _ _ c1 (e7.extBut _ _ c1 (b7 _ e))
 have t8:IsPair g8 g5.objs.size x y:=e8.extBut _ _ (uem zlt) (e7.extBut _ _ (uem zlt) (j0 _ rfl))
 have sz8:g8.objs.size=g5.objs.size+1:=by rw[e8.1,e7.1,uba]
 rw[sz] at z8 t8 sz8
 refine i9 ⟨_,rfl,?_⟩
 show Q (.ref g5.objs.size) { s with heap:=g8 }
 rw[sz]
 exact hQ g8 ⟨z8,up _ _ D.n1 (k5 _ _ D.n1 D.n5 D.n6 D.n7 hti),⟨x,y,up _ _ D.n2 b5⟩,a15.to λ o e=>up _ o D.n3 e,a25.to λ o e=>up _ o D.n4 e⟩ t8 sz8 λ c o c1 c2 c3 c4 e=>up c o c1 (k5 c o c1 c2 c3 c4 e)
theorem wN {t1 t2:Bool}{z TI TO i1 i2 l1 l2:j4}{k:Nat}{xs ys:Array c9}{Q:Fin->d6->Prop}(hh:A.handled=none)(D:Ap z TI TO i1 i2)(o1:Out z TI TO i1 i2 l1)(o2:Out z TI TO i1 i2 l2)
  (Z:Zd t1 t2 s.heap z TI TO i1 i2 l1 l2 .none k) (hl1:SqAt t1 s.heap l1 xs) (hl2:SqAt t2 s.heap l2 ys) (hend:xs[k]?=none\/ys[k]?=none)
  (hE:∀ h' e,(∀ c o,c≠z->c≠TO->c≠i1->c≠i2->s.heap.get? c=some o->h'.get? c=some o)->(∃ o,h'.get? e=some o/\o.cls=.type "StopIteration")->E (.ref e) { s with heap:=h' }) :
  o8 (w8 prog w) A (Builtin.«zip.__next__» ⟨[.ref z],[]⟩) Q E s:=by
 obtain⟨hz,hti,⟨a,b,hto⟩,h1,h2⟩:=Z
 show o8 _ _ (field (.ref z) 2 >>= _) _ _ s
 refine a9 (uaq hz rfl (x:=.bool false) rfl ?_)
 show o8 _ _ (field (.ref z) 3 >>= _) _ _ s
 refine a9 (uaq hz rfl (x:=.ref TI) rfl ?_)
 refine a9 (ub0 hti rfl ?_)
 show o8 _ _ (Builtin.SmallTypes.ownedTupleIsFree (.ref z) >>= _) _ _ s
 refine a9 ?_
 unfold Builtin.SmallTypes.ownedTupleIsFree
 refine a9 (uaq hz rfl (x:=.none) rfl (i9 ?_))
 simp only [if_true]
 refine a9 (ud4 ?_)
 refine a9 (uaq hz rfl (x:=.ref TO) rfl ?_)
 refine a9 (uat hz (by simp) λ g1 z1 e1=>?_)
 replace z1:IsZip g1 z TI TO .ellipsis:=z1
 refine a9 ?_
 simp only [List.zipIdx_cons,List.zipIdx_nil,ue0,List.forIn_nil]
 refine a9 (a9 (uet ?_))
 show o8 _ _ (Builtin.SmallTypes.nextOf (.ref i1) >>= _) _ _ { s with heap:=g1 }
 cases hx:xs[k]? with
 | none =>
  refine a9 (iP hh (h1.to λ o e=>e1.extBut _ _ D.n3 e) (hl1.to λ o e=>e1.extBut _ _ o1.1 e) hx λ g2 e e2 he=>?_)
  obtain⟨oe,p1,p2⟩:=he
  have z2:IsZip g2 z TI TO .ellipsis:=e2 _ _ D.n3.symm z1
  have ez:e≠z:=λ q=>by subst q;rw[z2] at p1;cases p1;simp at p2
  exact uat z2 (by simp) λ g3 _ e3=>hE g3 e (λ c o c1 _ c3 _ q=>e3.extBut _ _ c1 (e2 _ _ c3 (e1.extBut _ _ c1 q))) ⟨oe,e3.extBut _ _ ez p1,p2⟩
 | some x =>
  have hy:ys[k]?=none:=by
   rcases hend with q | q
   ·rw[hx] at q;cases q
   ·exact q
  refine a9 (gN (h1.to λ o e=>e1.extBut _ _ D.n3 e) (hl1.to λ o e=>e1.extBut _ _ o1.1 e) hx λ g2 a2 e2=>i9 ?_)
  have b2:IsPair g2 TO a b:=e2.extBut _ _ D.n8 (e1.extBut _ _ D.n2 hto)
  refine a9 (ub0 b2 rfl ?_)
  refine a9 (uea b2 λ g3 b3 e3=>?_)
  refine a9 (ueh (i9 ?_))
  refine a9 (a9 (uet ?_))
  show o8 _ _ (Builtin.SmallTypes.nextOf (.ref i2) >>= _) _ _ { s with heap:=g3 }
  refine a9 (iP hh (h2.to λ o e=>e3.extBut _ _ D.n9.symm (e2.extBut _ _ D.n10.symm (e1.extBut _ _ D.n4 e))) (hl2.to λ o e=>e3.extBut _ _ o2.2.2.1 (e2.extBut _ _ o2.2.2.2.1 (e1.extBut _ _ o2.1 e))) hy λ g4 e e4 he=>?_)
  obtain⟨oe,p1,p2⟩:=he
  have z4:IsZip g4 z TI TO .ellipsis:=e4 _ _ D.n4.symm (e3.extBut _ _ D.n2.symm (e2.extBut _ _ D.n3.symm z1))
  have ez:e≠z:=λ q=>by subst q;rw[z4] at p1;cases p1;simp at p2
  exact uat z4 (by simp) λ g5 _ e5=>hE g5 e (λ c o c1 c2 c3 c4 q=>e5.extBut _ _ c1 (e4 _ _ c4 (e3.extBut _ _ c2 (e2.extBut _ _ c3 (e1.extBut _ _ c1 q))))) ⟨oe,e5.extBut _ _ ez p1,p2⟩
theorem vO {t1 t2:Bool}{z TI TO i1 i2 l1 l2:j4}{k:Nat}{xs ys:Array c9}{x y:c9}{Q:Option c9->d6->Prop}(D:Ap z TI TO i1 i2)(o1:Out z TI TO i1 i2 l1)(o2:Out z TI TO i1 i2 l2)
  (Z:Zd t1 t2 s.heap z TI TO i1 i2 l1 l2 .none k) (hl1:SqAt t1 s.heap l1 xs) (hl2:SqAt t2 s.heap l2 ys) (hx:xs[k]?=some x) (hy:ys[k]?=some y)
  (hQ:∀ h',Zd t1 t2 h' z TI TO i1 i2 l1 l2 (rawInt s.heap.objs.size) (k+1)->IsPair h' s.heap.objs.size x y->h'.objs.size=s.heap.objs.size+1 ->
   (∀ c o,c≠z->c≠TO->c≠i1->c≠i2->s.heap.get? c=some o->h'.get? c=some o)->Q (some (.ref s.heap.objs.size)) { s with heap:=h' }) :
  o8 (w8 prog w) A (pyNext (.ref z)) Q E s:=by
 have hT:s.TypeIs (.ref z) "zip":=⟨_,Z.z,rfl⟩
 unfold pyNext
 exact a9 (udu (uax (name := u5 "__next__") hT ud0 (ua9 ud0 hT F.entry_zip_next
     (wO D o1 o2 Z hl1 hl2 hx hy λ h' b1 b2 b3 b4=>i9 (hQ h' b1 b2 b3 b4)) (F.args_zip_next_1 _))))
theorem vN {t1 t2:Bool}{z TI TO i1 i2 l1 l2:j4}{k:Nat}{xs ys:Array c9}{Q:Option c9->d6->Prop}(hh:A.handled=none)(D:Ap z TI TO i1 i2)(o1:Out z TI TO i1 i2 l1)(o2:Out z TI TO i1 i2 l2)
  (Z:Zd t1 t2 s.heap z TI TO i1 i2 l1 l2 .none k) (hl1:SqAt t1 s.heap l1 xs) (hl2:SqAt t2 s.heap l2 ys) (hend:xs[k]?=none\/ys[k]?=none)
  (hQ:∀ h',(∀ c o,c≠z->c≠TO->c≠i1->c≠i2->s.heap.get? c=some o->h'.get? c=some o)->Q none { s with heap:=h' }):o8 (w8 prog w) A (pyNext (.ref z)) Q E s:=by
 have hT:s.TypeIs (.ref z) "zip":=⟨_,Z.z,rfl⟩
 unfold pyNext
 refine a9 (udu (uax (name := u5 "__next__") hT ud0 (ua9 ud0 hT F.entry_zip_next
     (wN hh D o1 o2 Z hl1 hl2 hend λ h' e hk he=>?_) (F.args_zip_next_1 _))))
 obtain⟨o,p1,p2⟩:=he
 exact a9 (wpAny_isInstance (T:="StopIteration") (b:=true) ⟨o,p1,p2⟩ isSubtype_stop (i9 (hQ _ hk)))
abbrev zh1 (h:Heap)(t1:Bool)(l1:j4):Heap:=h.push (itObj t1 l1)
abbrev zh2 (h:Heap)(t1 t2:Bool)(l1 l2:j4):Heap:=(zh1 h t1 l1).push (itObj t2 l2)
abbrev zh3 (h:Heap)(t1 t2:Bool)(l1 l2:j4):Heap:=(zh2 h t1 t2 l1 l2).push { cls:=.type "tuple",data:=.seq #[.ref h.objs.size,.ref (zh1 h t1 l1).objs.size] }
abbrev zh4 (h:Heap)(t1 t2:Bool)(l1 l2:j4):Heap:=(zh3 h t1 t2 l1 l2).push { cls:=.type "tuple",data:=.seq #[.none,.none] }
abbrev zh5 (h:Heap)(t1 t2:Bool)(l1 l2:j4):Heap:=(zh4 h t1 t2 l1 l2).push { cls:=.type "zip",data:=.fields #[.none,.bool false,.bool false,.ref (zh2 h t1 t2 l1 l2).objs.size,.ref (zh3 h t1 t2 l1 l2).objs.size] }
theorem yO (t1 t2:Bool)(l1 l2:j4)(xs ys:Array c9) :
  Meets (Builtin.«zip.__new__» ⟨[.type "zip",.ref l1,.ref l2],[]⟩) (λ _ R s=>SqAt t1 s.heap l1 xs/\SqAt t2 s.heap l2 ys/\R (.ok (.ret (.ref (zh4 s.heap t1 t2 l1 l2).objs.size))) { s with heap:=zh5 s.heap t1 t2 l1 l2 }) :=
 .of_wp λ prog w A R s h=>by
  obtain⟨hp,g,d,tk,os⟩:=s;obtain⟨hl1,hl2,h⟩:=h
  have hsub:=sub_zip
  have b1:SqAt t1 (Shared.heap ⟨hp,g,d,tk,os⟩) l1 xs:=hl1
  have b2:SqAt t2 (Shared.heap ⟨hp.push (itObj t1 l1),g,d,tk,os⟩) l2 ys:=SqAt.to hl2 λ o e=>b7 _ e
  wp_walk using fB b1,fB b2
  exact⟨_,rfl,h⟩
theorem yB {t1 t2:Bool}{l1 l2:j4}{xs ys:Array c9}{Q:c9->d6->Prop}(hl1:SqAt t1 s.heap l1 xs)(hl2:SqAt t2 s.heap l2 ys)
  (h:∀ h',Zd t1 t2 h' (s.heap.objs.size+4) (s.heap.objs.size+2) (s.heap.objs.size+3) s.heap.objs.size (s.heap.objs.size+1) l1 l2 .none 0->h'.objs.size=s.heap.objs.size+5 ->
   (∀ c o,s.heap.get? c=some o->h'.get? c=some o)->Q (.ref (s.heap.objs.size+4)) { s with heap:=h' }) :
  o8 (w8 prog w) A (call (.type "zip") [.ref l1,.ref l2]) Q E s:=by
 refine callType_new F.called_zip (by decide) (F.typeCall_zip_2 _ _) (F.newCall_zip_2 _ _) (λ obj=>F.args_object_init_3 obj _ _) F.entry_zip_new (yO t1 t2 l1 l2 xs ys) ⟨hl1,hl2,?_⟩
 have z1:(zh1 s.heap t1 l1).objs.size=s.heap.objs.size+1:=uba ..
 have z2:(zh2 s.heap t1 t2 l1 l2).objs.size=s.heap.objs.size+2:=by rw[uba,z1]
 have z3:(zh3 s.heap t1 t2 l1 l2).objs.size=s.heap.objs.size+3:=by rw[uba,z2]
 have z4:(zh4 s.heap t1 t2 l1 l2).objs.size=s.heap.objs.size+4:=by rw[uba,z3]
 have z5:(zh5 s.heap t1 t2 l1 l2).objs.size=s.heap.objs.size+5:=by rw[uba,z4]
 have g5:(zh5 s.heap t1 t2 l1 l2).get? (zh4 s.heap t1 t2 l1 l2).objs.size=some _:=j0 _ rfl
 have g4:(zh5 s.heap t1 t2 l1 l2).get? (zh3 s.heap t1 t2 l1 l2).objs.size=some _:=b7 _ (j0 _ rfl)
 have g3:(zh5 s.heap t1 t2 l1 l2).get? (zh2 s.heap t1 t2 l1 l2).objs.size=some _:=b7 _ (b7 _ (j0 _ rfl))
 have g2:ItAt t2 (zh5 s.heap t1 t2 l1 l2) (zh1 s.heap t1 l1).objs.size l2 0:=(ItAt.new (t:=t2) (h:=zh1 s.heap t1 l1) (l:=l2)).to λ o e=>b7 _ (b7 _ (b7 _ e))
 have g1:ItAt t1 (zh5 s.heap t1 t2 l1 l2) s.heap.objs.size l1 0:=(ItAt.new (t:=t1) (h:=s.heap) (l:=l1)).to λ o e=>b7 _ (b7 _ (b7 _ (b7 _ e)))
 show _/\_
 rw[z2,z3,z4] at g5
 rw[z1,z2] at g3
 rw[z3] at g4
 rw[z1] at g2
 rw[z4]
 exact⟨⟨_,g5,rfl⟩,h _ ⟨g5,g3,⟨_,_,g4⟩,g1,g2⟩ z5 λ c o q=>b7 _ (b7 _ (b7 _ (b7 _ (b7 _ q))))⟩
theorem zbj (n:Nat):Ap (n+4) (n+2) (n+3) n (n+1):=by
 constructor <;> (show (_:Nat)≠(_:Nat)) <;> left
theorem nQ {n l:Nat}(h:l<n):Out (n+4) (n+2) (n+3) n (n+1) l:=by
 refine⟨?_,?_,?_,?_,?_⟩ <;> (show (_:Nat)≠(_:Nat)) <;> left
end
end Z3
namespace U3
open PySem PyProof.Rows
section
variable {prog:m3}{w:uac}{A:v6}{E:c9->d6->Prop}{s:d6}
theorem mV {it l:j4}{xs:Array c9}(hne:l≠it):∀ (n i:Nat)(s:d6)(Q:List c9->d6->Prop),s.heap.IsListIter it l i->s.heap.IsList l xs->i+n<=xs.size ->
  (∀ h',h'.IsListIter it l (i+n)->Heap.SameBut it s.heap h'->Q ((xs.toList.drop i).take n) { s with heap:=h' })->o8 (w8 prog w) A (draw (.ref it) n) Q E s
 | 0,i,s,Q,hi,_,_,h=>by
  show o8 _ _ (pure []) Q E s
  exact i9 (by simpa using h s.heap hi (Heap.SameBut.refl ..))
 | n+1,i,s,Q,hi,hl,hle,h=>by
  have lt:i<xs.size:=by left
  show o8 _ _ (pyNext (.ref it) >>= _) Q E s
  refine a9 (wpAny_pyNext_list_item hi hl (x:=xs[i]) (by simp [lt]) λ g1 i1 e1=>?_)
  refine a9 (uaw (mV hne n (i+1) _ _ i1 (hl.extBut e1.extBut hne) (by left) λ g2 i2 e2=>i9 ?_))
  have hd:xs.toList.drop i=xs[i]::xs.toList.drop (i+1):=by simp [uc7,lt]
  have q:=h g2 (by rw[show i+(n+1)=i+1+n by left];exact i2) (e1.trans e2)
  rw[hd,List.take_succ_cons] at q
  exact q
theorem tX {l:j4}{xs:Array c9}{targets:List (Bool × (c9->Sem Unit))}{Q:Unit->d6->Prop}(hh:A.handled=none)(hl:s.heap.IsList l xs)
  (hn:targets.length=xs.size) (hs:targets.findIdx? (·.1)=none)
  (h:∀ h',udf s.heap.objs.size s.heap h'->o8 (w8 prog w) A (assignInOrder (targets.map (·.2)) xs.toList) Q E { s with heap:=h' }) :
  o8 (w8 prog w) A (unpack (.ref l) targets) Q E s:=by
 have ne:l≠s.heap.objs.size:=by obtain⟨o,ho,_⟩:=hl;exact j6 (i8 ho)
 unfold unpack
 rw[hn,hs]
 refine a9 (uaw ?_)
 unfold unpackItems
 refine a9 ?_
 unfold notIterableAtAll
 refine a9 (wpAny_specialOf hl.typeIs slot_list_iter.lookup ?_)
 refine i9 ?_
 simp only [uay,if_false]
 refine a9 (uaw (ucp hl ?_))
 refine a9 (uaw (mV ne xs.size 0 _ _ ⟨_,j0 _ rfl,rfl,rfl⟩ (hl.push _) (by left) λ g1 i1 e1=>?_))
 have all:List.take xs.size (List.drop 0 xs.toList)=xs.toList:=by
  rw[List.drop_zero];exact uby (by simp)
 rw[all,ufp (by simp)]
 have l1:g1.IsList l xs:=(hl.push _).extBut e1.extBut ne
 refine a9 (uaw (wpAny_pyNext_list_end hh i1 l1 (by simp) λ g2 e2=>?_))
 simp only [Option.isSome_none,uay,if_false]
 exact i9 (h g2 λ b o hb e=>e2 b o hb (e1.extBut b o hb (b7 _ e)))
theorem assign_tuple_lst {env:Env}{elts:List ubl} {x1} {pos:Pos} {l:j4} {xs:Array c9} {Q:Unit->d6->Prop} (hh:A.handled=none) (hl:s.heap.IsList l xs)
  (hn:(assignEach elts env).length=xs.size) (hs:(assignEach elts env).findIdx? (·.1)=none)
  (h:∀ h',udf s.heap.objs.size s.heap h'->o8 (w8 prog w) A (assignInOrder ((assignEach elts env).map (·.2)) xs.toList) Q E { s with heap:=h' }) :
  o8 (w8 prog w) A (assign (.Tuple elts x1 pos) env (.ref l)) Q E s:=by
 rw[assign_Tuple]
 exact a9 (ues (tX hh hl hn hs h))
end
end U3
namespace L3
open PySem PySem.Spec PyProof.Rows L2
abbrev Fls:c9->d6->Prop:=λ _ _=>False
abbrev testsOf (ifs:List ubl)(env:Env):Sem Bool :=
 forIn ifs true λ c r=>if r=true then do let ok ← isTrue c env (eval c env);pure (ForInStep.yield ok) else pure (ForInStep.yield r)
section
variable {prog:m3}{w:uac}{A:v6}{R:Result->d6->Prop}{s:d6}
theorem uN {elt tg iter:ubl}{ifs:List ubl}{scope:ucd}{pos:Pos}{it acc:c9}{env:Env}(W:Nat->d6->Prop)
  (step:∀ n s,W n s->o8 (w8 prog w) A (pyNext it) (λ r s1=>(r=none/\R (.ok .next) s1)\/∃ v,r=some v /\
   o8 (w8 prog w) A (letOwnedTupleGo tg it v) (λ _ s2=>o8 (w8 prog w) A (assign tg env v) (λ _ s3 =>
    o8 (w8 prog w) A (testsOf ifs env) (λ ok s4=>if ok=true then o8 (w8 prog w) A (eval elt env) (λ x s5 =>
     o8 (w8 prog w) A (call (.builtin "list.append") [acc,x]) (λ _ s6=>∃ m,m<n/\W m s6) Fls s5) Fls s4 else ∃ m,m<n/\W m s4) Fls s3) Fls s2) Fls s1) Fls s)
  (n:Nat) (h:W n s):codeAny (w8 prog w) A (.compLoop (.ListComp elt [⟨tg,iter,ifs,0⟩] scope pos) 0 it acc env) R s:=by
 refine codeAny_loop rfl W (λ k s1 hk=>?_) n h
 show o8 _ A ((compTurn (.ListComp elt [⟨tg,iter,ifs,0⟩] scope pos) 0 it acc env).onRaise (λ x=>do noteFrame x env;theTreesLotGoes x)) _ _ s1
 refine wpAny_noted ?_
 rw[compTurn_list]
 refine a9 (ues (a9 (ua7 (step k s1 hk) (λ r s2 h2=>?_) λ _ _ z=>z.elim)))
 rcases h2 with ⟨rfl,h2⟩ | ⟨v,rfl,h2⟩
 ·exact i9 h2
 ·refine a9 (ua7 h2 (λ _ s3 h3=>?_) λ _ _ z=>z.elim)
  refine a9 (ua7 h3 (λ _ s4 h4=>?_) λ _ _ z=>z.elim)
  refine a9 (ua7 h4 (λ ok s5 h5=>?_) λ _ _ z=>z.elim)
  cases ok with
  | false=>exact i9 ⟨rfl,h5⟩
  | true =>
   refine a9 (a9 (ua7 h5 (λ x s6 h6=>?_) λ _ _ z=>z.elim))
   refine a9 (ua7 h6 (λ _ s7 h7=>?_) λ _ _ z=>z.elim)
   exact i9 (i9 ⟨rfl,h7⟩)
end
def clOf (cells:List (Str × j4)):List (Str × NameKind)->List (Str × j4)->List (Str × j4)
 | [],cs=>cs
 | (n,k)::r,cs=>clOf cells r (if k=.free then (n,(cells.lookup n).getD 0)::cs else cs)
theorem mY {cells:List (Str × j4)}:∀ {names:List (Str × NameKind)}{cs:List (Str × j4)}{p:Str × j4},p∈clOf cells names cs->p∈cs\/((p.1,NameKind.free)∈names/\p.2=(cells.lookup p.1).getD 0)
 | [],_,_,h=>.inl h
 | (n,k)::r,cs,p,h=>by
  rcases mY (names:=r) h with q | ⟨q1,q2⟩
  ·by_cases hk:k=.free
   ·rw[ufo hk] at q
    rcases k8.mp q with e | q
    ·subst e;subst hk;exact .inr ⟨i3,rfl⟩
    ·exact .inl q
   ·rw[ufp hk] at q;exact .inl q
  ·exact .inr ⟨j7 _ q1,q2⟩
theorem mZ {cells:List (Str × j4)}:∀ {names:List (Str × NameKind)}{cs:List (Str × j4)}{x:Str},((x,NameKind.free)∈names\/∃ c,(x,c)∈cs)->∃ c,(x,c)∈clOf cells names cs
 | [],_,_,h=>h.elim (λ z=>nomatch z) id
 | (n,k)::r,cs,x,h=>by
  refine mZ (names:=r) ?_
  rcases h with h | ⟨c,h⟩
  ·rcases k8.mp h with e | h
   ·cases e
    exact .inr ⟨_,by rw[ufo rfl];exact i3⟩
   ·exact .inl h
  ·refine .inr ⟨c,?_⟩
   split
   ·exact j7 _ h
   ·exact h
theorem hJ {env:Env}:∀ (names:List (Str × NameKind))(cs:List (Str × j4)),(∀ y∈names,y.2=.free->∃ c,env.cells.lookup y.1=some c) ->
  (forIn names cs λ x r=>(match x with | (n,k)=>if (k==NameKind.free)=true then do let c ← cellOf env n;pure (ForInStep.yield ((n,c)::r)) else pure (ForInStep.yield r):Sem (ForInStep (List (Str × j4)))))=pure (clOf env.cells names cs)
 | [],cs,_=>rfl
 | (n,k)::r,cs,h=>by
  rw[ue0]
  by_cases hk:k=.free
  ·subst hk
   obtain⟨c,hc⟩:=h (n,.free) i3 rfl
   have e1:cellOf env n=pure c:=by unfold cellOf;rw[hc]
   have e2:clOf env.cells ((n,NameKind.free)::r) cs=clOf env.cells r ((n,c)::cs):=by
    show clOf env.cells r (if NameKind.free=NameKind.free then (n,(env.cells.lookup n).getD 0)::cs else cs)=_
    rw[ufo rfl,hc]
    rfl
   rw[e2,← hJ r ((n,c)::cs) λ y hy=>h y (j7 _ hy)]
   simp only [beq_self_eq_true,if_true,e1,pure_bind]
  ·have e2:clOf env.cells ((n,k)::r) cs=clOf env.cells r cs:=by
    show clOf env.cells r (if k=NameKind.free then _ else cs)=_
    rw[ufp hk]
   have hb:(k==NameKind.free)=false:=by simpa using hk
   rw[e2,← hJ r cs λ y hy=>h y (j7 _ hy)]
   simp only [hb,uay,if_false,pure_bind]
theorem uO {scope:ucd}{env:Env}(h:∀ y∈scope.names,y.2=.free->∃ c,env.cells.lookup y.1=some c):closureFor scope env=pure (clOf env.cells scope.names []):=by
 have q:=hJ (env:=env) scope.names [] h
 unfold closureFor
 refine Eq.trans ?_ q
 first | rfl | simp
theorem jW {env:Env}:∀ {names:List (Str × NameKind)}{x:Str},names.lookup x=some .free ->
  (names.map λ (n,k)=>if (k==NameKind.free&&env.scope.kind==.function&&env.kindOf n==some .cell) then (n,NameKind.cell) else (n,k)).lookup x=some .cell \/
  (names.map λ (n,k)=>if (k==NameKind.free&&env.scope.kind==.function&&env.kindOf n==some .cell) then (n,NameKind.cell) else (n,k)).lookup x=some .free
 | [],_,h=>by simp at h
 | (n,k)::r,x,h=>by
  have ih:=@jW env r x
  rw[ubg]
  by_cases hx:(x==n)=true
  ·rw[uaj,hx] at h
   have h':k=.free:=by simpa using h
   subst h'
   dsimp only
   split
   ·apply j8;rw[uaj,hx]
   ·apply ue9;rw[uaj,hx]
  ·have hx':(x==n)=false:=by simpa using hx
   rw[uaj,hx'] at h
   dsimp only
   split
   ·rw[uaj,hx'];exact ih h
   ·rw[uaj,hx'];exact ih h
theorem kO {env:Env}:∀ {names:List (Str × NameKind)}{x:Str},(∀ y∈names,y.2≠.cell) ->
  ((names.map λ (n,k)=>if (k==NameKind.free&&env.scope.kind==.function&&env.kindOf n==some .cell) then (n,NameKind.cell) else (n,k)).lookup x=some .cell \/
  (names.map λ (n,k)=>if (k==NameKind.free&&env.scope.kind==.function&&env.kindOf n==some .cell) then (n,NameKind.cell) else (n,k)).lookup x=some .free)->(x,NameKind.free)∈names
 | [],_,_,h=>by simp at h
 | (n,k)::r,x,hc,h=>by
  rw[ubg] at h
  by_cases hx:(x==n)=true
  ·have e:x=n:=by simpa using hx
   subst e
   dsimp only at h
   by_cases hk:(k==NameKind.free&&env.scope.kind==.function&&env.kindOf x==some .cell)=true
   ·rw[ufo hk] at h
    have:k=.free:=by
     simp only [r9] at hk
     simpa using hk.1.1
    subst this
    exact i3
   ·rw[ufp hk,uaj,hx] at h
    rcases h with h | h
    ·exact absurd (by simpa using h) (hc (x,k) i3)
    ·have:k=.free:=by simpa using h
     subst this
     exact i3
  ·have hx':(x==n)=false:=by simpa using hx
   refine j7 _ (kO (env:=env) (λ y hy=>hc y (j7 _ hy)) ?_)
   dsimp only at h
   split at h
   ·rw[uaj,hx'] at h;exact h
   ·rw[uaj,hx'] at h;exact h
def compOk (N:List Str)(sc0 scope:ucd)(fr:List Str)(js:List Nat):Bool :=
 decide (scope.kind=.function)&&(scope.names.all λ y=>decide (y.2≠.cell)&&(decide (y.2≠.free)||decide (sc0.names.lookup y.1=some .cell)||decide (sc0.names.lookup y.1=some .free)) &&
  (decide (y.2≠.local)||decide (scope.names.lookup y.1=some .local)))&&decide (fr.length=js.length) &&
 ((fr.zip js).all λ p=>decide (N[p.2]?=some p.1)&&decide (scope.names.lookup p.1=some .free)&&(decide (sc0.names.lookup p.1=some .cell)||decide (sc0.names.lookup p.1=some .free)))
def cxComp (X:Cx)(own fr:List Str)(scope:ucd)(fp:List j4)(pins:List (j4 × Obj))(s3:d6)(H3:Hp):Cx :=
 { X with N:=own++fr,s₀:=s3,H₀:=H3,env:=compEnvC scope (clOf X.env.cells scope.names []) s3.heap.objs.size X.env,outer:=X.stack,stack:=X.stack,ex:=fp,fn:=λ _=>false,pn:=X.pn++pins,xe:=Fls }
def PTs (X:Cx)(ifs:List ubl)(t:TT):Prop :=
 ∀ (pins:List (j4 × Obj))(s:d6)(σ:L2.St)(H:Hp)(Q:Bool->Hp->Prop),Inv X pins σ H s->t σ H Q->o8 (w8 X.prog X.w) X.A (testsOf ifs X.env) (TP X pins σ Q) X.xe s
def tTrue:TT:=λ _ H Q=>Q true H
theorem cO {X:Cx}:PTs X [] tTrue:=λ _ _ _ H _ I h=>wpAny_tests_nil ⟨H,I,h⟩
theorem cV {X:Cx}{c:ubl}{t:TT}(h:PT X c t):PTs X [c] t:=λ pins s σ H Q I q=>wpAny_tests_one (h pins s σ H Q I q)
def start3 (own:List Str)(js:List Nat)(σ:L2.St):L2.St:=k9 own.length none++js.map λ j=>(σ[j]?).join
def CompGo (own:List Str)(js:List Nat)(g:TG)(tt:TT)(te:TE)(σ:L2.St)(Q:VK)(J:It)(H1:Hp):Prop:=∀ D,H1 D=none->∃ W:Nat->Nat->List V->L2.St->Hp->Prop,
 (∃ m,W 0 m [] (start3 own js σ) (upd H1 D (.lst [])))/\∀ i m ys σ' H',W i m ys σ' H'->H' D=some (.lst ys) ->
  (J.stop i H'/\Q (.ref D) H')\/(J.go i H'/\∀ x H2,J.yld i H' x H2->g x σ' H2 λ σ3 H3=>tt σ3 H3 λ b H4 =>
   if b=true then te σ3 H4 λ v H5=>H5 D=some (.lst ys)/\ys.length<o9/\∃ m',m'<m/\W (i+1) m' (ys++[v]) σ3 (upd H5 D (.lst (ys++[v])))
   else H4 D=some (.lst ys)/\∃ m',m'<m/\W (i+1) m' ys σ3 H4)
def tComp (own:List Str)(js:List Nat)(wi:TI)(g:TG)(tt:TT)(te:TE):TE:=λ σ H Q=>wi σ H λ J H1=>CompGo own js g tt te σ Q J H1
section
variable {X:Cx}{elt tg iter:ubl}{ifs:List ubl}{scope sc0:ucd}{pos:Pos}{own fr N:List Str}{js:List Nat}{wi:TI}{g:TG}{tt:TT}{te:TE}
theorem vV {σ:L2.St}{js:List Nat}{k:Nat}{v:V}(e:(js.map λ j=>(σ[j]?).join)[k]?=some (some v)):∃ j,js[k]?=some j/\σ[j]?=some (some v):=by
 rw[j5] at e
 cases hj:js[k]? with
 | none=>rw[hj] at e;cases e
 | some j =>
  rw[hj] at e
  refine⟨j,rfl,?_⟩
  have e':(σ[j]?).join=some v:=by simpa using e
  cases hs:σ[j]? with
  | none=>rw[hs] at e';cases e'
  | some o=>rw[hs] at e';exact congrArg some e'
theorem xR {pins:List (j4 × Obj)}{σ:L2.St}{H3:Hp}{s3:d6}{fp:List j4}{h4:Heap}{t4:Nat}{m4:Str->Option c9}
  (hN:X.N=N) (hsc:X.env.scope=sc0) (hok:compOk N sc0 scope fr js=true) (I:Inv X pins σ H3 s3) (hf:∀ b∈fp,FpOk X pins H3 b) (hlt:∀ b∈fp,b<s3.heap.objs.size)
  (k:∀ b o,s3.heap.get? b=some o->h4.get? b=some o) (hns:h4.Ns s3.heap.objs.size m4):Inv (cxComp X own fr scope fp pins s3 H3) [] (start3 own js σ) H3 { s3 with heap:=h4,toks:=t4 }:=by
 subst hN hsc
 unfold compOk at hok
 simp only [r9,decide_eq_true_eq,uap] at hok
 obtain⟨⟨⟨hk,hall⟩,hlen⟩,hfr⟩:=hok
 have hfree:∀ y∈scope.names,y.2=.free->∃ c,X.env.cells.lookup y.1=some c:=λ y hy e=>by
  have q:=(hall y hy).1.2
  simp only [ue1,decide_eq_true_eq] at q
  rcases q with (q | q) | q
  ·exact absurd e q
  ·exact I.ok.has y.1 (.inl q)
  ·exact I.ok.has y.1 (.inr q)
 have hcl:∀ x c,(clOf X.env.cells scope.names []).lookup x=some c->X.env.cells.lookup x=some c:=λ x c e=>by
  rcases mY (v8 e) with z | ⟨z1,z2⟩
  ·exact absurd z (by simp)
  ·obtain⟨c',hc'⟩:=hfree _ z1 rfl
   have hc'':X.env.cells.lookup x=some c':=hc'
   have z2':c=(X.env.cells.lookup x).getD 0:=z2
   rw[hc''] at z2' ⊢
   simp at z2'
   rw[z2']
 have hasC:∀ x,(x,NameKind.free)∈scope.names->∃ c,(clOf X.env.cells scope.names []).lookup x=some c:=λ x hx=>by
  obtain⟨c,hc⟩:=mZ (cells:=X.env.cells) (cs:=[]) (.inl hx)
  cases q:(clOf X.env.cells scope.names []).lookup x with
  | some c'=>exact⟨c',rfl⟩
  | none =>
   have:∀ (l:List (Str × j4)),(x,c)∈l->l.lookup x≠none:=λ l=>by
    induction l with
    | nil=>intro z;cases z
    | cons p r ih =>
     intro z
     obtain⟨p1,p2⟩:=p
     rw[uaj]
     rcases k8.mp z with z | z
     ·cases z
      simp
     ·split
      ·simp
      ·exact ih z
   exact absurd q (this _ hc)
 have hcell:∀ y∈scope.names,y.2≠.cell:=λ y hy=>(hall y hy).1.1
 have sz:X.base.objs.size<=s3.heap.objs.size:=r8 I.ok.bsz I.sz
 refine⟨⟨I.ok.mod,hk,I.ok.glob,I.ok.blt,d8 _,λ x y c e1 e2=>I.ok.inj x y c (hcl x c e1) (hcl y c e2),λ x hx=>hasC x (kO hcell hx),λ x c z=>absurd z (by simp [cxComp]),
  I.ok.hd,I.ok.frames,.inl rfl,λ b hb=>⟨j6 (hlt b hb),λ x c e=>(hf b hb).2.2.2.2.1 x c (hcl x c e)⟩,I.bs,sz,λ b o e hb=>?_,λ b hb z=>?_,I.stack,I.stkFree⟩,
  rfl,I.bare,Un.kept k,⟨m4,hns,λ i x v e1 e2 e3=>?_⟩,λ x c e=>?_,I.hok.fresh (d8 _),λ x c e=>I.freeC x c (hcl x c e),λ p hp=>?_,I.hok.kept k,?_⟩
 ·obtain⟨_,_,_,f3,_⟩:=hf b hb
  rcases f3 with f3 | f3
  ·exact I.ok.noex b o e f3
  ·exact absurd (o3 (i8 e) (r8 I.ok.bsz f3)) (ubi _)
 ·obtain⟨_,f1,f2,_⟩:=hf b hb
  rcases k8.mp (I.stkSub b z) with z | z
  ·exact f1 z
  ·exact f2 z
 ·have e2':(k9 own.length (none:Option V)++js.map λ j=>(σ[j]?).join)[i]?=some (some v):=e2
  have e1':(own++fr)[i]?=some x:=e1
  by_cases hi:i<own.length
  ·rw[uai (by simpa using hi),ucf,ufo hi] at e2'
   cases e2'
  ·rw[uaa (by simpa using hi),v5] at e2'
   rw[uaa (by left)] at e1'
   obtain⟨j,hj,hv⟩:=vV e2'
   have hz:(fr.zip js)[i-own.length]?=some (x,j):=by
    rw[ufa]
    exact⟨e1',hj⟩
   have q:=hfr _ (i6 hz)
   obtain⟨⟨q1,q2⟩,q3⟩:=q
   have q3'':X.env.scope.names.lookup x=some .cell\/X.env.scope.names.lookup x=some .free:=by simpa using q3
   have q3':X.env.kindOf x=some .cell\/X.env.kindOf x=some .free:=q3''
   obtain⟨m,hn,hl⟩:=I.loc
   obtain⟨u,r,l⟩:=hl j x v q1 hv (q3'.elim (λ z=>.inr (.inl z)) λ z=>.inr (.inr z))
   refine⟨u,r,.inr ⟨jW q2,?_⟩⟩
   rcases l with ⟨z,_⟩ | ⟨_,c,hc,hcellv⟩
   ·rcases q3' with w | w <;> (rw[z] at w;cases w)
   ·obtain⟨c',hc'⟩:=hasC x (v8 q2)
    have e:=hcl x c' hc'
    rw[hc] at e
    cases e
    obtain⟨o,ho,hd⟩:=hcellv
    exact⟨c,hc',o,k c o ho,hd⟩
 ·obtain⟨v,o,ho,hd⟩:=I.cell x c (hcl x c e)
  exact⟨v,o,k c o ho,hd⟩
 ·have hp':p∈X.pn++pins:=by
   have:p∈(X.pn++pins)++([]:List (j4 × Obj)):=hp
   simpa using this
  obtain⟨a,b,c,d,f⟩:=I.pin p hp'
  refine⟨k _ _ a,b,j6 (i8 a),λ z=>?_,f⟩
  rcases k8.mp (I.stkSub p.1 z) with z | z
  ·exact c z
  ·exact d z
 ·show (k9 own.length (none:Option V)++js.map λ j=>(σ[j]?).join).length=(own++fr).length
  simp [hlen]
theorem lQ {pins:List (j4 × Obj)}{s:d6}{σ:L2.St}{H:Hp}{Q:VK}{use:Option (c9->Sem Unit)}{Qo:c9->d6->Prop}{cpos:Pos}
  (hc:X.calm=true) (hi:PI X tg iter wi) (hg:∀ fp pins s3 H3,PG (cxComp X own fr scope fp pins s3 H3) tg g) (ht:∀ fp pins s3 H3,PTs (cxComp X own fr scope fp pins s3 H3) ifs tt)
  (he:∀ fp pins s3 H3,PE (cxComp X own fr scope fp pins s3 H3) elt te) (hok:compOk N sc0 scope fr js=true) (hN:X.N=N) (hsc:X.env.scope=sc0)
  (hs:∀ x,foldedSetIterable iter X.env x=pure x) (I:Inv X pins σ H s) (h:tComp own js wi g tt te σ H Q)
  (fin:∀ (C D:j4)(s6:d6)(H6:Hp)(m6:Str->Option c9),Inv X pins σ H6 s6->FpOk X pins H6 C->s6.heap.Ns C m6->Q (.ref D) H6->compPost (w8 X.prog X.w) X.A X.xe use Qo (.ref D) C (.ok .next) s6) :
  o8 (w8 X.prog X.w) X.A (comprehension (.ListComp elt [⟨tg,iter,ifs,0⟩] scope pos) scope X.env cpos (newList []) false (eval iter X.env) use) Qo X.xe s:=by
 have hok':=hok
 unfold compOk at hok'
 simp only [r9,decide_eq_true_eq,uap] at hok'
 obtain⟨⟨⟨hk,hall⟩,hlen⟩,hfr⟩:=hok'
 have hcell:∀ y∈scope.names,y.2≠.cell:=λ y hy=>(hall y hy).1.1
 have hloc:∀ y∈scope.names,y.2=.local->scope.names.lookup y.1=some .local:=λ y hy e=>by
  have q:=(hall y hy).2
  simp only [ue1,decide_eq_true_eq] at q
  rcases q with q | q
  ·exact absurd e q
  ·exact q
 have hfree:∀ y∈scope.names,y.2=.free->∃ c,X.env.cells.lookup y.1=some c:=λ y hy e=>by
  have q:=(hall y hy).1.2
  simp only [ue1,decide_eq_true_eq] at q
  rw[← hsc] at q
  rcases q with (q | q) | q
  ·exact absurd e q
  ·exact I.ok.has y.1 (.inl q)
  ·exact I.ok.has y.1 (.inr q)
 refine wpAny_comprehension_free (use:=use) rfl hs (uO hfree) hk hloc (thn (hi pins s σ H _ I h) λ v s1 h1=>thn h1 λ itv s2 h2=>?_)
 obtain⟨it,fp,tn,J,H2,e,I2,T,st2,f2,rd⟩:=h2
 subst e
 have hD2:H2 s2.heap.objs.size=none:=I2.fresh
 obtain⟨W,⟨m0,w0⟩,turn⟩:=rd s2.heap.objs.size hD2
  -- the new list
 refine uc1 ?_ (uad _)
 have I3:Inv X pins σ (upd H2 s2.heap.objs.size (.lst [])) { s2 with heap:=s2.heap.push { cls:=.type "list",data:=.seq ([]:List c9).toArray } }:=I2.lnew (t':=s2.toks) .nil (uad _)
 generalize hs3:({ s2 with heap:=s2.heap.push { cls:=.type "list",data:=.seq ([]:List c9).toArray } }:d6)=s3 at I3
 generalize hD:s2.heap.objs.size=D at *
 have fpl:∀ b∈fp,b<D:=λ b hb=>by
  obtain⟨o,ho,_⟩:=T.obj _ _ st2 b hb
  rw[← hD];exact i8 ho
 have k23:∀ b o,s2.heap.get? b=some o->s3.heap.get? b=some o:=λ b o e=>by rw[← hs3];exact b7 _ e
 have hD3:s3.heap.objs.size=D+1:=by rw[← hs3,← hD];exact uba ..
 have f3:∀ b∈fp,FpOk X pins (upd H2 D (.lst [])) b:=λ b hb=>by
  obtain⟨f0,f⟩:=f2 b hb
  exact⟨by rw[aK (j6 (fpl b hb))];exact f0,f⟩
 refine ueb hcell (by intro y hy;simp at hy) (λ h4 hns4 hsb4=>?_) hk
 have k34:∀ b o,s3.heap.get? b=some o->h4.get? b=some o:=λ b o e=>hsb4.extBut b o (j6 (i8 e)) (b7 _ e)
 have I4:=xR (own:=own) (t4:=s3.toks+([]:List (Str × c9)).length) hN hsc hok I3 f3 (λ b hb=>o3 (fpl b hb) (by rw[hD3];exact uce _)) k34 hns4
 have tn4:tn 0 h4:=T.keep 0 s2.heap h4 st2 λ b hb o e=>k34 b o (k23 b o e)
 have I4o:=I4.ok
 have fpS:∀ {H'':Hp},(∀ b∈fp,H'' b=none)->∀ b∈fp,FpOk (cxComp X own fr scope fp pins s3 (upd H2 D (.lst []))) [] H'' b:=λ hn b hb =>
  ⟨hn b hb,(I4o.exf b hb).1,I4o.exfs b hb,.inl hb,(I4o.exf b hb).2,λ p hp=>(f2 b hb).2.2.2.2.2 p (by
   have:p∈(X.pn++pins)++([]:List (j4 × Obj)):=hp
   simpa using this)⟩
 have loop : codeAny (w8 X.prog X.w) X.A (.compLoop (.ListComp elt [⟨tg, iter, ifs, 0⟩] scope pos) 0 (.ref it) (.ref D) (compEnvC scope (clOf X.env.cells scope.names []) s3.heap.objs.size X.env))
     (compPost (w8 X.prog X.w) X.A X.xe use Qo (.ref D) s3.heap.objs.size) { s3 with heap:=h4,toks:=s3.toks+([]:List (Str × c9)).length }:=by
  refine uN (λ n s'=>∃ i ys σ' H',Inv (cxComp X own fr scope fp pins s3 (upd H2 D (.lst []))) [] σ' H' s'/\tn i s'.heap/\(∀ b∈fp,H' b=none)/\H' D=some (.lst ys)/\W i n ys σ' H')
   ?step m0 ⟨0,[],_,_,I4,tn4,λ b hb=>(f3 b hb).1,aM,w0⟩
  rintro n s5 ⟨i,ys,σ5,H5,I5,tn5,fr5,d5,w5⟩
  rcases turn i n ys σ5 H5 w5 d5 with ⟨stop,q⟩ | ⟨go,stp⟩
  ·refine thn (T.done (cxComp X own fr scope fp pins s3 (upd H2 D (.lst []))) rfl rfl rfl hc i [] s5 σ5 H5 Fls I5 (fpS fr5) tn5 stop) λ r s6 ⟨hr,I6⟩=>.inl ⟨hr,?_⟩
   obtain⟨m6,hn6,_⟩:=id I6.loc
   have u1:Un (frs X.stack) fp H2 H5 s2.heap s6.heap:=(Un.laid k23 (udv hD) hD2).trans I6.base
   have fC:H5 s3.heap.objs.size=none:=I6.free
   have IX:Inv X pins σ H5 s6:=I2.call' (s':=s6) (ch:=fp) (by
    have:=I6.os
    rw[← hs3] at this
    exact this) u1 I6.hok I6.bare λ b hb=>by
     obtain⟨_,g1,_,g3,g4,g5⟩:=f2 b hb
     exact⟨g3,g1,g4,g5⟩
   exact fin s3.heap.objs.size D s6 H5 m6 IX (I2.fpOk (by rw[hD3,hD];exact uce _) fC) hn6 q
  ·refine thn (T.item (cxComp X own fr scope fp pins s3 (upd H2 D (.lst []))) rfl rfl rfl hc i [] s5 σ5 H5 Fls I5 (fpS fr5) tn5 go) λ r s6 ⟨u,hr,h6⟩=>.inr ⟨u,hr,thn h6 λ _ s7 ⟨x,H7,I7,r7,y7,tn7,fr7⟩=>?_⟩
   have I7':=I7.pinned (fpS fr7) (T.obj _ _ tn7)
   refine thn (hg fp pins s3 (upd H2 D (.lst [])) _ s7 σ5 H7 x u _ I7' r7 (stp x H7 y7)) λ _ s8 ⟨σ8,H8,I8,q8⟩=>?_
   refine thn (ht fp pins s3 (upd H2 D (.lst [])) _ s8 σ8 H8 _ I8 q8) λ ok s9 ⟨H9,I9,q9⟩=>?_
   have back:∀ {σ':L2.St}{H':Hp}{s':d6},Inv (cxComp X own fr scope fp pins s3 (upd H2 D (.lst []))) ([]++pinsAt fp s7.heap) σ' H' s'->tn (i+1) s'.heap/\∀ b∈fp,H' b=none:=λ {σ' H' s'} J=>by
    refine⟨T.keep _ _ _ tn7 λ b hb o e=>(J.pin (b,o) (m9 _ (m9 _ (fN hb e)))).1,λ b hb=>?_⟩
    obtain⟨o,e,_⟩:=T.obj _ _ tn7 b hb
    exact (J.pin (b,o) (m9 _ (m9 _ (fN hb e)))).2.1
   cases ok with
   | false =>
    rw[ufp i7] at q9
    obtain⟨d9,m',hm,w9⟩:=q9
    rw[ufp i7]
    exact⟨m',hm,i+1,ys,σ8,H9,I9.unpinned,(back I9).1,(back I9).2,d9,w9⟩
   | true =>
    rw[ufo rfl] at q9 ⊢
    refine thn (he fp pins s3 (upd H2 D (.lst [])) _ s9 σ8 H9 _ I9 q9) λ xv s10 ⟨v,H10,I10,r10,d10,len,m',hm,w10⟩=>?_
    refine thn (fT (X:=cxComp X own fr scope fp pins s3 (upd H2 D (.lst []))) _ s10 σ8 H10 (.ref D) [v] (.ref D) [xv] (λ _ H'=>H'=upd H10 D (.lst (ys++[v]))) I10 rfl (.cons r10 .nil) ⟨D,ys,v,rfl,rfl,d10,len,rfl⟩) λ _ s11 ⟨_,H11,I11,_,e11⟩=>?_
    subst e11
    exact⟨m',hm,i+1,ys++[v],σ8,_,I11.unpinned,(back I11).1,(back I11).2,aM,w10⟩
 exact codeAny_compStart_list loop (T.self X.A 0 _ _ _ tn4 loop)
theorem bY (hc:X.calm=true)(hi:PI X tg iter wi)(hg:∀ fp pins s3 H3,PG (cxComp X own fr scope fp pins s3 H3) tg g)(ht:∀ fp pins s3 H3,PTs (cxComp X own fr scope fp pins s3 H3) ifs tt)
  (he:∀ fp pins s3 H3,PE (cxComp X own fr scope fp pins s3 H3) elt te) (hok:compOk N sc0 scope fr js=true:=by symm) (hN:X.N=N:=by rfl) (hsc:X.env.scope=sc0:=by rfl)
  (hs:∀ x,foldedSetIterable iter X.env x=pure x:=by intro _;rfl):PE X (.ListComp elt [⟨tg,iter,ifs,0⟩] scope pos) (tComp own js wi g tt te):=by
 intro pins s σ H Q I h
 rw[eval_ListComp]
 refine lQ hc hi hg ht he hok hN hsc hs I h λ C D s6 H6 m6 I6 f6 n6 q6=>⟨m6,n6,λ h7 sb=>⟨.ref D,H6,?_,rfl,q6⟩⟩
 obtain⟨f0,f1,_,f3,f4,f5⟩:=f6
 exact I6.turned (it:=C) (t':=s6.toks) (λ b o hb e=>sb.extBut b o hb e) f0 f1 f3 f4 f5
theorem fM {i:Nat}{y:Str}{py spos:Pos}(hc:X.calm=true)(hi:PI X tg iter wi)(hg:∀ fp pins s3 H3,PG (cxComp X own fr scope fp pins s3 H3) tg g)(ht:∀ fp pins s3 H3,PTs (cxComp X own fr scope fp pins s3 H3) ifs tt)
  (he:∀ fp pins s3 H3,PE (cxComp X own fr scope fp pins s3 H3) elt te) (hNd:X.N.Nodup) (hy:X.N[i]?=some y) (hx:Loc X.env.scope y) (hok:compOk N sc0 scope fr js=true:=by symm) (hN:X.N=N:=by rfl) (hsc:X.env.scope=sc0:=by rfl)
  (hsw:swapsWith (.ListComp elt [⟨tg,iter,ifs,0⟩] scope pos) (some (.Name y py)) spos.line X.env=pure true:=by rfl) (hf:X.fn y=true\/X.env.scope.names.lookup y=some .local:=by first | exact .inl rfl | exact .inr rfl | assumption)
  (hs:∀ x,foldedSetIterable iter X.env x=pure x:=by intro _;rfl):PS X (.Assign [.Name y py] (.ListComp elt [⟨tg,iter,ifs,0⟩] scope pos) spos) (tAsg (tComp own js wi g tt te) (gName i)):=by
 intro pins s σ H D I h
 rw[exec_Assign_Name_used _ _ _ _ hsw]
 refine a9 (ues (a9 ?_))
 show o8 _ _ (do let _ ← comprehension (.ListComp elt [⟨tg,iter,ifs,0⟩] scope pos) scope X.env _ (newList []) false (eval iter X.env) (some (assign (.Name y py) X.env))) _ _ s
 refine a9 (ua7 (lQ (use:=some (assign (.Name y py) X.env)) (Qo:=λ _ s'=>SP X pins D .next s') hc hi hg ht he hok hN hsc hs I h λ C L s6 H6 m6 I6 f6 n6 q6=>?_) (λ _ s' q=>i9 (i9 q)) λ _ _ z=>z)
 obtain⟨f0,f1,f2,f3,f4,f5⟩:=f6
 show o8 _ _ (assign (.Name y py) X.env (.ref L)) _ _ s6
 refine wpAny_assign_Name (kX I6 hNd hy hx (v:=.ref L) rfl (λ s7 I7 ⟨a,sb,ha⟩=>?_) hf)
 have ne:C≠a:=by
  rcases ha with e | e
  ·rw[e];exact f1
  ·exact λ z=>f4 y a e z.symm
 refine⟨m6,n6.sameBut sb ne,λ h8 sb8=>⟨σ.set i (some (.ref L)),H6,?_,q6⟩⟩
 exact I7.turned (it:=C) (t':=s7.toks) (λ b o hb e=>sb8.extBut b o hb e) f0 f1 f3 f4 f5
end
section
variable {X:Cx}{pins:List (j4 × Obj)}{σ:L2.St}{H H':Hp}{s:d6}{h':Heap}{ch:List j4}{t':Nat}
theorem turnsTo (I:Inv X pins σ H s)(hf:∀ b∈ch,FpOk X pins H b)(k:∀ b o,b∉ch->s.heap.get? b=some o->h'.get? b=some o)(hH:∀ b u,H b=some u->H' b=some u)
  (hfree:∀ b o,s.heap.get? b=some o->H b=none->H' b=none) (hok:HOk X.prog X.w H' h'):Inv X pins σ H' { s with heap:=h',toks:=t' }:=by
 refine I.step (g':=s.gens) (d':=s.drawn) (ch:=ch) (λ b hb=>?_) (λ b o _ _ hc e _=>k b o hc e) (λ b o _ _ hc e _=>⟨o.slots,k b o hc e⟩) (λ b o _ e n=>hfree b o e n) (λ b o hc e=>⟨o,k b o hc e⟩)
  (λ b xs e=>hH _ _ e) (λ b o u e=>hH _ _ e) (λ b ps e=>⟨#[],by rw[hH _ _ e];simp⟩) (λ m hm=>?_) hok I.bare
 ·obtain⟨_,f1,_,f3,f4,f5⟩:=hf b hb
  exact⟨f3,f1,f4,f5⟩
 ·obtain⟨o,es,ep,ho,r⟩:=hm
  exact⟨o,es,ep,k _ o (λ z=>(hf _ z).2.1 rfl) ho,r⟩
theorem turns (I:Inv X pins σ H s)(hf:∀ b∈ch,FpOk X pins H b)(k:∀ b o,b∉ch->s.heap.get? b=some o->h'.get? b=some o):Inv X pins σ H { s with heap:=h',toks:=t' }:=by
 refine turnsTo I hf k (λ _ _ e=>e) (λ _ _ _ n=>n) λ b u e=>?_
 refine (I.hok b u e).stay (λ c v hc q=>k c v (λ z=>?_) q) (λ _ q=>q) λ _ _ q=>q
 have n:=(hf c z).1
 rcases hc with rfl | hc
 ·rw[n] at e;cases e
 ·rw[n] at hc;cases hc
theorem turnsTup {xs:List V}{its:List c9}{T:j4}(I:Inv X pins σ H s)(hf:∀ b∈ch,FpOk X pins H b)(k:∀ b o,b∉ch->s.heap.get? b=some o->h'.get? b=some o)(hT:s.heap.objs.size<=T)
  (hz:xs.length<=o9) (hv:Vals xs its) (ht:TupN h' T its.toArray):Inv X pins σ (upd H T (.tup xs)) { s with heap:=h',toks:=t' }:=by
 have fr:H T=none:=I.hok.fresh hT
 have ne:∀ b u,H b=some u->b≠T:=λ b u e=>aY e fr
 refine turnsTo I hf k (λ b u e=>by rw[aK (ne b u e)];exact e) (λ b o e n=>by rw[aK (j6 (o3 (i8 e) hT))];exact n) λ b u e=>?_
 by_cases hb:b=T
 ·subst hb
  rw[aM] at e
  cases e
  exact⟨hz,its,hv,ht⟩
 ·rw[aK hb] at e
  refine (I.hok b u e).stay (λ c v hc q=>k c v (λ z=>?_) q) (λ c q=>by rw[aK (ne c _ q)];exact q) λ c ys q=>by rw[aK (ne c _ q)];exact q
  have n:=(hf c z).1
  rcases hc with rfl | hc
  ·rw[n] at e;cases e
  ·rw[n] at hc;cases hc
end
def SqX (t:Bool)(K:a8)(H:Hp)(a:j4)(xs:List V):Prop:=if t=true then SqT K H a xs else SqL K H a xs
section
variable {X:Cx}{pins:List (j4 × Obj)}{σ:L2.St}{H:Hp}{s:d6}{a:j4}{xs ys:List V}{t:Bool}
theorem seqX (I:Inv X pins σ H s)(h:SqX t X.K H a xs):∃ its:List c9,Vals xs its/\Z3.SqAt t s.heap a its.toArray/\xs.length<=o9:=by
 cases t with
 | true=>obtain⟨its,r,p,z⟩:=I.tuple (show SqT X.K H a xs from h);exact⟨its,r,p,z⟩
 | false=>obtain⟨its,r,p,z⟩:=I.list (show SqL X.K H a xs from h);exact⟨its,r,p.isList,z⟩
theorem iF (I:Inv X pins σ H s)(h:SqX t X.K H a xs)(h':SqX t X.K H a ys):xs=ys:=by
 cases t with
 | true=>exact I.tuple_inj h h'
 | false=>exact I.list_inj h h'
end
def Itz (t1 t2:Bool)(K:a8)(l1 l2:j4):It :=
 ⟨λ i H=>∃ xs ys x y,SqX t1 K H l1 xs/\SqX t2 K H l2 ys/\xs[i]?=some x/\ys[i]?=some y,
  λ i H v H'=>∃ T x y,H T=none/\v=.ref T/\H'=upd H T (.tup [x,y])/\(∀ xs,SqX t1 K H l1 xs->xs[i]?=some x)/\(∀ ys,SqX t2 K H l2 ys->ys[i]?=some y),
  λ i H=>∃ xs ys,SqX t1 K H l1 xs/\SqX t2 K H l2 ys/\(xs.length<=i\/ys.length<=i)⟩
theorem wU {P:m3}{w:uac}{K:a8}{elts:List ubl}{kk:Nat}{pos:Pos}{t1 t2:Bool}{z TI TO i1 i2 l1 l2:j4}(D:Z3.Ap z TI TO i1 i2)(o1:Z3.Out z TI TO i1 i2 l1)(o2:Z3.Out z TI TO i1 i2 l2) :
  Turn P w K (.Tuple elts kk pos) (Itz t1 t2 K l1 l2) [z,TI,TO,i1,i2] z (λ i h=>Z3.Zd t1 t2 h z TI TO i1 i2 l1 l2 .none i) where
 mem:=by simp
 obj:=λ i h st b hb=>by
  obtain⟨q1,q2,⟨_,_,q3⟩,q4,q5⟩:=st
  obtain⟨o4,n4,e4,_,d4⟩:=q4.obj
  obtain⟨o5,n5,e5,_,d5⟩:=q5.obj
  simp only [k8,w6,or_false] at hb
  rcases hb with rfl | rfl | rfl | rfl | rfl
  ·exact⟨_,q1,λ v q=>by cases q⟩
  ·exact⟨_,q2,λ v q=>by cases q⟩
  ·exact⟨_,q3,λ v q=>by cases q⟩
  ·exact⟨_,e4,λ v q=>by rw[d4] at q;cases q⟩
  ·exact⟨_,e5,λ v q=>by rw[d5] at q;cases q⟩
 keep:=λ i h h' st k=>by
  obtain⟨q1,q2,⟨a,b,q3⟩,q4,q5⟩:=st
  exact⟨k z (by simp) _ q1,k TI (by simp) _ q2,⟨a,b,k TO (by simp) _ q3⟩,q4.to λ o e=>k i1 (by simp) o e,q5.to λ o e=>k i2 (by simp) o e⟩
 item:=by
  intro X hP hw hK hc i pins s σ H E I hf st hg
  subst hP hw hK
  obtain⟨xs,ys,x,y,q1,q2,hx,hy⟩:=hg
  obtain⟨its1,r1,p1,z1⟩:=seqX I q1
  obtain⟨its2,r2,p2,z2⟩:=seqX I q2
  obtain⟨u1,hu1,ru1⟩:=r1.get hx
  obtain⟨u2,hu2,ru2⟩:=r2.get hy
  have hf4:∀ b∈[z,TO,i1,i2],FpOk X pins H b:=λ b hb=>hf b (by
   simp only [k8,w6,or_false] at hb ⊢
   rcases hb with rfl | rfl | rfl | rfl <;> simp)
  refine Z3.vO D o1 o2 st p1 p2 (x:=u1) (y:=u2) (by simpa using hu1) (by simpa using hu2) λ h' zd tp sz kp=>?_
  have I1 : Inv X pins σ (upd H s.heap.objs.size (.tup [x, y])) { s with heap := h', toks := s.toks } := turnsTup (ch := [z, TO, i1, i2]) (its := [u1, u2]) I hf4 (λ b o hb e => by
      simp only [k8,w6,or_false,not_or] at hb
      exact kp b o hb.1 hb.2.1 hb.2.2.1 hb.2.2.2 e) (d8 _) (by show 2<=o9;rw[ubd];decide) (.cons ru1 (.cons ru2 .nil)) ⟨_,tp,rfl,⟨_,rfl⟩,rfl⟩
  have fr:H s.heap.objs.size=none:=I.fresh
  have zne:∀ b∈[z,TI,TO,i1,i2],b≠s.heap.objs.size:=λ b hb e=>by
   have key:∃ o,s.heap.get? b=some o:=by
    obtain⟨q1,q2,⟨_,_,q3⟩,q4,q5⟩:=st
    obtain⟨o4,n4,e4,_,d4⟩:=q4.obj
    obtain⟨o5,n5,e5,_,d5⟩:=q5.obj
    simp only [k8,w6,or_false] at hb
    rcases hb with rfl | rfl | rfl | rfl | rfl
    ·exact⟨_,q1⟩
    ·exact⟨_,q2⟩
    ·exact⟨_,q3⟩
    ·exact⟨_,e4⟩
    ·exact⟨_,e5⟩
   obtain⟨o,ho⟩:=key
   exact absurd (i8 ho) (by rw[e];exact ubi _)
  refine⟨_,rfl,wpAny_letOwnedTupleGo_zip zd.z λ h2 zd2 sb=>?_⟩
  obtain⟨f0,f1,f2,f3,f4,f5⟩:=hf z (by simp)
  have I2:Inv X pins σ (upd H s.heap.objs.size (.tup [x,y])) { s with heap:=h2,toks:=s.toks }:=Inv.turned (s:={ s with heap:=h',toks:=s.toks }) (it:=z) (t':=s.toks) I1 (λ b o hb e=>sb.extBut b o hb e) (by rw[aK (zne z (by simp))];exact f0) f1 f3 f4 f5
  refine⟨.ref s.heap.objs.size,_,I2,rfl,⟨_,x,y,fr,rfl,rfl,λ zs hz=>by rw[iF I hz q1];exact hx,λ zs hz=>by rw[iF I hz q2];exact hy⟩,?_,λ b hb=>by rw[aK (zne b hb)];exact (hf b hb).1⟩
  obtain⟨_,w2,⟨a3,b3,w3⟩,w4,w5⟩:=zd
  exact⟨zd2,sb.extBut _ _ D.n1 w2,⟨a3,b3,sb.extBut _ _ D.n2 w3⟩,w4.to λ o e=>sb.extBut _ _ D.n3 e,w5.to λ o e=>sb.extBut _ _ D.n4 e⟩
 done:=by
  intro X hP hw hK hc i pins s σ H E I hf st hg
  subst hP hw hK
  obtain⟨xs,ys,q1,q2,hx⟩:=hg
  obtain⟨its1,r1,p1,z1⟩:=seqX I q1
  obtain⟨its2,r2,p2,z2⟩:=seqX I q2
  have l1:=r1.length
  have l2:=r2.length
  have hf4:∀ b∈[z,TO,i1,i2],FpOk X pins H b:=λ b hb=>hf b (by
   simp only [k8,w6,or_false] at hb ⊢
   rcases hb with rfl | rfl | rfl | rfl <;> simp)
  refine Z3.vN (I.ok.hd hc) D o1 o2 st p1 p2 (hx.elim (λ q=>.inl (by simp;left)) λ q=>.inr (by simp;left)) λ h' kp=>⟨rfl,?_⟩
  exact turns (ch:=[z,TO,i1,i2]) (t':=s.toks) I hf4 λ b o hb e=>by
   simp only [k8,w6,or_false,not_or] at hb
   exact kp b o hb.1 hb.2.1 hb.2.2.1 hb.2.2.2 e
 self:=λ _ _ _ _ _ st h=>wpAny_pyIter_zip st.z h
def iZip (t1 t2:Bool)(K:a8)(ta:TA):TI:=λ σ H R=>ta σ H λ vs H1=>∃ l1 l2,vs=[.ref l1,.ref l2]/\(∃ xs,SqX t1 K H1 l1 xs)/\(∃ ys,SqX t2 K H1 l2 ys)/\R (Itz t1 t2 K l1 l2) H1
theorem zay {X:Cx}{elts:List ubl}{kk:Nat}{pos':Pos}(t1 t2:Bool){a b:ubl}{ta:TA}{p pos:Pos}(hg:Gl X "zip")(hm:X.mg "zip"=none)(ha:PA X [a,b] ta)
  (hs:uah [a,b] X.env=[(false,eval a X.env),(false,eval b X.env)]:=by rfl) (hs2:uah [b] X.env=[(false,eval b X.env)]:=by rfl) :
  PI X (.Tuple elts kk pos') (.Call (.Name "zip" p) [a,b] [] pos) (iZip t1 t2 X.K ta):=by
 intro pins s σ H R I h
 refine Call_ (dN I hg hm boot_zip (ubr (thn (ha pos pins s σ H _ I h) λ us s1 ⟨vs,H1,I1,r1,q1⟩=>?_) (by rw[hs,hs2]) (by rw[hs2];rfl)))
 obtain⟨l1,l2,e,⟨xs,qx⟩,⟨ys,qy⟩,q⟩:=q1
 subst e
 cases r1 with
 | cons r rr =>
  cases rr with
  | cons r' rr =>
   cases rr
   cases r
   cases r'
   obtain⟨its1,r1,p1,z1⟩:=seqX I1 qx
   obtain⟨its2,r2,p2,z2⟩:=seqX I1 qy
   have lt:∀ {t:Bool}{l:j4}{xs:Array c9},Z3.SqAt t s1.heap l xs->l<s1.heap.objs.size:=λ {t l xs} q=>by
    cases t with
    | true=>obtain⟨o,e,_⟩:=(show s1.heap.IsTuple l xs from q);exact i8 e
    | false=>obtain⟨o,e,_⟩:=(show s1.heap.IsList l xs from q);exact i8 e
   refine Z3.yB p1 p2 λ h' zd sz kp=>wpAny_pyIter_zip zd.z ?_
   have I2:Inv X pins σ H1 { s1 with heap:=h',toks:=s1.toks }:=I1.kept (t':=s1.toks) kp
   refine⟨s1.heap.objs.size+4,[s1.heap.objs.size+4,s1.heap.objs.size+2,s1.heap.objs.size+3,s1.heap.objs.size,s1.heap.objs.size+1],_,_,H1,rfl,I2,wU (Z3.zbj _) (Z3.nQ (lt p1)) (Z3.nQ (lt p2)),zd,λ b hb=>?_,q⟩
   have hb':s1.heap.objs.size<=b:=by
    simp only [k8,w6,or_false] at hb
    rcases hb with rfl | rfl | rfl | rfl | rfl
    ·exact ucr _ _
    ·exact ucr _ _
    ·exact ucr _ _
    ·exact d8 _
    ·exact ucr _ _
   exact I1.fpOk hb' (I1.hok.fresh hb')
section
variable {X:Cx}{pos:Pos}
inductive gLst_i (K:a8)(n:Nat)(t:TGs)(v:V)(σ:L2.St)(H:Hp)(Q:L2.St->Hp->Prop):Prop
 | mk:∀ a xs,(v=.ref a)->(SqL K H a xs)->(xs.length=n)->(t xs σ H Q)->gLst_i K n t v σ H Q
def gLst (K:a8)(n:Nat)(t:TGs):TG:=λ v σ H Q=>gLst_i K n t v σ H Q
theorem zaz {es:List ubl}{k:Nat}{t:TGs}{n:Nat}(hc:X.calm=true)(h:PGs X es t)(hn:(assignEach es X.env).length=n:=by rfl)(hst:(assignEach es X.env).findIdx? (·.1)=none:=by rfl):PG X (.Tuple es k pos) (gLst X.K n t):=by
 intro pins s σ H v u Q I r hw
 obtain⟨a,xs,e1,hq,hl,hw⟩:=hw
 subst e1
 cases r
 obtain⟨its,rv,ht,hz⟩:=I.list hq
 refine U3.assign_tuple_lst (I.ok.hd hc) ht.isList (by simp [hn,← hl,rv.length]) hst λ h' hx=>?_
 have I1:Inv X pins σ H { s with heap:=h' }:=I.kept (t':=s.toks) λ b o e=>hx b o (j6 (i8 e)) e
 exact h pins _ σ H xs _ Q I1 (by simpa using rv) hw
theorem wV {prog:m3}{w:uac}{A:v6}{bs:List Bool}{its:List c9}(r:Vals (bs.map V.bl) its):TruthOf prog w A (λ i v=>its.toArray[i]?=some v) (λ i=>bs.getD i true):=by
 intro i v s Q E hP hq
 have hP':its[i]?=some v:=by simpa using hP
 have hl:=r.length
 have hi:i<its.length:=(i0.mp hP').1
 have hb:i<bs.length:=by rw[c7] at hl;left
 obtain⟨u,hu,ru⟩:=r.get (i:=i) (x:=V.bl bs[i]) (by rw[j5,c6 hb];rfl)
 rw[hP'] at hu
 cases hu
 have e:v=Value.bool bs[i]:=ru
 subst e
 have e2:bs.getD i true=bs[i]:=by simp [ubo,hb]
 have hq':Q (bs.getD i true) s:=hq
 rw[e2] at hq'
 exact ubc hq'
theorem wM (bs:List Bool):((d7 bs.length).all λ i=>bs.getD i true)=bs.all id:=by
 rw[ub1,uap,uap]
 constructor
 ·intro h b hb
  obtain⟨i,hi,e⟩:=ucc hb
  have:=h i (l9.mpr hi)
  rw[← e]
  simpa [ubo,hi] using this
 ·intro h i hi
  have hi':=l9.mp hi
  have:=h bs[i] (ueo hi')
  simpa [ubo,hi'] using this
inductive call_all_i (K:a8)(xs:List V)(H:Hp)(Q:VK):Prop
 | mk:∀ (p:j4)(bs:List Bool),(xs=[.ref p])->(SqL K H p (bs.map V.bl))->(Q (.bl (bs.all id)) H)->call_all_i K xs H Q
theorem nC (hh:X.calm=true):CallR X (.builtin "all") (call_all_i X.K):=by
 intro pins s σ H xs us Q I r h
 obtain⟨p,bs,rfl,hq,q⟩:=h
 obtain⟨u,rfl,rx⟩:=vals1 r
 cases rx
 obtain⟨its,rv,pl,hz⟩:=I.list hq
 have hl:=rv.length
 have lt:p≠s.heap.objs.size:=by obtain⟨o,e,_⟩:=pl.isList;exact j6 (i8 e)
 refine call_all_walk (ucp pl.isList ?_)
 have W:=Walks.list (prog:=X.prog) (w:=X.w) (A:=X.A.in1) (show X.A.in1.handled=none from I.ok.hd hh) s.heap.objs.size p lt its.toArray
 refine⟨s.heap.objs.size,_,_,_,_,_,_,rfl,W,⟨⟨_,j0 _ rfl,rfl,rfl⟩,pl.isList.push _⟩,wV rv,λ h' tk hk=>?_⟩
 refine⟨.bl (bs.all id),H,I.kept (t':=tk) λ b o e=>hk b o (λ z=>?_) (b7 _ e),?_,q⟩
 ·have:b=s.heap.objs.size:=by simpa using z
  exact absurd (i8 e) (by rw[this];exact ubi _)
 ·show Value.bool _=Value.bool _
  have e1:its.toArray.size=bs.length:=by rw[h9,← hl,c7]
  rw[e1,wM]
inductive call_isi_i (K:a8)(n:String)(xs:List V)(H:Hp)(Q:VK):Prop
 | mk:∀ x t b,(xs=[x,.ty n])->(TyOf K H x t)->(PySem.W.kitOne K t (.type n)=some b)->(Q (.bl b) H)->call_isi_i K n xs H Q
theorem gA {n:String}:CallR X (.builtin "isinstance") (call_isi_i X.K n):=by
 intro pins s σ H xs us Q I r h
 obtain⟨x,t,b,rfl,ty,e,q⟩:=h
 obtain⟨u,c,rfl,ru,rc⟩:=r.two
 cases rc
 exact vW I ru ty e λ tk=>⟨.bl b,H,I.tok tk,rfl,q⟩
variable {a b c d:ubl}{ta tb tc td:TE}
end
mutual
def Is (K:a8)(H:Hp):r6->V->Prop
 | .none,v=>v=.non
 | .bool b,v=>v=.bl b
 | .int i,v=>v=.int i
 | .str x,v=>v=.str x
 | .tuple ds,v=>∃ p vs,v=.ref p/\H p=some (.tup vs)/\IsAll K H ds vs
 | .list ds,v=>∃ p vs,v=.ref p/\H p=some (.lst vs)/\IsAll K H ds vs
 | .dict kvs,v=>kvs=[]/\∃ p,v=.ref p/\H p=some (.dK [])
def IsAll (K:a8)(H:Hp):List r6->List V->Prop
 | [],vs=>vs=[]
 | d::ds,vs=>∃ v r,vs=v::r/\Is K H d v/\IsAll K H ds r
end
section
variable {K:a8}{H H':Hp}
mutual
theorem Is.same (e:Same H H'):∀ (d:r6){v:V},Is K H d v->Is K H' d v
 | .none,_,h=>h
 | .bool _,_,h=>h
 | .int _,_,h=>h
 | .str _,_,h=>h
 | .tuple ds,_,h=>let ⟨p,vs,q1,q2,q3⟩:=h;⟨p,vs,q1,e _ _ q2,IsAll.same e ds q3⟩
 | .list ds,_,h=>let ⟨p,vs,q1,q2,q3⟩:=h;⟨p,vs,q1,e _ _ q2,IsAll.same e ds q3⟩
 | .dict kvs,_,h=>let ⟨q0,p,q1,q2⟩:=h;⟨q0,p,q1,e _ _ q2⟩
theorem IsAll.same (e:Same H H'):∀ (ds:List r6){vs:List V},IsAll K H ds vs->IsAll K H' ds vs
 | [],_,h=>h
 | d::ds,_,h=>let ⟨v,r,q1,q2,q3⟩:=h;⟨v,r,q1,Is.same e d q2,IsAll.same e ds q3⟩
end
theorem IsAll.length:∀ {ds:List r6}{vs:List V},IsAll K H ds vs->vs.length=ds.length
 | [],_,h=>by rw[show _=[] from h];rfl
 | d::ds,_,⟨v,r,q1,q2,q3⟩=>by rw[q1,ube,ube,IsAll.length q3]
theorem IsAll.get:∀ {ds:List r6}{vs:List V}{i:Nat}{d:r6},IsAll K H ds vs->ds[i]?=some d->∃ v,vs[i]?=some v/\Is K H d v
 | [],_,_,_,_,e=>by simp at e
 | d::ds,_,0,d',⟨v,r,q1,q2,q3⟩,e=>by
  have e':d=d':=by simpa using e
  subst e';subst q1;exact⟨v,rfl,q2⟩
 | d::ds,_,i+1,_,⟨v,r,q1,q2,q3⟩,e=>by
  subst q1
  obtain⟨u,h1,h2⟩:=IsAll.get (i:=i) q3 (by simpa using e)
  exact⟨u,by simpa using h1,h2⟩
theorem IsAll.get':∀ {ds:List r6}{vs:List V}{i:Nat}{v:V},IsAll K H ds vs->vs[i]?=some v->∃ d,ds[i]?=some d/\Is K H d v
 | [],_,i,v,h,e=>by rw[show _=[] from h] at e;simp at e
 | d::ds,_,0,v,⟨u,r,q1,q2,q3⟩,e=>by
  subst q1
  have e':u=v:=by simpa using e
  subst e';exact⟨d,rfl,q2⟩
 | d::ds,_,i+1,v,⟨u,r,q1,q2,q3⟩,e=>by
  subst q1
  obtain⟨d',h1,h2⟩:=IsAll.get' (i:=i) q3 (by simpa using e)
  exact⟨d',by simpa using h1,h2⟩
theorem IsAll.of:∀ {ds:List r6}{vs:List V},vs.length=ds.length->(∀ (i:Nat)(d:r6)(v:V),ds[i]?=some d->vs[i]?=some v->Is K H d v)->IsAll K H ds vs
 | [],[],_,_=>rfl
 | [],_::_,h,_=>by simp at h
 | _::_,[],h,_=>by simp at h
 | d::ds,v::vs,h,q=>⟨v,vs,rfl,q 0 d v rfl rfl,IsAll.of (by simpa using h) λ i d' v' h1 h2=>q (i+1) d' v' (by simpa using h1) (by simpa using h2)⟩
theorem IsAll.append:∀ {ds es:List r6}{vs us:List V},IsAll K H ds vs->IsAll K H es us->IsAll K H (ds++es) (vs++us)
 | [],_,_,_,h,q=>by rw[show _=[] from h];exact q
 | d::ds,_,_,_,⟨v,r,q1,q2,q3⟩,q=>⟨v,r++_,by rw[q1];rfl,q2,IsAll.append q3 q⟩
theorem IsAll.ints (ns:List Int):IsAll K H (ns.map .int) (ns.map V.int):=by
 refine IsAll.of (by simp) λ i d v h1 h2=>?_
 rw[j5] at h1 h2
 cases e:ns[i]? with
 | none=>rw[e] at h1;cases h1
 | some n=>rw[e] at h1 h2;cases h1;cases h2;exact rfl
theorem IsAll.of_ints:∀ {ns:List Int}{vs:List V},IsAll K H (ns.map .int) vs->vs=ns.map V.int
 | [],_,h=>h
 | n::ns,_,⟨v,r,q1,q2,q3⟩=>by
  have e:v=.int n:=q2
  rw[q1,e,IsAll.of_ints q3];rfl
end
section
variable {X:Cx}{pins:List (j4 × Obj)}{σ:L2.St}{H:Hp}{s:d6}
mutual
theorem eR (I:Inv X pins σ H s):∀ (d:r6){v:V}{u:c9},Is X.K H d v->RelV v u->∃ as,Reads s.heap u d as
 | .none,_,_,h,r=>by
  have e:_=V.non:=h
  subst e;cases r;exact⟨_,.none⟩
 | .bool b,_,_,h,r=>by
  have e:_=V.bl b:=h
  subst e;cases r;exact⟨_,.bool b⟩
 | .int i,_,_,h,r=>by
  have e:_=V.int i:=h
  subst e;obtain⟨t,rfl⟩:=r;exact⟨_,.int i t⟩
 | .str x,_,_,h,r=>by
  have e:_=V.str x:=h
  subst e;obtain⟨t,rfl⟩:=r;exact⟨_,.str x t⟩
 | .tuple ds,_,_,h,r=>by
  obtain⟨p,vs,rfl,q2,q3⟩:=(show ∃ p vs,_=V.ref p/\H p=some (.tup vs)/\IsAll X.K H ds vs from h)
  cases r
  obtain⟨its,rv,⟨o,e1,e2,n,e3⟩,_⟩:=I.tuple (SqT.of q2)
  obtain⟨as,ra⟩:=hG I ds q3 rv
  exact⟨_,.tuple e1 e2 e3 (by simpa using ra)⟩
 | .list ds,_,_,h,r=>by
  obtain⟨p,vs,rfl,q2,q3⟩:=(show ∃ p vs,_=V.ref p/\H p=some (.lst vs)/\IsAll X.K H ds vs from h)
  cases r
  obtain⟨its,rv,⟨o,n,e1,e2,_,e3⟩,_⟩:=I.list (SqL.of q2)
  obtain⟨as,ra⟩:=hG I ds q3 rv
  exact⟨_,.list e1 e2 e3 (by simpa using ra)⟩
 | .dict kvs,_,_,h,r=>by
  obtain⟨e0,p,rfl,q2⟩:=(show kvs=[]/\∃ p,_=V.ref p/\H p=some (.dK []) from h)
  subst e0
  cases r
  obtain⟨_,_,vs,kv,o,es,ep,g1,g2,g3,_,g4,_⟩:=(show ObjOk X.prog X.w H s.heap p (.dK []) from I.hok p _ q2)
  cases kv
  have e1:es.toList=[]:=by cases h:es.toList with
   | nil=>rfl
   | cons x r=>rw[h] at g4;cases g4
  exact⟨_,.dict g1 g2.1 g3 (by rw[e1];exact .nil) (by rw[e1];exact .nil)⟩
theorem hG (I:Inv X pins σ H s):∀ (ds:List r6){vs:List V}{us:List c9},IsAll X.K H ds vs->Vals vs us->∃ as,ReadsAll s.heap us ds as
 | [],_,_,h,r=>by
  have e:_=[]:=h
  subst e;cases r;exact⟨_,.nil⟩
 | d::ds,_,_,h,r=>by
  obtain⟨v,vr,rfl,q2,q3⟩:=(show ∃ v r,_=v::r/\Is X.K H d v/\IsAll X.K H ds r from h)
  cases r with
  | cons r1 r2 =>
   obtain⟨as,a1⟩:=eR I d q2 r1
   obtain⟨bs,a2⟩:=hG I ds q3 r2
   exact⟨_,.cons a1 a2⟩
end
inductive op_eqD_i (K:a8)(uu:Nat)(x:V)(y:V)(H:Hp)(Q:VK):Prop
 | mk:∀ da db,(Is K H da x)->(Is K H db y)->(da.canLay0=true)->(db.canLay0=true)->(uu+min da.depth db.depth<cLine)->(Q (.bl (uc4 da db)) H)->op_eqD_i K uu x y H Q
theorem dM:OpR X (compareOp .Eq) (op_eqD_i X.K X.A.units):=by
 intro pins s σ H x y v u Q I rx ry h
 obtain⟨da,db,h1,h2,c1,c2,hu,q⟩:=h
 obtain⟨as,ra⟩:=eR I da h1 rx
 obtain⟨bs,rb⟩:=eR I db h2 ry
 exact SeqAt.compareEq_reads ra rb c1 c2 hu (aU I q rfl)
inductive op_neD_i (K:a8)(uu:Nat)(x:V)(y:V)(H:Hp)(Q:VK):Prop
 | mk:∀ da db,(Is K H da x)->(Is K H db y)->(da.canLay0=true)->(db.canLay0=true)->(uu+min da.depth db.depth<cLine)->(Q (.bl (!PyData.eqv da db)) H)->op_neD_i K uu x y H Q
theorem za5:OpR X (compareOp .NotEq) (op_neD_i X.K X.A.units):=by
 intro pins s σ H x y v u Q I rx ry h
 obtain⟨da,db,h1,h2,c1,c2,hu,q⟩:=h
 obtain⟨as,ra⟩:=eR I da h1 rx
 obtain⟨bs,rb⟩:=eR I db h2 ry
 exact SeqAt.compareNe_reads ra rb c1 c2 hu (aU I q rfl)
theorem xT {ys:List V}{its:List c9}(r:Vals ys its){i:Nat}(hi:i<ys.length):RelV (ys.getD i .non) (its.getD i .none):=by
 have hl:=r.length
 obtain⟨u,hu,ru⟩:=r.get (i:=i) (x:=ys[i]) (c6 hi)
 have e1:ys.getD i .non=ys[i]:=by simp [ubo,hi]
 have e2:its.getD i .none=u:=by simp [ubo,hu]
 rw[e1,e2];exact ru
theorem eQ {ys:List V}{its:List c9}(r:Vals ys its):∀ (l:List Nat),(∀ i∈l,i<ys.length)->Vals (l.map λ i=>ys.getD i .non) (l.map λ i=>its.getD i Value.none)
 | [],_=>.nil
 | i::l,h=>.cons (xT r (h i i3)) (eQ r l λ j hj=>h j (j7 _ hj))
theorem dP {n:Nat}{p:Array Nat}(g:Srt.Gd n p):∀ i∈p.toList,i<n:=λ i hi=>by
 have:=g.mem_iff.mp (Array.mem_toList_iff.mp hi)
 simpa using this
theorem gL {α:Type}{n:Nat}{p:Array Nat}(g:Srt.Gd n p)(f:Nat->α):(p.toList.map f).Perm ((d7 n).map f):=by
 have h:=Array.perm_iff_toList_perm.mp g
 exact (by simpa using h:p.toList.Perm (d7 n)).map f
theorem gB {n:Nat}{p:Array Nat}{r:Nat->Int}{R:Nat->Nat->Prop}(g:Srt.Gd n p)(u:Srt.Up r p n)(h:∀ i j,i<n->j<n->r i<=r j->R i j):p.toList.Pairwise R:=by
 rw[uc6]
 intro i j hi hj hij
 have sz:=g.sz
 have hi':i<p.size:=by simpa using hi
 have hj':j<p.size:=by simpa using hj
 have q:=u i j (uc5 hij) (by left)
 have e:∀ k (hk:k<p.size),p.getD k 0=p[k]:=λ k hk=>by simp [ufb,hk]
 unfold Srt.ky at q
 rw[e i hi',e j hj'] at q
 have m:∀ k (hk:k<p.size),p[k]<n:=λ k hk=>dP g _ (by simp)
 have:=h p[i] p[j] (m i hi') (m j hj') q
 simpa using this
theorem dD {α:Type}(l:List α)(d:α):(d7 l.length).map (λ i=>l.getD i d)=l:=by
 refine uca (by simp) λ i h1 h2=>?_
 simp [ubo,h2]
inductive call_sortedI_i (K:a8)(xs:List V)(H:Hp)(Q:VK):Prop
 | mk:∀ p ns,(xs=[.ref p])->(SqL K H p (ns.map V.int))->(ns.length<64)->(∀ ms:List Int,ms.Perm ns->ms.Pairwise (·<=·)->∀ l,H l=none->Q (.ref l) (upd H l (.lst (ms.map V.int))))->call_sortedI_i K xs H Q
theorem sC:CallR X (.builtin "sorted") (call_sortedI_i X.K):=by
 intro pins s σ H xs us Q I r h
 obtain⟨p,ns,rfl,hq,h64,q⟩:=h
 obtain⟨u,rfl,rx⟩:=vals1 r
 cases rx
 obtain⟨its,rv,pl,hz⟩:=I.list hq
 have hl:=rv.length
 rw[c7] at hl
 have hI:IntsAre its ns:=dE rv
 have line:(64:Nat)<=o9:=by rw[ubd];decide
 refine Srt.kY (r:=λ i=>ns.getD i 0) (κ:=oneType') pl.isList (by left) (λ h2 A' s' Q' _ q'=>Srt.mS hI h2 q') (λ A' s' i j C _ hi hj q'=>Srt.nW hI hi hj q') λ pp h' c g u kp e=>?_
 have g':Srt.Gd ns.length pp:=by rw[hl];exact g
 have u':Srt.Up (λ i=>ns.getD i 0) pp ns.length:=by rw[hl];exact u
 have pm:(pp.toList.map λ i=>ns.getD i 0).Perm ns:=by
  have:=gL g' λ i=>ns.getD i 0
  rw[dD] at this
  exact this
 have pw:(pp.toList.map λ i=>ns.getD i 0).Pairwise (·<=·):=by
  rw[uar]
  exact gB g' u' λ i j _ _ z=>z
 have fr:H (s.heap.objs.size+1)=none:=I.hok.fresh (uce _)
 have ev:((pp.toList.map λ i=>ns.getD i 0).map V.int)=pp.toList.map λ i=>(ns.map V.int).getD i .non:=by
  rw[uam]
  refine ubt λ i hi=>?_
  have:=dP g' i hi
  simp [ubo,this]
 refine⟨.ref (s.heap.objs.size+1),_,I.laid (a:=s.heap.objs.size+1) (o:=.lst ((pp.toList.map λ i=>ns.getD i 0).map V.int)) (t':=s.toks) kp (uce _) ⟨?_,Srt.outOf its pp,c,?_,e⟩,rfl,q _ pm pw _ fr⟩
 ·have:=pm.length_eq
  rw[c7,this];left
 ·rw[ev]
  exact eQ rv pp.toList λ i hi=>by rw[c7];exact dP g' i hi
inductive call_sortedT_i (K:a8)(xs:List V)(H:Hp)(Q:VK):Prop
 | mk:∀ p ys ks,(xs=[.ref p])->(SqL K H p ys)->(ys.length<64)->(Paired (λ (y:V) (k:List Int)=>∃ a,y=.ref a/\SqT K H a (k.map V.int)) ys ks)->((∀ k∈ks,k≠[]))->(∀ qs:List (V × List Int),qs.Perm (ys.zip ks)->qs.Pairwise (λ a b=>Srt.lexI b.2 a.2=false)->∀ l,H l=none->Q (.ref l) (upd H l (.lst (qs.map (·.1)))))->call_sortedT_i K xs H Q
theorem sB:CallR X (.builtin "sorted") (call_sortedT_i X.K):=by
 intro pins s σ H xs us Q I r h
 obtain⟨p,ys,ks,rfl,hq,h64,hp,hne,q⟩:=h
 obtain⟨u,rfl,rx⟩:=vals1 r
 cases rx
 obtain⟨its,rv,pl,hz⟩:=I.list hq
 have hl:=rv.length
 have hlk:ys.length=ks.length:=Paired.length hp
 have line:(64:Nat)<=o9:=by rw[ubd];decide
 have hT:∀ {ys:List V}{ks:List (List Int)}{its:List c9},Paired (λ (y:V) (k:List Int)=>∃ a,y=.ref a/\SqT X.K H a (k.map V.int)) ys ks->Vals ys its->Paired (Srt.TupI s.heap) its ks:=by
  intro ys ks its hp
  induction hp generalizing its with
  | nil=>intro rv;cases rv;exact .nil
  | cons r t ih =>
   intro rv
   cases rv with
   | cons r1 r2 =>
    refine .cons ?_ (ih r2)
    obtain⟨a,rfl,qa⟩:=r
    cases r1
    obtain⟨its',rv',⟨o,e1,e2,n,e3⟩,_⟩:=I.tuple qa
    exact⟨a,o,its'.toArray,n,rfl,e1,e2,e3,by simpa using dE rv'⟩
 have tp:=hT hp rv
 have mono:∀ {h':Heap},(∀ b o,s.heap.get? b=some o->h'.get? b=some o)->Paired (Srt.TupI h') its ks:=λ k=>Paired.mapP tp λ v k' z=>z.to k
 refine Srt.kY (r:=Srt.rank its.length λ i j=>Srt.lexI (ks.getD i []) (ks.getD j [])) (κ:=tuples' true) pl.isList (by left) (λ h2 A' s' Q' k q'=>Srt.mD (mono k) hne h2 q')
  (λ A' s' i j C k hi hj q'=>Srt.nH (mono k) hi hj (by rw[Srt.gF (lt:=λ i j=>Srt.lexI (ks.getD i []) (ks.getD j [])) (λ i=>Srt.eV _) (λ _ _ _ _ _ _=>Srt.eK _ _ _) (λ _ _ _ _ _ _=>Srt.eU _ _ _) hi hj] at q';exact q')) λ pp h' c g u kp e=>?_
 have fr:H (s.heap.objs.size+1)=none:=I.hok.fresh (uce _)
 have pm:(pp.toList.map λ i=>(ys.getD i .non,ks.getD i [])).Perm (ys.zip ks):=by
  have h1:=gL g λ i=>(ys.getD i V.non,ks.getD i [])
  have e1:(d7 its.length).map (λ i=>(ys.getD i V.non,ks.getD i []))=ys.zip ks:=by
   refine uca (by simp;left) λ i h1 h2=>?_
   have hi:i<its.length:=by simpa using h1
   have a1:i<ys.length:=by left
   have a2:i<ks.length:=by left
   simp [ubo,a1,a2]
  rw[e1] at h1
  exact h1
 have pw:(pp.toList.map λ i=>(ys.getD i V.non,ks.getD i [])).Pairwise (λ a b=>Srt.lexI b.2 a.2=false):=by
  rw[uar]
  refine gB g u λ i j hi hj z=>?_
  have w:=Srt.gF (n:=its.length) (lt:=λ i j=>Srt.lexI (ks.getD i []) (ks.getD j [])) (λ i=>Srt.eV _) (λ _ _ _ _ _ _=>Srt.eK _ _ _) (λ _ _ _ _ _ _=>Srt.eU _ _ _) hj hi
  rw[ufm (by left)] at w
  exact w.symm
 have ev:(pp.toList.map λ i=>(ys.getD i V.non,ks.getD i [])).map (·.1)=pp.toList.map λ i=>ys.getD i V.non:=by
  rw[uam];rfl
 refine⟨.ref (s.heap.objs.size+1),_,I.laid (a:=s.heap.objs.size+1) (o:=.lst ((pp.toList.map λ i=>(ys.getD i V.non,ks.getD i [])).map (·.1))) (t':=s.toks) kp (uce _) ⟨?_,Srt.outOf its pp,c,?_,e⟩,rfl,q _ pm pw _ fr⟩
 ·have:=pm.length_eq
  rw[c7,this,List.length_zip];left
 ·rw[ev]
  exact eQ rv pp.toList λ i hi=>by have:=dP g i hi;left
end
def Ok (P:m3)(w:uac)(K:a8)(mg:Str->Option c9)(base:Heap)(k:Nat)(x:Str)(ps:List Str)(sp:Sp):Prop :=
 ∃ (f:j4)(fd:ubf),FnOk P w K mg base CX0 k f fd ps sp/\Binds K fd ps []/\ua3 K (.ref f)=true/\mg x=some (.ref f)
def DefOk (K:a8)(mg:Str->Option c9)(x:Str)(st:ubm)(ps:List Str):Prop :=
 ∃ (f:j4)(fd:ubf),Fun K x x st f fd/\Binds K fd ps []/\mg x=some (.ref f)
section
variable {P:m3}{w:uac}{K:a8}{mg:Str->Option c9}{base:Heap}{x:Str}{ps N:List Str}{sp sp':Sp}{k:Nat}{st:ubm}
theorem Ok.mono {j:Nat}(O:Ok P w K mg base j x ps sp)(h:j<=k):Ok P w K mg base k x ps sp:=let ⟨f,fd,F,r⟩:=O;⟨f,fd,F.mono h,r⟩
theorem Ok.imp (O:Ok P w K mg base k x ps sp)(h:∀ vs H Q E,sp' vs H Q E->sp vs H Q E):Ok P w K mg base k x ps sp':=let ⟨f,fd,F,r⟩:=O;⟨f,fd,F.imp h,r⟩
theorem dQ (D:DefOk K mg x st ps)(S:FnScope N ps (defScope st))(len:∀ vs H Q E,sp vs H Q E->vs.length=ps.length)
  (hbody:∀ (f:j4)(cdv:c9)(A:v6)(outer:List Env)(s:d6)(H:Hp)(vs:List V)(Q:VK)(E:XK),Room k (A.deeper (envOfC x (defScope st) s.heap.objs.size f cdv))->sp vs H Q E ->
   ∃ t,PSs (cxOf CX0 P w K mg base N x (defScope st) f cdv A outer s H E).nox (defBody st) t/\t { nx:=λ _ H'=>Q .non H',rt:=Q } (start N vs) H):Ok P w K mg base (k+1) x ps sp:=by
 obtain⟨f,fd,F,b,m⟩:=D
 exact⟨f,fd,F.ok S len (λ cdv A outer s H vs Q E hr h=>hbody f cdv A outer s H vs Q E hr h),b,F.kp,m⟩
theorem aF {X:Cx}{p pos:Pos}{e:ubl}{es:List ubl}{t:TA}(O:Ok X.prog X.w X.K X.mg X.base k x ps sp)(hr:Room k X.A)(hg:Gl X x)(ha:PA X (e::es) t)
  (hdb:(x==("__debug__":Str))=false:=by decide) (he:uah (e::es) X.env=(false,eval e X.env)::uah es X.env:=by rfl) (hpl:(backTo pos (uah es X.env)).any (·.1)=false:=by rfl) :
  PE X (.Call (.Name x p) (e::es) [] pos) (tCall sp [] E0 t):=by
 obtain⟨f,fd,F,b,kp,m⟩:=O
 exact zK F hr hg m kp b .nil pass0 ha hdb he hpl
end
structure Bi (mg:Str->Option c9):Prop where
 z_len:mg "len"=none
 z_range:mg "range"=none
 z_zip:mg "zip"=none
 z_all:mg "all"=none
 z_sorted:mg "sorted"=none
 z_isinstance:mg "isinstance"=none
 z_min:mg "min"=none
 z_max:mg "max"=none
 z_tuple:mg "tuple"=none
 z_list:mg "list"=none
 z_int:mg "int"=none
 z_bool:mg "bool"=none
 z_str:mg "str"=none
 z_enumerate:mg "enumerate"=none
 z_sum:mg "sum"=none
 z_abs:mg "abs"=none
 z_set:mg "set"=none
 z_reversed:mg "reversed"=none
 z_any:mg "any"=none
 z_repr:mg "repr"=none
 z_dict:mg "dict"=none
def But (p:j4)(H H':Hp):Prop:=∀ b o,b≠p->H b=some o->H' b=some o
section
variable {K:a8}{H H1 H2:Hp}{p a:j4}{o:HO}{xs ys:List V}
theorem But.refl:But p H H:=λ _ _ _ h=>h
theorem But.trans (a:But p H H1)(b:But p H1 H2):But p H H2:=λ c o n h=>b c o n (a c o n h)
theorem But.upd:But p H (upd H p o):=λ b u n h=>by rw[aK n];exact h
theorem Same.but (h:Same H H1):But p H H1:=λ b o _ q=>h b o q
theorem But.new (h:H a=none):But p H (L2.upd H a o):=λ b u _ q=>by rw[aK (aY q h)];exact q
theorem aW (h:H a=none):Same H (upd H a o):=λ b u q=>by rw[aK (aY q h)];exact q
end
mutual
def tupD:r6->Bool
 | .none | .bool _ | .int _ | .str _=>true
 | .tuple ds=>tupAll ds
 | .list _ | .dict _=>false
def tupAll:List r6->Bool
 | []=>true
 | d::ds=>tupD d&&tupAll ds
end
mutual
theorem Is.but {K:a8}{H H':Hp}{p:j4}{xs:List V}(e:But p H H')(hp:H p=some (.lst xs)):∀ (d:r6){v:V},tupD d=true->Is K H d v->Is K H' d v
 | .none,_,_,h=>h
 | .bool _,_,_,h=>h
 | .int _,_,_,h=>h
 | .str _,_,_,h=>h
 | .tuple ds,_,t,h=>let ⟨q,vs,q1,q2,q3⟩:=h;⟨q,vs,q1,e _ _ (λ z=>by subst z;rw[hp] at q2;cases q2) q2,IsAll.but e hp ds t q3⟩
 | .list ds,_,t,h=>by cases t
 | .dict _,_,t,h=>by cases t
theorem IsAll.but {K:a8}{H H':Hp}{p:j4}{xs:List V}(e:But p H H')(hp:H p=some (.lst xs)):∀ (ds:List r6){vs:List V},tupAll ds=true->IsAll K H ds vs->IsAll K H' ds vs
 | [],_,_,h=>h
 | d::ds,_,t,h=>by
  have t':(tupD d&&tupAll ds)=true:=t
  rw[r9] at t'
  obtain⟨v,r,q1,q2,q3⟩:=h
  exact⟨v,r,q1,Is.but e hp d t'.1 q2,IsAll.but e hp ds t'.2 q3⟩
end
def Pot (H:Hp)(p:j4):Prop:=∃ a b:Int,H p=some (.lst [.int a,.int b])/\0<=a/\0<=b/\b<2147483647
theorem Pot.lst {H:Hp}{p:j4}(h:Pot H p):∃ xs,H p=some (.lst xs):=let ⟨a,b,e,_⟩:=h;⟨_,e⟩
def spPot (K:a8):Sp:=λ vs H Q _=>∃ a k,∃ ns:List Int,vs=[.ref a,.int k]/\SqL K H a (ns.map V.int)/\0<=k/\k<=100/\∀ l H',Same H H'->H l=none->Pot H' l->Q (.ref l) H'
def spTake:Sp:=λ vs H Q _=>∃ p m,vs=[.ref p,.int m]/\Pot H p/\0<m/\m<1073741824/\∀ r H',0<=r->r<m->But p H H'->Pot H' p->Q (.int r) H'
def spLength:Sp:=λ vs H Q _=>∃ p y,vs=[.ref p,.int y]/\Pot H p/\0<=y/\y<5/\∀ r H',1<=r->r<=10^18->But p H H'->Pot H' p->Q (.int r) H'
def spTied:Sp:=λ vs H Q _=>∃ p n y a b,vs=[.ref p,.int n,.int y,.int a,.int b]/\Pot H p/\∀ k H',But p H H'->Pot H' p->Q (.bl k) H'
def spOrder:Sp:=λ vs H Q _=>∃ p m,vs=[.ref p,.int m]/\Pot H p/\0<=m/\m<=1000/\∀ l H' (ms:List Int),But p H H'->Pot H' p->H l=none->l≠p->H' l=some (.lst (ms.map V.int))->ms.Perm ((d7 m.toNat).map λ i:Nat=>(i:Int))->Q (.ref l) H'
abbrev Tie:=Int × Int × Int
def tieI (t:Tie):List Int:=[t.1,t.2.1,t.2.2]
def tieD (t:Tie):r6:=.tuple ((tieI t).map .int)
def webD (n:Int)(ties:List Tie):r6:=.tuple [.int n,.tuple (ties.map tieD)]
def endLt (s t:Tie):Prop:=s.1<t.1\/(s.1=t.1/\s.2.1<t.2.1)
structure WebOk (n:Int)(ties:List Tie):Prop where
 n1:1<=n
 n24:n<=24
 rise:ties.Pairwise endLt
 few:ties.length<=60
 tie:∀ t∈ties,0<=t.1/\t.1<t.2.1/\t.2.1<n/\1<=t.2.2/\t.2.2<=10^18
def spWeb (K:a8):Sp:=λ vs H Q _=>∃ p m,vs=[.ref p,.int m]/\Pot H p/\1<=m/\m<=24/\∀ v H' n ties,But p H H'->Pot H' p->WebOk n ties->n<=m->Is K H' (webD n ties) v->Q v H'
end L3
namespace L3
structure Grown (n:Nat)(ms:List Int)(b a:Nat)(ties:List Tie):Prop where
 few:ties.length<=60
 ok:∀ t∈ties,0<=t.1/\t.1<t.2.1/\t.2.1<(n:Int)/\1<=t.2.2/\t.2.2<=10^18
 of:∀ t∈ties,∃ a' b':Nat,a'<b'/\b'<n/\(b'<b\/(b'=b/\a'<a))/\((t.1=ms.getD a' 0/\t.2.1=ms.getD b' 0)\/(t.1=ms.getD b' 0/\t.2.1=ms.getD a' 0))
 nd:ties.Pairwise λ s t=>¬ (s.1=t.1/\s.2.1=t.2.1)
theorem Grown.start {n:Nat}{ms:List Int}:Grown n ms 0 0 []:=⟨uad _,(λ t h=>by cases h),(λ t h=>by cases h),ucb⟩
theorem Grown.down {n:Nat}{ms:List Int}{b:Nat}{ties:List Tie}(g:Grown n ms b b ties):Grown n ms (b+1) 0 ties :=
 ⟨g.few,g.ok,λ t h=>by
  obtain⟨a',b',h1,h2,h3,h4⟩:=g.of t h
  exact⟨a',b',h1,h2,.inl (by left),h4⟩,g.nd⟩
theorem Grown.skip {n:Nat}{ms:List Int}{b a:Nat}{ties:List Tie}(g:Grown n ms b a ties):Grown n ms b (a+1) ties :=
 ⟨g.few,g.ok,λ t h=>by
  obtain⟨a',b',h1,h2,h3,h4⟩:=g.of t h
  exact⟨a',b',h1,h2,by left,h4⟩,g.nd⟩
structure Perm0 (n:Nat)(ms:List Int):Prop where
 len:ms.length=n
 lo:∀ i,i<n->0<=ms.getD i 0/\ms.getD i 0<(n:Int)
 inj:∀ i j,i<n->j<n->ms.getD i 0=ms.getD j 0->i=j
theorem Perm0.of {n:Nat}{ms:List Int}(h:ms.Perm ((d7 n).map λ i:Nat=>(i:Int))):Perm0 n ms:=by
 have hl:ms.length=n:=by simpa using h.length_eq
 have nd:ms.Nodup:=(h.nodup_iff).mpr (by
  rw[List.Nodup,uar]
  exact (udg (n:=n)).imp λ h z=>h (by left))
 refine⟨hl,λ i hi=>?_,λ i j hi hj e=>?_⟩
 ·have e:ms.getD i 0=ms[i]:=by simp [ubo,show i<ms.length by left]
  have m:ms[i]'(by left)∈(d7 n).map λ i:Nat=>(i:Int):=h.mem_iff.mp (ueo _)
  rw[e]
  obtain⟨k,hk,ek⟩:=o7.mp m
  have:=l9.mp hk
  left
 ·have e1:ms.getD i 0=ms[i]:=by simp [ubo,show i<ms.length by left]
  have e2:ms.getD j 0=ms[j]:=by simp [ubo,show j<ms.length by left]
  rw[e1,e2] at e
  exact (List.getElem_inj nd).mp e
theorem Grown.add {n:Nat}{ms:List Int}{b a:Nat}{ties:List Tie}{x y l:Int}(g:Grown n ms b a ties)(pm:Perm0 n ms)(ha:a<b)(hb:b<n)(hf:ties.length<60)(hl:1<=l)(hl2:l<=10^18)
  (hxy:(x=ms.getD a 0/\y=ms.getD b 0)\/(x=ms.getD b 0/\y=ms.getD a 0)) (hle:x<=y):Grown n ms b (a+1) (ties++[(x,y,l)]):=by
 have han:=Nat.lt_trans ha hb
 have la:=pm.lo a han
 have lb:=pm.lo b hb
 have ne:ms.getD a 0≠ms.getD b 0:=λ e=>j6 ha (pm.inj a b han hb e)
 refine⟨by rw[g9,uaf];exact hf,λ t ht=>?_,λ t ht=>?_,?_⟩
 ·rcases m5.mp ht with h | h
  ·exact g.ok t h
  ·have e:t=(x,y,l):=i5.mp h
   subst e
   refine⟨?_,?_,?_,hl,hl2⟩
   ·show 0<=x
    rcases hxy with ⟨q1,q2⟩ | ⟨q1,q2⟩
    ·rw[q1];exact la.1
    ·rw[q1];exact lb.1
   ·show x<y
    refine Int.lt_iff_le_and_ne.mpr ⟨hle,λ z=>?_⟩
    rcases hxy with ⟨q1,q2⟩ | ⟨q1,q2⟩
    ·exact ne (q1.symm.trans (z.trans q2))
    ·exact ne (q2.symm.trans (z.symm.trans q1))
   ·show y<(n:Int)
    rcases hxy with ⟨q1,q2⟩ | ⟨q1,q2⟩
    ·rw[q2];exact lb.2
    ·rw[q2];exact la.2
 ·rcases m5.mp ht with h | h
  ·obtain⟨a',b',h1,h2,h3,h4⟩:=g.of t h
   exact⟨a',b',h1,h2,h3.imp id λ z=>⟨z.1,udd z.2⟩,h4⟩
  ·have e:t=(x,y,l):=i5.mp h
   subst e
   exact⟨a,b,ha,hb,.inr ⟨rfl,Nat.lt_succ_self _⟩,hxy⟩
 ·rw[uct]
  refine⟨g.nd,ufi _ _,λ t ht u hu=>?_⟩
  have e:u=(x,y,l):=i5.mp hu
  subst e
  rintro ⟨e1,e2⟩
  obtain⟨a',b',h1,h2,h3,h4⟩:=g.of t ht
  have e1':t.1=x:=e1
  have e2':t.2.1=y:=e2
  have h1n:=Nat.lt_trans h1 h2
  have fin:a'=a->b'=b->False:=λ ea eb=>h3.elim (λ z=>j6 z eb) λ z=>j6 z.2 ea
  have fin2:a'=b->b'=a->False:=λ ea eb=>Nat.lt_asymm ha (by rw[← ea,← eb];exact h1)
  rcases h4 with ⟨p1,p2⟩ | ⟨p1,p2⟩ <;> rcases hxy with ⟨q1,q2⟩ | ⟨q1,q2⟩
  ·exact fin (pm.inj a' a h1n han (p1.symm.trans (e1'.trans q1))) (pm.inj b' b h2 hb (p2.symm.trans (e2'.trans q2)))
  ·exact fin2 (pm.inj a' b h1n hb (p1.symm.trans (e1'.trans q1))) (pm.inj b' a h2 han (p2.symm.trans (e2'.trans q2)))
  ·exact fin2 (pm.inj a' b h1n hb (p2.symm.trans (e2'.trans q2))) (pm.inj b' a h2 han (p1.symm.trans (e1'.trans q1)))
  ·exact fin (pm.inj a' a h1n han (p2.symm.trans (e2'.trans q2))) (pm.inj b' b h2 hb (p1.symm.trans (e1'.trans q1)))
theorem zE {ts:List Tie}(h:ts.Pairwise λ a b=>Srt.lexI (tieI b) (tieI a)=false)(nd:ts.Pairwise λ s t=>¬ (s.1=t.1/\s.2.1=t.2.1)):ts.Pairwise endLt:=by
 refine (h.and nd).imp λ {a b} hab=>?_
 obtain⟨h1,h2⟩:=hab
 obtain⟨a1,a2,a3⟩:=a
 obtain⟨b1,b2,b3⟩:=b
 simp only [tieI,Srt.lexI] at h1
 show a1<b1\/(a1=b1/\a2<b2)
 have h2':¬ (a1=b1/\a2=b2):=h2
 by_cases e1:b1=a1
 ·rw[ufo e1] at h1
  by_cases e2:b2=a2
  ·exact absurd ⟨e1.symm,e2.symm⟩ h2'
  ·rw[ufp e2] at h1
   have:=ufn h1
   exact .inr ⟨e1.symm,by left⟩
 ·rw[ufp e1] at h1
  have:=ufn h1
  exact .inl (by left)
end L3
namespace L3
open PySem PySem.Spec PyProof.Rows L2
section
variable {X:Cx}{pos:Pos}
theorem nS:OpR X (binaryOp .Mult) (rI (λ i j=>IntMulOk i j) λ i j=>.int (i*j)):=opI λ _ _ _ _ _ _ _ hc q=>mul_int q hc
theorem mulB:IntMulOk ((10:Int)^(60:Int).toNat) ((10:Int)^(60:Int).toNat):=IntMulOk.of_bits (by symm) (by symm)
theorem mulB2:IntMulOk ((10:Int)^(60:Int).toNat*(10:Int)^(60:Int).toNat) ((10:Int)^(60:Int).toNat):=IntMulOk.of_bits (by symm) (by symm)
theorem posB:(0:Int)<(10:Int)^(60:Int).toNat*(10:Int)^(60:Int).toNat*(10:Int)^(60:Int).toNat:=by symm
inductive call_range_i  (xs:List V) (H:Hp) (Q:VK):Prop
 | mk:∀ (j:Int),(xs=[.int j])->(∀ p,H p=none->Q (.ref p) (upd H p (.rng 0 j)))->call_range_i xs H Q
theorem hO:CallR X (.type "range") (call_range_i):=by
 intro pins s σ H xs us Q I r h
 obtain⟨j,rfl,q⟩:=h
 obtain⟨u,rfl,t,rfl⟩:=vals1 r
 refine call_range_1 ⟨.ref s.heap.objs.size,_,I.laid (a:=s.heap.objs.size) (o:=.rng 0 j) (λ b o e=>b7 _ e) (d8 _) ⟨_,_,_,j0 _ rfl⟩,rfl,q _ I.fresh⟩
inductive call_list_rng_i  (xs:List V) (H:Hp) (Q:VK):Prop
 | mk:∀ (p:j4)(j:Int),(xs=[.ref p])->(H p=some (.rng 0 j))->(0<=j)->(j<=1000)->(∀ l,H l=none->Q (.ref l) (upd H l (.lst ((d7 j.toNat).map λ i:Nat=>V.int (i:Int)))))->call_list_rng_i xs H Q
theorem kD (hh:X.calm=true):CallR X (.type "list") (call_list_rng_i):=by
 intro pins s σ H xs us Q I r h
 obtain⟨p,j,rfl,hp,hj0,hj,q⟩:=h
 obtain⟨u,rfl,rx⟩:=vals1 r
 cases rx
 obtain⟨t,u,v,e⟩:=(show ObjOk X.prog X.w H s.heap p (.rng 0 j) from I.hok p _ hp)
 refine call_list_range (n:=j.toNat) (I.ok.hd hh) (show IsRange s.heap p 0 j 1 t u v from e) (small_one (by left) (by left) (by left) (by left)) (by rw[rangeSize_one];split <;> left) (by left) λ h' tk acc c hk hS hacc=>?_
 refine⟨.ref s.heap.objs.size,_,I.laid (a:=s.heap.objs.size) (o:=.lst ((d7 j.toNat).map λ i:Nat=>V.int (i:Int))) (t':=tk) hk (d8 _) ⟨?_,acc.toList,c,?_,by simpa using hS⟩,rfl,q _ I.fresh⟩
 ·rw[c7,j9,ubd];left
 ·have go:∀ (n:Nat)(l:List c9),l.length=n->(∀ (k:Nat)(v:c9),l[k]?=some v->∃ t,v=Value.int (0+(k:Int)*1) t)->Vals ((d7 n).map λ i:Nat=>V.int (i:Int)) l:=by
   intro n l hl hv
   have gen:∀ (l:List c9)(o:Nat),(∀ (k:Nat)(v:c9),l[k]?=some v->∃ t,v=Value.int ((o+k:Nat):Int) t)->Vals ((List.range' o l.length).map λ i:Nat=>V.int (i:Int)) l:=by
    intro l
    induction l with
    | nil=>intro o _;exact .nil
    | cons x r ih =>
     intro o h
     rw[ube,List.range'_succ,ubg]
     obtain⟨t,ht⟩:=h 0 x rfl
     refine .cons ⟨t,by simpa using ht⟩ (ih (o+1) λ k v hk=>?_)
     obtain⟨t,ht⟩:=h (k+1) v (by simpa using hk)
     exact⟨t,by rw[ht];congr 1;left⟩
   have:=gen l 0 λ k v hk=>by
    obtain⟨t,ht⟩:=hv k v hk
    exact⟨t,by rw[ht];congr 1;left⟩
   rw[hl] at this
   rw[List.range_eq_range']
   exact this
  refine go _ _ (by simpa using hacc.1) λ k v hk=>hacc.2 k v (by simpa using hk)
end
theorem kR {α:Type}:∀ (l:List α)(k:Nat)(h:k<l.length),(l[k]::l.eraseIdx k).Perm l
 | [],k,h=>absurd h (uc0 _)
 | a::l,0,_=>ucg _
 | a::l,k+1,h=>by
  have h':k<l.length:=by simpa using h
  show (l[k]::a::l.eraseIdx k).Perm (a::l)
  exact (List.Perm.swap a l[k] _).trans ((kR l k h').cons a)
theorem lH {α β:Type}(f:α->β):∀ (l:List α)(k:Nat),(l.eraseIdx k).map f=(l.map f).eraseIdx k
 | [],_=>rfl
 | _::_,0=>rfl
 | a::l,k+1=>by
  show f a::(l.eraseIdx k).map f=f a::(l.map f).eraseIdx k
  rw[lH f l k]
def TieL (H:Hp)(ys:List V)(ts:List Tie):Prop:=Paired (λ (y:V) (t:Tie)=>∃ a,y=.ref a/\H a=some (.tup ((tieI t).map V.int))) ys ts
theorem TieL.keep {H H':Hp}{ys:List V}{ts:List Tie}(h:TieL H ys ts)(k:∀ a xs,H a=some (.tup xs)->H' a=some (.tup xs)):TieL H' ys ts :=
 Paired.mapP h λ y t ⟨a,e1,e2⟩=>⟨a,e1,k _ _ e2⟩
theorem TieL.snoc {H:Hp}{ys:List V}{ts:List Tie}{a:j4}{t:Tie}(h:TieL H ys ts)(e:H a=some (.tup ((tieI t).map V.int))):TieL H (ys++[.ref a]) (ts++[t]):=Paired.snoc h ⟨a,rfl,e⟩
theorem kM {α β γ:Type}{F:β->γ->Prop}(f:α->β)(g:α->γ):∀ {l:List α},(∀ x∈l,F (f x) (g x))->Paired F (l.map f) (l.map g)
 | [],_=>.nil
 | x::l,h=>.cons (h x i3) (kM f g λ y hy=>h y (j7 _ hy))
theorem kL {α β γ:Type}{F:α->β->Prop}{f:β->γ}:∀ {l:List α}{r:List β},Paired F l r->∀ q∈l.zip (r.map f),∃ b,q.2=f b/\F q.1 b
 | _,_,.nil,q,h=>by cases h
 | _,_,.cons (a:=a) (b:=b) x t,q,h=>by
  rw[ubg,uc3] at h
  rcases k8.mp h with e | h
  ·subst e;exact⟨b,rfl,x⟩
  ·exact kL t q h
theorem kF {F:V->Tie->Prop}{G:V->List Int->Prop}(h:∀ y t,F y t->G y (tieI t)):∀ {ys:List V}{ts:List Tie},Paired F ys ts->Paired G ys (ts.map tieI)
 | _,_,.nil=>.nil
 | _,_,.cons x t=>.cons (h _ _ x) (kF h t)
def tieOf:List Int->Tie
 | [a,b,c]=>(a,b,c)
 | _=>(0,0,0)
theorem yX (t:Tie):tieOf (tieI t)=t:=rfl
theorem yW {H:Hp}{ys:List V}{ts:List Tie}(h:TieL H ys ts){qs:List (V × List Int)}(p:qs.Perm (ys.zip (ts.map tieI)))(w:qs.Pairwise λ a b=>Srt.lexI b.2 a.2=false) :
  ∃ ts':List Tie,ts'.Perm ts/\TieL H (qs.map (·.1)) ts'/\ts'.Pairwise λ a b=>Srt.lexI (tieI b) (tieI a)=false:=by
 have mem:∀ q∈qs,∃ t,q.2=tieI t/\∃ a,q.1=.ref a/\H a=some (.tup ((tieI t).map V.int)):=λ q hq=>kL h q (p.mem_iff.mp hq)
 have back:∀ q∈qs,tieI (tieOf q.2)=q.2:=λ q hq=>by
  obtain⟨t,e,_⟩:=mem q hq
  rw[e];rfl
 refine⟨qs.map λ q=>tieOf q.2,?_,kM _ _ λ q hq=>?_,?_⟩
 ·have e1:(qs.map λ q=>tieOf q.2).Perm ((ys.zip (ts.map tieI)).map λ q=>tieOf q.2):=p.map _
  have e2:(ys.zip (ts.map tieI)).map (λ q=>tieOf q.2)=ts:=by
   have l:ys.length=(ts.map tieI).length:=by rw[c7];exact Paired.length h
   have:(ys.zip (ts.map tieI)).map (λ q=>tieOf q.2)=((ys.zip (ts.map tieI)).map (·.2)).map tieOf:=by rw[uam];rfl
   rw[this,uen (udv l.symm),uam]
   exact (ubt λ t _=>yX t).trans (ud1 _)
  rw[e2] at e1
  exact e1
 ·obtain⟨t,e,a,ea,eh⟩:=mem q hq
  refine⟨a,ea,?_⟩
  rw[back q hq,e];exact eh
 ·rw[uar]
  refine w.imp_of_mem λ {a b} ha hb z=>?_
  rw[back a ha,back b hb];exact z
theorem TieL.is {K:a8}{H:Hp}:∀ {ys:List V}{ts:List Tie},TieL H ys ts->IsAll K H (ts.map tieD) ys
 | _,_,.nil=>rfl
 | _,_,.cons (a:=y) (b:=t) ⟨a,e1,e2⟩ r=>⟨_,_,rfl,⟨a,_,e1,e2,IsAll.ints _⟩,TieL.is r⟩
theorem tY {x y:Int}{ms:List Int}(p:ms.Perm [x,y])(w:ms.Pairwise (·<=·)):∃ a b,ms=[a,b]/\a<=b/\((a=x/\b=y)\/(a=y/\b=x)):=by
 have hl:=p.length_eq
 match ms,hl,p,w with
 | [a,b],_,p,w =>
  refine⟨a,b,rfl,by simpa using w,?_⟩
  have ha:a∈[x,y]:=p.mem_iff.mp (by simp)
  rcases k8.mp ha with e | e
  ·subst e
   have:=(List.perm_cons a).mp p
   have e2:b=y:=by simpa using List.perm_singleton.mp this
   exact .inl ⟨rfl,e2⟩
  ·have e':a=y:=by simpa using e
   subst e'
   have p2:[a,b].Perm [a,x]:=p.trans (List.Perm.swap a x [])
   have:=(List.perm_cons a).mp p2
   have e2:b=x:=by simpa using List.perm_singleton.mp this
   exact .inr ⟨rfl,e2⟩
def TupKeep (H H':Hp):Prop:=∀ a xs,H a=some (.tup xs)->H' a=some (.tup xs)
section
variable {J:It}{g:TG}{te:TE}{own:List Str}{js:List Nat}{σ:L2.St}{H1:Hp}{Q:VK}
theorem iM (n:Nat)(Sg:L2.St->Prop)(R:Nat->V->Hp->Prop)(hn:n<=1000)(h0:Sg (start3 own js σ))(mono:∀ i v H H',TupKeep H H'->R i v H->R i v H')
  (go:∀ i H',i<n->Same H1 H'->J.go i H') (stop:∀ H',Same H1 H'->J.stop n H')
  (step:∀ i x σ' H' H2,i<n->Same H1 H'->J.yld i H' x H2->Sg σ'->∀ C:L2.St->V->Hp->Prop,(∀ σ3 v H5,Sg σ3->Same H' H5->R i v H5->C σ3 v H5)->g x σ' H2 λ σ3 H3=>te σ3 H3 λ v H5=>C σ3 v H5)
  (fin:∀ D ys H',H1 D=none->Same H1 H'->H' D=some (.lst ys)->ys.length=n->(∀ i v,ys[i]?=some v->R i v H')->Q (.ref D) H'):CompGo own js g tTrue te σ Q J H1:=by
 intro D hD
 refine⟨λ i m ys σ' H'=>m=n-i/\i<=n/\Sg σ'/\Same H1 H'/\ys.length=i/\∀ j v,ys[j]?=some v->R j v H',⟨n,rfl,uad _,h0,aW hD,rfl,λ j v e=>by simp at e⟩,?_⟩
 rintro i m ys σ' H' ⟨rfl,hi,sg,sm,hl,hr⟩ hd
 by_cases hlt:i<n
 ·refine .inr ⟨go i H' hlt sm,λ x H2 hy=>?_⟩
  refine step i x σ' H' H2 hlt sm hy sg (λ σ3 v H5=>H5 D=some (.lst ys)/\ys.length<o9/\∃ m',m'<n-i/\(m'=n-(i+1)/\i+1<=n/\Sg σ3/\Same H1 (upd H5 D (.lst (ys++[v])))/\(ys++[v]).length=i+1/\∀ j u,(ys++[v])[j]?=some u->R j u (upd H5 D (.lst (ys++[v]))))) λ σ3 v H5 sg3 s5 r5=>?_
  have hd5:=s5 _ _ hd
  refine⟨hd5,ubn (by left:ys.length<=1000) (by decide),n-(i+1),by left,rfl,hlt,sg3,λ b o e=>?_,by rw[g9,uaf,hl],λ j u e=>?_⟩
  ·rw[aK (aY e hD)];exact s5 _ _ (sm _ _ e)
  ·have tk5:TupKeep H5 (upd H5 D (.lst (ys++[v]))):=λ a xs e=>by rw[aK (λ z=>by rw[z,hd5] at e;cases e)];exact e
   by_cases hj:j<ys.length
   ·rw[uai hj] at e
    exact mono _ _ _ _ tk5 (mono _ _ _ _ (λ a xs z=>s5 _ _ z) (hr j u e))
   ·rw[uaa (by left)] at e
    have ej:j=ys.length:=by
     have:=(i0.mp e).1
     simp at this;left
    subst ej
    have eu:v=u:=by simpa using e
    subst eu
    rw[hl]
    exact mono _ _ _ _ tk5 r5
 ·have e:i=n:=by left
  subst e
  exact .inl ⟨stop H' sm,fin D ys H' hD sm hd hl hr⟩
theorem mX {K:a8}{a:j4}{xs:List V}(hx:H1 a=some (.tup xs))(Sg:L2.St->Prop)(R:Nat->V->Hp->Prop)(hn:xs.length<=1000)(h0:Sg (start3 own js σ))(mono:∀ i v H H',TupKeep H H'->R i v H->R i v H')
  (step:∀ i x σ' H',xs[i]?=some x->Same H1 H'->Sg σ'->∀ C:L2.St->V->Hp->Prop,(∀ σ3 v H5,Sg σ3->Same H' H5->R i v H5->C σ3 v H5)->g x σ' H' λ σ3 H3=>te σ3 H3 λ v H5=>C σ3 v H5)
  (fin:∀ D ys H',H1 D=none->Same H1 H'->H' D=some (.lst ys)->ys.length=xs.length->(∀ i v,ys[i]?=some v->R i v H')->Q (.ref D) H'):CompGo own js g tTrue te σ Q (Itt K a) H1:=by
 refine iM xs.length Sg R hn h0 mono (λ i H' hi s=>⟨xs,xs[i],SqT.of (s _ _ hx),by simp [hi]⟩) (λ H' s=>⟨xs,SqT.of (s _ _ hx),d8 _⟩) (λ i x σ' H' H2 hi s hy sg C hC=>?_) fin
 obtain⟨rfl,hy⟩:=hy
 exact step i x σ' _ (hy xs (SqT.of (s _ _ hx))) s sg C hC
theorem dY {K:a8}{a:j4}{xs:List V}(hx:H1 a=some (.lst xs))(Sg:L2.St->Prop)(R:Nat->V->Hp->Prop)(hn:xs.length<=1000)(h0:Sg (start3 own js σ))(mono:∀ i v H H',TupKeep H H'->R i v H->R i v H')
  (step:∀ i x σ' H',xs[i]?=some x->Same H1 H'->Sg σ'->∀ C:L2.St->V->Hp->Prop,(∀ σ3 v H5,Sg σ3->Same H' H5->R i v H5->C σ3 v H5)->g x σ' H' λ σ3 H3=>te σ3 H3 λ v H5=>C σ3 v H5)
  (fin:∀ D ys H',H1 D=none->Same H1 H'->H' D=some (.lst ys)->ys.length=xs.length->(∀ i v,ys[i]?=some v->R i v H')->Q (.ref D) H'):CompGo own js g tTrue te σ Q (Itl K a) H1:=by
 refine iM xs.length Sg R hn h0 mono (λ i H' hi s=>⟨xs,xs[i],SqL.of (s _ _ hx),by simp [hi]⟩) (λ H' s=>⟨xs,SqL.of (s _ _ hx),d8 _⟩) (λ i x σ' H' H2 hi s hy sg C hC=>?_) fin
 obtain⟨rfl,hy⟩:=hy
 exact step i x σ' _ (hy xs (SqL.of (s _ _ hx))) s sg C hC
theorem SqX.of {t:Bool}{K:a8}{H:Hp}{a:j4}{xs:List V}(h:H a=some (if t=true then .tup xs else .lst xs)):SqX t K H a xs:=by
 cases t with
 | true=>exact SqT.of h
 | false=>exact SqL.of h
theorem xZ {t1 t2:Bool}{K:a8}{a b:j4}{xs zs:List V}(hx:H1 a=some (if t1=true then .tup xs else .lst xs))(hz:H1 b=some (if t2=true then .tup zs else .lst zs))(Sg:L2.St->Prop)(R:Nat->V->Hp->Prop)(hn:xs.length<=1000)
  (h0:Sg (start3 own js σ)) (mono:∀ i v H H',TupKeep H H'->R i v H->R i v H')
  (step:∀ i x z T σ' H',xs[i]?=some x->zs[i]?=some z->Same H1 H'->H' T=none->Sg σ'->∀ C:L2.St->V->Hp->Prop,(∀ σ3 v H5,Sg σ3->Same H' H5->R i v H5->C σ3 v H5)->g (.ref T) σ' (upd H' T (.tup [x,z])) λ σ3 H3=>te σ3 H3 λ v H5=>C σ3 v H5)
  (fin:∀ D ys H',H1 D=none->Same H1 H'->H' D=some (.lst ys)->ys.length=min xs.length zs.length->(∀ i v,ys[i]?=some v->R i v H')->Q (.ref D) H'):CompGo own js g tTrue te σ Q (Itz t1 t2 K a b) H1:=by
 have s1:∀ H',Same H1 H'->SqX t1 K H' a xs:=λ H' s=>SqX.of (s _ _ hx)
 have s2:∀ H',Same H1 H'->SqX t2 K H' b zs:=λ H' s=>SqX.of (s _ _ hz)
 refine iM (min xs.length zs.length) Sg R (by left) h0 mono (λ i H' hi s=>⟨xs,zs,xs[i]'(by left),zs[i]'(by left),s1 H' s,s2 H' s,by simp [show i<xs.length by left],by simp [show i<zs.length by left]⟩)
  (λ H' s=>⟨xs,zs,s1 H' s,s2 H' s,by left⟩) (λ i x σ' H' H2 hi s hy sg C hC=>?_) fin
 obtain⟨T,x1,z1,hT,rfl,rfl,e1,e2⟩:=hy
 exact step i x1 z1 T σ' H' (e1 _ (s1 H' s)) (e2 _ (s2 H' s)) s hT sg C hC
end
theorem nD {f:Nat->Bool}{n:Nat}{ys:List V}(hl:ys.length=n)(h:∀ (i:Nat) (v:V),ys[i]?=some v->v=V.bl (f i)):ys=((d7 n).map f).map V.bl:=by
 refine ub6 λ i=>?_
 by_cases hi:i<n
 ·obtain⟨v,hv⟩:∃ v,ys[i]?=some v:=⟨ys[i],c6 (by left)⟩
  rw[hv,h i v hv]
  simp [hi]
 ·rw[uag (by left),uag (by simp;left)]
def tyD:r6->String
 | .none=>"NoneType"
 | .bool _=>"bool"
 | .int _=>"int"
 | .str _=>"str"
 | .tuple _=>"tuple"
 | .list _=>"list"
 | .dict _=>"dict"
theorem jP {K:a8}{H:Hp}:∀ {d:r6}{v:V},Is K H d v->TyOf K H v (.type (tyD d))
 | .none,_,h=>by rw[show _=V.non from h];exact .non
 | .bool b,_,h=>by rw[show _=V.bl b from h];exact .bl b
 | .int i,_,h=>by rw[show _=V.int i from h];exact .int i
 | .str x,_,h=>by rw[show _=V.str x from h];exact .str x
 | .tuple _,_,⟨p,vs,e,h,_⟩=>by rw[e];exact .tup h
 | .list _,_,⟨p,vs,e,h,_⟩=>by rw[e];exact .lst h
 | .dict _,_,⟨_,p,e,h⟩=>by rw[e];exact .dK h
def wholeB:r6->Bool
 | .int _=>true
 | _=>false
def wholesB:r6->Bool
 | .tuple ds=>ds.all wholeB
 | _=>false
def tieB (n:Int):r6->Bool
 | .tuple [.int a,.int b,.int l]=>decide (0<=a)&&decide (a<b)&&decide (b<n)&&decide (1<=l)&&decide (l<=10^18)
 | _=>false
def few:r6->Prop
 | .tuple ds=>ds.length<=1000
 | .list ds=>ds.length<=1000
 | _=>True
def spD1 (K:a8)(pre:r6->Prop)(f:r6->Bool):Sp:=λ vs H Q _=>∃ d v,vs=[v]/\Is K H d v/\pre d/\∀ H',Same H H'->Q (.bl (f d)) H'
section
variable {g:TG}{te:TE}{own:List Str}{js:List Nat}{σ:L2.St}{H1:Hp}{Q:VK}
end
def e2 (e:Int × Int):List Int:=[e.1,e.2]
def risingB (es:List (Int × Int)):Bool:=((d7 (min es.length (es.drop 1).length)).map λ i=>HT.lexLt (e2 (es.getD i (0,0))) (e2 ((es.drop 1).getD i (0,0)))).all id
def TwoL (H:Hp)(ys:List V)(es:List (Int × Int)):Prop:=Paired (λ (y:V) (e:Int × Int)=>∃ a,y=.ref a/\H a=some (.tup [.int e.1,.int e.2])) ys es
theorem TwoL.get {H:Hp}:∀ {ys:List V}{es:List (Int × Int)}{i:Nat}{y:V},TwoL H ys es->ys[i]?=some y->∃ a,y=.ref a/\H a=some (.tup ((e2 (es.getD i (0,0))).map V.int))
 | _,_,_,_,.nil,h=>by simp at h
 | _,_,0,y,.cons (a:=y0) r t,h=>by
  have e:y0=y:=by simpa using h
  subst e
  exact r
 | _,_,i+1,_,.cons r t,h=>TwoL.get (i:=i) t (by simpa using h)
section
variable {g:TG}{te:TE}{own:List Str}{js:List Nat}{σ:L2.St}{H1:Hp}{Q:VK}
end
theorem TieL.get {H:Hp}{ys:List V}{us:List Tie}{i:Nat}{x:V}(h:TieL H ys us)(e:ys[i]?=some x):∃ a,x=.ref a/\H a=some (.tup ((tieI (us.getD i (0,0,0))).map V.int)):=by
 induction h generalizing i with
 | nil=>simp at e
 | @cons y0 _ _ _ r t ih =>
  cases i with
  | zero =>
   have e':y0=x:=by simpa using e
   rw[← e'];exact r
  | succ i=>exact ih (i:=i) (by simpa using e)
section
variable {X:Cx}{own fr:List Str}{scope:ucd}{fp:List j4}{pins:List (j4 × Obj)}{s3:d6}{H3:Hp}{pos:Pos}
theorem zI {es:List ubl}{k:Nat}{t:TGs}{n:Nat}(hc:X.calm=true)(h:PGs (cxComp X own fr scope fp pins s3 H3) es t)
  (hn:(assignEach es (cxComp X own fr scope fp pins s3 H3).env).length=n:=by rfl) (hst:(assignEach es (cxComp X own fr scope fp pins s3 H3).env).findIdx? (·.1)=none:=by rfl):PG (cxComp X own fr scope fp pins s3 H3) (.Tuple es k pos) (gTup X.K n t) :=
 bS (X:=cxComp X own fr scope fp pins s3 H3) hc h hn hst
theorem cX:IxR (cxComp X own fr scope fp pins s3 H3) (rIxT X.K):=aL (X:=cxComp X own fr scope fp pins s3 H3)
theorem eG:OpR (cxComp X own fr scope fp pins s3 H3) (compareOp .NotIn) (rIn X.K true):=fL (X:=cxComp X own fr scope fp pins s3 H3)
end
def KeepOk (m:Nat)(ks:List Nat):Prop:=ks.Pairwise (·<·)/\∀ k∈ks,k<m
def keepI (ks:List Nat):List Int:=ks.map λ k:Nat=>(k:Int)
def keepD (ks:List Nat):r6:=.tuple ((keepI ks).map .int)
theorem KeepOk.len {m:Nat}{ks:List Nat}(h:KeepOk m ks):ks.length<=m:=by
 have go:∀ (ks:List Nat)(lo m:Nat),ks.Pairwise (·<·)->(∀ k∈ks,lo<=k/\k<m)->ks.length+lo<=max m lo:=by
  intro ks
  induction ks with
  | nil=>intro lo m _ _;simp;left
  | cons k r ih =>
   intro lo m hp hb
   have h1:=hb k i3
   have:=ih (k+1) m (ud6.mp hp).2 λ j hj=>⟨(ud6.mp hp).1 j hj,(hb j (j7 _ hj)).2⟩
   rw[ube]
   left
 have:=go ks 0 m h.1 λ k hk=>⟨uad _,h.2 k hk⟩
 left
theorem bC {K:a8}{H:Hp}{n:Int}{ts:List Tie}{v:V}(h:Is K H (webD n ts) v):∃ (p g:j4)(ws:List V),v=.ref p/\H p=some (.tup [.int n,.ref g])/\H g=some (.tup ws)/\IsAll K H (ts.map tieD) ws/\ws.length=ts.length:=by
 obtain⟨p,vs,rfl,hp,v1,r1,rfl,e1,v2,r2,rfl,⟨g,ws,rfl,hg,hall⟩,e3⟩:=h
 have e1':v1=.int n:=e1
 have e3':r2=[]:=e3
 subst e1' e3'
 exact⟨p,g,ws,rfl,hp,hg,hall,by have:=hall.length;rw[c7] at this;exact this⟩
end L3
namespace Z3
open PySem
section
variable {prog:m3}{w:uac}{A:v6}{E:c9->d6->Prop}{s:d6}
theorem xV (t:Bool)(l:j4)(xs:Array c9) :
  Meets (Builtin.«enumerate.__new__» ⟨[.type "enumerate",.ref l],[]⟩) (λ _ R s=>SqAt t s.heap l xs /\
   R (.ok (.ret (.ref (s.heap.push (itObj t l)).objs.size))) { s with heap:=(s.heap.push (itObj t l)).push { cls:=.type "enumerate",data:=.fields #[.none,.bool false,.ref s.heap.objs.size,rawInt 0,.none,.none] } }) :=
 .of_wp λ prog w A R s h=>by
  obtain⟨hp,g,d,tk,os⟩:=s;obtain⟨hl,h⟩:=h
  have hsub:=sub_enumerate
  have b1:SqAt t (Shared.heap ⟨hp,g,d,tk,os⟩) l xs:=hl
  obtain⟨o,ho⟩:∃ o,hp.get? l=some o:=by
   cases t with
   | true=>obtain⟨o,q,_⟩:=(show hp.IsTuple l xs from hl);exact⟨o,q⟩
   | false=>obtain⟨o,q,_⟩:=(show hp.IsList l xs from hl);exact⟨o,q⟩
  wp_walk using AutoSeq1.wpAny_loadPart' ho
  refine wpAny_stack_any λ st=>?_
  refine i9 ?_
  split
  ·rename_i c _ _ _ _ _
   rcases (c==Value.type "enumerate") with _ | _
   ·wp_walk using AutoSeq1.wpAny_loadPart' ho,fB b1
    exact⟨_,rfl,h⟩
   ·wp_walk using AutoSeq1.wpAny_loadPart' ho,fB b1
    exact⟨_,rfl,h⟩
  ·wp_walk using AutoSeq1.wpAny_loadPart' ho,fB b1
   exact⟨_,rfl,h⟩
theorem wF {t:Bool}{l:j4}{xs:Array c9}{Q:c9->d6->Prop}(hl:SqAt t s.heap l xs)
  (h:∀ h',IsEnum h' (s.heap.objs.size+1) s.heap.objs.size ((0:Nat):Int) .none->ItAt t h' s.heap.objs.size l 0->h'.objs.size=s.heap.objs.size+2->(∀ b o,s.heap.get? b=some o->h'.get? b=some o)->Q (.ref (s.heap.objs.size+1)) { s with heap:=h' }) :
  o8 (w8 prog w) A (call (.type "enumerate") [.ref l]) Q E s:=by
 refine callType_new F.called_enumerate (by decide) (F.typeCall_enumerate_1 _) (F.newCall_enumerate_1 _) (λ obj=>F.args_object_init_2 obj _) F.entry_enumerate_new (xV t l xs) ⟨hl,?_⟩
 have z1:(s.heap.push (itObj t l)).objs.size=s.heap.objs.size+1:=uba ..
 have g1:ItAt t ((s.heap.push (itObj t l)).push { cls:=.type "enumerate",data:=.fields #[.none,.bool false,.ref s.heap.objs.size,rawInt 0,.none,.none] }) s.heap.objs.size l 0:=(ItAt.new (t:=t) (h:=s.heap) (l:=l)).to λ o e=>b7 _ e
 have g2:((s.heap.push (itObj t l)).push { cls:=.type "enumerate",data:=.fields #[.none,.bool false,.ref s.heap.objs.size,rawInt 0,.none,.none] }).get? (s.heap.push (itObj t l)).objs.size=some _:=j0 _ rfl
 show _/\_
 rw[z1] at g2 ⊢
 exact⟨⟨_,g2,rfl⟩,h _ g2 g1 (by rw[uba,z1]) λ b o q=>b7 _ (b7 _ q)⟩
theorem wA {t:Bool}{e it l:j4}{i:Nat}{xs:Array c9}{x old:c9}{Q:c9->d6->Prop}(he:IsEnum s.heap e it i old)(hi:ItAt t s.heap it l i)(hl:SqAt t s.heap l xs)(hx:xs[i]?=some x)(ne:e≠it)
  (hQ:∀ h',IsEnumOut h' e it ((i:Int)+1) x s.heap.objs.size->ItAt t h' it l (i+1)->h'.get? s.heap.objs.size=some { cls:=.type "tuple",data:=.seq #[.int i s.toks,x] }->h'.objs.size=s.heap.objs.size+1 ->
   (∀ b o,b≠e->b≠it->s.heap.get? b=some o->h'.get? b=some o)->Q (.ref s.heap.objs.size) { s with heap:=h',toks:=s.toks+1 }) :
  o8 (w8 prog w) A (Builtin.«enumerate.__next__» ⟨[.ref e],[]⟩) (λ fin s'=>∃ v,fin=.done (.ret v)/\Q v s') E s:=by
 obtain⟨hp,g,d,tk,os⟩:=s
 show o8 _ _ (field (.ref e) 2 >>= _) _ _ _
 refine a9 (uaq he rfl (x:=.ref it) rfl (a9 (gN hi hl hx λ k1 i1 s1=>?_)))
 replace s1:Heap.SameBut it hp k1:=s1
 have q1:IsEnum k1 e it i old:=(s1.2 e ne).trans he
 show o8 _ _ (field (.ref e) 3 >>= _) _ _ ⟨k1,g,d,tk,os⟩
 refine a9 (uaq q1 rfl (x:=rawInt i) rfl ?_)
 show o8 _ _ (field (.ref e) 4 >>= _) _ _ ⟨k1,g,d,tk,os⟩
 refine a9 (uaq q1 rfl (x:=.none) rfl ?_)
 show o8 _ _ (mkInt i >>= _) _ _ ⟨k1,g,d,tk,os⟩
 refine a9 (wpAny_mkInt ?_)
 show o8 _ _ (setField (.ref e) 3 (rawInt ((i:Int)+1)) >>= _) _ _ ⟨k1,g,d,tk+1,os⟩
 refine a9 (uat q1 (by simp) λ k2 q2 s2=>?_)
 replace s2:Heap.SameBut e k1 k2:=s2
 replace q2:IsEnum k2 e it ((i:Int)+1) old:=q2
 show o8 _ _ (setField (.ref e) 4 .none >>= _) _ _ ⟨k2,g,d,tk+1,os⟩
 refine a9 (uat q2 (by simp) λ k3 q3 s3=>?_)
 replace s3:Heap.SameBut e k2 k3:=s3
 replace q3:IsEnum k3 e it ((i:Int)+1) old:=q3
 show o8 _ _ (newTuple [.int i tk,x] >>= _) _ _ ⟨k3,g,d,tk+1,os⟩
 refine a9 (uef ?_)
 have q4:IsEnum (k3.push { cls:=.type "tuple",data:=.seq #[.int i tk,x] }) e it ((i:Int)+1) old:=b7 _ q3
 generalize hk4:k3.push { cls:=.type "tuple",data:=.seq #[.int i tk,x] }=k4 at q4
 have sz:k3.objs.size=hp.objs.size:=by rw[s3.1,s2.1,s1.1]
 have lt:e<hp.objs.size:=i8 he
 have t4:k4.get? hp.objs.size=some { cls:=.type "tuple",data:=.seq #[.int i tk,x] }:=by rw[← hk4,← sz];exact j0 _ rfl
 have z4:k4.objs.size=hp.objs.size+1:=by rw[← hk4,uba,sz]
 have up4:∀ b o,b≠e->b≠it->hp.get? b=some o->k4.get? b=some o:=λ b o n1 n2 q=>by
  rw[← hk4];exact b7 _ (s3.extBut b o n1 (s2.extBut b o n1 (s1.extBut b o n2 q)))
 have i4:ItAt t k4 it l (i+1):=i1.to λ o q=>by
  rw[← hk4];exact b7 _ (s3.extBut _ _ ne.symm (s2.extBut _ _ ne.symm q))
 show o8 _ _ (Builtin.SmallTypes.ownedTupleIsFree (.ref e) >>= _) _ _ ⟨k4,g,d,tk+1,os⟩
 rw[sz]
 clear hk4 q3 s3 q2 s2 q1 s1 i1 sz k3 k2 k1
 refine a9 ?_
 unfold Builtin.SmallTypes.ownedTupleIsFree
 refine a9 (uaq q4 rfl (x:=.none) rfl (i9 ?_))
 simp only [if_true]
 refine a9 (ud4 (a9 (uaq q4 rfl (x:=old) rfl (a9 (uat q4 (by simp) λ k5 q5 s5=>?_)))))
 replace s5:Heap.SameBut e k4 k5:=s5
 replace q5:IsEnum k5 e it ((i:Int)+1) x:=q5
 show o8 _ _ (Builtin.SmallTypes.ownedTupleHandOut (.ref e) (.ref hp.objs.size) >>= _) _ _ ⟨k5,g,d,tk+1,os⟩
 refine a9 ?_
 unfold Builtin.SmallTypes.ownedTupleHandOut
 refine a9 (uat q5 (by simp) λ k6 q6 s6=>?_)
 replace s6:Heap.SameBut e k5 k6:=s6
 replace q6:IsEnumOut k6 e it ((i:Int)+1) x hp.objs.size:=q6
 refine uat q6 (by simp) λ k7 q7 s7=>?_
 replace s7:Heap.SameBut e k6 k7:=s7
 replace q7:IsEnumOut k7 e it ((i:Int)+1) x hp.objs.size:=q7
 have up:∀ b o,b≠e->k4.get? b=some o->k7.get? b=some o:=λ b o n q=>s7.extBut b o n (s6.extBut b o n (s5.extBut b o n q))
 exact a9 (ueh (i9 ⟨_,rfl,hQ k7 q7 (i4.to λ o q=>up _ o ne.symm q) (up _ _ (uem lt) t4) (by rw[s7.1,s6.1,s5.1,z4]) λ b o n1 n2 q=>up b o n1 (up4 b o n1 n2 q)⟩))
theorem qO {t:Bool}{e it l:j4}{i:Nat}{xs:Array c9}{x old:c9}{Q:Option c9->d6->Prop}(he:IsEnum s.heap e it i old)(hi:ItAt t s.heap it l i)(hl:SqAt t s.heap l xs)(hx:xs[i]?=some x)(ne:e≠it)
  (hQ:∀ h',IsEnumOut h' e it ((i:Int)+1) x s.heap.objs.size->ItAt t h' it l (i+1)->h'.get? s.heap.objs.size=some { cls:=.type "tuple",data:=.seq #[.int i s.toks,x] }->h'.objs.size=s.heap.objs.size+1 ->
   (∀ b o,b≠e->b≠it->s.heap.get? b=some o->h'.get? b=some o)->Q (some (.ref s.heap.objs.size)) { s with heap:=h',toks:=s.toks+1 }) :
  o8 (w8 prog w) A (pyNext (.ref e)) Q E s:=by
 have ty:s.TypeIs (.ref e) "enumerate":=⟨_,he,rfl⟩
 unfold pyNext
 exact a9 (udu (uax (name := u5 "__next__") ty ucq (ua9 ucq ty F.entry_enumerate_next
     (wA he hi hl hx ne λ h' a b c d k=>i9 (hQ h' a b c d k)) (F.args_enumerate_next_1 _))))
theorem qN {t:Bool}{e it l:j4}{i:Nat}{xs:Array c9}{old:c9}{Q:Option c9->d6->Prop}(hh:A.handled=none)(he:IsEnum s.heap e it i old)(hi:ItAt t s.heap it l i)(hl:SqAt t s.heap l xs)(hx:xs[i]?=none)
  (hQ:∀ h',udf it s.heap h'->Q none { s with heap:=h' }):o8 (w8 prog w) A (pyNext (.ref e)) Q E s:=by
 have ty:s.TypeIs (.ref e) "enumerate":=⟨_,he,rfl⟩
 unfold pyNext
 refine a9 (udu (uax (name:=u5 "__next__") ty ucq (ua9 ucq ty F.entry_enumerate_next ?_ (F.args_enumerate_next_1 _))))
 show o8 _ _ (field (.ref e) 2 >>= _) _ _ _
 refine a9 (uaq he rfl (x:=.ref it) rfl (a9 (iP hh hi hl hx λ h' x k ⟨o,p1,p2⟩=>?_)))
 exact a9 (wpAny_isInstance (T:="StopIteration") (b:=true) ⟨o,p1,p2⟩ isSubtype_stop (i9 (hQ _ k)))
end
end Z3
namespace L3
open PySem PySem.Spec PyProof.Rows L2
def Itn (t:Bool)(K:a8)(l:j4):It :=
 ⟨λ i H=>∃ xs x,SqX t K H l xs/\xs[i]?=some x,
  λ i H v H'=>∃ T x,H T=none/\v=.ref T/\H'=upd H T (.tup [.int (i:Nat),x])/\(∀ xs,SqX t K H l xs->xs[i]?=some x),
  λ i H=>∃ xs,SqX t K H l xs/\xs.length<=i⟩
theorem vA {P:m3}{w:uac}{K:a8}{elts:List ubl}{kk:Nat}{pos:Pos}{t:Bool}{e it l:j4}(n1:e≠it)(n2:l≠e)(n3:l≠it) :
  Turn P w K (.Tuple elts kk pos) (Itn t K l) [e,it] e (λ i h=>(∃ old,IsEnum h e it (i:Int) old)/\Z3.ItAt t h it l i) where
 mem:=by simp
 obj:=λ i h st b hb=>by
  obtain⟨⟨old,q1⟩,q2⟩:=st
  obtain⟨o2,m2,e2,_,d2⟩:=q2.obj
  simp only [k8,w6,or_false] at hb
  rcases hb with rfl | rfl
  ·exact⟨_,q1,λ v q=>by cases q⟩
  ·exact⟨_,e2,λ v q=>by rw[d2] at q;cases q⟩
 keep:=λ i h h' st k=>by
  obtain⟨⟨old,q1⟩,q2⟩:=st
  exact⟨⟨old,k e (by simp) _ q1⟩,q2.to λ o z=>k it (by simp) o z⟩
 item:=by
  intro X hP hw hK hc i pins s σ H E I hf st hg
  subst hP hw hK
  obtain⟨xs,x,q1,hx⟩:=hg
  obtain⟨⟨old,en⟩,ia⟩:=st
  obtain⟨its1,r1,p1,z1⟩:=seqX I q1
  obtain⟨u1,hu1,ru1⟩:=r1.get hx
  refine Z3.qO en ia p1 (x:=u1) (by simpa using hu1) n1 λ h' eo ia' tp sz kp=>?_
  have I1 : Inv X pins σ (upd H s.heap.objs.size (.tup [.int (i : Nat), x])) { s with heap := h', toks := s.toks+1 } := turnsTup (ch := [e, it]) (its := [.int i s.toks, u1]) I hf (λ b o hb z => by
      simp only [k8,w6,or_false,not_or] at hb
      exact kp b o hb.1 hb.2 z) (d8 _) (by show 2<=o9;rw[ubd];decide) (.cons ⟨_,rfl⟩ (.cons ru1 .nil)) ⟨_,tp,rfl,⟨_,rfl⟩,rfl⟩
  have fr:H s.heap.objs.size=none:=I.fresh
  have elt:e<s.heap.objs.size:=i8 en
  have ilt:it<s.heap.objs.size:=by obtain⟨o2,m2,e2,_⟩:=ia.obj;exact i8 e2
  have zne:∀ b∈[e,it],b≠s.heap.objs.size:=λ b hb=>by
   simp only [k8,w6,or_false] at hb
   rcases hb with rfl | rfl
   ·exact j6 elt
   ·exact j6 ilt
  refine⟨_,rfl,wpAny_letOwnedTupleGo_enum eo λ h2 en2 sb=>?_⟩
  obtain⟨f0,f1,f2,f3,f4,f5⟩:=hf e (by simp)
  have I2:Inv X pins σ (upd H s.heap.objs.size (.tup [.int (i:Nat),x])) { s with heap:=h2,toks:=s.toks+1 }:=Inv.turned (s:={ s with heap:=h',toks:=s.toks+1 }) (it:=e) (t':=s.toks+1) I1 (λ b o hb z=>sb.extBut b o hb z) (by rw[aK (zne e (by simp))];exact f0) f1 f3 f4 f5
  refine⟨.ref s.heap.objs.size,_,I2,rfl,⟨_,x,fr,rfl,rfl,λ zs hz=>by rw[iF I hz q1];exact hx⟩,?_,λ b hb=>by rw[aK (zne b hb)];exact (hf b hb).1⟩
  exact⟨⟨_,by simpa using en2⟩,ia'.to λ o z=>sb.extBut _ _ n1.symm z⟩
 done:=by
  intro X hP hw hK hc i pins s σ H E I hf st hg
  subst hP hw hK
  obtain⟨xs,q1,hx⟩:=hg
  obtain⟨⟨old,en⟩,ia⟩:=st
  obtain⟨its1,r1,p1,z1⟩:=seqX I q1
  have l1:=r1.length
  refine Z3.qN (I.ok.hd hc) en ia p1 (by simp;left) λ h' kp=>⟨rfl,?_⟩
  exact turns (ch:=[e,it]) (t':=s.toks) I hf λ b o hb z=>by
   simp only [k8,w6,or_false,not_or] at hb
   exact kp b o hb.2 z
 self:=λ _ _ _ _ _ st h=>by
  obtain⟨⟨old,en⟩,_⟩:=st
  exact wpAny_pyIter_enum en h
def iEnum (t:Bool)(K:a8)(ta:TA):TI:=λ σ H R=>ta σ H λ vs H1=>∃ l,vs=[.ref l]/\(∃ xs,SqX t K H1 l xs)/\R (Itn t K l) H1
theorem zH {X:Cx}{elts:List ubl}{kk:Nat}{pos':Pos}(t:Bool){a:ubl}{ta:TA}{p pos:Pos}(hg:Gl X "enumerate")(hm:X.mg "enumerate"=none)(ha:PA X [a] ta)
  (hs:uah [a] X.env=[(false,eval a X.env)]:=by rfl) (hs2:uah [] X.env=[]:=by rfl) :
  PI X (.Tuple elts kk pos') (.Call (.Name "enumerate" p) [a] [] pos) (iEnum t X.K ta):=by
 intro pins s σ H R I h
 refine Call_ (dN I hg hm boot_enumerate (ubr (thn (ha pos pins s σ H _ I h) λ us s1 ⟨vs,H1,I1,r1,q1⟩=>?_) (by rw[hs,hs2]) (by rw[hs2];rfl)))
 obtain⟨l,e,⟨xs,qx⟩,q⟩:=q1
 subst e
 obtain⟨u,rfl,rx⟩:=vals1 r1
 cases rx
 obtain⟨its1,r1,p1,z1⟩:=seqX I1 qx
 have lt:l<s1.heap.objs.size:=by
  cases t with
  | true=>obtain⟨o,e,_⟩:=(show s1.heap.IsTuple l _ from p1);exact i8 e
  | false=>obtain⟨o,e,_⟩:=(show s1.heap.IsList l _ from p1);exact i8 e
 refine Z3.wF p1 λ h' en ia sz kp=>wpAny_pyIter_enum en ?_
 have I2:Inv X pins σ H1 { s1 with heap:=h',toks:=s1.toks }:=I1.kept (t':=s1.toks) kp
 refine⟨s1.heap.objs.size+1,[s1.heap.objs.size+1,s1.heap.objs.size],_,_,H1,rfl,I2,vA (Nat.succ_ne_self _) (j6 (udd lt)) (j6 lt),⟨⟨_,en⟩,ia⟩,λ b hb=>?_,q⟩
 have hb':s1.heap.objs.size<=b:=by
  simp only [k8,w6,or_false] at hb
  rcases hb with rfl | rfl
  ·exact uce _
  ·exact d8 _
 exact I1.fpOk hb' (I1.hok.fresh hb')
end L3
namespace HT
open PySem PyProof.Rows
section
variable {prog:m3}{w:uac}{A:v6}{E:c9->d6->Prop}{s:d6}
theorem sU {t:j4}{items:Array c9}{Q:Bool->d6->Prop}(ht:IsTup s.heap t items)(h:Q true s):o8 (w8 prog w) A (Builtin.Tuple.tupleIsExact (.ref t)) Q E s:=by
 unfold Builtin.Tuple.tupleIsExact
 exact a9 (ue6 ht.typeIs (i9 h))
theorem oY {t sl:j4}{items:Array c9}{vl vu:c9}{lo hi:Option Int}{Q:c9->d6->Prop}(ht:IsTup s.heap t items)(hs:s.heap.IsSliceOf sl vl vu .none)(pl:IsPart vl lo)(pu:IsPart vu hi)
  (hw:sIx items.size 0 lo=0/\sIx items.size items.size hi=items.size) (h:Q (.ref t) s):o8 (w8 prog w) A (getItem (.ref t) (.ref sl)) Q E s:=by
 obtain⟨os,hos,hcs,hds⟩:=id hs
 have ty:s.TypeIs (.ref sl) "slice":=⟨os,hos,hcs⟩
 unfold getItem
 try with_reducible refine uaw ?_
 first | refine a9 (i9 ?_) | skip
 refine a9 (wpAny_sequenceKey ht.typeIs (by decide) (a9 (uax (name:=u5 "__getitem__") ht.typeIs uas
  (ua9 uas ht.typeIs entry_tuple_getitem ?_ (args_tuple_getitem _ _)))))
 show o8 _ _ (Builtin.Tuple.tupleItemsOf (.ref t) >>= _) _ _ s
 refine a9 (tupleItemsOf_ ht (a9 (ue6 ty ?_)))
 rw[ufo (by decide)]
 refine a9 (jX hs pl pu ?_)
 have yes:(((sIx items.size 0 lo:Nat):Int)==0&&(1:Int)==1&&(sIx items.size items.size hi-sIx items.size 0 lo)==items.size)=true:=by
  rw[hw.1,hw.2];simp
 show o8 _ _ (if (((sIx items.size 0 lo:Nat):Int)==0&&(1:Int)==1&&(sIx items.size items.size hi-sIx items.size 0 lo)==items.size)=true then _ else _) _ _ s
 rw[ufo yes]
 refine a9 (sU ht ?_)
 rw[ufo rfl]
 exact a9 (ud4 (a9 (i9 (i9 ⟨_,rfl,i9 h⟩))))
theorem zai {t b:j4}{ws:List c9}{Q:c9->d6->Prop}(ht:IsTup s.heap t ([]:List c9).toArray)(hb:IsTup s.heap b ws.toArray)(h:Q (.ref b) s):o8 (w8 prog w) A (binaryOp .Add (.ref t) (.ref b)) Q E s:=by
 obtain⟨⟨cls,dd,data,sl⟩,ho,hc,n,hd⟩:=id ht
 obtain⟨⟨cls2,dd2,data2,sl2⟩,ho2,hc2,n2,hd2⟩:=id hb
 simp only at hc hd hc2 hd2
 subst hc hd hc2 hd2
 exact ue7 ⟨_,ho,rfl⟩ ⟨_,ho2,rfl⟩ ufc seq_tuple_add udc uc9 (uc2 _ _) (tuple_addW0 t b _ ws.toArray n n2 dd dd2 sl sl2 rfl) ⟨ho,ho2,h⟩
end
end HT
namespace L3
open PySem PySem.Spec PyProof.Rows L2
section
variable {X:Cx}{pins:List (j4 × Obj)}{σ:L2.St}{H:Hp}{s:d6}{e:ubl}{te:TE}{pos p2:Pos}
theorem xX {xs:List V}{lo hi:Option Int}(h:HT.sIx xs.length 0 lo=0/\HT.sIx xs.length xs.length hi=xs.length):cutV xs lo hi=xs:=by
 unfold cutV
 rw[h.1,h.2]
 simp
inductive rSlA_i  (x:V) (lo:Option Int) (hi:Option Int) (H:Hp) (Q:VK):Prop
 | mk:∀ a xs,(x=.ref a)->(H a=some (.tup xs))->(∀ p H',Same H H'->H' p=some (.tup (cutV xs lo hi))->Q (.ref p) H')->rSlA_i x lo hi H Q
def rSlA :V->Option Int->Option Int->Hp->VK->Prop:=λ x lo hi H Q=>rSlA_i x lo hi H Q
theorem iQ:SlR X rSlA:=by
 intro pins s σ H x v vl vu lo hi sl Q I rx hs pl pu h
 obtain⟨a,xs,rfl,hx,q⟩:=h
 by_cases c:HT.sIx xs.length 0 lo=0/\HT.sIx xs.length xs.length hi=xs.length
 ·cases rx
  obtain⟨its,r,ht,hz⟩:=I.tuple (SqT.of hx)
  have hlen:its.toArray.size=xs.length:=by rw[h9];exact r.length.symm
  refine⟨"tuple",_,uas.lookup,ht.typeIs,HT.oY ht hs pl pu (by rw[hlen];exact c) ⟨.ref a,H,I,rfl,q _ _ (Same.refl H) (by rw[xX c];exact hx)⟩⟩
 ·exact zar (X:=X) pins s σ H (.ref a) v vl vu lo hi sl Q I rx hs pl pu ⟨a,xs,rfl,SqT.of hx,c,λ p hp=>q p _ (aW hp) aM⟩
inductive rCatA_i  (x:V) (y:V) (H:Hp) (Q:VK):Prop
 | mk:∀ a b xs ys,(x=.ref a)->(y=.ref b)->(H a=some (.tup xs))->(H b=some (.tup ys))->(xs.length+ys.length<=o9)->(∀ p H',Same H H'->H' p=some (.tup (xs++ys))->Q (.ref p) H')->rCatA_i x y H Q
def rCatA :R2:=λ x y H Q=>rCatA_i x y H Q
theorem gI:OpR X (binaryOp .Add) rCatA:=by
 intro pins s σ H x y v u Q I rx ry h
 obtain⟨a,b,xs,ys,rfl,rfl,ha,hb,hz,q⟩:=h
 by_cases c:xs=[]
 ·subst c
  cases rx
  cases ry
  obtain⟨its,r1,p1,_⟩:=I.tuple (SqT.of ha)
  obtain⟨its2,r2,p2,_⟩:=I.tuple (SqT.of hb)
  cases r1
  exact HT.zai p1 p2 ⟨.ref b,H,I,rfl,q _ _ (Same.refl H) hb⟩
 ·refine zM (X:=X) pins s σ H _ _ v u Q I rx ry ⟨a,b,xs,ys,rfl,rfl,SqT.of ha,SqT.of hb,c,hz,λ e=>q _ _ (Same.refl H) (by rw[e,ubb];exact ha),λ _ p hp=>q p _ (aW hp) aM⟩
end
theorem iteB2 {b:Bool}{A B:Prop}(h1:b=true->B)(h2:b=false->A):if (!b)=true then A else B:=by
 cases b with
 | true=>exact h1 rfl
 | false=>exact h2 rfl
def numB (m:Nat):r6->Bool
 | .int i=>decide (0<=i)&&decide (i<(m:Int))
 | _=>false
def intOf:r6->Int
 | .int i=>i
 | _=>0
def risI (ns:List Int):Bool:=((d7 (min ns.length (ns.drop 1).length)).map λ i=>decide (ns.getD i 0<(ns.drop 1).getD i 0)).all id
def keepB (m:Nat):r6->Bool
 | .tuple ds=>ds.all (numB m)&&risI (ds.map intOf)
 | _=>false
def spNum (K:a8):Sp:=λ vs H Q _=>∃ (n:Int)(ts:List Tie)(d:r6)(v u:V),vs=[v,u]/\Is K H (webD n ts) v/\Is K H d u/\∀ H',Same H H'->Q (.bl (numB ts.length d)) H'
structure Pre (m:Nat)(ds:List r6)(i:Nat)(a:Int):Prop where
 num:∀ d∈ds.take i,numB m d=true
 up:((ds.take i).map intOf).Pairwise (·<·)
 top:∀ x∈(ds.take i).map intOf,x<=a
 at_:a=-1\/a∈(ds.take i).map intOf
theorem cR {α:Type}{ds:List α}{i:Nat}{d:α}(e:ds[i]?=some d):ds.take (i+1)=ds.take i++[d]:=by
 rw[List.take_add_one,e];rfl
def flatD:V->Bool
 | .non | .bl _ | .int _ | .str _=>true
 | _=>false
theorem Pot.same {H H':Hp}{p:j4}(h:Pot H p)(s:Same H H'):Pot H' p:=let ⟨a,b,e,z⟩:=h;⟨a,b,s _ _ e,z⟩
theorem mC:∀ ts:List Tie,tupAll (ts.map tieD)=true
 | []=>rfl
 | t::r=>by show (tupD (tieD t)&&tupAll (r.map tieD))=true;rw[mC r];rfl
theorem eZ (n:Int)(ts:List Tie):tupD (webD n ts)=true:=by
 show (true&&(tupAll (ts.map tieD)&&true))=true
 rw[mC ts];rfl
end L3
namespace L3
end L3
namespace L3
open PySem PySem.Spec PyProof.Rows L2
end L3
namespace HT
open PySem PyProof.Rows
section
open PySem.SeqAt
open PySem.AutoSeq1 (wpAny_loadPart')
open PySem.MeetsSeq PySem.MeetsSeq2 PySem.MeetsSeq3
end
section
variable {prog:m3}{w:uac}{A:v6}{E:c9->d6->Prop}{s:d6}
end
end HT
namespace L3
open PySem PySem.Spec PyProof.Rows L2
section
variable {X:Cx}
end
def wide:Nat->r6->Prop
 | 0,_=>True
 | k+1,.tuple ds=>ds.length<=1000/\∀ d∈ds,wide k d
 | k+1,.list ds=>ds.length<=1000/\∀ d∈ds,wide k d
 | _+1,_=>True
def endsD:r6->Int × Int
 | .tuple [.int a,.int b,.int _]=>(a,b)
 | _=>(0,0)
def tiesB (n:Int):r6->Bool
 | .tuple ds=>decide (ds.length<=60)&&ds.all (tieB n)&&risingB (ds.map endsD)
 | _=>false
def Gd (H:Hp):Nat->V->Prop
 | 0,v=>flatD v=true
 | k+1,v=>flatD v=true\/(∃ p vs,v=.ref p/\(H p=some (.tup vs)\/H p=some (.lst vs))/\vs.length<=1000/\∀ u∈vs,Gd H k u)\/(∃ p,v=.ref p/\H p=some (.dK []))
def lt2 (e f:Int × Int):Prop:=e.1<f.1\/(e.1=f.1/\e.2<f.2)
theorem mQ (e f:Int × Int):HT.lexLt (e2 e) (e2 f)=true↔lt2 e f:=by
 show (if e.1=f.1 then (if e.2=f.2 then false else decide (e.2<f.2)) else decide (e.1<f.1))=true↔_
 unfold lt2
 by_cases h:e.1=f.1
 ·rw[ufo h]
  by_cases h2:e.2=f.2
  ·rw[ufo h2];simp;left
  ·rw[ufp h2,decide_eq_true_eq];left
 ·rw[ufp h,decide_eq_true_eq];left
structure PreT (n:Int)(ds:List r6)(i:Nat)(a:Int × Int):Prop where
 tie:∀ d∈ds.take i,tieB n d=true
 up:((ds.take i).map endsD).Pairwise lt2
 top:∀ x∈(ds.take i).map endsD,x=a\/lt2 x a
 at_:a=(-1,-1)\/a∈(ds.take i).map endsD
section
variable {X:Cx}{es:List ubl}{t:TA}{pos:Pos}
def tTupG (t:TA):TE:=λ σ H Q=>t σ H λ xs H1=>xs.length<=1000/\∀ p H',Same H1 H'->H1 p=none->H' p=some (.tup xs)->Q (.ref p) H'
def tLstG (t:TA):TE:=λ σ H Q=>t σ H λ xs H1=>xs.length<=1000/\∀ p H',Same H1 H'->H1 p=none->H' p=some (.lst xs)->Q (.ref p) H'
theorem aT {x1} (h:PA X es t):PE X (.Tuple es x1 pos) (tTupG t):=by
 intro pins s σ H Q I hq
 refine wpAny_Tuple_spliced (thn (h pos pins s σ H _ I hq) λ us s1 ⟨xs,J,I1,r,z,q⟩=>?_)
 have z':xs.length<=o9:=r8 z (by decide)
 have fr:J s1.heap.objs.size=none:=I1.hok.fresh (d8 _)
 refine⟨by rw[← r.length];exact z',.ref s1.heap.objs.size,upd J s1.heap.objs.size (.tup xs),I1.laid (t':=s1.toks) (λ b u e=>b7 _ e) (d8 _) ⟨z',us,r,⟨_,j0 _ rfl,rfl,⟨_,rfl⟩,rfl⟩⟩,rfl,q _ _ (aW fr) fr aM⟩
theorem bF (h:PA X es t):PE X (.List es pos) (tLstG t):=by
 intro pins s σ H Q I hq
 refine wpAny_List_spliced (thn (h pos pins s σ H _ I hq) λ us s1 ⟨xs,J,I1,r,z,q⟩=>?_)
 have z':xs.length<=o9:=r8 z (by decide)
 have fr:J s1.heap.objs.size=none:=I1.hok.fresh (d8 _)
 refine⟨by rw[← r.length];exact z',.ref s1.heap.objs.size,upd J s1.heap.objs.size (.lst xs),I1.laid (t':=s1.toks) (λ b u e=>b7 _ e) (d8 _) ⟨z',us,0,r,j0 _ rfl⟩,rfl,q _ _ (aW fr) fr aM⟩
inductive rExtendG_i  (x:V) (vs:List V) (H:Hp) (Q:VK):Prop
 | mk:∀ l b xs zs,(x=.ref l)->(vs=[.ref b])->(H l=some (.lst xs))->(H b=some (.lst zs))->(xs.length+zs.length<=1000)->(∀ H',But l H H'->H' l=some (.lst (xs++zs))->Q .non H')->rExtendG_i x vs H Q
def rExtendG :V->List V->Hp->VK->Prop:=λ x vs H Q=>rExtendG_i x vs H Q
theorem uF:MtM X "list.extend" rExtendG:=by
 intro pins s σ H x vs v us Q I rx rv h
 obtain⟨l,b,xs,zs,rfl,rfl,hH,hB,hz,q⟩:=h
 exact vP (X:=X) pins s σ H _ _ v us Q I rx rv ⟨l,b,xs,zs,rfl,rfl,hH,hB,r8 hz (by decide),q _ But.upd aM⟩
inductive rAppendG_i  (x:V) (vs:List V) (H:Hp) (Q:VK):Prop
 | mk:∀ l xs y,(x=.ref l)->(vs=[y])->(H l=some (.lst xs))->(xs.length<1000)->(∀ H',But l H H'->H' l=some (.lst (xs++[y]))->Q .non H')->rAppendG_i x vs H Q
def rAppendG :V->List V->Hp->VK->Prop:=λ x vs H Q=>rAppendG_i x vs H Q
theorem eJ:MtM X "list.append" rAppendG:=by
 intro pins s σ H x vs v us Q I rx rv h
 obtain⟨l,xs,y,rfl,rfl,hH,hz,q⟩:=h
 exact fT (X:=X) pins s σ H _ _ v us Q I rx rv ⟨l,xs,y,rfl,rfl,hH,o3 hz (by decide),q _ But.upd aM⟩
end
def Sm (H:Hp)(t:j4):Prop:=∃ vs:List V,(H t=some (.tup vs)\/H t=some (.lst vs))/\vs.length<=1000/\vs.all flatD=true
def GdF (H:Hp)(xs:List V):Prop:=∀ u∈xs,∃ t,u=.ref t/\Sm H t
def GdL (l:j4)(H:Hp)(xs:List V):Prop:=∀ u∈xs,∃ t,u=.ref t/\t≠l/\Sm H t
theorem GdL.append {l:j4}{H:Hp}{xs ys:List V}(h:GdL l H xs)(k:GdL l H ys):GdL l H (xs++ys):=λ u hu=>(m5.mp hu).elim (h u) (k u)
theorem zaj {prog:m3}{w:uac}{A:v6}{E:c9->d6->Prop}{s:d6}{l b:j4}{vs ws:List c9}{Q:c9->d6->Prop}(hl:s.heap.IsList l vs.toArray)(hb:s.heap.IsList b ws.toArray)
  (h:Q (.ref s.heap.objs.size) { s with heap:=s.heap.push { cls:=.type "list",data:=.seq (vs++ws).toArray } }) (hz:vs.length+ws.length<=o9):o8 (w8 prog w) A (binaryOp .Add (.ref l) (.ref b)) Q E s:=by
 obtain⟨⟨c1,d1,t1,s1⟩,g1,h1,n1,e1⟩:=id hl
 obtain⟨⟨c2,d2,t2,s2⟩,g2,h2,n2,e2⟩:=id hb
 simp only at h1 e1 h2 e2
 subst h1 e1 h2 e2
 have e:vs.toArray++ws.toArray=(vs++ws).toArray:=by simp
 refine ue7 ⟨_,g1,rfl⟩ ⟨_,g2,rfl⟩ noFill_list_add seq_list_add PySem.F.slot_list_add PySem.F.entry_list_add (PySem.F.args_list_add_2 _ _) (list_addW l b vs.toArray ws.toArray n1 n2 d1 d2 s1 s2 (by rw[h9,h9];exact hz)) ⟨g1,g2,?_⟩
 rw[e]
 exact h
inductive rCatL_i  (x:V) (y:V) (H:Hp) (Q:VK):Prop
 | mk:∀ a b xs ys,(x=.ref a)->(y=.ref b)->(H a=some (.lst xs))->(H b=some (.lst ys))->(xs.length+ys.length<=1000)->(∀ p H',Same H H'->H p=none->H' p=some (.lst (xs++ys))->Q (.ref p) H')->rCatL_i x y H Q
def rCatL :R2:=λ x y H Q=>rCatL_i x y H Q
theorem iX {X:Cx}:OpR X (binaryOp .Add) rCatL:=by
 intro pins s σ H x y v u Q I rx ry h
 obtain⟨a,b,xs,ys,rfl,rfl,ha,hb,hz,q⟩:=h
 cases rx
 cases ry
 obtain⟨its,r1,p1,_⟩:=I.list (SqL.of ha)
 obtain⟨jts,r2,p2,_⟩:=I.list (SqL.of hb)
 have hz':xs.length+ys.length<=o9:=r8 hz (by decide)
 have fr:H s.heap.objs.size=none:=I.hok.fresh (d8 _)
 refine zaj p1.isList p2.isList ⟨.ref s.heap.objs.size,_,I.laid (t':=s.toks) (o:=.lst (xs++ys)) (λ b ob q=>b7 _ q) (d8 _) ⟨by rw[g9];exact hz',_,0,r1.append r2,j0 _ rfl⟩,rfl,q _ _ (aW fr) fr aM⟩ (by rw[← r1.length,← r2.length];exact hz')
section
variable {g:TG}{te:TE}{own:List Str}{js:List Nat}{σ:L2.St}{H1:Hp}{Q:VK}
end
inductive call_tupleG_i  (xs:List V) (H:Hp) (Q:VK):Prop
 | mk:∀ p ys,(xs=[.ref p])->(H p=some (.lst ys))->(∀ l H',Same H H'->H l=none->H' l=some (.tup ys)->Q (.ref l) H')->call_tupleG_i xs H Q
theorem cF {X:Cx}:CallR X (.type "tuple") (call_tupleG_i):=by
 intro pins s σ H xs us Q I r h
 obtain⟨p,ys,rfl,hp,q⟩:=h
 exact kB (X:=X) pins s σ H _ us Q I r ⟨p,ys,rfl,.inl ⟨SqL.of hp,λ l hl=>q l _ (aW hl) hl aM⟩⟩
def Row3 (H:Hp)(v:V):Prop:=∃ (t:j4)(x y z:Int),v=.ref t/\H t=some (.tup [.int x,.int y,.int z])
section
variable {X:Cx}
end
end L3
namespace Far
inductive Walk (A:List (Nat × Nat × Int))(s:Nat):Nat->Int->Prop
 | nil:Walk A s s 0
 | snoc {u v:Nat} {l x:Int}:Walk A s u x->(u,v,l)∈A->Walk A s v (x+l)
variable {A:List (Nat × Nat × Int)}{s:Nat}
def Pos (A:List (Nat × Nat × Int)):Prop:=∀ u v l,(u,v,l)∈A->1<=l
theorem Walk.nonneg (P:Pos A){v:Nat}{x:Int}(h:Walk A s v x):0<=x:=by
 induction h with
 | nil=>exact uae 0
 | snoc _ m ih=>have:=P _ _ _ m;left
def Dst (A:List (Nat × Nat × Int))(s v:Nat)(o:Option Int):Prop:=(∀ y,o=some y->Walk A s v y)/\∀ L,Walk A s v L->∃ y,o=some y/\y<=L
theorem Dst.unique {v:Nat}{o p:Option Int}(h:Dst A s v o)(k:Dst A s v p):o=p:=by
 cases o with
 | none =>
  cases p with
  | none=>rfl
  | some y=>obtain⟨_,e,_⟩:=h.2 y (k.1 y rfl);cases e
 | some x =>
  obtain⟨y,rfl,hy⟩:=k.2 x (h.1 x rfl)
  obtain⟨z,e,hz⟩:=h.2 y (k.1 y rfl)
  cases e
  rw[show x=y by left]
theorem least {P:Nat->Prop}:∀ n,P n->∃ m,P m/\∀ k,P k->m<=k:=by
 intro n
 induction n using ue5 with
 | ind n ih =>
  intro h
  by_cases c:∃ k,k<n/\P k
  ·obtain⟨k,hk,pk⟩:=c;exact ih k hk pk
  ·exact⟨n,h,λ k pk=>by
    by_cases z:k<n
    ·exact absurd ⟨k,z,pk⟩ c
    ·left⟩
theorem fP (P:Pos A)(s v:Nat):∃ o,Dst A s v o:=by
 by_cases c:∃ x,Walk A s v x
 ·obtain⟨x,hx⟩:=c
  have nn:=hx.nonneg P
  obtain⟨m,hm,mn⟩:=least (P:=λ k=>Walk A s v (k:Int)) x.toNat (by rw[uan nn];exact hx)
  refine⟨some m,λ y e=>by cases e;exact hm,λ L hL=>⟨m,rfl,?_⟩⟩
  have n2:=hL.nonneg P
  have:=mn L.toNat (by rw[uan n2];exact hL)
  left
 ·exact⟨none,⟨λ y e=>(by cases e),λ L hL=>absurd ⟨L,hL⟩ c⟩⟩
theorem Walk.cons {u v:Nat}{l:Int}(m:(u,v,l)∈A){w:Nat}{x:Int}(h:Walk A v w x):Walk A u w (x+l):=by
 induction h with
 | nil=>exact .snoc .nil m
 | snoc _ m' ih=>rw[uee];exact .snoc ih m'
def Sym (A:List (Nat × Nat × Int)):Prop:=∀ u v l,(u,v,l)∈A->(v,u,l)∈A
theorem Walk.back (S:Sym A){v:Nat}{x:Int}(h:Walk A s v x):Walk A v s x:=by
 induction h with
 | nil=>exact .nil
 | snoc _ m ih=>exact ih.cons (S _ _ _ m)
theorem Dst.back (S:Sym A){v:Nat}{o:Option Int}(h:Dst A s v o):Dst A v s o:=⟨λ y e=>(h.1 y e).back S,λ L hL=>h.2 L (hL.back S)⟩
def lt2 (e f:Int × Int):Prop:=e.1<f.1\/(e.1=f.1/\e.2<f.2)
def get {α:Type}(cs:List (Option α))(v:Nat):Option α:=cs.getD v none
theorem bA {α:Type}{cs:List (Option α)}{v i:Nat}{x:Option α}(h:v<cs.length):get (cs.set v x) i=if i=v then x else get cs i:=by
 unfold get
 rw[d3,List.getElem?_set,d3]
 by_cases c:v=i
 ·subst c;simp [h]
 ·simp [c,Ne.symm c]
def ct {α:Type}:List (Option α)->Nat
 | []=>0
 | none::r=>ct r
 | some _::r=>ct r+1
theorem gZ {α:Type}:∀ cs:List (Option α),ct cs<=cs.length
 | []=>d8 0
 | none::r=>Nat.le_succ_of_le (gZ r)
 | some _::r=>uew (gZ r)
theorem gW {α:Type}{c:α}:∀ {cs:List (Option α)}{v:Nat},v<cs.length->ct (cs.set v (some c))=ct cs+(if (get cs v).isSome then 0 else 1)
 | none::r,0,_=>rfl
 | some _::r,0,_=>rfl
 | none::r,v+1,h=>gW (cs:=r) (v:=v) (by simpa using h)
 | some _::r,v+1,h=>by
  have:=gW (c:=c) (cs:=r) (v:=v) (by simpa using h)
  show ct (r.set v (some c))+1=ct r+1+_
  rw[this]
  show _=ct r+1+(if (get r v).isSome then 0 else 1)
  left
theorem oP {α:Type}:∀ {cs:List (Option α)}{v:Nat}{c:α},get cs v=some c->1<=ct cs
 | [],v,c,h=>by cases h
 | some _::r,_,_,_=>uew (uad _)
 | none::r,0,c,h=>by cases h
 | none::r,v+1,c,h=>oP (cs:=r) (v:=v) (c:=c) h
def WM:Int:=2^130
def mW:Option (Int × Int)->Nat
 | none=>(2^250)
 | some c=>(c.1*WM+c.2).toNat
def mu:List (Option (Int × Int))->Nat
 | []=>0
 | c::r=>mW c+mu r
theorem oJ {x:Option (Int × Int)}:∀ {cs:List (Option (Int × Int))}{v:Nat},v<cs.length->mW x<mW (get cs v)->mu (cs.set v x)<mu cs
 | c::r,0,_,h=>Nat.add_lt_add_right (k:=mu r) h
 | c::r,v+1,hl,h=>Nat.add_lt_add_left (k:=mW c) (oJ (cs:=r) (v:=v) (by simpa using hl) h)
structure Good (A:List (Nat × Nat × Int))(n s:Nat)(cs:List (Option (Int × Int))):Prop where
 len:cs.length=n
 walk:∀ v c,get cs v=some c->Walk A s v c.1
 w0:∀ v c,get cs v=some c->0<=c.2/\c.2<=c.1*2^60
 top:∀ v c,get cs v=some c->c.1<=((ct cs:Nat)-1:Int)*10^18
 start:∃ c,get cs s=some c/\c.1<=0
theorem Good.step {n u v:Nat}{l w:Int}{cs:List (Option (Int × Int))}{c:Int × Int}(P:Pos A)(n24:n<=24)(g:Good A n s cs)(arc:(u,v,l)∈A)(l1:l<=10^18)(w0:0<=w)(w1:w<=2^60)(hv:v<n)(hu:get cs u=some c)
  (h:get cs v=none\/∃ c',get cs v=some c'/\lt2 (c.1+l,c.2+w) c'):Good A n s (cs.set v (some (c.1+l,c.2+w)))/\mu (cs.set v (some (c.1+l,c.2+w)))<mu cs:=by
 have hv':v<cs.length:=by rw[g.len];exact hv
 have l0:=P _ _ _ arc
 have wk:=Walk.snoc (g.walk _ _ hu) arc
 have c0:=(g.walk _ _ hu).nonneg P
 obtain⟨cw0,cw1⟩:=g.w0 _ _ hu
 have ct24:ct cs<=24:=by have:=gZ cs;rw[g.len] at this;left
 have ctp:=oP hu
 have es:=gW (c:=(c.1+l,c.2+w)) hv'
 have topc:=g.top _ _ hu
 have wbound:c.2+w<=(c.1+l)*2^60:=by rw[Int.add_mul];left
 have big:c.1+l<=((ct (cs.set v (some (c.1+l,c.2+w))):Nat)-1:Int)*10^18:=by
  rw[es]
  rcases h with h | ⟨c',h,hlt⟩
  ·rw[h]
   show _<=(((ct cs+1:Nat):Int)-1)*10^18
   left
  ·rw[h]
   show _<=(((ct cs+0:Nat):Int)-1)*10^18
   have:=g.top _ _ h
   unfold lt2 at hlt
   simp only at hlt
   left
 have ctm:ct cs<=ct (cs.set v (some (c.1+l,c.2+w))):=by rw[es];exact ucr _ _
 refine⟨⟨by rw[ua6];exact g.len,λ v' d e=>?_,λ v' d e=>?_,λ v' d e=>?_,?_⟩,?_⟩
 ·rw[bA hv'] at e
  split at e
  ·rename_i z;subst z;cases e;exact wk
  ·exact g.walk _ _ e
 ·rw[bA hv'] at e
  split at e
  ·cases e;exact⟨by show 0<=c.2+w;left,wbound⟩
  ·exact g.w0 _ _ e
 ·rw[bA hv'] at e
  split at e
  ·cases e;exact big
  ·have:=g.top _ _ e
   left
 ·obtain⟨d,hd,hd0⟩:=g.start
  rw[bA hv']
  split
  ·rename_i z;subst z
   refine⟨_,rfl,?_⟩
   rcases h with h | ⟨c',h,hlt⟩
   ·rw[h] at hd;cases hd
   ·rw[h] at hd;cases hd
    unfold lt2 at hlt
    simp only at hlt
    show c.1+l<=0
    left
  ·exact⟨d,hd,hd0⟩
 ·refine oJ hv' ?_
  have ctb:ct (cs.set v (some (c.1+l,c.2+w)))<=24:=by have:=gZ (cs.set v (some (c.1+l,c.2+w)));rw[ua6,g.len] at this;left
  have x23:c.1+l<=23*10^18:=by left
  have y23:c.2+w<=23*10^18*2^60:=by left
  have WMe:WM=1361129467683753853853498429727072845824:=by decide
  rcases h with h | ⟨c',h,hlt⟩
  ·rw[h]
   show ((c.1+l)*WM+(c.2+w)).toNat<2^250
   have:(c.1+l)*WM+(c.2+w)<2^250:=by rw[WMe];left
   left
  ·rw[h]
   obtain⟨d0,d1⟩:=g.w0 _ _ h
   have t0:=(g.walk _ _ h).nonneg P
   have tt:=g.top _ _ h
   show ((c.1+l)*WM+(c.2+w)).toNat<(c'.1*WM+c'.2).toNat
   unfold lt2 at hlt
   simp only at hlt
   have:(c.1+l)*WM+(c.2+w)<c'.1*WM+c'.2:=by
    rw[WMe]
    rcases hlt with z | ⟨z,z'⟩
    ·left
    ·rw[z];left
   have p0:0<=(c.1+l)*WM+(c.2+w):=by rw[WMe];left
   left
def Stab (A:List (Nat × Nat × Int))(cs:List (Option (Int × Int))):Prop:=∀ u v l c,(u,v,l)∈A->get cs u=some c->∃ c',get cs v=some c'/\c'.1<=c.1+l
theorem Good.dst {n:Nat}{cs:List (Option (Int × Int))}(g:Good A n s cs)(st:Stab A cs)(v:Nat):Dst A s v ((get cs v).map (·.1)):=by
 refine⟨λ y e=>?_,λ L hL=>?_⟩
 ·cases h:get cs v with
  | none=>rw[h] at e;cases e
  | some c=>rw[h] at e;cases e;exact g.walk _ _ h
 ·have:∃ c,get cs v=some c/\c.1<=L:=by
   induction hL with
   | nil=>exact g.start
   | snoc _ m ih =>
    obtain⟨c,hc,hle⟩:=ih
    obtain⟨c',hc',hle'⟩:=st _ _ _ _ m hc
    exact⟨c',hc',by left⟩
  obtain⟨c,hc,hle⟩:=this
  exact⟨c.1,by rw[hc];rfl,hle⟩
structure Snd (A:List (Nat × Nat × Int))(n s:Nat)(D:List (Option Int)):Prop where
 len:D.length=n
 walk:∀ v x,get D v=some x->Walk A s v x
 start:∃ x,get D s=some x/\x<=0
structure Rnd (A:List (Nat × Nat × Int))(n s:Nat)(δ:Nat->Option Int)(D0:List (Option Int))(B:(Nat × Nat × Int)->Prop)(D:List (Option Int)):Prop where
 snd:Snd A n s D
 keep:∀ v,get D0 v=δ v->get D v=δ v
 arc:∀ u v l x,B (u,v,l)->get D0 u=δ u->δ u=some x->∃ y,get D v=some y/\y<=x+l
section
variable {n:Nat}{δ:Nat->Option Int}{D0 D:List (Option Int)}{B:(Nat × Nat × Int)->Prop}{u v:Nat}{l:Int}
def plus (B:(Nat × Nat × Int)->Prop)(a:Nat × Nat × Int):(Nat × Nat × Int)->Prop:=λ b=>B b\/b=a
theorem Rnd.no (r:Rnd A n s δ D0 B D)(hu:get D u=none):Rnd A n s δ D0 (plus B (u,v,l)) D:=by
 refine⟨r.snd,r.keep,λ u' v' l' x b e1 e2=>?_⟩
 rcases b with b | b
 ·exact r.arc _ _ _ _ b e1 e2
 ·cases b
  have:=r.keep _ e1
  rw[hu,e2] at this;cases this
theorem Rnd.old (r:Rnd A n s δ D0 B D){x' y:Int}(hu:get D u=some x')(hv:get D v=some y)(hy:y<=x'+l):Rnd A n s δ D0 (plus B (u,v,l)) D:=by
 refine⟨r.snd,r.keep,λ u' v' l' x b e1 e2=>?_⟩
 rcases b with b | b
 ·exact r.arc _ _ _ _ b e1 e2
 ·cases b
  have:=r.keep _ e1
  rw[hu,e2] at this;cases this
  exact⟨y,hv,hy⟩
theorem Rnd.put (dd:∀ v,Dst A s v (δ v))(m:(u,v,l)∈A)(hn:v<n)(r:Rnd A n s δ D0 B D){x':Int}(hu:get D u=some x')(hv:get D v=none\/∃ y,get D v=some y/\x'+l<y)(P:Pos A):Rnd A n s δ D0 (plus B (u,v,l)) (D.set v (some (x'+l))):=by
 have hl:v<D.length:=by rw[r.snd.len];exact hn
 have wk:=Walk.snoc (r.snd.walk _ _ hu) m
 obtain⟨d,hd,hdl⟩:=(dd v).2 _ wk
 have bad:get D0 v=δ v->False:=λ e=>by
  have e':=r.keep _ e
  rcases hv with hv | ⟨y,hv,hy⟩
  ·rw[hv,hd] at e';cases e'
  ·rw[hv,hd] at e';cases e';left
 refine⟨⟨by rw[ua6];exact r.snd.len,λ i x e=>?_,?_⟩,λ i e=>?_,λ u' v' l' x b e1 e2=>?_⟩
 ·rw[bA hl] at e
  split at e
  ·rename_i z;subst z;cases e;exact wk
  ·exact r.snd.walk _ _ e
 ·rw[bA hl]
  split
  ·rename_i z;subst z
   obtain⟨x,hx,hx0⟩:=r.snd.start
   rcases hv with hv | ⟨y,hv,hy⟩
   ·rw[hv] at hx;cases hx
   ·rw[hv] at hx;cases hx
    exact⟨_,rfl,by left⟩
  ·exact r.snd.start
 ·rw[bA hl]
  split
  ·rename_i z;subst z;exact absurd e bad
  ·exact r.keep _ e
 ·rw[bA hl]
  rcases b with b | b
  ·obtain⟨y',hy',hle⟩:=r.arc _ _ _ _ b e1 e2
   split
   ·rename_i z;subst z
    refine⟨_,rfl,?_⟩
    rcases hv with hv | ⟨y,hv,hy⟩
    ·rw[hv] at hy';cases hy'
    ·rw[hv] at hy';cases hy';left
   ·exact⟨y',hy',hle⟩
  ·cases b
   have:=r.keep _ e1
   rw[hu,e2] at this;cases this
   rw[ufo rfl]
   exact⟨_,rfl,uae _⟩
theorem Rnd.next (dd:∀ v,Dst A s v (δ v))(P:Pos A)(inn:∀ u v l,(u,v,l)∈A->u<n/\v<n)(s0:Snd A n s D0)(r:Rnd A n s δ D0 B D)(all:∀ a∈A,B a):∀ (k:Nat)(v:Nat),v<n->get D0 v≠δ v->(∀ d,δ v=some d->d.toNat<=k)->∃ v,v<n/\get D0 v≠δ v/\get D v=δ v:=by
 intro k
 induction k using ue5 with
 | ind k ih =>
  intro v hv hne hk
  cases e:δ v with
  | none =>
   cases e2:get D0 v with
   | none=>exact absurd (e2.trans e.symm) hne
   | some x =>
    obtain⟨y,hy,_⟩:=(dd v).2 _ (s0.walk _ _ e2)
    rw[e] at hy;cases hy
  | some d =>
   have wk:=(dd v).1 _ e
   have hkd:=hk _ e
   cases hw:wk with
   | nil =>
    obtain⟨x,hx,hx0⟩:=s0.start
    have:=(s0.walk _ _ hx).nonneg P
    have:x=0:=by left
    subst this
    exact absurd (hx.trans e.symm) hne
   | @snoc u _ l x w m =>
    obtain⟨y,hy,hyx⟩:=(dd u).2 _ w
    obtain⟨d',hd',hle⟩:=(dd v).2 _ (Walk.snoc ((dd u).1 _ hy) m)
    rw[e] at hd';cases hd'
    have yx:y=x:=by left
    subst yx
    by_cases c:get D0 u=δ u
    ·obtain⟨y',hy',hle'⟩:=r.arc _ _ _ _ (all _ m) c hy
     obtain⟨d',hd',hle2⟩:=(dd v).2 _ (r.snd.walk _ _ hy')
     rw[e] at hd';cases hd'
     have:y'=y+l:=by left
     subst this
     exact⟨v,hv,hne,hy'.trans e.symm⟩
    ·have l1:=P _ _ _ m
     have y0:=((dd u).1 _ hy).nonneg P
     refine ih (k-1) (by left) u (inn _ _ _ m).1 c λ d hd=>?_
     rw[hy] at hd;cases hd;left
end
theorem dS {α:Type}{p q:α->Bool}:∀ {xs:List α},(∀ x∈xs,p x=true->q x=true)->(∃ x∈xs,q x=true/\p x=false)->xs.countP p<xs.countP q
 | [],_,⟨x,h,_⟩=>by cases h
 | a::r,h,⟨x,hx,e1,e2⟩=>by
  rw[udj,udj]
  have le:r.countP p<=r.countP q:=udt λ x hx=>h x (j7 _ hx)
  rcases k8.mp hx with rfl | hx
  ·rw[e1,e2];simp;left
  ·have:=dS (xs:=r) (λ x hx=>h x (j7 _ hx)) ⟨x,hx,e1,e2⟩
   have:=h a i3
   cases e:p a <;> cases e':q a <;> simp_all <;> left
def cnt (n:Nat)(δ:Nat->Option Int)(D:List (Option Int)):Nat:=(d7 n).countP λ v=>decide (get D v=δ v)
def Done (n:Nat)(δ:Nat->Option Int)(D:List (Option Int))(k:Nat):Prop:=(∀ v,v<n->get D v=δ v)\/k+1<=cnt n δ D
theorem Done.round {n:Nat}{δ:Nat->Option Int}{D0 D:List (Option Int)}{B:(Nat × Nat × Int)->Prop}{k:Nat}(dd:∀ v,Dst A s v (δ v))(P:Pos A)(inn:∀ u v l,(u,v,l)∈A->u<n/\v<n)(s0:Snd A n s D0)(r:Rnd A n s δ D0 B D)(all:∀ a∈A,B a)(h:Done n δ D0 k):Done n δ D (k+1):=by
 by_cases c:∀ v,v<n->get D0 v=δ v
 ·exact .inl λ v hv=>r.keep v (c v hv)
 ·rcases h with h | h
  ·exact absurd h c
  ·have ⟨v,z⟩:=Classical.not_forall.mp c
   have ⟨hv,hne⟩:=Classical.not_imp.mp z
   obtain⟨v',hv',n0,n1⟩:=r.next dd P inn s0 all ((δ v).getD 0).toNat v hv hne λ d e=>by rw[e];exact d8 _
   refine .inr (ubn h (dS (λ x _ e=>?_) ⟨v',l9.mpr hv',ufk n1,ufm n0⟩))
   exact ufk (r.keep x (ufl e))
theorem Done.first {n:Nat}{δ:Nat->Option Int}{D:List (Option Int)}{v:Nat}(hv:v<n)(h:get D v=δ v):Done n δ D 0:=by
 refine .inr ?_
 exact List.countP_pos_iff.mpr ⟨v,l9.mpr hv,ufk h⟩
theorem Done.all {n:Nat}{δ:Nat->Option Int}{D:List (Option Int)}(h:Done n δ D n):∀ v,v<n->get D v=δ v:=by
 rcases h with h | h
 ·exact h
 ·have:cnt n δ D<=n:=by
   have:=List.countP_le_length (p:=λ v=>decide (get D v=δ v)) (l:=d7 n)
   rw[j9] at this;exact this
  left
def PSt (c0:List (Option (Int × Int)))(B:(Nat × Nat × Int)->Prop)(cs:List (Option (Int × Int)))(ag:Bool):Prop :=
 (ag=false/\cs=c0/\∀ u v l c,B (u,v,l)->get c0 u=some c->∃ c',get c0 v=some c'/\c'.1<=c.1+l)\/(ag=true/\mu cs<mu c0)
section
variable {c0 cs:List (Option (Int × Int))}{B B':(Nat × Nat × Int)->Prop}{ag:Bool}{u v:Nat}{l w:Int}
end
theorem dI {α:Type}(n v:Nat):get (k9 n (none:Option α)) v=none:=by
 unfold get
 rw[d3,ucf]
 split <;> rfl
theorem oO {α:Type}:∀ n:Nat,ct (k9 n (none:Option α))=0
 | 0=>rfl
 | n+1=>oO n
theorem Good.first {n:Nat}(hs:s<n):Good A n s ((k9 n none).set s (some (0,0))):=by
 have hl:s<(k9 n (none:Option (Int × Int))).length:=by rw[v5];exact hs
 have cases':∀ v c,get ((k9 n (none:Option (Int × Int))).set s (some (0,0))) v=some c->v=s/\c=(0,0):=λ v c e=>by
  rw[bA hl,dI] at e
  split at e
  ·rename_i z;cases e;exact⟨z,rfl⟩
  ·cases e
 refine⟨by rw[ua6,v5],λ v c e=>?_,λ v c e=>?_,λ v c e=>?_,⟨(0,0),?_,uae _⟩⟩
 ·obtain⟨rfl,rfl⟩:=cases' _ _ e;exact .nil
 ·obtain⟨rfl,rfl⟩:=cases' _ _ e;exact⟨uae _,by decide⟩
 ·obtain⟨rfl,rfl⟩:=cases' _ _ e
  rw[gW hl,oO,dI];decide
 ·rw[bA hl,ufo rfl]
theorem Snd.first {n:Nat}(hs:s<n):Snd A n s ((k9 n none).set s (some 0)):=by
 have hl:s<(k9 n (none:Option Int)).length:=by rw[v5];exact hs
 refine⟨by rw[ua6,v5],λ v c e=>?_,⟨0,?_,uae _⟩⟩
 ·rw[bA hl,dI] at e
  split at e
  ·rename_i z;subst z;cases e;exact .nil
  ·cases e
 ·rw[bA hl,ufo rfl]
theorem Rnd.start {n:Nat}{δ:Nat->Option Int}{D:List (Option Int)}(h:Snd A n s D):Rnd A n s δ D (λ _=>False) D:=⟨h,λ _ e=>e,λ _ _ _ _ z=>z.elim⟩
theorem Rnd.less {n:Nat}{δ:Nat->Option Int}{D0 D:List (Option Int)}{B B':(Nat × Nat × Int)->Prop}(h:Rnd A n s δ D0 B D)(k:∀ a,B' a->B a):Rnd A n s δ D0 B' D:=⟨h.snd,h.keep,λ u v l x z=>h.arc u v l x (k _ z)⟩
theorem uB {n:Nat}{δ:Nat->Option Int}{D:List (Option Int)}(P:Pos A)(hs:s<n)(dd:∀ v,Dst A s v (δ v))(h:Snd A n s D):Done n δ D 0:=by
 obtain⟨x,hx,hx0⟩:=h.start
 obtain⟨y,hy,hyl⟩:=(dd s).2 0 .nil
 have:=((dd s).1 _ hy).nonneg P
 have:=(h.walk _ _ hx).nonneg P
 exact Done.first hs (by rw[hx,hy,show x=y by left])
end Far
namespace L3
open PySem PySem.Spec PyProof.Rows L2
def tieAt (ts:List Tie)(k:Nat):Tie:=ts.getD k (0,0,0)
def arcs2 (t:Tie):List (Nat × Nat × Int):=[(t.1.toNat,t.2.1.toNat,t.2.2),(t.2.1.toNat,t.1.toNat,t.2.2)]
def arcs (ts:List Tie)(ks:List Nat):List (Nat × Nat × Int):=ks.flatMap λ k=>arcs2 (tieAt ts k)
theorem arcs_mem {ts:List Tie}{ks:List Nat}{a:Nat × Nat × Int}:a∈arcs ts ks↔∃ k,k∈ks/\a∈arcs2 (tieAt ts k):=by
 unfold arcs;rw[udh]
theorem arcs2_mem {t:Tie}{a:Nat × Nat × Int}:a∈arcs2 t↔a=(t.1.toNat,t.2.1.toNat,t.2.2)\/a=(t.2.1.toNat,t.1.toNat,t.2.2):=by
 unfold arcs2;simp
theorem bG {ts:List Tie}{k:Nat}(h:k<ts.length):ts[k]?=some (tieAt ts k)/\tieAt ts k∈ts:=by
 have e:ts[k]?=some (tieAt ts k):=by unfold tieAt;rw[d3,c6 h];rfl
 exact⟨e,i6 e⟩
section
variable {n:Int}{ts:List Tie}{ks:List Nat}
theorem yL:Far.Sym (arcs ts ks):=λ u v l h=>by
 obtain⟨k,hk,h⟩:=arcs_mem.mp h
 refine arcs_mem.mpr ⟨k,hk,arcs2_mem.mpr ?_⟩
 rcases arcs2_mem.mp h with h | h <;> cases h
 ·exact .inr rfl
 ·exact .inl rfl
theorem eB (ok:WebOk n ts)(ko:KeepOk ts.length ks):Far.Pos (arcs ts ks):=λ u v l h=>by
 obtain⟨k,hk,h⟩:=arcs_mem.mp h
 have:=ok.tie _ (bG (ko.2 k hk)).2
 rcases arcs2_mem.mp h with h | h <;> cases h <;> left
theorem oE (ok:WebOk n ts)(ko:KeepOk ts.length ks):∀ u v l,(u,v,l)∈arcs ts ks->u<n.toNat/\v<n.toNat:=λ u v l h=>by
 obtain⟨k,hk,h⟩:=arcs_mem.mp h
 have:=ok.tie _ (bG (ko.2 k hk)).2
 rcases arcs2_mem.mp h with h | h <;> cases h <;> left
theorem wL {i k:Nat}(h:ks[i]?=some k){a:Nat × Nat × Int}(m:a∈arcs ts (ks.take (i+1))):a∈arcs ts (ks.take i)\/a∈arcs2 (tieAt ts k):=by
 obtain⟨j,hj,m⟩:=arcs_mem.mp m
 rw[cR h] at hj
 rcases m5.mp hj with hj | hj
 ·exact .inl (arcs_mem.mpr ⟨j,hj,m⟩)
 ·rw[i5.mp hj] at m;exact .inr m
end
def CV (H:Hp)(v:V):Option (Int × Int)->Prop
 | none=>v=.non
 | some e=>∃ t,v=.ref t/\H t=some (.tup [.int e.1,.int e.2])
theorem CV.keep {H H':Hp}(k:TupKeep H H'){v:V}:∀ {o:Option (Int × Int)},CV H v o->CV H' v o
 | none,h=>h
 | some e,⟨t,h1,h2⟩=>⟨t,h1,k _ _ h2⟩
def CostL (H:Hp)(vs:List V)(cs:List (Option (Int × Int))):Prop:=vs.length=cs.length/\∀ i v,vs[i]?=some v->CV H v (Far.get cs i)
section
variable {H H' J J':Hp}{vs cvs avs ws:List V}{cs:List (Option (Int × Int))}{lw lc la t:j4}{n k:Nat}{x y:Int}
theorem CostL.keep (h:CostL H vs cs)(k:TupKeep H H'):CostL H' vs cs:=⟨h.1,λ i v e=>(h.2 i v e).keep k⟩
theorem CostL.set {v:V}{c:Int × Int}(h:CostL H vs cs)(hk:k<vs.length)(hv:CV H v (some c)):CostL H (vs.set k v) (cs.set k (some c)):=by
 refine⟨by rw[ua6,ua6];exact h.1,λ i u e=>?_⟩
 rw[Far.bA (by rw[← h.1];exact hk)]
 rw[List.getElem?_set] at e
 by_cases z:k=i
 ·subst z;rw[ufo rfl,ufo hk] at e;cases e;rw[ufo rfl];exact hv
 ·rw[ufp z] at e;rw[ufp (Ne.symm z)];exact h.2 i u e
theorem CostL.first (n:Nat):CostL H (k9 n .non) (k9 n none):=by
 refine⟨by rw[v5,v5],λ i v e=>?_⟩
 rw[Far.dI]
 rw[ucf] at e
 split at e
 ·cases e;rfl
 ·cases e
theorem fG {p:j4}{xs:List V}{o:HO}(h:J p=some (.lst xs)):TupKeep J (upd J p o):=λ a ys e=>by
 rw[aK (λ z=>by rw[z,h] at e;cases e)];exact e
theorem nJ (s:Same J J'):TupKeep J J':=λ a xs e=>s _ _ e
structure RH (H J:Hp)(lw lc la:j4)(ws:List V)(n:Nat)(cs:List (Option (Int × Int))):Prop where
 same:Same H J
 fc:H lc=none
 fa:H la=none
 nwc:lw≠lc
 nwa:lw≠la
 nca:lc≠la
 wl:J lw=some (.lst ws)
 co:∃ cvs,J lc=some (.lst cvs)/\CostL J cvs cs
 ah:∃ avs,J la=some (.lst avs)/\avs.length=n
end
theorem nP {α:Type}(x:α):∀ k:Nat,(k9 k [x]).flatten=k9 k x
 | 0=>rfl
 | k+1=>by rw[ubs,ucl,nP x k];rfl
def ov:Option Int->V
 | none=>.non
 | some x=>.int x
theorem fI {D:List (Option Int)}{i:Nat}(h:i<D.length):(D.map ov)[i]?=some (ov (Far.get D i)):=by
 rw[j5,c6 h]
 unfold Far.get
 rw[d3,c6 h];rfl
theorem aZ {α:Type}{xs:List α}{i:Int}{x:α}(h0:0<=i)(h:xs[i.toNat]?=some x):atI xs i=some x:=by
 have hl:=(i0.mp h).1
 unfold atI ixN
 rw[ufo h0,ufo (by left)]
 exact h
theorem cY {n:Nat}{i:Int}(h0:0<=i)(h:i<n):ixN n i=some i.toNat:=by
 unfold ixN;rw[ufo h0,ufo h]
inductive rRep1_i  (x:V) (y:V) (H:Hp) (Q:VK):Prop
 | mk:∀ l k z,(x=.ref l)->(y=.int k)->(H l=some (.lst [z]))->(0<=k)->(k<=1000)->(∀ p H',Same H H'->H p=none->H' p=some (.lst (k9 k.toNat z))->Q (.ref p) H')->rRep1_i x y H Q
def rRep1 :R2:=λ x y H Q=>rRep1_i x y H Q
theorem iW {X:Cx}:OpR X (binaryOp .Mult) rRep1:=by
 intro pins s σ H x y v u Q I rx ry h
 obtain⟨l,k,z,rfl,rfl,hH,h1,h2,q⟩:=h
 refine za4 (X:=X) pins s σ H _ _ v u Q I rx ry ⟨l,k,_,rfl,rfl,hH,by left,by left,?_,λ p hp=>q p _ (aW hp) hp (by rw[aM,nP])⟩
 exact r8 (by show 1*k.toNat<=1000;left) (by decide:1000<=o9)
theorem bR {K:a8}{H:Hp}:∀ {ts:List Tie}{ws:List V}{k:Nat},IsAll K H (ts.map tieD) ws->k<ts.length->∃ a,ws[k]?=some (.ref a)/\H a=some (.tup [.int (tieAt ts k).1,.int (tieAt ts k).2.1,.int (tieAt ts k).2.2])
 | t::r,ws,0,h,_=>by
  obtain⟨v,vs,rfl,h1,_⟩:=h
  obtain⟨a,xs,rfl,ha,hx⟩:=h1
  have e:xs=(tieI t).map V.int:=IsAll.of_ints (ns:=tieI t) hx
  subst e
  exact⟨a,rfl,ha⟩
 | t::r,ws,k+1,h,hk=>by
  obtain⟨v,vs,rfl,_,h2⟩:=h
  obtain⟨a,e,ha⟩:=bR (ts:=r) (ws:=vs) (k:=k) h2 (by simpa using hk)
  exact⟨a,e,ha⟩
theorem eM {K:a8}{H:Hp}{ks:List Nat}{v:V}(h:Is K H (keepD ks) v):∃ p,v=.ref p/\H p=some (.tup ((keepI ks).map V.int)):=by
 obtain⟨p,vs,rfl,hp,hx⟩:=h
 have e:=IsAll.of_ints hx
 subst e
 exact⟨p,rfl,hp⟩
theorem gK {ks:List Nat}{i:Nat}{x:V}(h:((keepI ks).map V.int)[i]?=some x):∃ k,ks[i]?=some k/\x=.int (k:Int):=by
 unfold keepI at h
 rw[uam,j5] at h
 cases e:ks[i]? with
 | none=>rw[e] at h;cases h
 | some k=>rw[e] at h;cases h;exact⟨k,rfl,rfl⟩
theorem nZ {H:Hp}{vs:List V}{cs:List (Option (Int × Int))}{i:Int}(h:CostL H vs cs)(h0:0<=i)(hi:i.toNat<cs.length):∃ v,atI vs i=some v/\CV H v (Far.get cs i.toNat):=by
 have hl:i.toNat<vs.length:=by rw[h.1];exact hi
 have e:vs[i.toNat]?=some vs[i.toNat]:=c6 hl
 exact⟨_,aZ h0 e,h.2 _ _ e⟩
def pows (m:Nat):List V:=(d7 m).map λ i=>V.int (2^i)
theorem zG {m i:Nat}(h:i<m):(pows m)[i]?=some (.int (2^i)):=by unfold pows;rw[j5,ua2 h];rfl
theorem vG (m:Nat):pows (m+1)=pows m++[.int (2^m)]:=by unfold pows;rw[udr,uao];rfl
theorem zax {i:Nat}(h:i<60):(0:Int)<=2^i/\(2:Int)^i<=2^60:=by
 have e:((2^i:Nat):Int)=(2:Int)^i:=by norm_cast
 have:2^i<=2^60:=Nat.pow_le_pow_right (by decide) (by left)
 constructor
 ·rw[← e];exact o6 _
 ·rw[← e];exact_mod_cast this
def spWeights (K:a8):Sp:=λ vs H Q _=>∃ n ts v,vs=[v]/\Is K H (webD n ts) v/\ts.length<=60/\∀ l H',Same H H'->H l=none->H' l=some (.lst (pows ts.length))->Q (.ref l) H'
def spCost (K:a8):Sp:=λ vs H Q _=>∃ c x y l w,vs=[.ref c,.int l,.int w]/\H c=some (.tup [.int x,.int y])/\∀ t H',Same H H'->H' t=some (.tup [.int (x+l),.int (y+w)])->Q (.ref t) H'
def WK (K:a8)(H:Hp)(n:Int)(ts:List Tie)(ks:List Nat)(wv kv:V):Prop:=Is K H (webD n ts) wv/\WebOk n ts/\Is K H (keepD ks) kv/\KeepOk ts.length ks
theorem WK.same {K:a8}{H H':Hp}{n:Int}{ts:List Tie}{ks:List Nat}{wv kv:V}(h:WK K H n ts ks wv kv)(s:Same H H'):WK K H' n ts ks wv kv:=⟨Is.same s _ h.1,h.2.1,Is.same s _ h.2.2.1,h.2.2.2⟩
def spReached (K:a8):Sp:=λ vs H Q _=>∃ n ts ks wv kv r,vs=[wv,kv,.int r]/\WK K H n ts ks wv kv/\0<=r/\r<n /\
 ∀ p lc la cvs avs cs H',Same H H'->H' p=some (.tup [.ref lc,.ref la])->H' lc=some (.lst cvs)->H' la=some (.lst avs)->CostL H' cvs cs->Far.Good (arcs ts ks) n.toNat r.toNat cs->Far.Stab (arcs ts ks) cs->Q (.ref p) H'
def spFars (K:a8):Sp:=λ vs H Q _=>∃ n ts ks wv kv r,vs=[wv,kv,.int r]/\WK K H n ts ks wv kv/\0<=r/\r<n /\
 ∀ l D H',Same H H'->H l=none->H' l=some (.lst (D.map ov))->D.length=n.toNat->(∀ v,v<n.toNat->Far.Dst (arcs ts ks) r.toNat v (Far.get D v))->Q (.ref l) H'
end L3
namespace HT
open PySem PyProof.Rows
open Sem (wp)
section
variable {prog:m3}{w:uac}{A:v6}{E:c9->d6->Prop}{s:d6}
end
end HT
namespace L3
open PySem PySem.Spec PyProof.Rows L2
def hAt (hs:List Int)(a:Int):Int:=hs.getD a.toNat 0
def absI (i:Int):Int:=if i<0 then -i else i
def acrossI (ts:List Tie)(hs:List Int)(k:Nat):Int:=absI (hAt hs (tieAt ts k).1-hAt hs (tieAt ts k).2.1)
def holdB (n:Int)(ts:List Tie)(ks:List Nat)(hs:List Int):Bool:=decide (hs.length=n.toNat)&&ks.all λ k=>decide (acrossI ts hs k<=(tieAt ts k).2.2)
def capO (roof:Int):Option Int->Int
 | none=>roof
 | some x=>if roof<x then roof else x
theorem jI {hs:List Int}{a:Int}(h0:0<=a)(h:a.toNat<hs.length):atI (hs.map V.int) a=some (.int (hAt hs a)):=by
 refine aZ h0 ?_
 rw[j5,c6 h]
 unfold hAt
 rw[d3,c6 h];rfl
theorem kE:∀ hs:List Int,wholesB (.tuple (hs.map .int))=true:=λ hs=>by
 show (hs.map udm).all wholeB=true
 rw[uek]
 exact uap.mpr λ _ _=>rfl
def IntT (H:Hp)(p:j4)(hs:List Int):Prop:=H p=some (.tup (hs.map V.int))/\hs.length<=1000
theorem IntT.same {H H':Hp}{p:j4}{hs:List Int}(h:IntT H p hs)(s:Same H H'):IntT H' p hs:=⟨s _ _ h.1,h.2⟩
def AllI (xs:List V):Prop:=∃ ns:List Int,xs=ns.map V.int
theorem lL {n:Int}{ts:List Tie}{ks:List Nat}{hs:List Int}(ok:WebOk n ts)(ko:KeepOk ts.length ks)(h:holdB n ts ks hs=true){s v:Nat}{x:Int}(w:Far.Walk (arcs ts ks) s v x):hs.getD v 0-hs.getD s 0<=x:=by
 unfold holdB at h
 rw[r9] at h
 have ha:=uap.mp h.2
 induction w with
 | nil=>left
 | @snoc u v l x w m ih =>
  obtain⟨k,hk,m⟩:=arcs_mem.mp m
  have hh:=ufl (ha k hk)
  unfold acrossI hAt absI at hh
  rcases arcs2_mem.mp m with e | e
  ·have e1:u=(tieAt ts k).1.toNat:=congrArg (·.1) e
   have e2:v=(tieAt ts k).2.1.toNat:=congrArg (·.2.1) e
   have e3:l=(tieAt ts k).2.2:=congrArg (·.2.2) e
   rw[← e1,← e2,← e3] at hh
   split at hh <;> left
  ·have e1:u=(tieAt ts k).2.1.toNat:=congrArg (·.1) e
   have e2:v=(tieAt ts k).1.toNat:=congrArg (·.2.1) e
   have e3:l=(tieAt ts k).2.2:=congrArg (·.2.2) e
   rw[← e1,← e2,← e3] at hh
   split at hh <;> left
theorem nB {n:Int}{ts:List Tie}{ks:List Nat}{D:List (Option Int)}{s:Nat}{roof:Int}(ok:WebOk n ts)(ko:KeepOk ts.length ks)(lD:D.length=n.toNat)(hD:∀ v,v<n.toNat->Far.Dst (arcs ts ks) s v (Far.get D v)):holdB n ts ks (D.map (capO roof))=true:=by
 unfold holdB
 rw[r9]
 refine⟨ufk (by rw[c7];exact lD),uap.mpr λ k hk=>ufk ?_⟩
 have hin:=oE ok ko
 have tk:=ok.tie _ (bG (ko.2 k hk)).2
 have m1:((tieAt ts k).1.toNat,(tieAt ts k).2.1.toNat,(tieAt ts k).2.2)∈arcs ts ks:=arcs_mem.mpr ⟨k,hk,arcs2_mem.mpr (.inl rfl)⟩
 have m2:=yL _ _ _ m1
 have va:∀ a:Int,0<=a->a<n->hAt (D.map (capO roof)) a=capO roof (Far.get D a.toNat):=λ a h0 h1=>by
  unfold hAt Far.get
  rw[d3,j5,c6 (by left),d3,c6 (by left)]
  rfl
 have step:∀ u v l,(u,v,l)∈arcs ts ks->∀ x,Far.get D u=some x->∃ y,Far.get D v=some y/\y<=x+l:=λ u v l m x e=>(hD v (hin _ _ _ m).2).2 _ (.snoc ((hD u (hin _ _ _ m).1).1 x e) m)
 unfold acrossI
 rw[va _ (by left) (by left),va _ (by left) (by left)]
 cases e1:Far.get D (tieAt ts k).1.toNat with
 | none =>
  cases e2:Far.get D (tieAt ts k).2.1.toNat with
  | none=>show absI (roof-roof)<=_;unfold absI;split <;> left
  | some y=>obtain⟨z,hz,_⟩:=step _ _ _ m2 y e2;rw[e1] at hz;cases hz
 | some x =>
  obtain⟨y,e2,h2⟩:=step _ _ _ m1 x e1
  obtain⟨z,hz,h1⟩:=step _ _ _ m2 y e2
  rw[e1] at hz;cases hz
  rw[e2]
  show absI ((if roof<x then roof else x)-(if roof<y then roof else y))<=_
  unfold absI
  by_cases c1:roof<x
  ·rw[ufo c1]
   by_cases c2:roof<y
   ·rw[ufo c2];split <;> left
   ·rw[ufp c2];split <;> left
  ·rw[ufp c1]
   by_cases c2:roof<y
   ·rw[ufo c2];split <;> left
   ·rw[ufp c2];split <;> left
theorem eW:∀ hs:List Int,ucj (hs.map .int)=true
 | []=>rfl
 | t::r=>by
  show (PyData.canLay0 (.int t)&&ucj (r.map .int))=true
  rw[eW r]
  rfl
theorem lO:∀ hs:List Int,uel (hs.map .int)<=1
 | []=>uad _
 | t::r=>by
  show max (uec (.int t)) (uel (r.map .int))<=1
  have h1:=lO r
  have h2:uec (.int t)<=1:=r8 (udv (by rfl:uec (.int t)=0)) (by decide)
  left
def spAcross (K:a8):Sp:=λ vs H Q _=>∃ (n:Int)(ts:List Tie)(wv:V)(k:Nat)(p:j4)(hs:List Int),vs=[wv,.int (k:Int),.ref p]/\Is K H (webD n ts) wv/\WebOk n ts/\k<ts.length/\IntT H p hs/\hs.length=n.toNat/\Q (.int (acrossI ts hs k)) H
def spHFrom (K:a8):Sp:=λ vs H Q _=>∃ n ts ks wv kv a roof,vs=[wv,kv,.int a,.int roof]/\WK K H n ts ks wv kv/\0<=a/\a<n /\
 ∀ (p:j4)(D:List (Option Int))(H':Hp),Same H H'->H' p=some (.tup ((D.map (capO roof)).map V.int))->D.length=n.toNat->(∀ v,v<n.toNat->Far.Dst (arcs ts ks) a.toNat v (Far.get D v))->Q (.ref p) H'
section
variable {g:TG}{te:TE}{own:List Str}{js:List Nat}{σ:L2.St}{H1:Hp}{Q:VK}
end
section
variable {J:It}{g:TG}{tt:TT}{te:TE}{own:List Str}{js:List Nat}{σ:L2.St}{H1:Hp}{Q:VK}
theorem iL (n:Nat)(Sg:L2.St->Prop)(sel:Nat->Option V)(hn:n<=1000)(h0:Sg (start3 own js σ))
  (go:∀ i H',i<n->Same H1 H'->J.go i H') (stop:∀ H',Same H1 H'->J.stop n H')
  (step:∀ i x σ' H' H2,i<n->Same H1 H'->J.yld i H' x H2->Sg σ'->∀ (C:L2.St->V->Hp->Prop)(L:L2.St->Hp->Prop),(∀ σ3 v H5,Sg σ3->Same H' H5->sel i=some v->C σ3 v H5)->(∀ σ3 H5,Sg σ3->Same H' H5->sel i=none->L σ3 H5) ->
   g x σ' H2 λ σ3 H3=>tt σ3 H3 λ b H4=>if b=true then te σ3 H4 λ v H5=>C σ3 v H5 else L σ3 H4)
  (fin:∀ D H',H1 D=none->Same H1 H'->H' D=some (.lst ((d7 n).filterMap sel))->Q (.ref D) H'):CompGo own js g tt te σ Q J H1:=by
 intro D hD
 refine⟨λ i m ys σ' H'=>m=n-i/\i<=n/\Sg σ'/\Same H1 H'/\ys=(d7 i).filterMap sel,⟨n,rfl,uad _,h0,aW hD,rfl⟩,?_⟩
 rintro i m ys σ' H' ⟨rfl,hi,sg,sm,rfl⟩ hd
 have len:((d7 i).filterMap sel).length<=i:=by have:=List.length_filterMap_le sel (d7 i);rw[j9] at this;exact this
 by_cases hlt:i<n
 ·refine .inr ⟨go i H' hlt sm,λ x H2 hy=>?_⟩
  refine step i x σ' H' H2 hlt sm hy sg
   (λ σ3 v H5=>H5 D=some (.lst ((d7 i).filterMap sel))/\((d7 i).filterMap sel).length<o9/\∃ m',m'<n-i/\(m'=n-(i+1)/\i+1<=n/\Sg σ3/\Same H1 (upd H5 D (.lst ((d7 i).filterMap sel++[v])))/\(d7 i).filterMap sel++[v]=(d7 (i+1)).filterMap sel))
   (λ σ3 H5=>H5 D=some (.lst ((d7 i).filterMap sel))/\∃ m',m'<n-i/\(m'=n-(i+1)/\i+1<=n/\Sg σ3/\Same H1 H5/\(d7 i).filterMap sel=(d7 (i+1)).filterMap sel)) (λ σ3 v H5 sg3 s5 e=>?_) (λ σ3 H5 sg3 s5 e=>?_)
  ·refine⟨s5 _ _ hd,ubn (by left:((d7 i).filterMap sel).length<=1000) (by decide),n-(i+1),by left,rfl,hlt,sg3,λ b o z=>?_,?_⟩
   ·rw[aK (aY z hD)];exact s5 _ _ (sm _ _ z)
   ·rw[udr,List.filterMap_append];simp [e]
  ·refine⟨s5 _ _ hd,n-(i+1),by left,rfl,hlt,sg3,sm.trans s5,?_⟩
   rw[udr,List.filterMap_append];simp [e]
 ·have e:i=n:=by left
  subst e
  exact .inl ⟨stop H' sm,fin D H' hD sm hd⟩
theorem wB {lo:Int}{n:Nat}(Sg:L2.St->Prop)(sel:Nat->Option V)(hn:n<=1000)(h0:Sg (start3 own js σ))
  (step:∀ i σ' H',i<n->Same H1 H'->Sg σ'->∀ (C:L2.St->V->Hp->Prop)(L:L2.St->Hp->Prop),(∀ σ3 v H5,Sg σ3->Same H' H5->sel i=some v->C σ3 v H5)->(∀ σ3 H5,Sg σ3->Same H' H5->sel i=none->L σ3 H5) ->
   g (.int (lo+i)) σ' H' λ σ3 H3=>tt σ3 H3 λ b H4=>if b=true then te σ3 H4 λ v H5=>C σ3 v H5 else L σ3 H4)
  (fin:∀ D H',H1 D=none->Same H1 H'->H' D=some (.lst ((d7 n).filterMap sel))->Q (.ref D) H'):CompGo own js g tt te σ Q (Itr lo n) H1:=by
 refine iL n Sg sel hn h0 (λ i H' hi s=>hi) (λ H' s=>d8 _) (λ i x σ' H' H2 hi s hy sg C L hC hL=>?_) fin
 obtain⟨rfl,rfl⟩:=hy
 exact step i σ' _ hi s sg C L hC hL
end
end L3
namespace Far
variable {A:List (Nat × Nat × Int)}{s:Nat}
def Con (A:List (Nat × Nat × Int))(s v:Nat):Prop:=∃ x,Walk A s v x
noncomputable def rB (A:List (Nat × Nat × Int))(s v:Nat):Bool:=@decide (Con A s v) (Classical.propDecidable _)
theorem Con.symm (S:Sym A){v:Nat}(h:Con A s v):Con A v s:=let ⟨x,w⟩:=h;⟨x,w.back S⟩
noncomputable def rN (A:List (Nat × Nat × Int))(n s:Nat):List Nat:=(d7 n).filter (rB A s)
noncomputable def isHd (A:List (Nat × Nat × Int))(n p:Nat):Bool:=decide ((rN A n p).head?=some p)
noncomputable def pcs (A:List (Nat × Nat × Int))(n:Nat):List (List Nat):=((d7 n).filter (isHd A n)).map (rN A n)
end Far
namespace L3
open PySem PySem.Spec PyProof.Rows L2
def natV (ns:List Nat):List V:=ns.map λ v:Nat=>V.int (v:Int)
theorem bT (ns:List Nat):natV ns=(keepI ns).map V.int:=by unfold natV keepI;rw[uam];rfl
theorem cS (p:Nat->Bool):∀ is:List Nat,is.filterMap (λ i=>if p i=true then some (V.int (i:Int)) else none)=natV (is.filter p)
 | []=>rfl
 | i::r=>by
  rw[ucy,List.filter_cons]
  cases e:p i with
  | true=>rw[ufo rfl,ufo rfl,cS p r];rfl
  | false=>rw[ufp i7,ufp i7,cS p r]
theorem cZ {a:Int}(h:0<=a)(ns:List Nat):inV (.int a) (natV ns)=decide (a.toNat∈ns):=by
 unfold inV natV
 rw[List.any_map,ub1,uep,decide_eq_true_iff]
 constructor
 ·rintro ⟨v,hv,e⟩
  have e':((v:Int)==a)=true:=e
  have:(v:Int)=a:=by simpa using e'
  have e2:a.toNat=v:=by left
  rw[e2];exact hv
 ·intro m
  exact⟨_,m,show (((a.toNat:Nat):Int)==a)=true by rw[uan h];simp⟩
theorem cU (ns:List Nat):(natV ns).all flatV=true:=by
 unfold natV;rw[uek];exact uap.mpr λ _ _=>rfl
end L3
namespace Srt
open PySem PySem.Spec PyProof.Rows PySem.W
section
variable {prog:m3}{w:uac}{A:v6}{E:c9->d6->Prop}{s:d6}
theorem uC {x:c9}{vs:List c9}{Q:c9->d6->Prop}{r:Nat->Int}{κ:SortKind}(h64:vs.length<64)
  (hcol:∀ (A':v6)(E':c9->d6->Prop)(Q':List c9->d6->Prop),(∀ h',(∀ b o,s.heap.get? b=some o->h'.get? b=some o)->Q' vs { s with heap:=h' })->o8 (w8 prog w) A' (collect x) Q' E' s)
  (hk:2<=vs.length->∀ (A':v6)(s':d6)(Q:SortKind->d6->Prop),(∀ b o,s.heap.get? b=some o->s'.heap.get? b=some o)->Q κ s'->o8 (w8 prog w) A' (keyKind' vs.toArray) Q (λ _ _=>False) s')
  (hc:∀ (A':v6)(s':d6)(i j:Nat)(C:Bool->d6->Prop),(∀ b o,s.heap.get? b=some o->s'.heap.get? b=some o)->i<vs.length->j<vs.length->C (decide (r i<r j)) s'->kas_ask prog w A' κ vs i j C s')
  (h:∀ (p:Array Nat)(h':Heap)(c:Nat)(g:Heap),Gd vs.length p->Up r p vs.length->(∀ b o,s.heap.get? b=some o->g.get? b=some o)->(∀ b o,g.get? b=some o->h'.get? b=some o)->h'.get? g.objs.size=some (seqObj "list" (outOf vs p).toArray c)->Q (.ref g.objs.size) { s with heap:=h' }) :
  o8 (w8 prog w) A (call (.builtin "sorted") [x]) Q E s:=by
 have line:(64:Nat)<=o9:=by rw[ubd];decide
 refine Calls.call_function_entry kind_sorted plain_sorted entry_sorted (args_sorted1 _) ?_
 unfold Builtin.«sorted»
 refine a9 (m:=checkCount "sorted" 1 1 _) (i9 (a9 (hcol _ _ _ λ g k1=>a9 (uc1 ?_ (by left)))))
 have hoL:(g.push { cls:=.type "list",data:=.seq vs.toArray }).get? g.objs.size=some (seqObj "list" vs.toArray 0):=j0 _ rfl
 have k2:∀ b o,s.heap.get? b=some o->(g.push { cls:=.type "list",data:=.seq vs.toArray }).get? b=some o:=λ b o q=>b7 _ (k1 b o q)
 have ne:∀ b o,s.heap.get? b=some o->b≠g.objs.size:=λ b o q=>j6 (i8 (k1 b o q))
 have ne2:∀ b o,g.get? b=some o->b≠g.objs.size:=λ b o q=>j6 (i8 q)
 show o8 _ _ _ _ _ { s with heap:=g.push { cls:=.type "list",data:=.seq vs.toArray } }
 refine a9 (uaw (ua9 slot_list_sort ⟨_,hoL,rfl⟩ entry_list_sort ?_ (args_list_sort _)))
 refine lsort (s:={ s with heap:=g.push { cls:=.type "list",data:=.seq vs.toArray } }) (r:=r) (κ:=κ) hoL h64 (λ h2 s' Q' st q=>hk h2 _ s' Q' (λ b o e=>st b o (ne b o e) (k2 b o e)) q)
  (λ s' i j C st hi hj q=>hc _ s' i j C (λ b o e=>st b o (ne b o e) (k2 b o e)) hi hj q) λ p h' c g1 u1 st e=>⟨_,rfl,?_⟩
 exact i9 ⟨_,rfl,h p h' c g g1 u1 k1 (λ b o q=>st b o (ne2 b o q) (b7 _ q)) e⟩
end
end Srt
namespace HT
open PySem PyProof.Rows
section
variable {prog:m3}{w:uac}{A:v6}{E:c9->d6->Prop}{s:d6}
theorem tO {Q:List c9->d6->Prop}{r:j4}{a b c:Int}{t u v:Tok}{n:Nat}(hh:A.handled=none)(hr:IsRange s.heap r a b c t u v)(hsmall:Builtin.Range.small a b c=true)
  (hn:Builtin.Range.rangeSize a b c=n) (hlen:n<=2^24)
  (hQ:∀ h' tk acc',(∀ b o,s.heap.get? b=some o->h'.get? b=some o)->ItemsOf (λ i v=>∃ t,v=.int (a+i*c) t) acc' n->Q acc'.toList { s with heap:=h',toks:=tk }) :
  o8 (w8 prog w) A (collect (.ref r)) Q E s:=by
 unfold collect
 refine a9 (wpAny_runValue (codeAny_builtin PySem.F.entry_proto_collect ?_))
 rw[Around.under_plainId PySem.F.plain_proto_collect _]
 show o8 _ A.in1 (newList [] >>= λ l=>again (.builtin "list.__iadd__" ⟨[l,.ref r],[]⟩)) _ _ s
 refine a9 (ubk ?_)
 refine i9 ⟨plainId_quiet ue4 _,codeAny_builtin PySem.F.entry_list_iadd ?_⟩
 rw[Around.under_plainId ue4 _]
 show o8 _ A.in1 (Builtin.List.listExtendWith (.ref s.heap.objs.size) (.ref r) (.ref s.heap.objs.size)) _ _ _
 have hS:(s.heap.push { cls:=.type "list",data:=.seq ([]:List c9).toArray }).get? s.heap.objs.size=some { cls:=.type "list",data:=.seq #[] }:=j0 _ rfl
 have fin' : ∀ (h' : Heap)(tk : Nat)(acc' : Array c9)(c' : Nat), (∀ b o, s.heap.get? b = some o → h'.get? b = some o) → h'.get? s.heap.objs.size = some { cls := .type "list", dict := none, data := .seq acc' c', slots := #[] } → ItemsOf (λ i v => ∃ t, v = .int (a+i*c) t) acc' n →
     o8 (w8 prog w) A (load s.heap.objs.size >>= λ o=>match o.data with | .seq xs _=>pure xs.toList | _=>unsupported "internal:collect") Q E { s with heap:=h',toks:=tk }:=λ h' tk acc' c' hk hS' hacc=>a9 (wpAny_load hS' (i9 (hQ h' tk acc' hk hacc)))
 refine ua7 (wpAny_extend_range (A:=A) (R:=λ r s'=>r=.ok (.ret (.ref s.heap.objs.size))/\∃ (h':Heap)(tk:Nat)(acc':Array c9)(c':Nat),s'={ s with heap:=h',toks:=tk }/\(∀ b o,s.heap.get? b=some o->h'.get? b=some o)/\h'.get? s.heap.objs.size=some { cls:=.type "list",dict:=none,data:=.seq acc' c',slots:=#[] }/\ItemsOf (λ i v=>∃ t,v=.int (a+i*c) t) acc' n)
  (s:={ s with heap:=s.heap.push { cls:=.type "list",data:=.seq ([]:List c9).toArray } }) hh (b7 _ hr) hsmall hn hlen s.heap.objs.size (.ref s.heap.objs.size) 0 hS λ h' tk acc' c' hk hS' hacc=>⟨rfl,h',tk,acc',c',rfl,λ b o e=>hk b o (j6 (i8 e)) (b7 _ e),hS',hacc⟩) (λ fin s' h=>?_) (λ e s' h=>?_)
 ·cases fin with
  | done f =>
   obtain⟨e,h',tk,acc',c',rfl,h1,h2,h3⟩:=h
   cases e
   exact fin' h' tk acc' c' h1 h2 h3
  | again c'=>exact⟨h.1,ucu h.2 λ r s'' hr=>by obtain⟨rfl,h',tk,acc',c',rfl,h1,h2,h3⟩:=hr;exact fin' h' tk acc' c' h1 h2 h3⟩
 ·exact absurd h.1 (by simp)
end
theorem oX (r:j4)(a b c:Int)(t u v:Tok)(n:Nat)(hsmall:Builtin.Range.small a b c=true)(hn:Builtin.Range.rangeSize a b c=n)(hlen:n<=1000) :
  Meets (Builtin.«tuple.__new__» ⟨[.type "tuple",.ref r],[]⟩)
   (λ A R s=>A.handled=none/\IsRange s.heap r a b c t u v/\∀ (h':Heap)(tk:Nat)(acc':Array c9),(∀ b o',s.heap.get? b=some o'->h'.get? b=some o')->ItemsOf (λ i v=>∃ t,v=.int (a+i*c) t) acc' n->R (.ok (.ret (.ref h'.objs.size))) { s with heap:=h'.push { cls:=.type "tuple",data:=.seq acc' },toks:=tk }) :=
 .of_wp λ prog w A R s h=>by
  obtain⟨hp,g,d,tk,os⟩:=s;obtain⟨hh,hr,h⟩:=h
  have hsub:=sub_tuple_self
  have hinit:=init_tuple_lookup
  have hmh:=madeHere_tuple
  have hT:Shared.TypeIs ⟨hp,g,d,tk,os⟩ (.ref r) "range":=⟨_,hr,rfl⟩
  wp_walk using ue6 hT,tO (A:=A.in1) hh hr hsmall hn (r8 hlen (by decide))
  intro h' tk' acc' hk hacc
  show o8 _ _ (Builtin.Tuple.tupleExact acc'.toList.toArray >>= λ v=>ret v) _ _ _
  unfold Builtin.Tuple.tupleExact
  have sz:acc'.size=n:=hacc.1
  refine a9 (ubk ?_ (by show acc'.toList.toArray.size<=o9;rw[show acc'.toList.toArray=acc' by simp,sz,ubd];left))
  refine i9 ⟨_,rfl,?_⟩
  have e:acc'.toList.toArray=acc':=by simp
  rw[e]
  exact h h' tk' acc' hk hacc
section
variable {prog:m3}{w:uac}{A:v6}{E:c9->d6->Prop}{s:d6}
theorem pK {Q:c9->d6->Prop}{r:j4}{a b c:Int}{t u v:Tok}{n:Nat}(hh:A.handled=none)(hr:IsRange s.heap r a b c t u v)(hsmall:Builtin.Range.small a b c=true)
  (hn:Builtin.Range.rangeSize a b c=n) (hlen:n<=1000)
  (hQ:∀ (h':Heap)(tk:Nat)(acc':Array c9),(∀ b o,s.heap.get? b=some o->h'.get? b=some o)->ItemsOf (λ i v=>∃ t,v=.int (a+i*c) t) acc' n->Q (.ref h'.objs.size) { s with heap:=h'.push { cls:=.type "tuple",data:=.seq acc' },toks:=tk }) :
  o8 (w8 prog w) A (call (.type "tuple") [.ref r]) Q E s :=
 callType_new PySem.F.called_tuple (by decide) (PySem.F.typeCall_tuple_1 _) (PySem.F.newCall_tuple_1 _) (λ obj=>PySem.F.args_object_init_2 obj _) PySem.F.entry_tuple_new
  (oX r a b c t u v n hsmall hn hlen) ⟨hh,hr,λ h' tk acc' hk hacc=>⟨⟨_,j0 _ rfl,rfl⟩,hQ h' tk acc' hk hacc⟩⟩
end
end HT
namespace L3
open PySem PySem.Spec PyProof.Rows L2
section
variable {X:Cx}
inductive call_tuple_rng_i  (xs:List V) (H:Hp) (Q:VK):Prop
 | mk:∀ (p:j4)(j:Int),(xs=[.ref p])->(H p=some (.rng 0 j))->(0<=j)->(j<=1000)->(∀ l H',Same H H'->H l=none->H' l=some (.tup (natV (d7 j.toNat)))->Q (.ref l) H')->call_tuple_rng_i xs H Q
theorem qP (hh:X.calm=true):CallR X (.type "tuple") (call_tuple_rng_i):=by
 intro pins s σ H xs us Q I r h
 obtain⟨p,j,rfl,hp,hj0,hj,q⟩:=h
 obtain⟨u,rfl,rx⟩:=vals1 r
 cases rx
 obtain⟨t,u,v,e⟩:=(show ObjOk X.prog X.w H s.heap p (.rng 0 j) from I.hok p _ hp)
 refine HT.pK (n:=j.toNat) (I.ok.hd hh) (show IsRange s.heap p 0 j 1 t u v from e) (small_one (by left) (by left) (by left) (by left)) (by rw[rangeSize_one];split <;> left) (by left) λ h' tk acc hk hacc=>?_
 have I1:Inv X pins σ H { s with heap:=h',toks:=tk }:=I.kept (t':=tk) hk
 have fr:H h'.objs.size=none:=I1.hok.fresh (d8 _)
 refine⟨.ref h'.objs.size,upd H h'.objs.size (.tup (natV (d7 j.toNat))),I1.laid (t':=tk) (o:=.tup (natV (d7 j.toNat))) (λ b o e=>b7 _ e) (d8 _) ⟨?_,acc.toList,?_,(by rw[show acc.toList.toArray=acc by simp];exact⟨_,j0 _ rfl,rfl,⟨_,rfl⟩,rfl⟩)⟩,rfl,q _ _ (aW fr) fr aM⟩
 ·unfold natV;rw[c7,j9,ubd];left
 ·have go:∀ (n:Nat)(l:List c9),l.length=n->(∀ (k:Nat)(v:c9),l[k]?=some v->∃ t,v=Value.int (0+(k:Int)*1) t)->Vals ((d7 n).map λ i:Nat=>V.int (i:Int)) l:=by
   intro n l hl hv
   have gen:∀ (l:List c9)(o:Nat),(∀ (k:Nat)(v:c9),l[k]?=some v->∃ t,v=Value.int ((o+k:Nat):Int) t)->Vals ((List.range' o l.length).map λ i:Nat=>V.int (i:Int)) l:=by
    intro l
    induction l with
    | nil=>intro o _;exact .nil
    | cons x r ih =>
     intro o h
     rw[ube,List.range'_succ,ubg]
     obtain⟨t,ht⟩:=h 0 x rfl
     refine .cons ⟨t,by simpa using ht⟩ (ih (o+1) λ k v hk=>?_)
     obtain⟨t,ht⟩:=h (k+1) v (by simpa using hk)
     exact⟨t,by rw[ht];congr 1;left⟩
   have:=gen l 0 λ k v hk=>by
    obtain⟨t,ht⟩:=hv k v hk
    exact⟨t,by rw[ht];congr 1;left⟩
   rw[hl,← List.range_eq_range'] at this
   exact this
  exact go j.toNat acc.toList (by rw[ubp];exact hacc.1) λ k v hv=>hacc.2 k v (by simpa using hv)
inductive call_sortedIT_i  (xs:List V) (H:Hp) (Q:VK):Prop
 | mk:∀ p ns,(xs=[.ref p])->(H p=some (.tup (ns.map V.int)))->(ns.length<64)->(∀ ms:List Int,ms.Perm ns->ms.Pairwise (·<=·)->∀ l H',Same H H'->H l=none->H' l=some (.lst (ms.map V.int))->Q (.ref l) H')->call_sortedIT_i xs H Q
theorem kC:CallR X (.builtin "sorted") (call_sortedIT_i):=by
 intro pins s σ H xs us Q I r h
 obtain⟨p,ns,rfl,hq,h64,q⟩:=h
 obtain⟨u,rfl,rx⟩:=vals1 r
 cases rx
 obtain⟨its,rv,pl,hz⟩:=I.tuple (SqT.of hq)
 have hl:=rv.length
 rw[c7] at hl
 have hI:IntsAre its ns:=dE rv
 have line:(64:Nat)<=o9:=by rw[ubd];decide
 obtain⟨o,ho,hc,n,hd⟩:=id pl
 refine Srt.uC (vs:=its) (r:=λ i=>ns.getD i 0) (κ:=oneType') (by left) (λ A' E' Q' hQ=>?_) (λ h2 A' s' Q' _ q'=>Srt.mS hI h2 q') (λ A' s' i j C _ hi hj q'=>Srt.nW hI hi hj q') λ pp h' c gg g u kg kp e=>?_
 ·refine wpAny_collect_seq p (.inr rfl) ho hc hd (λ h' hk=>?_) (by rw[h9];left)
  exact hQ h' hk
 have g':Srt.Gd ns.length pp:=by rw[hl];exact g
 have u':Srt.Up (λ i=>ns.getD i 0) pp ns.length:=by rw[hl];exact u
 have pm:(pp.toList.map λ i=>ns.getD i 0).Perm ns:=by
  have:=gL g' λ i=>ns.getD i 0
  rw[dD] at this
  exact this
 have pw:(pp.toList.map λ i=>ns.getD i 0).Pairwise (·<=·):=by
  rw[uar]
  exact gB g' u' λ i j _ _ z=>z
 have I1:Inv X pins σ H { s with heap:=gg,toks:=s.toks }:=I.kept (t':=s.toks) kg
 have fr:H gg.objs.size=none:=I1.hok.fresh (d8 _)
 have ev:((pp.toList.map λ i=>ns.getD i 0).map V.int)=pp.toList.map λ i=>(ns.map V.int).getD i .non:=by
  rw[uam]
  refine ubt λ i hi=>?_
  have:=dP g' i hi
  simp [ubo,this]
 refine⟨.ref gg.objs.size,_,I1.laid (a:=gg.objs.size) (o:=.lst ((pp.toList.map λ i=>ns.getD i 0).map V.int)) (t':=s.toks) kp (d8 _) ⟨?_,Srt.outOf its pp,c,?_,e⟩,rfl,q _ pm pw _ _ (aW fr) fr aM⟩
 ·have:=pm.length_eq
  rw[c7,this];left
 ·rw[ev]
  exact eQ rv pp.toList λ i hi=>by rw[c7];exact dP g' i hi
end
section
variable {g:TG}{tt:TT}{te:TE}{own:List Str}{js:List Nat}{σ:L2.St}{H1:Hp}{Q:VK}
theorem dU {K:a8}{a:j4}{xs:List V}(hx:H1 a=some (.tup xs))(Sg:L2.St->Prop)(sel:Nat->Option V)(hn:xs.length<=1000)(h0:Sg (start3 own js σ))
  (step:∀ i x σ' H',xs[i]?=some x->Same H1 H'->Sg σ'->∀ (C:L2.St->V->Hp->Prop)(L:L2.St->Hp->Prop),(∀ σ3 v H5,Sg σ3->Same H' H5->sel i=some v->C σ3 v H5)->(∀ σ3 H5,Sg σ3->Same H' H5->sel i=none->L σ3 H5) ->
   g x σ' H' λ σ3 H3=>tt σ3 H3 λ b H4=>if b=true then te σ3 H4 λ v H5=>C σ3 v H5 else L σ3 H4)
  (fin:∀ D H',H1 D=none->Same H1 H'->H' D=some (.lst ((d7 xs.length).filterMap sel))->Q (.ref D) H'):CompGo own js g tt te σ Q (Itt K a) H1:=by
 refine iL xs.length Sg sel hn h0 (λ i H' hi s=>⟨xs,xs[i],SqT.of (s _ _ hx),by simp [hi]⟩) (λ H' s=>⟨xs,SqT.of (s _ _ hx),d8 _⟩) (λ i x σ' H' H2 hi s hy sg C L hC hL=>?_) fin
 obtain⟨rfl,hy⟩:=hy
 exact step i x σ' _ (hy xs (SqT.of (s _ _ hx))) s sg C L hC hL
end
def outs (m:Nat)(ks:List Nat):List Nat:=(d7 m).filter λ k=>decide (k∉ks)
theorem outs_mem {m k:Nat}{ks:List Nat}:k∈outs m ks↔k<m/\k∉ks:=by unfold outs;rw[z0,l9,decide_eq_true_iff]
theorem mM (m:Nat)(ks:List Nat):(outs m ks).length<=m:=by
 have:=ucn (λ k=>decide (k∉ks)) (d7 m)
 rw[j9] at this;exact this
noncomputable def gO (ts:List Tie)(ks:List Nat)(k:Nat):Option Int :=
 @dite (Option Int) (∃ o,Far.Dst (arcs ts ks) (tieAt ts k).1.toNat (tieAt ts k).2.1.toNat o) (Classical.propDecidable _) (λ h=>Classical.choose h) λ _=>none
theorem jV {ts:List Tie}{ks:List Nat}{k:Nat}{o:Option Int}(h:Far.Dst (arcs ts ks) (tieAt ts k).1.toNat (tieAt ts k).2.1.toNat o):gO ts ks k=o:=by
 unfold gO
 have ex:∃ o,Far.Dst (arcs ts ks) (tieAt ts k).1.toNat (tieAt ts k).2.1.toNat o:=⟨o,h⟩
 rw[dif_pos ex]
 exact Far.Dst.unique (Classical.choose_spec ex) h
def spWhole (K:a8):Sp:=λ vs H Q _=>∃ n ts v,vs=[v]/\Is K H (webD n ts) v/\ts.length<=60/\∀ l H',Same H H'->H l=none->H' l=some (.tup (natV (d7 ts.length)))->Q (.ref l) H'
def spOuts (K:a8):Sp:=λ vs H Q _=>∃ n ts ks wv kv,vs=[wv,kv]/\WK K H n ts ks wv kv/\∀ l H',Same H H'->H l=none->H' l=some (.lst (natV (outs ts.length ks)))->Q (.ref l) H'
theorem bP {ns:List Nat}{i:Nat}{x:V}(h:(natV ns)[i]?=some x):∃ k,ns[i]?=some k/\x=.int (k:Int):=by
 rw[bT] at h;exact gK h
end L3
namespace Far
variable {A:List (Nat × Nat × Int)}{s:Nat}
structure Ahd (A:List (Nat × Nat × Int))(s:Nat)(cs:List (Option (Int × Int)))(as:List (Option Nat)):Prop where
 len:as.length=cs.length
 root:get as s=none
 has:∀ v c,get cs v=some c->v≠s->get as v≠none
 arc:∀ v u,get as v=some u->∃ l cu cv,(u,v,l)∈A/\get cs u=some cu/\get cs v=some cv/\cu.1+l<=cv.1
inductive Tr (A:List (Nat × Nat × Int))(a:Nat):List Nat->Nat->Int->Prop
 | one:Tr A a [a] a 0
 | snoc {ws:List Nat} {u v:Nat} {x l:Int}:Tr A a ws u x->(u,v,l)∈A->Tr A a (ws++[v]) v (x+l)
def beyond (n:Nat)(cs:List (Option (Int × Int)))(d:Int):Nat:=(d7 n).countP λ v=>match get cs v with | none=>false | some c=>decide (d<=c.1)
theorem wG {n u:Nat}{cs:List (Option (Int × Int))}{cu:Int × Int}{d:Int}(hu:u<n)(e:get cs u=some cu)(h:cu.1<d):beyond n cs d<beyond n cs cu.1:=by
 refine dS (λ v _ hv=>?_) ⟨u,l9.mpr hu,?_,?_⟩
 ·cases e2:get cs v with
  | none=>rw[e2] at hv;cases hv
  | some c=>rw[e2] at hv;have:=ufl hv;exact ufk (by left)
 ·rw[e];exact ufk (uae _)
 ·rw[e];exact ufm (by left)
theorem lW (n:Nat)(cs:List (Option (Int × Int)))(d:Int):beyond n cs d<=n:=by
 have:=List.countP_le_length (p:=λ v=>match get cs v with | none=>false | some c=>decide (d<=c.1)) (l:=d7 n)
 rw[j9] at this;exact this
theorem uR {n u:Nat}{cs:List (Option (Int × Int))}{cu:Int × Int}(hu:u<n)(e:get cs u=some cu):1<=beyond n cs cu.1 :=
 List.countP_pos_iff.mpr ⟨u,l9.mpr hu,by rw[e];exact ufk (uae _)⟩
end Far
namespace L3
open PySem PySem.Spec PyProof.Rows L2
theorem lC (ns:List Int):∀ i,i<=ns.length->preSum (λ i=>ns.getD i 0) i=(ns.take i).sum
 | 0,_=>rfl
 | i+1,h=>by
  have e:ns[i]?=some ns[i]:=c6 (by left)
  show preSum _ i+ns.getD i 0=_
  rw[lC ns i (by left),cR e,List.sum_append,d3,e]
  simp
inductive call_sumA_i  (xs:List V) (H:Hp) (Q:VK):Prop
 | mk:∀ (p:j4)(ns:List Int),(xs=[.ref p])->(H p=some (.lst (ns.map V.int)))->(Q (.int ns.sum) H)->call_sumA_i xs H Q
theorem wE {X:Cx}(hh:X.calm=true):CallR X (.builtin "sum") (call_sumA_i):=by
 intro pins s σ H xs us Q I r h
 obtain⟨p,ns,rfl,hq,q⟩:=h
 obtain⟨u,rfl,rx⟩:=vals1 r
 cases rx
 obtain⟨its,rv,pl,hz⟩:=I.list (SqL.of hq)
 have hl:=rv.length
 rw[c7] at hl
 have hI:IntsAre its ns:=dE rv
 have lt:p≠s.heap.objs.size:=by obtain⟨o,e,_⟩:=pl.isList;exact j6 (i8 e)
 refine call_sum_walkAnyS (ucp pl.isList ?_)
 have W:=(Walks.list (prog:=X.prog) (w:=X.w) (A:=X.A.in1) (show X.A.in1.handled=none from I.ok.hd hh) s.heap.objs.size p lt its.toArray).toS
 refine⟨s.heap.objs.size,_,_,_,_,_,_,(λ i=>ns.getD i 0),rfl,W,⟨⟨_,j0 _ rfl,rfl,rfl⟩,pl.isList.push _⟩,λ b hb=>?_,λ i v hv=>?_,λ s' t' hm=>?_⟩
 ·obtain⟨o,e,_⟩:=pl.isList
  have hlt:p<s.heap.objs.size:=i8 e
  show b<(s.heap.push _).objs.size
  rw[uba]
  simp only [k8,w6,or_false] at hb
  rcases hb with z | z
  ·rw[z];exact Nat.lt_succ_self _
  ·rw[z];exact udd hlt
 ·exact IntsAre.int_at hI i v (by simpa using hv)
 ·rw[Moved.eq_with hm]
  refine⟨.int ns.sum,H,I.kept (t':=s'.toks) λ b o e=>hm.heap b o (λ z=>?_) (b7 _ e),⟨t',?_⟩,q⟩
  ·have:b=s.heap.objs.size:=by simpa using z
   exact absurd (i8 e) (by rw[this];exact ubi _)
  ·rw[show its.toArray.size=ns.length by rw[h9,← hl],lC ns _ (d8 _),ubw]
def oa:Option Nat->V
 | none=>.non
 | some u=>.int (u:Int)
structure RA (H J:Hp)(lw lc la:j4)(ws:List V)(cs:List (Option (Int × Int)))(as:List (Option Nat)):Prop where
 same:Same H J
 fc:H lc=none
 fa:H la=none
 nwc:lw≠lc
 nwa:lw≠la
 nca:lc≠la
 wl:J lw=some (.lst ws)
 co:∃ cvs,J lc=some (.lst cvs)/\CostL J cvs cs
 ah:J la=some (.lst (as.map oa))
section
variable {H H' J J':Hp}{vs cvs ws:List V}{cs:List (Option (Int × Int))}{as:List (Option Nat)}{lw lc la t:j4}{k:Nat}{x y:Int}
theorem RA.step (h:RA H J lw lc la ws cs as)(s:Same J J'):RA H J' lw lc la ws cs as :=
 ⟨h.same.trans s,h.fc,h.fa,h.nwc,h.nwa,h.nca,s _ _ h.wl,let ⟨c,e,z⟩:=h.co;⟨c,s _ _ e,z.keep (nJ s)⟩,s _ _ h.ah⟩
theorem RA.put (h:RA H J lw lc la ws cs as)(hc:J lc=some (.lst cvs))(hk:k<cvs.length)(ht:J t=some (.tup [.int x,.int y])):RA H (upd J lc (.lst (cvs.set k (.ref t)))) lw lc la ws (cs.set k (some (x,y))) as:=by
 obtain⟨c,e,z⟩:=h.co
 rw[hc] at e;cases e
 refine⟨λ b o eb=>?_,h.fc,h.fa,h.nwc,h.nwa,h.nca,?_,⟨_,aM,CostL.set (z.keep (fG hc)) hk ⟨t,rfl,fG hc _ _ ht⟩⟩,?_⟩
 ·rw[aK (aY eb h.fc)];exact h.same _ _ eb
 ·rw[aK h.nwc];exact h.wl
 ·rw[aK h.nca.symm];exact h.ah
theorem RA.mark {u:Nat}(h:RA H J lw lc la ws cs as):RA H (upd J la (.lst ((as.map oa).set k (.int (u:Int))))) lw lc la ws cs (as.set k (some u)):=by
 obtain⟨c,e,z⟩:=h.co
 refine⟨λ b o eb=>?_,h.fc,h.fa,h.nwc,h.nwa,h.nca,?_,⟨c,?_,z.keep (fG h.ah)⟩,?_⟩
 ·rw[aK (aY eb h.fa)];exact h.same _ _ eb
 ·rw[aK h.nwa];exact h.wl
 ·rw[aK h.nca];exact e
 ·rw[aM,List.map_set];rfl
end
theorem zbn {D:List (Option Nat)}{i:Nat}(h:i<D.length):(D.map oa)[i]?=some (oa (Far.get D i)):=by
 rw[j5,c6 h]
 unfold Far.get
 rw[d3,c6 h];rfl
def WayV (H:Hp)(A:List (Nat × Nat × Int))(a b:Nat)(v:V):Prop:=(v=.non/\Far.Dst A a b none)\/∃ t ws x,v=.ref t/\H t=some (.tup (natV ws))/\ws.length<=24/\Far.Tr A a ws b x/\Far.Dst A a b (some x)
def spWay (K:a8):Sp:=λ vs H Q _=>∃ n ts ks wv kv a b,vs=[wv,kv,.int a,.int b]/\WK K H n ts ks wv kv/\0<=a/\a<n/\0<=b/\b<n/\∀ v H',Same H H'->WayV H' (arcs ts ks) a.toNat b.toNat v->Q v H'
def isTB (ts:List Tie)(u v:Nat)(k:Nat):Bool:=decide ((tieAt ts k).1=min (u:Int) v)&&decide ((tieAt ts k).2.1=max (u:Int) v)
def tbN (ts:List Tie)(u v:Nat):Option Nat:=(d7 ts.length).find? (isTB ts u v)
theorem zap {n:Int}{ts:List Tie}{ks:List Nat}(ok:WebOk n ts)(ko:KeepOk ts.length ks){u v:Nat}{l:Int}(h:(u,v,l)∈arcs ts ks):∃ k,tbN ts u v=some k/\k<ts.length/\(tieAt ts k).2.2=l:=by
 obtain⟨k,hk,m⟩:=arcs_mem.mp h
 have hkl:=ko.2 k hk
 have tk:=ok.tie _ (bG hkl).2
 have isk:isTB ts u v k=true/\(tieAt ts k).2.2=l:=by
  unfold isTB
  rcases arcs2_mem.mp m with e | e
  ·have e1:u=(tieAt ts k).1.toNat:=congrArg (·.1) e
   have e2:v=(tieAt ts k).2.1.toNat:=congrArg (·.2.1) e
   have e3:l=(tieAt ts k).2.2:=congrArg (·.2.2) e
   have eu:(u:Int)=(tieAt ts k).1:=by rw[e1];exact uan tk.1
   have ev:(v:Int)=(tieAt ts k).2.1:=by rw[e2];exact uan (ubu (ued tk.1 tk.2.1))
   rw[eu,ev,Int.min_eq_left (ubu tk.2.1),Int.max_eq_right (ubu tk.2.1)]
   exact⟨by rw[ufk rfl,ufk rfl];rfl,e3.symm⟩
  ·have e1:u=(tieAt ts k).2.1.toNat:=congrArg (·.1) e
   have e2:v=(tieAt ts k).1.toNat:=congrArg (·.2.1) e
   have e3:l=(tieAt ts k).2.2:=congrArg (·.2.2) e
   have eu:(u:Int)=(tieAt ts k).2.1:=by rw[e1];exact uan (ubu (ued tk.1 tk.2.1))
   have ev:(v:Int)=(tieAt ts k).1:=by rw[e2];exact uan tk.1
   rw[eu,ev,Int.min_eq_right (ubu tk.2.1),Int.max_eq_left (ubu tk.2.1)]
   exact⟨by rw[ufk rfl,ufk rfl];rfl,e3.symm⟩
 cases e:tbN ts u v with
 | none =>
  have:=List.find?_eq_none.mp e k (l9.mpr hkl)
  exact absurd isk.1 this
 | some k' =>
  have p:=List.find?_some e
  have hk':k'<ts.length:=l9.mp (List.mem_of_find?_eq_some e)
  refine⟨k',rfl,hk',?_⟩
  have same:k'=k:=by
   have q1:=p
   have q2:=isk.1
   unfold isTB at q1 q2
   rw[r9] at q1 q2
   have a1:=ufl q1.1
   have a2:=ufl q1.2
   have b1:=ufl q2.1
   have b2:=ufl q2.2
   have ri:=uc6.mp ok.rise
   have g:∀ j (hj:j<ts.length),ts[j]=tieAt ts j:=λ j hj=>by
    have:=(bG hj).1
    rw[c6 hj] at this
    exact u6 this
   rcases uej k' k with z | z | z
   ·have:=ri k' k hk' hkl z
    rw[g k' hk',g k hkl] at this
    exact (this.elim (λ z=>ueq z (a1.trans b1.symm)) λ z=>ueq z.2 (a2.trans b2.symm)).elim
   ·exact z
   ·have:=ri k k' hkl hk' z
    rw[g k' hk',g k hkl] at this
    exact (this.elim (λ z=>ueq z (b1.trans a1.symm)) λ z=>ueq z.2 (b2.trans a2.symm)).elim
  rw[same];exact isk.2
def tlen (ts:List Tie)(u v:Nat):Int:=(tieAt ts ((tbN ts u v).getD 0)).2.2
def wl (ts:List Tie):List Nat->Int
 | u::v::r=>tlen ts u v+wl ts (v::r)
 | _=>0
def linked (ts:List Tie):List Nat->Prop
 | u::v::r=>(∃ k,tbN ts u v=some k/\k<ts.length)/\linked ts (v::r)
 | _=>True
theorem yU {A:List (Nat × Nat × Int)}{a v:Nat}{ws:List Nat}{x:Int}(h:Far.Tr A a ws v x):∃ r,ws=r++[v]:=by
 cases h with
 | one=>exact⟨[],rfl⟩
 | snoc _ _=>exact⟨_,rfl⟩
theorem nF (ts:List Tie)(u v:Nat):∀ r:List Nat,wl ts (r++[u]++[v])=wl ts (r++[u])+tlen ts u v
 | []=>by show tlen ts u v+0=0+tlen ts u v;left
 | [a]=>by show tlen ts a u+(tlen ts u v+0)=tlen ts a u+0+tlen ts u v;left
 | a::b::r=>by
  have:=nF ts u v (b::r)
  show tlen ts a b+wl ts ((b::r)++[u]++[v])=tlen ts a b+wl ts ((b::r)++[u])+tlen ts u v
  rw[this];left
theorem kG (ts:List Tie)(u v:Nat)(h:∃ k,tbN ts u v=some k/\k<ts.length):∀ r:List Nat,linked ts (r++[u])->linked ts (r++[u]++[v])
 | [],_=>⟨h,trivial⟩
 | [a],hl=>⟨hl.1,h,trivial⟩
 | a::b::r,hl=>⟨hl.1,kG ts u v h (b::r) hl.2⟩
theorem oR {n:Int}{ts:List Tie}{ks:List Nat}(ok:WebOk n ts)(ko:KeepOk ts.length ks){a v:Nat}{ws:List Nat}{x:Int}(h:Far.Tr (arcs ts ks) a ws v x):wl ts ws=x/\linked ts ws:=by
 induction h with
 | one=>exact⟨rfl,trivial⟩
 | @snoc ws u v x l t m ih =>
  obtain⟨r,rfl⟩:=yU t
  obtain⟨k,e1,e2,e3⟩:=zap ok ko m
  refine⟨?_,kG ts u v ⟨k,e1,e2⟩ r ih.2⟩
  rw[nF,ih.1]
  unfold tlen
  rw[e1]
  show x+(tieAt ts k).2.2=x+l
  rw[e3]
theorem hX {ts:List Tie}:∀ {ws:List Nat}{i u v:Nat},linked ts ws->ws[i]?=some u->ws[i+1]?=some v->∃ k,tbN ts u v=some k/\k<ts.length
 | a::b::r,0,u,v,h,e1,e2=>by cases e1;cases e2;exact h.1
 | a::b::r,i+1,u,v,h,e1,e2=>hX (ws:=b::r) (i:=i) h.2 (by simpa using e1) (by simpa using e2)
 | [a],0,u,v,_,_,e2=>by cases e2
 | [a],i+1,u,v,_,e1,_=>by cases e1
 | [],i,u,v,_,e1,_=>by cases e1
def alongN (ts:List Tie)(ws:List Nat):List Nat:=(d7 (ws.length-1)).map λ i=>(tbN ts (ws.getD i 0) (ws.getD (i+1) 0)).getD 0
theorem uX (ts:List Tie)(u v:Nat)(r:List Nat):alongN ts (u::v::r)=(tbN ts u v).getD 0::alongN ts (v::r):=by
 unfold alongN
 show (d7 (r.length+1)).map _=_
 rw[List.range_succ_eq_map,ubg,uam]
 rfl
theorem lZ (ts:List Tie):∀ ws:List Nat,((alongN ts ws).map λ k=>(tieAt ts k).2.2).sum=wl ts ws
 | []=>rfl
 | [_]=>rfl
 | u::v::r=>by
  rw[uX,ubg,List.sum_cons,lZ ts (v::r)];rfl
def spTB (K:a8):Sp:=λ vs H Q _=>∃ (n:Int)(ts:List Tie)(wv:V)(u v:Nat),vs=[wv,.int (u:Int),.int (v:Int)]/\Is K H (webD n ts) wv/\ts.length<=60/\∀ H',Same H H'->Q (oa (tbN ts u v)) H'
def spAlong (K:a8):Sp:=λ vs H Q _=>∃ (n:Int)(ts:List Tie)(wv:V)(t:j4)(ws:List Nat),vs=[wv,.ref t]/\Is K H (webD n ts) wv/\ts.length<=60/\H t=some (.tup (natV ws))/\ws.length<=24/\linked ts ws/\∀ l H',Same H H'->H' l=some (.lst (natV (alongN ts ws)))->Q (.ref l) H'
def spWLen (K:a8):Sp:=λ vs H Q _=>∃ (n:Int)(ts:List Tie)(wv:V)(t:j4)(ws:List Nat),vs=[wv,.ref t]/\Is K H (webD n ts) wv/\ts.length<=60/\H t=some (.tup (natV ws))/\ws.length<=24/\linked ts ws/\∀ H',Same H H'->Q (.int (wl ts ws)) H'
theorem yN {ts:List Tie}{ws:List Nat}(h:linked ts ws):∀ k∈alongN ts ws,k<ts.length:=λ k hk=>by
 unfold alongN at hk
 obtain⟨i,hi,rfl⟩:=o7.mp hk
 have hi':=l9.mp hi
 have e1:ws[i]?=some (ws.getD i 0):=by rw[d3,c6 (by left)];rfl
 have e2:ws[i+1]?=some (ws.getD (i+1) 0):=by rw[d3,c6 (by left)];rfl
 obtain⟨k,e,hk⟩:=hX h e1 e2
 rw[e];exact hk
theorem xG (a b x y:Int):uc4 (.tuple (([a,b]:List Int).map .int)) (.tuple (([x,y]:List Int).map .int))=(decide (a=x)&&decide (b=y)):=by
 show (_&&(_&&true))=_
 rw[Bool.and_true]
 rfl
def but (ks:List Nat)(k:Nat):List Nat:=ks.filter λ j=>decide (j≠k)
theorem jN {m:Nat}{ks:List Nat}{k:Nat}(h:KeepOk m ks):KeepOk m (but ks k):=⟨h.1.sublist ubj,λ j hj=>h.2 j (z0.mp hj).1⟩
theorem mI (p:Nat->Bool)(ks:List Nat):(d7 ks.length).filterMap (λ i=>if p (ks.getD i 0)=true then some (V.int ((ks.getD i 0:Nat):Int)) else none)=natV (ks.filter p):=by
 have e:=congrArg (List.filterMap λ j:Nat=>if p j=true then some (V.int (j:Int)) else none) (dD ks 0)
 rw[ud7] at e
 exact e.trans (cS p ks)
def withinB (t l:Int):Option Int->Bool
 | none=>false
 | some x=>decide (x<=t*l)
noncomputable def neededN (ts:List Tie)(ks:List Nat)(t:Int):List Nat:=ks.filter λ k=>!withinB t (tieAt ts k).2.2 (gO ts (but ks k) k)
def spFarsL (K:a8):Sp:=λ vs H Q _=>∃ n ts ks wv kp r,vs=[wv,.ref kp,.int r]/\Is K H (webD n ts) wv/\WebOk n ts/\H kp=some (.lst ((keepI ks).map V.int))/\KeepOk ts.length ks/\0<=r/\r<n /\
 ∀ l D H',Same H H'->H l=none->H' l=some (.lst (D.map ov))->D.length=n.toNat->(∀ v,v<n.toNat->Far.Dst (arcs ts ks) r.toNat v (Far.get D v))->Q (.ref l) H'
def spWithout (K:a8):Sp:=λ vs H Q _=>∃ (m:Nat)(ks:List Nat)(kv:V)(k:Nat),vs=[kv,.int (k:Int)]/\Is K H (keepD ks) kv/\KeepOk m ks/\m<=60/\∀ p H',Same H H'->H' p=some (.tup (natV (but ks k)))->Q (.ref p) H'
def spSpare (K:a8):Sp:=λ vs H Q _=>∃ (n:Int)(ts:List Tie)(ks:List Nat)(wv kv:V)(k:Nat),vs=[wv,kv,.int (k:Int)]/\WK K H n ts ks wv kv/\k<ts.length/\∀ v H',Same H H'->WayV H' (arcs ts (but ks k)) (tieAt ts k).1.toNat (tieAt ts k).2.1.toNat v->Q v H'
def spNeed (K:a8):Sp:=λ vs H Q _=>∃ t:Int,vs=[.int t]/\1<=t/\t<=99/\∀ H',Same H H'->Q .non H'
def spWithin (K:a8):Sp:=λ vs H Q _=>∃ (n:Int)(ts:List Tie)(ks:List Nat)(wv:V)(k:Nat)(t:Int)(v:V),vs=[wv,.int (k:Int),.int t,v]/\Is K H (webD n ts) wv/\WebOk n ts/\KeepOk ts.length ks/\k<ts.length/\1<=t/\t<=99 /\
 WayV H (arcs ts ks) (tieAt ts k).1.toNat (tieAt ts k).2.1.toNat v/\∀ H',Same H H'->Q (.bl (withinB t (tieAt ts k).2.2 (gO ts ks k))) H'
def spNeeded (K:a8):Sp:=λ vs H Q _=>∃ n ts ks wv kv t,vs=[wv,kv,.int t]/\WK K H n ts ks wv kv/\1<=t/\t<=99/\∀ p H',Same H H'->H' p=some (.tup (natV (neededN ts ks t)))->Q (.ref p) H'
end L3
namespace Far
section
variable {A B:List (Nat × Nat × Int)}{s u v:Nat}{x y:Int}
theorem Walk.app (h:Walk B s u x)(k:Walk B u v y):Walk B s v (x+y):=by
 induction k with
 | nil=>rw[Int.add_zero];exact h
 | @snoc w v l y k m ih =>
  have:=Walk.snoc ih m
  rw[Int.add_assoc] at this
  exact this
theorem grow {p q:Int}(h:∀ u v l,(u,v,l)∈A->∃ y,Walk B u v y/\y*q<=p*l)(w:Walk A s v x):∃ y,Walk B s v y/\y*q<=p*x:=by
 induction w with
 | nil=>exact⟨0,.nil,by simp⟩
 | @snoc u v l x w m ih =>
  obtain⟨y1,w1,e1⟩:=ih
  obtain⟨y2,w2,e2⟩:=h _ _ _ m
  refine⟨y1+y2,w1.app w2,?_⟩
  rw[Int.add_mul,Int.mul_add];left
theorem xS {p q:Int}(q0:0<=q)(h:∀ u v l,(u,v,l)∈A->∃ y,Walk B u v y/\y*q<=p*l){d:Int}{o:Option Int}(a:Dst A s v (some d))(b:Dst B s v o):∃ y,o=some y/\y*q<=p*d:=by
 obtain⟨y,w,e⟩:=grow h (a.1 d rfl)
 obtain⟨z,ez,le⟩:=b.2 y w
 exact⟨z,ez,udw (uer le q0) e⟩
end
end Far
namespace Far
section
variable {G:Nat->Option Int}{len:Nat->Int}
end
end Far
namespace Far
section
variable {A:List (Nat × Nat × Int)}{s:Nat}
end
end Far
namespace L3
open PySem PySem.Spec PyProof.Rows L2
def allIn (ts:List Tie)(ks:List Nat)(t:Int):Prop:=∀ k,k∈outs ts.length ks->withinB t (tieAt ts k).2.2 (gO ts ks k)=true
section
variable {n:Int}{ts:List Tie}{ks:List Nat}{prs:List (Option Int × Int)}
theorem fW (m:Nat):KeepOk m (d7 m):=⟨udk,λ k hk=>l9.mp hk⟩
theorem dC (ok:WebOk n ts)(ko:KeepOk ts.length ks)(k:Nat):Far.Dst (arcs ts ks) (tieAt ts k).1.toNat (tieAt ts k).2.1.toNat (gO ts ks k):=by
 obtain⟨o,h⟩:=Far.fP (eB ok ko) (tieAt ts k).1.toNat (tieAt ts k).2.1.toNat
 rw[jV h];exact h
theorem within_iff {t l:Int}{o:Option Int}:withinB t l o=true↔∃ x,o=some x/\x<=t*l:=by
 cases o with
 | none=>exact⟨λ h=>(by cases h),λ ⟨x,e,_⟩=>(by cases e)⟩
 | some x=>exact⟨λ h=>⟨x,rfl,ufl h⟩,λ ⟨y,e,le⟩=>by cases e;exact ufk le⟩
end
section
variable {P:m3}{w:uac}{K:a8}{mg:Str->Option c9}{base:Heap}
def cxL (P:m3)(w:uac)(K:a8)(mg:Str->Option c9)(base:Heap)(N:List Str)(qual:Str)(scope:ucd)(f:j4)(cd:c9)(cl:List (Str × j4))(A:v6)(outer:List Env)(s:d6)(H:Hp):Cx where
 prog:=P
 w:=w
 K:=K
 mg:=mg
 base:=base
 A:=A.deeper (ud5 qual scope s.heap.objs.size f cd cl)
 N:=N
 s₀:=s
 H₀:=H
 env:=ud5 qual scope s.heap.objs.size f cd cl
 outer:=outer
 stack:=ud5 qual scope s.heap.objs.size f cd cl::outer
 ex:=[]
 fn:=λ _=>false
 calm:=true
 pn:=[]
 xe:=λ _ _=>False
structure LamScope (x y:Str)(sc:ucd):Prop where
 kind:sc.kind=.function
 co:sc.isCoroutine=false
 gen:sc.isGenerator=false
 px:sc.names.lookup x=some .local
 py:sc.names.lookup y=some .free
 nocell:∀ z∈sc.names,z.2≠.cell
 only:∀ z,sc.names.lookup z=some .free->z=y
 ne:x≠y
theorem zY {x y:Str}{qual:Str}{scope:ucd}{f c:j4}{cd:c9}{A:v6}{outer:List Env}{s:d6}{H:Hp}{h1:Heap}{u uy:c9}{vx vy:V}{tk:Nat}(S:LamScope x y scope)(hd:A.handled=none)(e0:Env0 P w K mg base A outer s H)
  (hns:h1.Ns s.heap.objs.size (λ z=>[(x,u)].reverse.lookup z)) (hk:∀ b o,s.heap.get? b=some o->h1.get? b=some o) (hc:s.heap.IsCell c (some uy)) (hH:H c=none) (rx:RelV vx u) (ry:RelV vy uy) :
  Inv (cxL P w K mg base [x,y] qual scope f cd [(y,c)] A outer s H) [] [some vx,some vy] H { s with heap:=h1,toks:=tk }:=by
 have look:∀ z c',[(y,c)].lookup z=some c'->z=y/\c'=c:=λ z c' h=>by
  rw[uaj] at h
  cases e:z==y with
  | true=>rw[e] at h;cases h;exact⟨eq_of_beq e,rfl⟩
  | false=>rw[e] at h;cases h
 have hcy:[(y,c)].lookup y=some c:=by rw[uaj];simp
 have hc1:h1.IsCell c (some uy):=let ⟨o,e,r⟩:=hc;⟨o,hk _ _ e,r⟩
 have lc:c<s.heap.objs.size:=by obtain⟨o,e,r⟩:=hc;exact i8 e
 have noA:∀ b:j4,b∉(cxL P w K mg base [x,y] qual scope f cd [(y,c)] A outer s H).ex:=λ b z=>absurd (show b∈([]:List j4) from z) (by simp)
 refine⟨⟨e0.mod,S.kind,rfl,rfl,d8 _,λ z z' c' a b=>(look z c' a).1.trans (look z' c' b).1.symm,λ z hz=>?_,λ z c' hf=>?_,λ _=>hd,Around.frames_deeper e0.frames,.inr ⟨rfl,rfl⟩,λ b z=>absurd z (noA b),e0.bs,e0.bsz,λ b _ _=>noA b,λ b z=>absurd z (noA b),e0.funs,e0.frf⟩,
  rfl,e0.bare,Un.kept hk,⟨_,hns,λ i z v a b hv=>?_⟩,λ z c' a=>?_,e0.hok.fresh (d8 _),λ z c' a=>?_,λ p hp=>absurd (show p∈([]:List (j4 × Obj)) from hp) (by simp),e0.hok.kept hk,rfl⟩
 ·have hz:scope.names.lookup z=some .cell\/scope.names.lookup z=some .free:=hz
  rcases hz with hz | hz
  ·exact absurd rfl (S.nocell _ (v8 hz))
  ·rw[S.only z hz];exact⟨c,hcy⟩
 ·exact absurd (show false=true from hf) i7
 ·match i,a,b with
  | 0,a,b =>
   have ez:x=z:=u6 a
   have ev:vx=v:=u6 (u6 b)
   subst ez ev
   exact⟨u,rx,.inl ⟨S.px,by show [(x,u)].reverse.lookup x=some u;simp⟩⟩
  | 1,a,b =>
   have ez:y=z:=u6 a
   have ev:vy=v:=u6 (u6 b)
   subst ez ev
   exact⟨uy,ry,.inr ⟨.inr S.py,c,hcy,hc1⟩⟩
  | i+2,a,b=>exact absurd (show ([]:List Str)[i]?=some z from a) (by simp)
 ·rw[(look z c' a).2];exact⟨_,hc1⟩
 ·rw[(look z c' a).2];exact hH
theorem zX {x y:Str}{name qual:Str}{params:Arguments}{body:ubl}{scope:ucd}{f c c':j4}{pm ctv:c9}{A:v6}{outer:List Env}{s:d6}{H:Hp}{u uy:c9}{vx vy:V}{t:TE}{Q:VK}{k:Nat}(S:LamScope x y scope)(hr:Room (k+1) A)(e0:Env0 P w K mg base A outer s H)
  (ho:s.heap.get? f=some (z9 name qual params body scope [(y,c)] pm c' ctv)) (hcd:s.heap.CodeRec (.ref c') qual) (hb:bindArgs (ucz name qual params body scope [(y,c)] pm (.ref c') ctv) ⟨[u],[]⟩=pure [(x,u)])
  (hc:s.heap.IsCell c (some uy)) (hH:H c=none) (rx:RelV vx u) (ry:RelV vy uy) (ht:PE (cxL P w K mg base [x,y] qual scope f (.ref c') [(y,c)] A outer s H) body t) (hq:t [some vx,some vy] H Q) :
  codeAny (w8 P w) A (.call (.ref f) ⟨[u],[]⟩) (CR CX0 outer P w H s Q E0) s:=by
 have lim:s.heap.NoLimit:=e0.mod.nolimit.keeps λ b o e=>(e0.bs b o e).1
 refine ufh hr.depth ho rfl S.co S.gen rfl hcd ?_
 rw[hb]
 refine i9 (ueb S.nocell (λ z hz=>?_) (λ h1 hns hsb=>⟨lim.fresh _ hsb,?_⟩) S.kind)
 ·rw[i5.mp hz];exact S.px
 have hk:∀ b o,s.heap.get? b=some o->h1.get? b=some o:=λ b o e=>hsb.extBut b o (j6 (i8 e)) (b7 _ e)
 have I:=zY (P:=P) (w:=w) (K:=K) (mg:=mg) (base:=base) (qual:=qual) (f:=f) (cd:=.ref c') (tk:=s.toks+1) S hr.hd e0 hns hk hc hH rx ry
 refine ufg (ua7 (ht [] _ _ H Q I hq) (λ v s' h=>?_) λ _ _ h=>h.elim)
 obtain⟨v',H',J,rv,q⟩:=h
 exact⟨v',H',J.os,J.bare,J.base,J.hok,rv,q⟩
end
section
variable {X:Cx}{pins:List (j4 × Obj)}{σ:L2.St}{A:v6}{E:c9->d6->Prop}
def KeyV (H:Hp)(v:V)(k:List Int):Prop:=∃ t,v=.ref t/\H t=some (.tup (k.map V.int))
theorem KeyV.same {H H':Hp}{v:V}{k:List Int}(h:KeyV H v k)(S:Same H H'):KeyV H' v k:=let ⟨t,e,q⟩:=h;⟨t,e,S _ _ q⟩
theorem KeyV.but {H H':Hp}{v:V}{k:List Int}{p:j4}{xs:List V}(h:KeyV H v k)(S:But p H H')(hp:H p=some (.lst xs)):KeyV H' v k:=let ⟨t,e,q⟩:=h;⟨t,e,S _ _ (λ z=>by rw[z,hp] at q;cases q) q⟩
abbrev still (a:j4)(e1:Nat):HO:=.ext λ h=>h.get? a=some (seqObj "list" #[] e1)
theorem vT {a kS f:j4}{vs:List c9}{xs:List V}{ks:List (List Int)}{e1:Nat}{Hs H0:Hp}{s0:d6}{Pf:PySem.Fin->d6->Prop}(I0:Inv X pins σ H0 s0)(S0:Same Hs H0)(fk:Hs kS=none)(hk0:H0 kS=some (.lst []))(rv:Vals xs vs)(hl:ks.length=vs.length)(h64:vs.length<64)
  (turn:∀ (i:Nat)(x:V)(u:c9)(k:List Int)(H':Hp)(s':d6),xs[i]?=some x->RelV x u->ks[i]?=some k->Inv X pins σ H' s'->Same Hs H'->o8 (w8 X.prog X.w) A (call (.ref f) [u]) (λ r s''=>∃ H'' v,Inv X pins σ H'' s''/\Same H' H''/\RelV v r/\KeyV H'' v k) (λ _ _=>False) s')
  (fin:∀ kvs kA H' s',Inv X pins σ H' s'->Same Hs H'->H' kS=some (.lst kvs)->Vals kvs kA->Paired (KeyV H') kvs ks->o8 (w8 X.prog X.w) A (ksk_end a false vs.toArray e1 (.ref kS) kA.toArray) Pf E s') :
  o8 (w8 X.prog X.w) A (ksk_rest a (.ref f) false vs.toArray e1 (.ref kS)) Pf E s0:=by
 unfold ksk_rest
 refine a9 (ud4 ?_);rw[List.forIn_toArray]
 have lxv:=rv.length
 refine a9 (ksk_fold (λ i s'=>∃ H' kvs,Inv X pins σ H' s'/\Same Hs H'/\H' kS=some (.lst kvs)/\Paired (KeyV H') kvs (ks.take i)) vs 0 s0 ⟨H0,[],I0,S0,hk0,by simpa using Paired.nil⟩ ?step ?done)
 case step =>
  rintro j u s' hu ⟨H',kvs,I,S,hk,hp⟩
  simp only [Nat.zero_add] at hp ⊢
  have hj:j<vs.length:=(i0.mp hu).1
  have hx:xs[j]?=some xs[j]:=c6 (by left)
  obtain⟨u',hu',ru⟩:=rv.get hx
  rw[hu] at hu';cases hu'
  have hkj:ks[j]?=some ks[j]:=c6 (by left)
  refine a9 (udu (ua7 (turn j _ u _ H' s' hx ru hkj I S) (λ r s2 h=>?_) λ _ _ h=>h.elim))
  obtain⟨H2,v,I2,S2,rr,kv⟩:=h
  have hk2:=S2 _ _ hk
  obtain⟨z,its,n,r2,hl2,e2⟩:=I2.lstM hk2
  have lk:kvs.length<=j:=by have:=hp.length;rw[uco] at this;left
  have fits:kvs.length+1<=o9:=by rw[ubd];left
  dsimp only
  refine a9 (listUpdate_at e2 rfl ?_ (by rw[h9,← hl2];exact z) (by rw[Array.size_push,h9,← hl2];exact r8 fits (uce _)))
  have J:=I2.lset (t':=s2.toks) (f:=(·.push r)) (its':=its++[r]) (ys:=kvs++[v]) hk2 e2 (by simp) (r2.append (.cons rr .nil)) (by rw[g9];exact fits)
  refine i9 ⟨rfl,_,kvs++[v],J,λ b o e=>?_,aM,?_⟩
  ·rw[aK (aY e fk)];exact S2 _ _ (S _ _ e)
  ·rw[cR hkj]
   have bb:But kS H2 (upd H2 kS (.lst (kvs++[v]))):=But.upd
   exact Paired.snoc (Paired.mapP hp λ y k h=>(h.same S2).but bb hk2) (kv.but bb hk2)
 case done =>
  rintro s' ⟨H',kvs,I,S,hk,hp⟩
  rw[show ks.take (0+vs.length)=ks from uby (by left)] at hp
  obtain⟨z,its,n,r2,hl2,e2⟩:=I.lstM hk
  refine a9 (listItems_at e2 rfl ?_)
  exact fin kvs its H' s' I S hk r2 hp
abbrev rk (ks:List (List Int)):Nat->Int:=Srt.rank ks.length λ i j=>Srt.lexI (ks.getD i []) (ks.getD j [])
theorem tM {a kS:j4}{vs:List c9}{kvs:List V}{kA:List c9}{ks:List (List Int)}{e1:Nat}{H:Hp}{s:d6}{Pf:PySem.Fin->d6->Prop}(I:Inv X pins σ H s)(ha:H a=some (still a e1))(hk:H kS=some (.lst kvs))(rk:Vals kvs kA)(hp:Paired (KeyV H) kvs ks)(hne:∀ k∈ks,k≠[])(hl:ks.length=vs.length)(h64:vs.length<64)
  (fin:∀ (p:Array Nat)(H':Hp)(s':d6)(c:Nat),Srt.Gd vs.length p->Srt.Up (L3.rk ks) p vs.length->Inv X pins σ H' s'->But kS H H'->s'.heap.get? a=some (seqObj "list" #[] e1) ->
   Pf (.done (.ret .none)) { s' with heap:=s'.heap.update a (Obj.mapSeq λ _=>(Srt.outOf vs p).toArray) }) :
  o8 (w8 X.prog X.w) A (ksk_end a false vs.toArray e1 (.ref kS) kA.toArray) Pf E s:=by
 obtain⟨ga,_,_⟩:=(show ObjOk X.prog X.w H s.heap a (still a e1) from I.hok a _ ha)
 obtain⟨z,its,n,r2,hl2,e2⟩:=I.lstM hk
 have lkv:kvs.length=ks.length:=hp.length
 have lkA:kA.length=vs.length:=by rw[← rk.length,lkv,hl]
 have hT:∀ {ys:List V}{ks:List (List Int)}{us:List c9},Paired (KeyV H) ys ks->Vals ys us->Paired (Srt.TupI s.heap) us ks:=by
  intro ys ks us hp
  induction hp generalizing us with
  | nil=>intro rv;cases rv;exact .nil
  | cons r t ih =>
   intro rv
   cases rv with
   | cons r1 r2 =>
    obtain⟨a,rfl,qa⟩:=r
    cases r1
    obtain⟨its',rv',⟨o,e1,e2,n,e3⟩,_⟩:=I.tuple (SqT.of qa)
    exact .cons ⟨a,o,its'.toArray,n,rfl,e1,e2,e3,by simpa using dE rv'⟩ (ih r2)
 have tp:=hT hp rk
 have ne:kS≠a:=λ z=>by rw[z,ha] at hk;cases hk
 have line:(64:Nat)<=o9:=by rw[ubd];decide
 have tail:∀ (st:SortSt)(p:Array Nat),(arrOf st).map (·.2)=(Srt.outOf vs p).toArray->failedOf st=none->Srt.Gd vs.length p->Srt.Up (L3.rk ks) p vs.length->o8 (w8 X.prog X.w) A (ksk_tail a false e1 (.ref kS) st) Pf E s:=by
  intro st p ho hf g u
  unfold ksk_tail
  dsimp only
  refine a9 (listUpdate_at e2 rfl ?_ (by rw[h9,← hl2];exact z) (uad _))
  have J:=I.lset (t':=s.toks) (f:=λ _=>(#[]:Array c9)) (its':=[]) (ys:=[]) hk e2 rfl .nil (uad _)
  have ga2:(s.heap.update kS (Obj.mapSeq λ _=>(#[]:Array c9))).get? a=some (seqObj "list" #[] e1):=(ua8 s.heap _ ne).trans ga
  refine a9 (ueh (a9 (seqEpoch_at ga2 rfl ?_)))
  rw[ho]
  have lo:(Srt.outOf vs p).length=vs.length:=Srt.jJ g
  refine a9 (listUpdate_at ga2 rfl ?_ (uad _) (by simp only [uay,if_false];rw[h9,lo];left))
  rw[hf]
  simp only [bne_self_eq_false,uay,if_false]
  exact i9 (fin p _ _ 0 g u J But.upd ga2)
 unfold ksk_end
 simp only [uay,if_false]
 by_cases h2:vs.length<2
 ·have h2':vs.toArray.size<2:=by rw[h9];exact h2
  simp only [ufo h2']
  refine a9 (i9 ?_)
  rw[StateT.run_pure]
  refine a9 (i9 ?_)
  refine tail (SortSt.mk' general' (kA.toArray.zip vs.toArray) #[] 7 none) (udp (d7 vs.length)) ?_ rfl (ud9 _) (λ i j hij hj=>?_)
  ·rw[Srt.lE]
   apply Array.toList_inj.mp
   show ((kA.toArray.zip vs.toArray).map (·.2)).toList=_
   rw[Array.toList_map]
   simp only [Array.toList_zip,List.toList_toArray]
   exact uen (by left)
  ·have:i=j:=by left
   subst this;exact uae _
 ·have h2':¬ vs.toArray.size<2:=by rw[h9];exact h2
  simp only [ufp h2']
  refine a9 (Srt.mD tp hne (by left) ?_)
  have ask:∀ (i j:Nat)(C:Bool->d6->Prop),i<vs.length->j<vs.length->C (decide (L3.rk ks i<L3.rk ks j)) s->PySem.W.kas_ask X.prog X.w A (tuples' true) kA i j C s:=λ i j C hi hj q=>Srt.nH tp (by left) (by left) (by
   rw[Srt.gF (lt:=λ i j=>Srt.lexI (ks.getD i []) (ks.getD j [])) (λ i=>Srt.eV _) (λ _ _ _ _ _ _=>Srt.eK _ _ _) (λ _ _ _ _ _ _=>Srt.eU _ _ _) (by left) (by left)] at q;exact q)
  refine a9 (ua7 (PySem.W.kat_run (ks:=kA) (vs:=vs) (Q:=λ st' s'=>∃ p:Array Nat,arrOf st'=p.map (PySem.W.kas_item (kA.toArray.zip vs.toArray))/\failedOf st'=none/\s'=s/\Srt.Gd vs.length p/\Srt.Up (L3.rk ks) p vs.length)
   (G:=λ p s'=>s'=s/\Srt.Gd vs.length p/\Srt.Up (L3.rk ks) p vs.length) lkA (by left) h64 (λ p st' s' _ b2 b3 b4=>⟨p,b2,b3,b4.1,b4.2.1,b4.2.2⟩)
   (Srt.nM (r:=L3.rk ks) (λ i j C hi hj q=>ask i j C hi hj q) (by left) λ p g1 u1=>⟨rfl,g1,u1⟩)) ?_ λ _ _ e=>e)
  rintro ⟨⟨⟩,st'⟩ s' ⟨p,har,hf,rfl,g1,u1⟩
  exact tail st' p (PySem.W.kat_snds lkA har) hf g1 u1
theorem yK {H:Hp}{s:d6}{a:j4}{e1:Nat}{xs:List V}(I:Inv X pins σ H s)(ha:H a=some (.lst xs))(e:s.heap.get? a=some (seqObj "list" #[] e1)):Inv X pins σ (upd H a (still a e1)) s :=
 I.write (x:=a) (e:=a) (h':=s.heap) (t':=s.toks) (by rw[ha];exact trivial) (.inl rfl) (λ b u _ q=>q) ⟨_,e⟩ ⟨e,⟨_,e⟩,λ h1 h2 q k=>k _ q⟩
theorem uP {H:Hp}{s:d6}{p f:j4}{xs:List V}{ks:List (List Int)}{Q:VK}(I:Inv X pins σ H s)(hp:H p=some (.tup xs))(h64:xs.length<64)(hl:ks.length=xs.length)(hne:∀ k∈ks,k≠[])
  (turn:∀ (i:Nat)(x:V)(u:c9)(k:List Int)(H':Hp)(s':d6),xs[i]?=some x->RelV x u->ks[i]?=some k->Inv X pins σ H' s'->Same H H'->o8 (w8 X.prog X.w) X.A.in1.in1 (call (.ref f) [u]) (λ r s''=>∃ H'' v,Inv X pins σ H'' s''/\Same H' H''/\RelV v r/\KeyV H'' v k) (λ _ _=>False) s')
  (q:∀ qs:List (V × List Int),qs.Perm (xs.zip ks)->qs.Pairwise (λ a b=>Srt.lexI b.2 a.2=false)->∀ l H',Same H H'->H l=none->H' l=some (.lst (qs.map (·.1)))->Q (.ref l) H') :
  o8 (w8 X.prog X.w) X.A (call (.builtin "sorted") [.ref p] [(u5 "key",.ref f)]) (EP X pins σ Q) E s:=by
 have line:(64:Nat)<=o9:=by rw[ubd];decide
 obtain⟨vs,rv,pl,hz⟩:=I.tuple (SqT.of hp)
 have lv:=rv.length
 obtain⟨o,ho,hc,n,hd⟩:=id pl
 refine call_function_entry_kw kind_sorted plain_sorted entry_sorted (ksk_s1 _ _) ?_
 unfold Builtin.«sorted»
 refine a9 (m:=checkCount "sorted" 1 1 _) (i9 (a9 (wpAny_collect_seq p (.inr rfl) ho hc hd (λ g kg=>?_) (by rw[h9];left))))
 refine a9 (uc1 ?_ (by rw[ubp,h9];left))
 have I1:Inv X pins σ H { s with heap:=g }:=I.kept (t':=s.toks) kg
 have fa:H g.objs.size=none:=I1.hok.fresh (d8 _)
 have eo:(g.push { cls:=.type "list",data:=.seq vs.toArray }).get? g.objs.size=some (seqObj "list" vs.toArray 0):=j0 _ rfl
 have I2:Inv X pins σ (upd H g.objs.size (.lst xs)) { s with heap:=g.push { cls:=.type "list",data:=.seq vs.toArray } }:=I1.laid (t':=s.toks) (λ b u e=>b7 _ e) (d8 _) ⟨by left,vs,0,rv,eo⟩
 have ta:vs.toArray.toList.toArray=vs.toArray:=by simp
 rw[ta]
 show o8 _ _ _ _ _ { s with heap:=g.push { cls:=.type "list",data:=.seq vs.toArray } }
 generalize hg2:g.push { cls:=Value.type "list",data:=Data.seq vs.toArray }=g2 at eo I2
 generalize hga:g.objs.size=a at eo I2 fa
 refine a9 (uaw (wpAny_call_entry_kw slot_list_sort ⟨_,eo,rfl⟩ entry_list_sort ?body (ksk_l1 _ _)))
 case body =>
  show o8 (w8 X.prog X.w) X.A.in1.in1 _ _ _ _
  rw[ksk_t1]
  unfold ksk_tree
  refine a9 (listItems_at eo rfl (a9 (listUpdate_at eo rfl ?_ (by rw[h9];left) (uad _))))
  have J3:=I2.lset (t':=s.toks) (f:=λ _=>(#[]:Array c9)) (its':=[]) (ys:=[]) aM eo rfl .nil (uad _)
  obtain⟨e1,e3⟩:∃ e1,(g2.update a (Obj.mapSeq λ _=>(#[]:Array c9))).get? a=some (seqObj "list" #[] e1):=⟨_,get?_update_seq eo λ _=>#[]⟩
  have J4:=yK J3 aM e3
  have E4:upd (upd (upd H a (.lst xs)) a (.lst [])) a (still a e1)=upd H a (still a e1):=by rw[nG,nG]
  rw[E4] at J4
  refine a9 (seqEpoch_at e3 rfl (a9 (uef ?_ (by show vs.length<=_;left))))
  refine a9 (uc1 ?_ (uad _))
  refine uaw ?_
  have J5:Inv X pins σ (upd H a (still a e1)) { s with heap:=(g2.update a (Obj.mapSeq λ _=>(#[]:Array c9))).push (seqObj "tuple" vs.toArray 0) }:=J4.kept (t':=s.toks) λ b u e=>b7 _ e
  generalize hg5:(g2.update a (Obj.mapSeq λ _=>(#[]:Array c9))).push (seqObj "tuple" vs.toArray 0)=g5 at J5
  have f5:(upd H a (still a e1)) g5.objs.size=none:=J5.hok.fresh (d8 _)
  have J6:Inv X pins σ (upd (upd H a (still a e1)) g5.objs.size (.lst [])) { s with heap:=g5.push { cls:=.type "list",data:=.seq #[] } }:=J5.laid (t':=s.toks) (λ b u e=>b7 _ e) (d8 _) ⟨uad _,[],0,.nil,j0 _ rfl⟩
  have sa:Same H (upd H a (still a e1)):=aW fa
  refine vT (f:=f) (ks:=ks) J6 (aW f5) f5 aM rv (by left) (by left) (λ i x u k H' s' h1 h2 h3 h4 h5=>turn i x u k H' s' h1 h2 h3 h4 (sa.trans h5)) λ kvs kA H' s' I7 S7 hk7 rk7 hp7=>?_
  refine tM I7 (S7 _ _ aM) hk7 rk7 hp7 hne (by left) (by left) λ pp H8 s8 c g1 u1 I8 b8 e8=>⟨_,rfl,?_⟩
  have na:a≠g5.objs.size:=λ z=>by rw[← z,aM] at f5;cases f5
  have ha8:H8 a=some (still a e1):=b8 _ _ na (S7 _ _ aM)
  have out:=get?_update_seq e8 λ _=>(Srt.outOf vs pp).toArray
  have lo:(Srt.outOf vs pp).length=vs.length:=Srt.jJ g1
  have pm:(pp.toList.map λ i=>(xs.getD i .non,ks.getD i [])).Perm (xs.zip ks):=by
   have h1:=gL g1 λ i=>(xs.getD i V.non,ks.getD i [])
   have e1:(d7 vs.length).map (λ i=>(xs.getD i V.non,ks.getD i []))=xs.zip ks:=by
    refine uca (by simp;left) λ i h1 h2=>?_
    have hi:i<vs.length:=by simpa using h1
    have a1:i<xs.length:=by left
    have a2:i<ks.length:=by left
    simp [ubo,a1,a2]
   rw[e1] at h1
   exact h1
  have pw:(pp.toList.map λ i=>(xs.getD i V.non,ks.getD i [])).Pairwise (λ a b=>Srt.lexI b.2 a.2=false):=by
   rw[uar]
   refine gB g1 u1 λ i j hi hj z=>?_
   have w:=Srt.gF (n:=ks.length) (lt:=λ i j=>Srt.lexI (ks.getD i []) (ks.getD j [])) (λ i=>Srt.eV _) (λ _ _ _ _ _ _=>Srt.eK _ _ _) (λ _ _ _ _ _ _=>Srt.eU _ _ _) (show j<ks.length by left) (show i<ks.length by left)
   rw[ufm (Int.not_lt.mpr z)] at w
   exact w.symm
  have ev:(pp.toList.map λ i=>(xs.getD i V.non,ks.getD i [])).map (·.1)=pp.toList.map λ i=>xs.getD i V.non:=by rw[uam];rfl
  have I9:Inv X pins σ (upd H8 a (.lst ((pp.toList.map λ i=>(xs.getD i V.non,ks.getD i [])).map (·.1)))) { s8 with heap:=s8.heap.update a (Obj.mapSeq λ _=>(Srt.outOf vs pp).toArray) }:=by
   refine I8.write (x:=a) (e:=a) (t':=s8.toks) (by rw[ha8];exact trivial) (.inl rfl) (λ b u hb hu=>(ua8 s8.heap _ (Ne.symm hb)).trans hu) ⟨_,out⟩ ⟨?_,Srt.outOf vs pp,_,?_,out⟩
   ·have:=pm.length_eq
    rw[c7,this,List.length_zip];left
   ·rw[ev]
    exact eQ rv pp.toList λ i hi=>by have:=dP g1 i hi;left
  refine i9 ⟨_,rfl,.ref a,_,I9,rfl,q _ pm pw a _ (λ b o e=>?_) fa aM⟩
  have nb:b≠a:=aY e fa
  have e5:=sa _ _ e
  have nb5:b≠g5.objs.size:=aY e5 f5
  rw[aK nb]
  exact b8 _ _ nb5 (S7 _ _ e5)
end
section
variable {X:Cx}{pins:List (j4 × Obj)}{σ:L2.St}{H:Hp}{s:d6}
theorem sV {Pt:j4}{ps more:Array c9}{h':Heap}{t':Nat}{H':Hp}(I:Inv X pins σ H s)(hP:H Pt=some (.tbl ps))(hx:udf Pt s.heap h')(hn:h'.get? Pt=some (uci (ps++more)))(hP':H' Pt=some (.tbl (ps++more)))
  (low:∀ b,b<s.heap.objs.size->b≠Pt->H' b=H b) (new:∀ b u,s.heap.objs.size<=b->H' b=some u->ObjOk X.prog X.w H' h' b u):Inv X pins σ H' { s with heap:=h',toks:=t' }:=by
 have ne:∀ {b:j4}{o:HO},H b=some o->(∀ qs,o≠.tbl qs)->b≠Pt:=λ e n z=>by rw[z,hP] at e;cases e;exact n _ rfl
 have nn:∀ {b:j4},H b=none->b≠Pt:=λ e z=>by rw[z,hP] at e;cases e
 have stays:∀ {b:j4}{o:HO},H b=some o->(∀ qs,o≠.tbl qs)->H' b=some o:=λ e n=>by rw[low _ (I.hok.lt e) (ne e n)];exact e
 refine I.un ⟨λ b o e n _ _=>hx b o (nn n) e,λ b o e n _ _=>⟨o.slots,hx b o (nn n) e⟩,λ b o e n _=>by rw[low b (i8 e) (nn n)];exact n,λ b o e _=>?_,λ b xs e=>stays e λ _ z=>(by cases z),λ b o u e=>stays e λ _ z=>(by cases z),λ b qs e=>?_⟩ λ b u e=>?_
 ·by_cases z:b=Pt
  ·subst z;exact⟨_,hn⟩
  ·exact⟨o,hx b o z e⟩
 ·by_cases z:b=Pt
  ·subst z;rw[hP] at e;cases e;exact⟨more,hP'⟩
  ·exact⟨#[],by rw[low b (I.hok.lt e) z,e];simp⟩
 ·by_cases z:b=Pt
  ·subst z;rw[hP'] at e;cases e;exact hn
  ·rcases ub2 b s.heap.objs.size with l | l
   ·rw[low b l z] at e
    refine (I.hok b u e).stay (λ c v hc q=>hx c v (λ y=>?_) q) (λ c q=>stays q λ _ z=>(by cases z)) λ c xs q=>stays q λ _ z=>(by cases z)
    rcases hc with hc | hc
    ·exact z (hc.symm.trans y)
    ·exact ne hc (λ _ z=>by cases z) y
   ·exact new b u l e
structure LamHd (mg:Str->Option c9)(base:Heap)(c Pt:j4):Prop where
 code:udo base c Pt
 bm:∃ bm ob,mg "__builtins__"=some (.ref bm)/\bm≠builtinsNs/\base.get? bm=some ob/\ob.cls=.type "module"/\ob.dict=some builtinsNs/\ob.data=.plain
def Tb (Pt:j4)(lpos:Pos)(qual:Str)(H:Hp):Prop:=∃ ps,H Pt=some (.tbl ps)/\(ps=#[]\/∃ c',ps=#[rawInt lpos.line,rawInt lpos.col,.ref c']/\H c'=some (.ext λ h=>h.CodeRec (.ref c') qual))
def Tf (Pt:j4)(lpos:Pos)(qual:Str)(H:Hp):Prop:=∃ c',H Pt=some (.tbl #[rawInt lpos.line,rawInt lpos.col,.ref c'])/\H c'=some (.ext λ h=>h.CodeRec (.ref c') qual)
theorem Tf.tb {Pt:j4}{lpos:Pos}{qual:Str}(h:Tf Pt lpos qual H):Tb Pt lpos qual H:=let ⟨c',e,r⟩:=h;⟨_,e,.inr ⟨c',rfl,r⟩⟩
theorem Tf.same {Pt:j4}{lpos:Pos}{qual:Str}{H':Hp}(h:Tf Pt lpos qual H)(S:Same H H'):Tf Pt lpos qual H':=let ⟨c',e,r⟩:=h;⟨c',S _ _ e,S _ _ r⟩
theorem Tb.same {Pt:j4}{lpos:Pos}{qual:Str}{H':Hp}(h:Tb Pt lpos qual H)(S:Same H H'):Tb Pt lpos qual H' :=
 let ⟨ps,e,r⟩:=h;⟨ps,S _ _ e,r.imp id λ ⟨c',e1,e2⟩=>⟨c',e1,S _ _ e2⟩⟩
theorem Tb.but {Pt p:j4}{lpos:Pos}{qual:Str}{H':Hp}{xs:List V}(h:Tb Pt lpos qual H)(S:But p H H')(hp:H p=some (.lst xs)):Tb Pt lpos qual H' :=
 let ⟨ps,e,r⟩:=h;⟨ps,S _ _ (λ z=>by rw[z,hp] at e;cases e) e,r.imp id λ ⟨c',e1,e2⟩=>⟨c',e1,S _ _ (λ z=>by rw[z,hp] at e2;cases e2) e2⟩⟩
theorem mR {c Pt:j4}{params:Arguments}{body:ubl}{scope:ucd}{lpos:Pos}{clos:List (Str × j4)}{E:c9->d6->Prop}{Q:c9->d6->Prop}(I:Inv X pins σ H s)(L:LamHd X.mg X.base c Pt)(hcode:X.env.code=.ref c)(hdef:defaultsOf params X.env=([],[]))(hcl:closureFor scope X.env=pure clos)
  (T:Tb Pt lpos (X.env.qual++"<lambda>") H)
  (h:∀ f c' pm ctv H' s',Inv X pins σ H' s'->But Pt H H'->Tf Pt lpos (X.env.qual++"<lambda>") H'->(Tf Pt lpos (X.env.qual++"<lambda>") H->Same H H')->H f=none->H' f=some (.ext λ g=>g.get? f=some (z9 "<lambda>" (X.env.qual++"<lambda>") params body scope clos pm c' ctv)) ->
   H' c'=some (.ext λ g=>g.CodeRec (.ref c') (X.env.qual++"<lambda>"))->Q (.ref f) s'):o8 (w8 X.prog X.w) X.A (eval (.Lambda params body scope lpos) X.env) Q E s:=by
 obtain⟨ps,hP,hps⟩:=T
 have gP:s.heap.get? Pt=some (uci ps):=I.hok Pt _ hP
 have hg:s.heap.Ns m7 X.mg:=I.ok.mod.glob.keeps I.bk
 have C:udo s.heap c Pt:=L.code.keeps I.bk
 have hgP:m7≠Pt:=λ z=>by
  obtain⟨o,es,ep,e,hd,_⟩:=hg
  rw[z,gP] at e;cases e;cases hd
 obtain⟨bm,ob,b1,b2,b3,b4,b5,b6⟩:=L.bm
 have hbP:bm≠Pt:=λ z=>by
  have e:=I.bk _ _ b3
  rw[z,gP] at e;cases e;cases b4
 have hbG:bm≠m7:=λ z=>by
  obtain⟨o,es,ep,e,hd,_⟩:=hg
  have e':=I.bk _ _ b3
  rw[z,e] at e';cases e';rw[hd] at b6;cases b6
 have B:s.heap.BuiltinsAt X.mg Pt:=⟨bm,ob,b1,b2,hbG,hbP,I.bk _ _ b3,b4,b5,b6⟩
 refine PySem.W.kla_eval hdef ?_
 rcases hps with rfl | ⟨c',rfl,hc'⟩
 ·refine PySem.W.kla_makeFunction (mg:=X.mg) hcl I.ok.glob hg hcode C gP trivial rfl hgP B λ c' ctv h' tk hx hge hlt hrec htb=>?_
  have fc:H c'=none:=I.hok.fresh hge
  have lP:Pt<s.heap.objs.size:=i8 gP
  have hsz:s.heap.objs.size<=h'.objs.size:=uc5 (ubn hge hlt)
  have ff:H h'.objs.size=none:=I.hok.fresh hsz
  have nfc:c'≠h'.objs.size:=j6 hlt
  have nPc:Pt≠c':=j6 (o3 lP hge)
  have nPf:Pt≠h'.objs.size:=j6 (o3 lP hsz)
  have hrec':∀ o:Obj,(h'.push o).CodeRec (.ref c') (X.env.qual++"<lambda>"):=λ o=>let ⟨c2,oc,vs,t,e1,e2,r⟩:=hrec;⟨c2,oc,vs,t,e1,b7 _ e2,r⟩
  have eP:upd (upd (upd H Pt (.tbl #[rawInt lpos.line,rawInt lpos.col,.ref c'])) c' (.ext λ g=>g.CodeRec (.ref c') (X.env.qual++"<lambda>"))) h'.objs.size (.ext λ g=>g.get? h'.objs.size=some (z9 "<lambda>" (X.env.qual++"<lambda>") params body scope clos ((X.mg "__name__").getD .none) c' ctv)) Pt=some (.tbl #[rawInt lpos.line,rawInt lpos.col,.ref c']):=by rw[aK nPf,aK nPc,aM]
  have ec:upd (upd (upd H Pt (.tbl #[rawInt lpos.line,rawInt lpos.col,.ref c'])) c' (.ext λ g=>g.CodeRec (.ref c') (X.env.qual++"<lambda>"))) h'.objs.size (.ext λ g=>g.get? h'.objs.size=some (z9 "<lambda>" (X.env.qual++"<lambda>") params body scope clos ((X.mg "__name__").getD .none) c' ctv)) c'=some (.ext λ g=>g.CodeRec (.ref c') (X.env.qual++"<lambda>")):=by rw[aK nfc,aM]
  refine h h'.objs.size c' _ ctv _ _ (sV (ps:=#[]) (more:=#[rawInt lpos.line,rawInt lpos.col,.ref c']) (t':=tk) I hP (hx.push _) (b7 _ htb) (by rw[eP];simp) (λ b l nb=>?_) (λ b u l e=>?_)) (λ b o nb e=>?_) ⟨c',eP,ec⟩ (λ z=>?_) ff aM ec
  ·rw[aK (j6 (o3 l hsz)),aK (j6 (o3 l hge)),aK nb]
  ·by_cases z:b=h'.objs.size
   ·subst z
    rw[aM] at e;cases e
    have g:(h'.push (z9 "<lambda>" (X.env.qual++"<lambda>") params body scope clos ((X.mg "__name__").getD .none) c' ctv)).get? h'.objs.size=some (z9 "<lambda>" (X.env.qual++"<lambda>") params body scope clos ((X.mg "__name__").getD .none) c' ctv):=j0 _ rfl
    exact⟨g,⟨_,g⟩,λ h1 h2 q k=>k _ q⟩
   ·rw[aK z] at e
    by_cases z2:b=c'
    ·subst z2
     rw[aM] at e;cases e
     obtain⟨c2,oc,vs,t,e1,e2,r⟩:=hrec' (z9 "<lambda>" (X.env.qual++"<lambda>") params body scope clos ((X.mg "__name__").getD .none) b ctv)
     cases e1
     refine⟨⟨_,oc,vs,t,rfl,e2,r⟩,⟨oc,e2⟩,λ h1 h2 q k=>?_⟩
     obtain⟨c2,oc,vs,t,e1,e2,r⟩:=q
     cases e1
     exact⟨_,oc,vs,t,rfl,k _ e2,r⟩
    ·rw[aK z2,aK (λ y=>absurd l (by rw[y];exact Nat.not_le.mpr lP))] at e
     rw[I.hok.fresh l] at e;cases e
  ·rw[aK (aY e ff),aK (aY e fc),aK nb];exact e
  ·obtain⟨c2,z,_⟩:=z
   rw[hP] at z;cases z
 ·refine PySem.W.kla_makeFunctionHit (mg:=X.mg) (cv:=.ref c') hcl I.ok.glob hg hcode C gP (by simp [TriplesOk,rawInt]) (by simp [codeAmong,rawInt]) B λ ctv h' tk hk hsz=>?_
  have J0:Inv X pins σ H { s with heap:=h',toks:=tk }:=I.kept hk
  have ff:H h'.objs.size=none:=J0.hok.fresh (d8 _)
  have g:(h'.push (z9 "<lambda>" (X.env.qual++"<lambda>") params body scope clos ((X.mg "__name__").getD .none) c' ctv)).get? h'.objs.size=some (z9 "<lambda>" (X.env.qual++"<lambda>") params body scope clos ((X.mg "__name__").getD .none) c' ctv):=j0 _ rfl
  have J:=J0.laid (t':=tk) (a:=h'.objs.size) (h':=h'.push (z9 "<lambda>" (X.env.qual++"<lambda>") params body scope clos ((X.mg "__name__").getD .none) c' ctv)) (o:=.ext λ g=>g.get? h'.objs.size=some (z9 "<lambda>" (X.env.qual++"<lambda>") params body scope clos ((X.mg "__name__").getD .none) c' ctv)) (λ b u e=>b7 _ e) (d8 _) ⟨g,⟨_,g⟩,λ h1 h2 q k=>k _ q⟩
  have S:Same H _:=aW (o:=.ext λ g=>g.get? h'.objs.size=some (z9 "<lambda>" (X.env.qual++"<lambda>") params body scope clos ((X.mg "__name__").getD .none) c' ctv)) ff
  exact h h'.objs.size c' _ ctv _ _ J (Same.but S) ⟨c',S _ _ hP,S _ _ hc'⟩ (λ _=>S) ff aM (S _ _ hc')
def tSortK (Pt:j4)(lpos:Pos)(qual:Str)(i:Nat)(t:TA)(tb:TE):TE:=λ σ H Q=>t σ H λ vs H1=>∃ (p:j4)(xs:List V)(ks:List (List Int))(vy:V),vs=[.ref p]/\H1 p=some (.tup xs)/\xs.length<64/\ks.length=xs.length/\(∀ k∈ks,k≠[])/\σ[i]?=some (some vy)/\Tb Pt lpos qual H1 /\
 (∀ (j:Nat)(x:V)(k:List Int),xs[j]?=some x->ks[j]?=some k->∀ H2,But Pt H1 H2->tb [some x,some vy] H2 λ v H3=>Same H2 H3/\KeyV H3 v k) /\
 ∀ qs:List (V × List Int),qs.Perm (xs.zip ks)->qs.Pairwise (λ a b=>Srt.lexI b.2 a.2=false)->∀ l H',But Pt H1 H'->Tf Pt lpos qual H'->(Tf Pt lpos qual H1->Same H1 H')->H1 l=none->H' l=some (.lst (qs.map (·.1)))->Q (.ref l) H'
theorem xD {c Pt cy:j4}{x y:Str}{i:Nat}{e body:ubl}{params:Arguments}{scope:ucd}{lpos p pos kpos:Pos}{t:TA}{tb:TE}(L:LamHd X.mg X.base c Pt)(hcode:X.env.code=.ref c)(hr:Room 3 X.A)(hg:Gl X "sorted")(hm:X.mg "sorted"=none)(ha:PA X [e] t)
  (S:LamScope x y scope) (hN:X.N[i]?=some y) (hcy:X.env.cells.lookup y=some cy) (hky:X.env.scope.names.lookup y=some .cell) (hcl:closureFor scope X.env=pure [(y,cy)])
  (hb:∀ (pm ctv:c9)(c':j4)(u:c9),bindArgs (ucz "<lambda>" (X.env.qual++"<lambda>") params body scope [(y,cy)] pm (.ref c') ctv) ⟨[u],[]⟩=pure [(x,u)])
  (hbody:∀ (A:v6)(s:d6)(H:Hp)(f c':j4),PE (cxL X.prog X.w X.K X.mg X.base [x,y] (X.env.qual++"<lambda>") scope f (.ref c') [(y,cy)] A X.stack s H) body tb)
  (hdef:defaultsOf params X.env=([],[]):=by rfl) (hs:uah [e] X.env=[(false,eval e X.env)]:=by rfl)
  (hall:(backToKw pos (keywordEach [⟨some (u5 "key"),.Lambda params body scope lpos,kpos⟩] X.env)).filterMap (·.1)=[u5 "key"]:=by rfl) :
  PE X (.Call (.Name "sorted" p) [e] [⟨some (u5 "key"),.Lambda params body scope lpos,kpos⟩] pos) (tSortK Pt lpos (X.env.qual++"<lambda>") i t tb):=by
 intro pins s σ H Q I h
 refine ub4 (dN I hg hm (u:=.builtin "sorted") (by symm) ?_)
 refine callWith_kw (e:=e) (rest:=[]) (thn (ha pos pins s σ H _ I h) λ us s1 ⟨vs,H1,I1,r1,q1⟩=>?_) ?a ?b ?c ?d
 case a=>rw[hs];rfl
 case b=>rw[hs];rfl
 case c=>rfl
 case d=>rfl
 obtain⟨pp,xs,ks,vy,rfl,hp,h64,hl,hne,hσ,T,rd,q⟩:=q1
 obtain⟨u,rfl,ru⟩:=r1.one
 cases ru
 refine kws_cons (mR I1 L hcode hdef hcl T λ f c' pm ctv H2 s2 I2 b2 T2 sm2 ff hf hc'=>kws_nil ?_)
 rw[hall]
 have npp:pp≠Pt:=λ z=>by
  obtain⟨ps,e,_⟩:=T
  rw[z,e] at hp;cases hp
 have hp2:=b2 _ _ npp hp
 have T1:=T
 refine uP (ks:=ks) I2 hp2 h64 hl hne (λ j x' u k H' s' hx rx hk I' S'=>?_) λ qs pq wq l H' S' fl el=>q qs pq wq l H' (b2.trans (Same.but S')) (T2.same S') (λ z=>(sm2 z).trans S') ?_ el
 ·have gf:s'.heap.get? f=some _:=(show ObjOk X.prog X.w H' s'.heap f _ from I'.hok f _ (S' _ _ hf)).1
  have gc:s'.heap.CodeRec (.ref c') _:=(show ObjOk X.prog X.w H' s'.heap c' _ from I'.hok c' _ (S' _ _ hc')).1
  obtain⟨m,hns,lk⟩:=I'.loc
  obtain⟨uy,ry,ly⟩:=lk i y vy hN hσ (.inr (.inl hky))
  have cell:s'.heap.IsCell cy (some uy):=by
   rcases ly with ⟨z,_⟩ | ⟨_,c2,e2,ic⟩
   ·have z':X.env.scope.names.lookup y=some .local:=z
    rw[hky] at z';cases z'
   ·rw[hcy] at e2;cases e2;exact ic
  refine wpAny_call (ucu (zX (k:=0) S (hr.in1).in1 I'.env0.in1.in1 gf gc (hb _ _ _ _) cell (I'.freeC y cy hcy) rx ry (hbody _ _ _ _ _) (rd j x' k hx hk H' (b2.trans (Same.but S')))) λ r s3 hq=>?_)
  cases r with
  | error e=>exact hq.elim
  | ok fl =>
   cases fl with
   | ret u3 =>
    obtain⟨v,H3,J3,rv,qv⟩:=I'.after hq
    exact⟨H3,v,J3,qv.1,rv,qv.2⟩
   | next=>exact False.elim hq
   | brk=>exact False.elim hq
   | cont=>exact False.elim hq
 ·cases e:H1 l with
  | none=>rfl
  | some o =>
   by_cases z:l=Pt
   ·subst z
    obtain⟨c2,e',_⟩:=T2
    rw[fl] at e';cases e'
   ·rw[b2 _ _ z e] at fl;cases fl
end
def lamOf:ubm->Option (ucd × Pos)
 | .Return (some (.Call _ [.Call _ _ [⟨_,.Lambda _ _ sc p,_⟩] _] _ _)) _=>some (sc,p)
 | _=>none
def lamScopeOf (st:ubm):ucd:=match defBody st with
 | [r]=>((lamOf r).map (·.1)).getD (defScope st)
 | _=>defScope st
def lamPosOf (st:ubm):Pos:=match defBody st with
 | [r]=>((lamOf r).map (·.2)).getD ⟨0,0,0,0⟩
 | _=>⟨0,0,0,0⟩
def DefOkC (K:a8)(mg:Str->Option c9)(x:Str)(st:ubm)(ps:List Str)(c:j4):Prop :=
 ∃ (f:j4)(fd:ubf)(oc:c9)(od:Option j4)(kV doc pm:c9)(an:Option j4)(ct:c9)(osl:Array (Option c9)),fd=uau x x (defArgs st) (defBody st) (defScope st) .none kV doc pm an (.ref c) ct/\K.lookup f=some ⟨oc,od,.func fd,osl⟩/\ubq K (.ref c) x=true/\ua3 K (.ref f)=true/\Binds K fd ps []/\mg x=some (.ref f)
section
variable {P:m3}{w:uac}{K:a8}{mg:Str->Option c9}{base:Heap}{x:Str}{ps N:List Str}{sp:Sp}{k:Nat}{st:ubm}{c:j4}
theorem oK (D:DefOkC K mg x st ps c)(S:FnScope N ps (defScope st))(len:∀ vs H Q E,sp vs H Q E->vs.length=ps.length)
  (hbody:∀ (f:j4)(A:v6)(outer:List Env)(s:d6)(H:Hp)(vs:List V)(Q:VK)(E:XK),Room k (A.deeper (envOfC x (defScope st) s.heap.objs.size f (.ref c)))->sp vs H Q E ->
   ∃ t,PSs (cxOf CX0 P w K mg base N x (defScope st) f (.ref c) A outer s H E).nox (defBody st) t/\t { nx:=λ _ H'=>Q .non H',rt:=Q } (start N vs) H):Ok P w K mg base (k+1) x ps sp:=by
 obtain⟨f,fd,oc,od,kV,doc,pm,an,ct,osl,rfl,lk,hcd,kp,b,m⟩:=D
 refine⟨f,_,oT lk hcd S len λ A outer s H vs Q E hr hsp=>?_,b,kp,m⟩
 obtain⟨t,h,q⟩:=hbody f A outer s H vs Q E hr hsp
 exact⟨t,h.nox,q⟩
end
theorem iZ {X:Cx}{K:a8}(h:X.K=K):IxR X (rIxT K):=by subst h;exact aL
def okey (ts:List Tie)(k:Nat):List Int:=[(tieAt ts k).2.2,(k:Int)]
def OrdOk (ts:List Tie)(os:List Nat):Prop:=os.Perm (d7 ts.length)/\os.Pairwise λ a b=>Srt.lexI (okey ts b) (okey ts a)=false
def outK (q:V × List Int):Nat:=match q.2 with
 | [_,k]=>k.toNat
 | _=>0
theorem za3 {ts:List Tie}{qs:List (V × List Int)}(p:qs.Perm ((natV (d7 ts.length)).zip ((d7 ts.length).map (okey ts))))(w:qs.Pairwise λ a b=>Srt.lexI b.2 a.2=false):OrdOk ts (qs.map outK):=by
 have ez:(natV (d7 ts.length)).zip ((d7 ts.length).map (okey ts))=(d7 ts.length).map λ k:Nat=>(V.int (k:Int),okey ts k):=by unfold natV;rw[List.zip_map']
 rw[ez] at p
 have mem:∀ q∈qs,q=(V.int ((outK q:Nat):Int),okey ts (outK q)):=λ q hq=>by
  obtain⟨k,_,rfl⟩:=o7.mp (p.mem_iff.mp hq)
  have:outK (V.int (k:Int),okey ts k)=k:=by show ((k:Int)).toNat=k;left
  rw[this]
 refine⟨?_,?_⟩
 ·have:=p.map outK
  rw[uam] at this
  have e:(d7 ts.length).map (outK ∘ λ k:Nat=>(V.int (k:Int),okey ts k))=d7 ts.length:=by
   rw[show (outK ∘ λ k:Nat=>(V.int (k:Int),okey ts k))=id from funext λ k=>by show ((k:Int)).toNat=k;left]
   exact ud1 _
  rw[e] at this
  exact this
 ·rw[uar]
  refine w.imp_of_mem λ {a b} ha hb z=>?_
  rw[mem a ha,mem b hb] at z
  exact z
theorem xI {ts:List Tie}{qs:List (V × List Int)}(p:qs.Perm ((natV (d7 ts.length)).zip ((d7 ts.length).map (okey ts)))):qs.map (·.1)=natV (qs.map outK):=by
 have ez:(natV (d7 ts.length)).zip ((d7 ts.length).map (okey ts))=(d7 ts.length).map λ k:Nat=>(V.int (k:Int),okey ts k):=by unfold natV;rw[List.zip_map']
 rw[ez] at p
 unfold natV
 rw[uam]
 refine ubt λ q hq=>?_
 obtain⟨k,_,rfl⟩:=o7.mp (p.mem_iff.mp hq)
 show V.int (k:Int)=V.int (((k:Int).toNat:Nat):Int)
 rfl
abbrev lamQ:Str:=("order_of"++".<locals>.")++"<lambda>"
def spOrd (K:a8)(Pt:j4)(lp:Pos):Sp:=λ vs H Q _=>∃ n ts v,vs=[v]/\Is K H (webD n ts) v/\WebOk n ts/\Tb Pt lp lamQ H/\∀ l os H',OrdOk ts os->But Pt H H'->Tf Pt lp lamQ H'->(Tf Pt lp lamQ H->Same H H')->H l=none->H' l=some (.tup (natV os))->Q (.ref l) H'
end L3
namespace Frs
abbrev T2:=Nat × Nat
inductive Cn (E:List T2)(u:Nat):Nat->Prop
 | nil:Cn E u u
 | snoc {v w:Nat}:Cn E u v->((v,w)∈E\/(w,v)∈E)->Cn E u w
section
variable {E F:List T2}{u v w a b:Nat}
theorem Cn.app (h:Cn E u v)(k:Cn E v w):Cn E u w:=by
 induction k with
 | nil=>exact h
 | snoc _ m ih=>exact .snoc ih m
theorem Cn.back (h:Cn E u v):Cn E v u:=by
 induction h with
 | nil=>exact .nil
 | snoc _ m ih=>exact (Cn.snoc .nil m.symm).app ih
theorem Cn.more (h:Cn E u v)(k:∀ t∈E,t∈F):Cn F u v:=by
 induction h with
 | nil=>exact .nil
 | snoc _ m ih=>exact .snoc ih (m.imp (k _) (k _))
theorem Cn.iff (k:∀ t,t∈E↔t∈F):Cn E u v↔Cn F u v:=⟨λ h=>h.more λ t m=>(k t).mp m,λ h=>h.more λ t m=>(k t).mpr m⟩
theorem Cn.one (m:(a,b)∈E):Cn E a b:=.snoc .nil (.inl m)
theorem oA:Cn (E++[(a,b)]) u v↔Cn E u v\/(Cn E u a/\Cn E b v)\/(Cn E u b/\Cn E a v):=by
 have up:∀ {x y},Cn E x y->Cn (E++[(a,b)]) x y:=λ h=>h.more λ t m=>uab _ m
 have ab:Cn (E++[(a,b)]) a b:=.one (m9 _ i3)
 constructor
 ·intro h
  induction h with
  | nil=>exact .inl .nil
  | @snoc v w _ m ih =>
   have split:((v,w)∈E\/(w,v)∈E)\/(v=a/\w=b)\/(v=b/\w=a):=by
    rcases m with m | m
    ·rcases m5.mp m with m | m
     ·exact .inl (.inl m)
     ·have:=i5.mp m;cases this;exact .inr (.inl ⟨rfl,rfl⟩)
    ·rcases m5.mp m with m | m
     ·exact .inl (.inr m)
     ·have:=i5.mp m;cases this;exact .inr (.inr ⟨rfl,rfl⟩)
   rcases split with m | ⟨rfl,rfl⟩ | ⟨rfl,rfl⟩
   ·rcases ih with h | ⟨h1,h2⟩ | ⟨h1,h2⟩
    ·exact .inl (.snoc h m)
    ·exact .inr (.inl ⟨h1,.snoc h2 m⟩)
    ·exact .inr (.inr ⟨h1,.snoc h2 m⟩)
   ·rcases ih with h | ⟨h1,h2⟩ | ⟨h1,h2⟩
    ·exact .inr (.inl ⟨h,.nil⟩)
    ·exact .inr (.inl ⟨h1,.nil⟩)
    ·exact .inl h1
   ·rcases ih with h | ⟨h1,h2⟩ | ⟨h1,h2⟩
    ·exact .inr (.inr ⟨h,.nil⟩)
    ·exact .inl h1
    ·exact .inr (.inr ⟨h1,.nil⟩)
 ·rintro (h | ⟨h1,h2⟩ | ⟨h1,h2⟩)
  ·exact up h
  ·exact (up h1).app (ab.app (up h2))
  ·exact (up h1).app (ab.back.app (up h2))
end
def Mk (n:Nat)(E:List T2)(M:List Nat):Prop:=M.length=n/\∀ u v,u<n->v<n->(M.getD u 0=M.getD v 0↔Cn E u v)
def join (M:List Nat)(p q:Nat):List Nat:=M.map λ m=>if m=q then p else m
theorem join_at {M:List Nat}{p q u:Nat}(h:u<M.length):(join M p q).getD u 0=if M.getD u 0=q then p else M.getD u 0:=by
 unfold join
 rw[d3,j5,d3,c6 h];rfl
section
variable {n:Nat}{E:List T2}{M:List Nat}{a b:Nat}
theorem Mk.first:Mk n [] (d7 n):=by
 refine⟨j9,λ u v hu hv=>?_⟩
 have e:∀ {x},x<n->(d7 n).getD x 0=x:=λ h=>by rw[d3,ua2 h];rfl
 rw[e hu,e hv]
 constructor
 ·rintro rfl;exact .nil
 ·intro h
  cases h with
  | nil=>rfl
  | snoc _ m=>rcases m with m | m <;> cases m
theorem Mk.same (h:Mk n E M)(ha:a<n)(hb:b<n)(e:M.getD a 0=M.getD b 0):Mk n (E++[(a,b)]) M:=by
 refine⟨h.1,λ u v hu hv=>(h.2 u v hu hv).trans ?_⟩
 rw[oA]
 have ab:=(h.2 a b ha hb).mp e
 exact⟨.inl,λ z=>z.elim id λ z=>z.elim (λ z=>z.1.app (ab.app z.2)) λ z=>z.1.app (ab.back.app z.2)⟩
theorem Mk.join (h:Mk n E M)(ha:a<n)(hb:b<n)(ne:M.getD a 0≠M.getD b 0):Mk n (E++[(a,b)]) (join M (M.getD a 0) (M.getD b 0)):=by
 refine⟨by unfold Frs.join;rw[c7];exact h.1,λ u v hu hv=>?_⟩
 rw[join_at (by rw[h.1];exact hu),join_at (by rw[h.1];exact hv),oA,← h.2 u v hu hv,← h.2 u a hu ha,← h.2 b v hb hv,← h.2 u b hu hb,← h.2 a v ha hv]
 by_cases c1:M.getD u 0=M.getD b 0 <;> by_cases c2:M.getD v 0=M.getD b 0
 ·rw[ufo c1,ufo c2]
  exact⟨λ _=>.inl (c1.trans c2.symm),λ _=>rfl⟩
 ·rw[ufo c1,ufp c2]
  constructor
  ·intro z;exact .inr (.inr ⟨c1,z⟩)
  ·rintro (z | ⟨_,z⟩ | ⟨_,z⟩)
   ·exact absurd (z.symm.trans c1) c2
   ·exact absurd z.symm c2
   ·exact z
 ·rw[ufp c1,ufo c2]
  constructor
  ·intro z;exact .inr (.inl ⟨z,c2.symm⟩)
  ·rintro (z | ⟨z,_⟩ | ⟨z,_⟩)
   ·exact absurd (z.trans c2) c1
   ·exact z
   ·exact absurd z c1
 ·rw[ufp c1,ufp c2]
  constructor
  ·exact .inl
  ·rintro (z | ⟨_,z⟩ | ⟨z,_⟩)
   ·exact z
   ·exact absurd z.symm c2
   ·exact absurd z c1
end
end Frs
namespace Peel
abbrev T2:=Nat × Nat
def hit (gone:List Nat)(p:Nat)(t:T2):Bool:=(t.1==p&&!gone.contains t.2)||(t.2==p&&!gone.contains t.1)
def deg (ts:List T2)(gone:List Nat)(p:Nat):Nat:=ts.countP (hit gone p)
def may (ts:List T2)(d:Int)(gone:List Nat)(p:Nat):Bool:=!gone.contains p&&decide ((deg ts gone p:Int)<=d)
def next (n:Nat)(ts:List T2)(d:Int)(gone:List Nat):Option Nat:=(d7 n).find? (may ts d gone)
def run (n:Nat)(ts:List T2)(d:Int):Nat->List Nat->List Nat
 | 0,g=>g
 | f+1,g=>match next n ts d g with
  | none=>g
  | some p=>run n ts d f (g++[p])
section
variable {n:Nat}{ts:List T2}{d:Int}{g:List Nat}{p:Nat}
def Good (n:Nat)(g:List Nat):Prop:=g.Nodup/\∀ p∈g,p<n
theorem fU:∀ (n:Nat)(g:List Nat),g.Nodup->(∀ p∈g,p<n)->g.length<=n
 | 0,[],_,_=>d8 _
 | 0,p::_,_,h=>absurd (h p i3) (uc0 _)
 | n+1,g,nd,h=>by
  have h1:=fU n (g.filter λ p=>p != n) (nd.filter _) λ p hp=>by
   have:=z0.mp hp
   have a:=h p this.1
   have b:p≠n:=by simpa using this.2
   left
  have e:g.length=(g.filter λ p=>p != n).length+g.countP (λ p=>p==n):=by
   rw[← List.countP_eq_length_filter]
   have:=List.length_eq_countP_add_countP (λ p=>p==n) (l:=g)
   have e2:g.countP (λ p=>decide ¬(p==n)=true)=g.countP λ p=>p != n:=List.countP_congr λ x _=>by simp
   rw[e2] at this
   left
  have c:g.countP (λ p=>p==n)<=1:=by
   have:=List.nodup_iff_count.mp nd n
   exact this
  left
def gone (n:Nat)(ts:List T2)(d:Int):List Nat:=run n ts d n []
end
end Peel
namespace L3
open PySem PySem.Spec PyProof.Rows L2
section
variable {g:TG}{tt:TT}{te:TE}{own:List Str}{js:List Nat}{σ:L2.St}{H1:Hp}{Q:VK}
theorem wC {K:a8}{a:j4}{xs:List V}(hx:H1 a=some (.lst xs))(Sg:L2.St->Prop)(sel:Nat->Option V)(hn:xs.length<=1000)(h0:Sg (start3 own js σ))
  (step:∀ i x σ' H',xs[i]?=some x->Same H1 H'->Sg σ'->∀ (C:L2.St->V->Hp->Prop)(L:L2.St->Hp->Prop),(∀ σ3 v H5,Sg σ3->Same H' H5->sel i=some v->C σ3 v H5)->(∀ σ3 H5,Sg σ3->Same H' H5->sel i=none->L σ3 H5) ->
   g x σ' H' λ σ3 H3=>tt σ3 H3 λ b H4=>if b=true then te σ3 H4 λ v H5=>C σ3 v H5 else L σ3 H4)
  (fin:∀ D H',H1 D=none->Same H1 H'->H' D=some (.lst ((d7 xs.length).filterMap sel))->Q (.ref D) H'):CompGo own js g tt te σ Q (Itl K a) H1:=by
 refine iL xs.length Sg sel hn h0 (λ i H' hi s=>⟨xs,xs[i],SqL.of (s _ _ hx),by simp [hi]⟩) (λ H' s=>⟨xs,SqL.of (s _ _ hx),d8 _⟩) (λ i x σ' H' H2 hi s hy sg C L hC hL=>?_) fin
 obtain⟨rfl,hy⟩:=hy
 exact step i x σ' _ (hy xs (SqL.of (s _ _ hx))) s sg C L hC hL
end
theorem oW {n:Int}{t:Tie}(tk:0<=t.1/\t.1<t.2.1/\t.2.1<n/\1<=t.2.2/\t.2.2<=10^18):t.1.toNat<n.toNat:=by left
theorem oV {n:Int}{t:Tie}(tk:0<=t.1/\t.1<t.2.1/\t.2.1<n/\1<=t.2.2/\t.2.2<=10^18):t.2.1.toNat<n.toNat:=by left
theorem zbo {n:Int}{t:Tie}(tk:0<=t.1/\t.1<t.2.1/\t.2.1<n/\1<=t.2.2/\t.2.2<=10^18):0<=t.2.1:=ubu (ued tk.1 tk.2.1)
def t2 (ts:List Tie)(k:Nat):Frs.T2:=((tieAt ts k).1.toNat,(tieAt ts k).2.1.toNat)
noncomputable def cnB (ts:List Tie)(ks:List Nat)(k:Nat):Bool:=@decide (Frs.Cn (ks.map (t2 ts)) (t2 ts k).1 (t2 ts k).2) (Classical.propDecidable _)
theorem cnB_iff {ts:List Tie}{ks:List Nat}{k:Nat}:cnB ts ks k=true↔Frs.Cn (ks.map (t2 ts)) (t2 ts k).1 (t2 ts k).2:=by unfold cnB;exact @decide_eq_true_iff _ (Classical.propDecidable _)
noncomputable def rgN (ts:List Tie)(done:List Nat):List Nat->List Nat
 | []=>[]
 | k::r=>if cnB ts done k=true then rgN ts (done++[k]) r else k::rgN ts (done++[k]) r
theorem gT {ts:List Tie}:∀ {rest done:List Nat},(rgN ts done rest).Sublist rest
 | [],_=>.slnil
 | j::r,done=>by
  show (if cnB ts done j=true then _ else _:List Nat).Sublist _
  split
  ·exact .cons _ gT
  ·exact .cons_cons _ gT
mutual
theorem Is.tbl {K:a8}{H H':Hp}{p:j4}{ps:Array c9}(e:But p H H')(hp:H p=some (.tbl ps)):∀ (d:r6){v:V},tupD d=true->Is K H d v->Is K H' d v
 | .none,_,_,h=>h
 | .bool _,_,_,h=>h
 | .int _,_,_,h=>h
 | .str _,_,_,h=>h
 | .tuple ds,_,t,h=>let ⟨q,vs,q1,q2,q3⟩:=h;⟨q,vs,q1,e _ _ (λ z=>by subst z;rw[hp] at q2;cases q2) q2,IsAll.tbl e hp ds t q3⟩
 | .list ds,_,t,h=>by cases t
 | .dict _,_,t,h=>by cases t
theorem IsAll.tbl {K:a8}{H H':Hp}{p:j4}{ps:Array c9}(e:But p H H')(hp:H p=some (.tbl ps)):∀ (ds:List r6){vs:List V},tupAll ds=true->IsAll K H ds vs->IsAll K H' ds vs
 | [],_,_,h=>h
 | d::ds,_,t,h=>by
  have t':(tupD d&&tupAll ds)=true:=t
  rw[r9] at t'
  obtain⟨v,r,q1,q2,q3⟩:=h
  exact⟨v,r,q1,Is.tbl e hp d t'.1 q2,IsAll.tbl e hp ds t'.2 q3⟩
end
theorem fX {K:a8}{H H':Hp}{Pt:j4}{lp:Pos}{qn:Str}(b:But Pt H H')(t:Tb Pt lp qn H)(d:r6){v:V}(td:tupD d=true)(h:Is K H d v):Is K H' d v:=let ⟨_,e,_⟩:=t;Is.tbl b e d td h
def spRingless (K:a8):Sp:=λ vs H Q _=>∃ n ts os wv,∃ o:j4,vs=[wv,.ref o]/\Is K H (webD n ts) wv/\WebOk n ts/\(∀ k∈os,k<ts.length)/\os.length<=60/\H o=some (.tup (natV os))/\∀ l H',Same H H'->H l=none->H' l=some (.lst (natV (rgN ts [] os)))->Q (.ref l) H'
def insN (ks:List Nat)(k:Nat):List Nat:=(ks.filter λ j=>decide (j<k))++k::ks.filter λ j=>decide (k<j)
theorem ins_mem {ks:List Nat}{k j:Nat}:j∈insN ks k↔j∈ks\/j=k:=by
 unfold insN
 rw[m5,k8,z0,z0]
 simp only [decide_eq_true_eq]
 constructor
 ·rintro (⟨h,_⟩ | h | ⟨h,_⟩)
  ·exact .inl h
  ·exact .inr h
  ·exact .inl h
 ·rintro (h | h)
  ·rcases uej j k with z | z | z
   ·exact .inl ⟨h,z⟩
   ·exact .inr (.inl z)
   ·exact .inr (.inr ⟨h,z⟩)
  ·exact .inr (.inl h)
theorem eX {ks:List Nat}{k:Nat}(h:ks.Pairwise (·<·)):(insN ks k).Pairwise (·<·):=by
 unfold insN
 rw[uct,ud6]
 refine⟨h.sublist ubj,⟨λ j hj=>ufl (z0.mp hj).2,h.sublist ubj⟩,λ a ha b hb=>?_⟩
 have:=ufl (z0.mp ha).2
 rcases k8.mp hb with rfl | hb
 ·exact this
 ·have:=ufl (z0.mp hb).2;left
theorem cK {m:Nat}{ks:List Nat}{k:Nat}(h:KeepOk m ks)(hk:k<m):KeepOk m (insN ks k):=⟨eX h.1,λ j hj=>(ins_mem.mp hj).elim (h.2 j) λ e=>by left⟩
theorem kQ {ks:List Nat}{k:Nat}(h:ks.Pairwise (·<·))(hk:k∉ks){ms:List Int}(p:ms.Perm (keepI ks++[(k:Int)]))(w:ms.Pairwise (·<=·)):ms=keepI (insN ks k):=by
 have nd:(ks++[k]).Nodup:=uak.mpr ⟨h.imp λ h=>j6 h,(by simp),λ a ha b hb e=>by
  have:b=k:=by simpa using hb
  subst this;subst e;exact hk ha⟩
 have pf:(ks++[k]).Perm (insN ks k):=(uav nd ((eX h).imp λ h=>j6 h)).mpr λ j=>by rw[ins_mem,m5,i5]
 have e:keepI ks++[(k:Int)]=keepI (ks++[k]):=by unfold keepI;rw[uao];rfl
 rw[e] at p
 refine List.Perm.eq_of_pairwise (le:=(·<=·)) (λ a b _ _ h1 h2=>Int.le_antisymm h1 h2) w ?_ (p.trans (by unfold keepI;exact pf.map _))
 unfold keepI
 rw[uar]
 exact (eX h).imp λ h=>by left
noncomputable def wiB (ts:List Tie)(t:Int)(ks:List Nat)(k:Nat):Bool:=withinB t (tieAt ts k).2.2 (gO ts ks k)
noncomputable def ruleN (ts:List Tie)(t:Int)(ks:List Nat):List Nat->List Nat
 | []=>ks
 | k::r=>ruleN ts t (if wiB ts t ks k=true then ks else insN ks k) r
theorem kZ {ts:List Tie}{t:Int}{k:Nat}:∀ {os ks:List Nat},ruleN ts t ks (os++[k])=(if wiB ts t (ruleN ts t ks os) k=true then ruleN ts t ks os else insN (ruleN ts t ks os) k)
 | [],ks=>rfl
 | j::r,ks=>kZ (os:=r)
theorem mJ {ts:List Tie}{t:Int}:∀ {os ks:List Nat}{j:Nat},j∈ruleN ts t ks os->j∈ks\/j∈os
 | [],ks,j,h=>.inl h
 | k::r,ks,j,h=>by
  rcases mJ (os:=r) h with z | z
  ·by_cases c:wiB ts t ks k=true
   ·rw[ufo c] at z;exact .inl z
   ·rw[ufp c] at z
    exact (ins_mem.mp z).imp id λ e=>by rw[e];exact i3
  ·exact .inr (j7 _ z)
theorem fA {ts:List Tie}{t:Int}:∀ {os ks:List Nat},KeepOk ts.length ks->(∀ k∈os,k<ts.length)->KeepOk ts.length (ruleN ts t ks os)
 | [],ks,h,_=>h
 | k::r,ks,h,ho=>by
  refine fA (os:=r) ?_ λ j hj=>ho j (j7 _ hj)
  split
  ·exact h
  ·exact cK h (ho k i3)
theorem hV {ts:List Tie}{t:Int}:∀ {os ks:List Nat}{j:Nat},j∈ks->j∈ruleN ts t ks os
 | [],ks,j,h=>h
 | k::r,ks,j,h=>by
  refine hV (os:=r) ?_
  split
  ·exact h
  ·exact ins_mem.mpr (.inl h)
theorem yP {n:Int}{ts:List Tie}{t:Int}{ks ks':List Nat}{k:Nat}(ok:WebOk n ts)(a:KeepOk ts.length ks)(b:KeepOk ts.length ks')(s:∀ j∈ks,j∈ks')(h:wiB ts t ks k=true):wiB ts t ks' k=true:=by
 obtain⟨x,e,le⟩:=within_iff.mp h
 have d1:=dC ok a k
 have d2:=dC ok b k
 rw[e] at d1
 obtain⟨y,e2,le2⟩:=Far.xS (p:=1) (q:=1) (by decide) (λ u v l m=>by
  obtain⟨j,hj,m⟩:=arcs_mem.mp m
  refine⟨l,?_,by left⟩
  have:=Far.Walk.snoc (Far.Walk.nil (A:=arcs ts ks') (s:=u)) (arcs_mem.mpr ⟨j,s j hj,m⟩)
  rw[Int.zero_add] at this
  exact this) d1 d2
 exact within_iff.mpr ⟨y,e2,by left⟩
theorem mK {n:Int}{ts:List Tie}{t:Int}(ok:WebOk n ts):∀ {os ks:List Nat}{k:Nat},KeepOk ts.length ks->(∀ k∈os,k<ts.length)->k∈os->k∈ruleN ts t ks os\/wiB ts t (ruleN ts t ks os) k=true
 | [],ks,k,_,_,h=>by cases h
 | j::r,ks,k,ko,ho,h=>by
  have ho':∀ i∈r,i<ts.length:=λ i hi=>ho i (j7 _ hi)
  have ko':KeepOk ts.length (if wiB ts t ks j=true then ks else insN ks j):=by
   split
   ·exact ko
   ·exact cK ko (ho j i3)
  show k∈ruleN ts t (if wiB ts t ks j=true then ks else insN ks j) r\/wiB ts t (ruleN ts t (if wiB ts t ks j=true then ks else insN ks j) r) k=true
  rcases k8.mp h with rfl | h
  ·by_cases c:wiB ts t ks k=true
   ·refine .inr (yP ok ko (fA ko' ho') (λ i hi=>hV ?_) c)
    rw[ufo c];exact hi
   ·refine .inl (hV ?_)
    rw[ufp c];exact ins_mem.mpr (.inr rfl)
  ·exact mK ok ko' ho' h
theorem zD {n:Int}{ts:List Tie}{t:Int}{os:List Nat}(ok:WebOk n ts)(p:os.Perm (d7 ts.length)):allIn ts (ruleN ts t [] os) t:=λ k hk=>by
 have ho:∀ k∈os,k<ts.length:=λ k hk=>l9.mp (p.mem_iff.mp hk)
 obtain⟨h1,h2⟩:=outs_mem.mp hk
 exact (mK ok ⟨ucb,λ _ h=>(by cases h)⟩ ho (p.mem_iff.mpr (l9.mpr h1))).resolve_left h2
end L3
namespace Far
def sumP:List Nat->Nat
 | []=>0
 | k::r=>2^k+sumP r
theorem fR {S S':List Nat}(h:S.Perm S'):sumP S=sumP S':=by
 induction h with
 | nil=>rfl
 | cons x _ ih=>show _+_=_+_;rw[ih]
 | swap x y l=>show 2^y+(2^x+sumP l)=2^x+(2^y+sumP l);left
 | trans _ _ h1 h2=>exact h1.trans h2
theorem sW (S:List Nat):∀ T:List Nat,sumP (S++T)=sumP S+sumP T:=by
 intro T
 induction S with
 | nil=>show sumP T=0+sumP T;left
 | cons k r ih=>show 2^k+sumP (r++T)=2^k+sumP r+sumP T;rw[ih];left
theorem gC:∀ (m:Nat){S:List Nat},S.Nodup->(∀ k∈S,k<m)->sumP S<2^m
 | 0,S,_,h=>by
  cases S with
  | nil=>exact Nat.zero_lt_one
  | cons k r=>exact absurd (h k i3) (uc0 _)
 | m+1,S,nd,h=>by
  have e:2^(m+1)=2^m+2^m:=by rw[Nat.pow_succ];left
  by_cases c:m∈S
  ·have p:=ucs c
   have nd':(m::S.erase m).Nodup:=p.nodup_iff.mp nd
   have:=gC m (S:=S.erase m) (ua5.mp nd').2 λ k hk=>by
    have h1:=h k (uds hk)
    have h2:k≠m:=λ z=>(ua5.mp nd').1 (z ▸ hk)
    left
   rw[fR p,e]
   show 2^m+sumP (S.erase m)<_
   left
  ·have:=gC m nd λ k hk=>by
    have h1:=h k hk
    have h2:k≠m:=λ z=>c (z ▸ hk)
    left
   left
theorem iE:∀ (m:Nat){S S':List Nat},S.Nodup->S'.Nodup->(∀ k∈S,k<m)->(∀ k∈S',k<m)->sumP S=sumP S'->∀ k,k∈S->k∈S'
 | 0,S,S',_,_,h,_,_,k,hk=>absurd (h k hk) (uc0 _)
 | m+1,S,S',nd,nd',h,h',e,k,hk=>by
  have lower:∀ {T:List Nat},T.Nodup->(∀ k∈T,k<m+1)->m∉T->sumP T<2^m:=λ {T} n1 n2 n3=>gC m n1 λ j hj=>by
   have h1:=n2 j hj
   have h2:j≠m:=λ z=>n3 (z ▸ hj)
   left
  by_cases c:m∈S
  ·have p:=ucs c
   have ndp:(m::S.erase m).Nodup:=p.nodup_iff.mp nd
   have e1:sumP S=2^m+sumP (S.erase m):=fR p
   by_cases c':m∈S'
   ·have p':=ucs c'
    have ndp':(m::S'.erase m).Nodup:=p'.nodup_iff.mp nd'
    have e2:sumP S'=2^m+sumP (S'.erase m):=fR p'
    by_cases z:k=m
    ·rw[z];exact c'
    ·have lt:∀ {T:List Nat},(m::T.erase m).Nodup->(∀ k∈T,k<m+1)->∀ j∈T.erase m,j<m:=λ {T} n1 n2 j hj=>by
      have h1:=n2 j (uds hj)
      have h2:j≠m:=λ y=>(ua5.mp n1).1 (y ▸ hj)
      left
     have:=iE m (ua5.mp ndp).2 (ua5.mp ndp').2 (lt ndp h) (lt ndp' h') (by left) k ((List.mem_erase_of_ne z).mpr hk)
     exact uds this
   ·have:=lower nd' h' c'
    left
  ·by_cases c':m∈S'
   ·have e2:sumP S'=2^m+sumP (S'.erase m):=fR (ucs c')
    have:=lower nd h c
    left
   ·have lt:∀ {T:List Nat},(∀ k∈T,k<m+1)->m∉T->∀ j∈T,j<m:=λ {T} n1 n2 j hj=>by
     have h1:=n1 j hj
     have h2:j≠m:=λ y=>n2 (y ▸ hj)
     left
    exact iE m nd nd' (lt h c) (lt h' c') e k hk
abbrev Arc:=Nat × Nat × Int × Nat
inductive Rt (B:List Arc)(a:Nat):List Nat->List Nat->Nat->Int->Int->Prop
 | one:Rt B a [a] [] a 0 0
 | snoc {ws S:List Nat} {u v:Nat} {x y l:Int} {k:Nat}:Rt B a ws S u x y->(u,v,l,k)∈B->v∉ws->Rt B a (ws++[v]) (S++[k]) v (x+l) (y+2^k)
structure Keys (B:List Arc):Prop where
 sym:∀ u v l k,(u,v,l,k)∈B->(v,u,l,k)∈B
 key:∀ u v l u' v' l' k,(u,v,l,k)∈B->(u',v',l',k)∈B->l'=l/\((u'=u/\v'=v)\/(u'=v/\v'=u))
 ne:∀ u v l k,(u,v,l,k)∈B->u≠v
 pos:∀ u v l k,(u,v,l,k)∈B->1<=l
 few:∀ u v l k,(u,v,l,k)∈B->k<60
variable {B:List Arc}{a b:Nat}{ws S:List Nat}{x y:Int}
theorem Rt.last (h:Rt B a ws S b x y):b∈ws:=by
 cases h with
 | one=>exact i5.mpr rfl
 | snoc _ _ _=>exact m9 _ (i5.mpr rfl)
theorem Rt.ends (K:Keys B)(h:Rt B a ws S b x y):∀ k∈S,∃ u v l,(u,v,l,k)∈B/\u∈ws/\v∈ws:=by
 induction h with
 | one=>intro k hk;cases hk
 | @snoc ws S u v x y l k r m nv ih =>
  intro j hj
  rcases m5.mp hj with hj | hj
  ·obtain⟨p,q,l',h1,h2,h3⟩:=ih j hj
   exact⟨p,q,l',h1,uab _ h2,uab _ h3⟩
  ·rw[i5.mp hj]
   exact⟨u,v,l,m,uab _ r.last,m9 _ (i5.mpr rfl)⟩
theorem Rt.fresh (K:Keys B)(h:Rt B a ws S b x y){u v:Nat}{l:Int}{k:Nat}(m:(u,v,l,k)∈B)(nv:v∉ws):k∉S:=λ hk=>by
 obtain⟨p,q,l',m',hp,hq⟩:=h.ends K k hk
 rcases (K.key _ _ _ _ _ _ _ m m').2 with ⟨e1,e2⟩ | ⟨e1,e2⟩
 ·exact nv (e2 ▸ hq)
 ·exact nv (e1 ▸ hp)
theorem Rt.nodup (K:Keys B)(h:Rt B a ws S b x y):S.Nodup:=by
 induction h with
 | one=>exact List.nodup_nil
 | @snoc ws S u v x y l k r m nv ih =>
  refine uak.mpr ⟨ih,by simp,λ p hp q hq z=>?_⟩
  rw[i5.mp hq] at z
  exact r.fresh K m nv (z ▸ hp)
theorem Rt.small (K:Keys B)(h:Rt B a ws S b x y):∀ k∈S,k<60:=λ k hk=>let ⟨u,v,l,m,_⟩:=h.ends K k hk;K.few u v l k m
theorem Rt.sum (h:Rt B a ws S b x y):y=(sumP S:Nat):=by
 induction h with
 | one=>rfl
 | @snoc ws S u v x y l k r m nv ih =>
  rw[sW,ih]
  show ((sumP S:Nat):Int)+2^k=((sumP S+(2^k+0):Nat):Int)
  have:((2^k:Nat):Int)=(2:Int)^k:=by norm_cast
  left
theorem Rt.lt (K:Keys B)(h:Rt B a ws S b x y):0<=y/\y<2^60:=by
 have e:=h.sum
 have:=gC 60 (h.nodup K) (h.small K)
 have e2:((2^60:Nat):Int)=(2:Int)^60:=by norm_cast
 left
theorem Rt.unique (K:Keys B)(h:Rt B a ws S b x y):∀ {ws' S':List Nat}{x':Int},Rt B a ws' S' b x' y->ws'=ws/\x'=x:=by
 induction h with
 | one =>
  intro ws' S' x' r
  generalize ey:(0:Int)=yy at r
  cases r with
  | one=>exact⟨rfl,rfl⟩
  | @snoc ws0 S0 u _ x0 y0 l k r m nv =>
   have p:=r.lt K
   have:(0:Int)<2^k:=Int.pow_pos (by decide)
   left
 | @snoc ws0 S0 u v x0 y0 l k r m nv ih =>
  intro ws' S' x' r'
  have full:Rt B a (ws0++[v]) (S0++[k]) v (x0+l) (y0+2^k):=.snoc r m nv
  have se:sumP S'=sumP (S0++[k]):=by
   have e1:=r'.sum
   have e2:=full.sum
   left
  have sub:=iE 60 (r'.nodup K) (full.nodup K) (r'.small K) (full.small K) se
  generalize ey:y0+2^k=yy at r'
  cases r' with
  | one =>
   have p:=r.lt K
   have:(0:Int)<2^k:=Int.pow_pos (by decide)
   left
  | @snoc ws1 S1 u1 _ x1 y1 l1 k1 r1 m1 nv1 =>
   have in1:=sub k1 (m9 _ (i5.mpr rfl))
   have k1k:k1=k:=by
    rcases m5.mp in1 with z | z
    ·exact absurd z (r.fresh K m1 nv)
    ·exact i5.mp z
   subst k1k
   obtain⟨el,eu⟩:=K.key _ _ _ _ _ _ _ m m1
   have uu:u1=u:=by
    rcases eu with ⟨e,_⟩ | ⟨e,e'⟩
    ·exact e
    ·exact absurd e' (K.ne _ _ _ _ m).symm
   subst uu
   have yy1:y1=y0:=by left
   subst yy1
   obtain⟨e1,e2⟩:=ih r1
   exact⟨by rw[e1],by rw[e2,el]⟩
theorem Rt.cons (K:Keys B){u:Nat}{l:Int}{k:Nat}(m:(u,a,l,k)∈B)(h:Rt B a ws S b x y):u∉ws->Rt B u (u::ws) (k::S) b (x+l) (y+2^k):=by
 induction h with
 | one =>
  intro nu
  have:Rt B u ([u]++[a]) ([]++[k]) a (0+l) (0+2^k):=.snoc .one m (λ z=>nu (by rw[i5] at z ⊢;exact z.symm))
  exact this
 | @snoc ws S w v x y l' k' r m' nv ih =>
  intro nu
  have r2:=ih λ z=>nu (uab _ z)
  have:Rt B u ((u::ws)++[v]) ((k::S)++[k']) v (x+l+l') (y+2^k+2^k'):=.snoc r2 m' λ z=>by
   rcases k8.mp z with z | z
   ·exact nu (m9 _ (i5.mpr z.symm))
   ·exact nv z
  rw[uee x l l',uee y] at this
  exact this
theorem Rt.back (K:Keys B)(h:Rt B a ws S b x y):Rt B b ws.reverse S.reverse a x y:=by
 induction h with
 | one=>exact .one
 | @snoc ws S u v x y l k r m nv ih =>
  rw[ucv,ucv]
  exact ih.cons K (K.sym _ _ _ _ m) (λ z=>nv (List.mem_reverse.mp z))
end Far
namespace Far
structure Best (B:List Arc)(n s:Nat)(cs:List (Option (Int × Int)))(as:List (Option Nat)):Prop where
 len:cs.length=n
 alen:as.length=n
 start:get cs s=some (0,0)
 root:get as s=none
 has:∀ v c,get cs v=some c->v≠s->get as v≠none
 nn:∀ v c,get cs v=some c->0<=c.1
 stab:∀ u v l k c,(u,v,l,k)∈B->get cs u=some c->∃ c',get cs v=some c'/\¬ lt2 (c.1+l,c.2+2^k) c'
 arc:∀ v u,get as v=some u->∃ l k cu,(u,v,l,k)∈B/\get cs u=some cu/\get cs v=some (cu.1+l,cu.2+2^k)
inductive TPw (as:List (Option Nat))(s:Nat):List Nat->Nat->Prop
 | root:TPw as s [s] s
 | step {ws:List Nat} {u v:Nat}:get as v=some u->TPw as s ws u->TPw as s (ws++[v]) v
section
variable {B:List Arc}{n s:Nat}{cs:List (Option (Int × Int))}{as:List (Option Nat)}
theorem Best.route (K:Keys B)(h:Best B n s cs as):∀ (m:Nat)(v:Nat)(c:Int × Int),get cs v=some c->c.1.toNat<=m->∃ ws S,Rt B s ws S v c.1 c.2/\TPw as s ws v/\∀ w∈ws,∃ cw,get cs w=some cw/\cw.1<=c.1:=by
 intro m
 induction m using ue5 with
 | ind m ih =>
  intro v c e hm
  by_cases vs:v=s
  ·subst vs
   rw[h.start] at e;cases e
   exact⟨[v],[],.one,.root,λ w hw=>by rw[i5.mp hw];exact⟨_,h.start,uae _⟩⟩
  ·cases ea:get as v with
   | none=>exact absurd ea (h.has v c e vs)
   | some u =>
    obtain⟨l,k,cu,ma,eu,ev⟩:=h.arc v u ea
    rw[e] at ev;cases ev
    have l1:=K.pos _ _ _ _ ma
    have c0:=h.nn _ _ eu
    simp only at hm
    obtain⟨ws,S,r,tp,all⟩:=ih cu.1.toNat (by left) u cu eu (d8 _)
    have nv:v∉ws:=λ z=>by
     obtain⟨cw,e1,h1⟩:=all v z
     rw[e] at e1;cases e1
     simp only at h1;left
    refine⟨ws++[v],S++[k],.snoc r ma nv,.step ea tp,λ w hw=>?_⟩
    rcases m5.mp hw with hw | hw
    ·obtain⟨cw,e1,h1⟩:=all w hw
     exact⟨cw,e1,by show cw.1<=cu.1+l;left⟩
    ·rw[i5.mp hw]
     exact⟨_,e,uae _⟩
theorem Best.small (K:Keys B)(h:Best B n s cs as){v:Nat}{c:Int × Int}(e:get cs v=some c):0<=c.2/\c.2<2^60:=by
 obtain⟨ws,S,r,_⟩:=h.route K _ v c e (d8 _)
 exact r.lt K
theorem Best.least (h:Best B n s cs as){ws S:List Nat}{v:Nat}{x y:Int}(r:Rt B s ws S v x y):∃ c,get cs v=some c/\¬ lt2 (x,y) c:=by
 induction r with
 | one=>exact⟨_,h.start,λ z=>by unfold lt2 at z;simp only at z;left⟩
 | @snoc ws S u v x y l k r m nv ih =>
  obtain⟨c,e,hc⟩:=ih
  obtain⟨c',e',hc'⟩:=h.stab _ _ _ _ _ m e
  refine⟨c',e',λ z=>?_⟩
  unfold lt2 at *
  simp only at *
  left
end
def comb (c:Int × Int):Int:=c.1*2^61+c.2
def arcsC (B:List Arc):List (Nat × Nat × Int):=B.map λ b=>(b.1,b.2.1,b.2.2.1*2^61+2^b.2.2.2)
theorem arcsC_mem {B:List Arc}{u v:Nat}{L:Int}:(u,v,L)∈arcsC B↔∃ l k,(u,v,l,k)∈B/\L=l*2^61+2^k:=by
 unfold arcsC
 rw[o7]
 constructor
 ·rintro ⟨⟨a,b,l,k⟩,h,e⟩
  cases e
  exact⟨l,k,h,rfl⟩
 ·rintro ⟨l,k,h,rfl⟩
  exact⟨(u,v,l,k),h,rfl⟩
section
variable {B:List Arc}{n s:Nat}{cs:List (Option (Int × Int))}{as:List (Option Nat)}
theorem yT (k:Nat):(1:Int)<=2^k:=Int.pow_pos (by decide)
theorem lX (K:Keys B):Sym (arcsC B):=λ u v L h=>by
 obtain⟨l,k,m,rfl⟩:=arcsC_mem.mp h
 exact arcsC_mem.mpr ⟨l,k,K.sym _ _ _ _ m,rfl⟩
theorem Best.dst (K:Keys B)(h:Best B n s cs as)(v:Nat):Dst (arcsC B) s v ((get cs v).map comb):=by
 refine⟨λ y e=>?_,λ L w=>?_⟩
 ·cases ec:get cs v with
  | none=>rw[ec] at e;cases e
  | some c =>
   rw[ec] at e;cases e
   obtain⟨ws,S,r,_⟩:=h.route K _ v c ec (d8 _)
   have go:∀ {ws S:List Nat}{v:Nat}{x y:Int},Rt B s ws S v x y->Walk (arcsC B) s v (comb (x,y)):=by
    intro ws S v x y r
    induction r with
    | one=>exact .nil
    | @snoc ws S u v x y l k r m nv ih =>
     have:=Walk.snoc ih (arcsC_mem.mpr ⟨l,k,m,rfl⟩)
     have e:comb (x+l,y+2^k)=comb (x,y)+(l*2^61+2^k):=by unfold comb;simp only;left
     rw[e];exact this
   exact go r
 ·have:∃ c,get cs v=some c/\comb c<=L:=by
   induction w with
   | nil=>exact⟨_,h.start,by decide⟩
   | @snoc u v l x w m ih =>
    obtain⟨c,e,hc⟩:=ih
    obtain⟨l',k,m',rfl⟩:=arcsC_mem.mp m
    obtain⟨c',e',hc'⟩:=h.stab _ _ _ _ _ m' e
    refine⟨c',e',?_⟩
    have s1:=h.small K e
    have s2:=h.small K e'
    have:=yT k
    unfold comb at *
    unfold lt2 at hc'
    simp only at hc'
    left
  obtain⟨c,e,hc⟩:=this
  exact⟨comb c,by rw[e];rfl,hc⟩
theorem yA {c d:Int × Int}(hc:0<=c.2/\c.2<2^61)(hd:0<=d.2/\d.2<2^61)(e:comb c=comb d):c=d:=by
 unfold comb at e
 exact Prod.ext (by left) (by left)
end
end Far
namespace Far
def arcsF (B:List Arc):List (Nat × Nat × Int):=B.map λ b=>(b.1,b.2.1,b.2.2.1)
theorem arcsF_mem {B:List Arc}{u v:Nat}{l:Int}:(u,v,l)∈arcsF B↔∃ k,(u,v,l,k)∈B:=by
 unfold arcsF
 rw[o7]
 constructor
 ·rintro ⟨⟨a,b,l',k⟩,h,e⟩
  cases e
  exact⟨k,h⟩
 ·rintro ⟨k,h⟩
  exact⟨(u,v,l,k),h,rfl⟩
section
variable {B:List Arc}{n s:Nat}{cs:List (Option (Int × Int))}{as:List (Option Nat)}{a b:Nat}{ws S:List Nat}{x y:Int}
theorem vB {v:Nat}{ws ws':List Nat}(hr:get as s=none)(t:TPw as s ws v):TPw as s ws' v->ws'=ws:=by
 induction t generalizing ws' with
 | root =>
  intro t'
  cases t' with
  | root=>rfl
  | step e _=>rw[hr] at e;cases e
 | step e t ih =>
  intro t'
  cases t' with
  | root=>rw[hr] at e;cases e
  | step e' t'=>rw[e] at e';cases e';rw[ih t']
theorem Best.rt (K:Keys B)(h:Best B n s cs as){v:Nat}{c:Int × Int}(t:TPw as s ws v)(e:get cs v=some c):∃ S,Rt B s ws S v c.1 c.2:=by
 obtain⟨w1,S1,r1,p1,_⟩:=h.route K _ v c e (d8 _)
 rw[vB h.root p1 t]
 exact⟨S1,r1⟩
theorem Rt.walk (r:Rt B a ws S b x y):Walk (arcsF B) a b x:=by
 induction r with
 | one=>exact .nil
 | snoc r m nv ih=>exact .snoc ih (arcsF_mem.mpr ⟨_,m⟩)
theorem Rt.tr (r:Rt B a ws S b x y):Tr (arcsF B) a ws b x:=by
 induction r with
 | one=>exact .one
 | snoc r m nv ih=>exact .snoc ih (arcsF_mem.mpr ⟨_,m⟩)
theorem Best.dst1 (K:Keys B)(h:Best B n s cs as)(v:Nat):Dst (arcsF B) s v ((get cs v).map (·.1)):=by
 refine⟨λ y e=>?_,λ L w=>?_⟩
 ·cases ec:get cs v with
  | none=>rw[ec] at e;cases e
  | some c =>
   rw[ec] at e;cases e
   obtain⟨ws,S,r,_⟩:=h.route K _ v c ec (d8 _)
   exact r.walk
 ·have:∃ c,get cs v=some c/\c.1<=L:=by
   induction w with
   | nil=>exact⟨_,h.start,uae _⟩
   | @snoc u v l x w m ih =>
    obtain⟨c,e,hc⟩:=ih
    obtain⟨k,m'⟩:=arcsF_mem.mp m
    obtain⟨c',e',hc'⟩:=h.stab _ _ _ _ _ m' e
    refine⟨c',e',?_⟩
    unfold lt2 at hc'
    simp only at hc'
    left
  obtain⟨c,e,hc⟩:=this
  exact⟨c.1,by rw[e];rfl,hc⟩
structure Uni (B:List Arc)(a b:Nat)(ws S:List Nat)(x y:Int):Prop where
 rt:Rt B a ws S b x y
 least:∀ ws' S' x' y',Rt B a ws' S' b x' y'->¬ lt2 (x',y') (x,y)
theorem Best.uni (K:Keys B)(h:Best B n s cs as){v:Nat}{c:Int × Int}(t:TPw as s ws.reverse v)(e:get cs v=some c):∃ S,Uni B v s ws S c.1 c.2:=by
 obtain⟨S,r⟩:=h.rt K t e
 have rb:=r.back K
 rw[udx] at rb
 refine⟨_,rb,λ ws' S' x' y' r' z=>?_⟩
 obtain⟨c',e',n'⟩:=h.least (r'.back K)
 rw[e] at e';cases e'
 exact n' z
end
end Far
namespace Far
section
variable {B:List Arc}{n s a b:Nat}{ws S:List Nat}{x y:Int}{cs:List (Option (Int × Int))}{as:List (Option Nat)}
theorem Rt.walkC (r:Rt B a ws S b x y):Walk (arcsC B) a b (comb (x,y)):=by
 induction r with
 | one=>exact .nil
 | @snoc ws S u v x y l k r m nv ih =>
  have:=Walk.snoc ih (arcsC_mem.mpr ⟨l,k,m,rfl⟩)
  have e:comb (x+l,y+2^k)=comb (x,y)+(l*2^61+2^k):=by unfold comb;simp only;left
  rw[e];exact this
def MinW (B:List Arc)(a b:Nat)(ws:List Nat):Prop:=∃ S x y,Rt B a ws S b x y/\∀ L,Walk (arcsC B) a b L->comb (x,y)<=L
theorem MinW.unique (K:Keys B){ws':List Nat}(h:MinW B a b ws)(h':MinW B a b ws'):ws'=ws:=by
 obtain⟨S,x,y,r,l⟩:=h
 obtain⟨S',x',y',r',l'⟩:=h'
 have e1:=l _ r'.walkC
 have e2:=l' _ r.walkC
 have b1:=r.lt K
 have b2:=r'.lt K
 have e:=yA (c:=(x,y)) (d:=(x',y')) ⟨b1.1,Int.lt_trans b1.2 (by decide)⟩ ⟨b2.1,Int.lt_trans b2.2 (by decide)⟩ (by left)
 injection e with ex ey
 subst ey
 exact (r.unique K r').1
theorem MinW.back (K:Keys B)(h:MinW B a b ws):MinW B b a ws.reverse:=by
 obtain⟨S,x,y,r,l⟩:=h
 exact⟨S.reverse,x,y,r.back K,λ L w=>l L (w.back (lX K))⟩
theorem Best.minw (K:Keys B)(h:Best B n s cs as){v:Nat}{c:Int × Int}(t:TPw as s ws.reverse v)(e:get cs v=some c):MinW B v s ws:=by
 obtain⟨S,r⟩:=h.rt K t e
 have rb:=r.back K
 rw[udx] at rb
 refine⟨_,_,_,rb,λ L w=>?_⟩
 obtain⟨z,ez,le⟩:=(h.dst K v).2 L (w.back (lX K))
 rw[e] at ez
 cases ez
 exact le
end
end Far
namespace Far
inductive W2 (B:List Arc)(s:Nat):Nat->Int->Int->Prop
 | nil:W2 B s s 0 0
 | snoc {u v:Nat} {x y l:Int} {k:Nat}:W2 B s u x y->(u,v,l,k)∈B->W2 B s v (x+l) (y+2^k)
end Far
namespace Stb
open PySem
def Asc (xs:Array Nat):Prop:=∀ i j,i<j->j<xs.size->xs.getD i 0<xs.getD j 0
def TI (b:Bool)(t:SetTable):Prop:=Asc t.place/\t.led=b
end Stb
namespace Stb
open PySem PyProof.Rows
def ledOf (w:uac):Bool:=!w.params.followText "set-order"
def TIat (w:uac)(h:Heap)(a:j4):Prop:=∃ o es ep t,h.get? a=some o/\o.data=.set es ep t/\TI (ledOf w) t
abbrev SetT (P:m3)(w:uac)(h:Heap)(a:j4)(S:Int->Bool)(n:Nat):Prop:=h.SetOf (intKind P w) a S n/\TIat w h a
section
variable {prog:m3}{w:uac}{A:v6}{E:c9->d6->Prop}{s:d6}
end
end Stb
namespace HT
open PySem PyProof.Rows
section
variable {prog:m3}{w:uac}{A:v6}{E:c9->d6->Prop}{s:d6}
abbrev setN (ns:List Int)(m:Nat):Nat:=(firstMet (λ i=>ns.getD i 0) m).length
end
end HT
namespace Stb
open PySem PyProof.Rows
section
variable {prog:m3}{w:uac}{A:v6}{E:c9->d6->Prop}{s:d6}
end
end Stb
namespace Stb
open PySem PyProof.Rows
section
variable {prog:m3}{w:uac}{A:v6}{E:c9->d6->Prop}{s:d6}
end
end Stb
namespace Stb
open PySem PyProof.Rows
section
variable {prog:m3}{w:uac}{A:v6}{E:c9->d6->Prop}{s:d6}{a I:j4}{es:Array (Int × c9)}{ep:Nat}{t:SetTable}
section
variable {Q:Option c9->d6->Prop}{i:Nat}
end
end
end Stb
namespace Stb
open PySem PyProof.Rows
section
variable {prog:m3}{w:uac}{A:v6}{E:c9->d6->Prop}{s:d6}{a I:j4}{es:Array (Int × c9)}{ep:Nat}{t:SetTable}
end
end Stb
namespace Stb
open PySem PyProof.Rows
section
variable {prog:m3}{w:uac}{A:v6}{E:c9->d6->Prop}{s:d6}{a:j4}{es:Array (Int × c9)}{ep:Nat}{t:SetTable}
end
end Stb
namespace Far
variable {B:List Arc}{A:List (Nat × Nat × Int)}{n s:Nat}
structure Run (B:List Arc)(s:Nat)(cs:List (Option (Int × Int)))(as:List (Option Nat)):Prop where
 len:as.length=cs.length
 start:get cs s=some (0,0)
 root:get as s=none
 has:∀ v c,get cs v=some c->v≠s->get as v≠none
 arc:∀ v u,get as v=some u->∃ l k cu cv,(u,v,l,k)∈B/\get cs u=some cu/\get cs v=some cv/\¬ lt2 cv (cu.1+l,cu.2+2^k)
theorem Run.step {u v:Nat}{l:Int}{k:Nat}{cs:List (Option (Int × Int))}{as:List (Option Nat)}{c:Int × Int}(P:Pos A)(g:Good A n s cs)(a:Run B s cs as)(m:(u,v,l)∈A)(mB:(u,v,l,k)∈B)(hv:v<n)(hu:get cs u=some c)
  (h:get cs v=none\/∃ c',get cs v=some c'/\lt2 (c.1+l,c.2+2^k) c'):Run B s (cs.set v (some (c.1+l,c.2+2^k))) (as.set v (some u)):=by
 have hc:v<cs.length:=by rw[g.len];exact hv
 have ha:v<as.length:=by rw[a.len];exact hc
 have l1:=P _ _ _ m
 have c0:=(g.walk _ _ hu).nonneg P
 have vs:v≠s:=λ z=>by
  rw[z] at h
  rcases h with h | ⟨c',h,hl⟩
  ·rw[a.start] at h;cases h
  ·rw[a.start] at h;cases h
   unfold lt2 at hl;simp only at hl;left
 have uv:u≠v:=λ z=>by
  rcases h with h | ⟨c',h,hl⟩
  ·rw[← z,hu] at h;cases h
  ·rw[← z,hu] at h;cases h
   unfold lt2 at hl;simp only at hl;left
 refine⟨by rw[ua6,ua6];exact a.len,by rw[bA hc,ufp (Ne.symm vs)];exact a.start,?_,λ x d e hx=>?_,λ x y e=>?_⟩
 ·rw[bA ha,ufp (Ne.symm vs)];exact a.root
 ·rw[bA ha]
  split
  ·exact λ z=>by cases z
  ·rename_i xv
   rw[bA hc,ufp xv] at e
   exact a.has x d e hx
 ·rw[bA ha] at e
  split at e
  ·rename_i z;subst z;cases e
   refine⟨l,k,c,_,mB,by rw[bA hc,ufp uv];exact hu,by rw[bA hc,ufo rfl],λ z=>?_⟩
   unfold lt2 at z;left
  ·rename_i xv
   obtain⟨l',k',cu,cv,m',e1,e2,hle⟩:=a.arc x y e
   by_cases yv:y=v
   ·subst yv
    refine⟨l',k',_,cv,m',by rw[bA hc,ufo rfl],by rw[bA hc,ufp xv];exact e2,λ z=>?_⟩
    rcases h with h | ⟨c',h,hl⟩
    ·rw[h] at e1;cases e1
    ·rw[h] at e1;cases e1
     unfold lt2 at hl hle z
     simp only at hl hle z
     left
   ·exact⟨l',k',cu,cv,m',by rw[bA hc,ufp yv];exact e1,by rw[bA hc,ufp xv];exact e2,hle⟩
theorem Run.first (hs:s<n):Run B s ((k9 n none).set s (some (0,0))) (k9 n none):=by
 have hl:s<(k9 n (none:Option (Int × Int))).length:=by rw[v5];exact hs
 refine⟨by rw[ua6,v5,v5],by rw[bA hl,ufo rfl],dI _ _,λ v c e hv=>?_,λ v u e=>?_⟩
 ·rw[bA hl,ufp hv,dI] at e;cases e
 ·rw[dI] at e;cases e
def Stab2 (B:List Arc)(cs:List (Option (Int × Int))):Prop:=∀ u v l k c,(u,v,l,k)∈B->get cs u=some c->∃ c',get cs v=some c'/\¬ lt2 (c.1+l,c.2+2^k) c'
def PS2 (c0:List (Option (Int × Int)))(R:Arc->Prop)(cs:List (Option (Int × Int)))(ag:Bool):Prop :=
 (ag=false/\cs=c0/\∀ u v l k c,R (u,v,l,k)->get c0 u=some c->∃ c',get c0 v=some c'/\¬ lt2 (c.1+l,c.2+2^k) c')\/(ag=true/\mu cs<mu c0)
def plusA (R:Arc->Prop)(a:Arc):Arc->Prop:=λ b=>R b\/b=a
section
variable {c0 cs:List (Option (Int × Int))}{R R':Arc->Prop}{ag:Bool}{u v k:Nat}{l:Int}
theorem PS2.less (h:PS2 c0 R cs ag)(z:∀ a,R' a->R a):PS2 c0 R' cs ag:=h.elim (λ ⟨a,b,c⟩=>.inl ⟨a,b,λ u v l k c' y=>c u v l k c' (z _ y)⟩) .inr
theorem PS2.no (h:PS2 c0 R cs ag)(hu:get cs u=none):PS2 c0 (plusA R (u,v,l,k)) cs ag:=by
 rcases h with ⟨a,b,c⟩ | h
 ·refine .inl ⟨a,b,λ u' v' l' k' c' z e=>?_⟩
  rcases z with z | z
  ·exact c _ _ _ _ _ z e
  ·cases z;rw[← b,hu] at e;cases e
 ·exact .inr h
theorem PS2.old (h:PS2 c0 R cs ag){c d:Int × Int}(hu:get cs u=some c)(hv:get cs v=some d)(hn:¬ lt2 (c.1+l,c.2+2^k) d):PS2 c0 (plusA R (u,v,l,k)) cs ag:=by
 rcases h with ⟨a,b,z⟩ | h
 ·refine .inl ⟨a,b,λ u' v' l' k' c' y e=>?_⟩
  rcases y with y | y
  ·exact z _ _ _ _ _ y e
  ·cases y
   subst b
   rw[hu] at e;cases e
   exact⟨d,hv,hn⟩
 ·exact .inr h
theorem PS2.put (h:PS2 c0 R cs ag){cs':List (Option (Int × Int))}(hm:mu cs'<mu cs):PS2 c0 (plusA R (u,v,l,k)) cs' true:=by
 rcases h with ⟨a,b,c⟩ | h
 ·exact .inr ⟨rfl,by rw[← b];exact hm⟩
 ·exact .inr ⟨rfl,Nat.lt_trans hm h.2⟩
end
theorem Run.best {cs:List (Option (Int × Int))}{as:List (Option Nat)}(P:Pos A)(g:Good A n s cs)(r:Run B s cs as)(st:Stab2 B cs):Best B n s cs as:=by
 refine⟨g.len,by rw[r.len];exact g.len,r.start,r.root,r.has,λ v c e=>(g.walk v c e).nonneg P,st,λ v u e=>?_⟩
 obtain⟨l,k,cu,cv,m,e1,e2,n1⟩:=r.arc v u e
 obtain⟨c',e3,n2⟩:=st _ _ _ _ _ m e1
 rw[e2] at e3;cases e3
 refine⟨l,k,cu,m,e1,?_⟩
 rw[e2]
 congr 1
 unfold lt2 at n1 n2
 simp only at n1 n2
 exact Prod.ext (by show cv.1=cu.1+l;left) (by show cv.2=cu.2+2^k;left)
end Far
namespace L3
open PySem PySem.Spec PyProof.Rows L2
def arcs2B (t:Tie)(k:Nat):List Far.Arc:=[(t.1.toNat,t.2.1.toNat,t.2.2,k),(t.2.1.toNat,t.1.toNat,t.2.2,k)]
def arcsB (ts:List Tie)(ks:List Nat):List Far.Arc:=ks.flatMap λ k=>arcs2B (tieAt ts k) k
theorem arcsB_mem {ts:List Tie}{ks:List Nat}{a:Far.Arc}:a∈arcsB ts ks↔∃ k,k∈ks/\a∈arcs2B (tieAt ts k) k:=by
 unfold arcsB;rw[udh]
theorem arcs2B_mem {t:Tie}{k:Nat}{a:Far.Arc}:a∈arcs2B t k↔a=(t.1.toNat,t.2.1.toNat,t.2.2,k)\/a=(t.2.1.toNat,t.1.toNat,t.2.2,k):=by
 unfold arcs2B;simp
theorem uW {ts:List Tie}{ks:List Nat}{i k:Nat}(h:ks[i]?=some k){a:Far.Arc}(m:a∈arcsB ts (ks.take (i+1))):a∈arcsB ts (ks.take i)\/a∈arcs2B (tieAt ts k) k:=by
 obtain⟨j,hj,m⟩:=arcsB_mem.mp m
 rw[cR h] at hj
 rcases m5.mp hj with hj | hj
 ·exact .inl (arcsB_mem.mpr ⟨j,hj,m⟩)
 ·rw[i5.mp hj] at m;exact .inr m
theorem fQ {n:Int}{ts:List Tie}{ks:List Nat}(ok:WebOk n ts)(ko:KeepOk ts.length ks):Far.Keys (arcsB ts ks):=by
 have at_:∀ {u v l k},(u,v,l,k)∈arcsB ts ks->k<ts.length/\((u=(tieAt ts k).1.toNat/\v=(tieAt ts k).2.1.toNat)\/(u=(tieAt ts k).2.1.toNat/\v=(tieAt ts k).1.toNat))/\l=(tieAt ts k).2.2/\k∈ks:=λ {u v l k} h=>by
  obtain⟨j,hj,m⟩:=arcsB_mem.mp h
  rcases arcs2B_mem.mp m with e | e <;> cases e
  ·exact⟨ko.2 _ hj,.inl ⟨rfl,rfl⟩,rfl,hj⟩
  ·exact⟨ko.2 _ hj,.inr ⟨rfl,rfl⟩,rfl,hj⟩
 refine⟨λ u v l k h=>?_,λ u v l u' v' l' k h h'=>?_,λ u v l k h=>?_,λ u v l k h=>?_,λ u v l k h=>?_⟩
 ·obtain⟨_,e,rfl,hk⟩:=at_ h
  refine arcsB_mem.mpr ⟨k,hk,arcs2B_mem.mpr ?_⟩
  rcases e with ⟨rfl,rfl⟩ | ⟨rfl,rfl⟩
  ·exact .inr rfl
  ·exact .inl rfl
 ·obtain⟨_,e,rfl,_⟩:=at_ h
  obtain⟨_,e',rfl,_⟩:=at_ h'
  refine⟨rfl,?_⟩
  rcases e with ⟨rfl,rfl⟩ | ⟨rfl,rfl⟩ <;> rcases e' with ⟨rfl,rfl⟩ | ⟨rfl,rfl⟩
  ·exact .inl ⟨rfl,rfl⟩
  ·exact .inr ⟨rfl,rfl⟩
  ·exact .inr ⟨rfl,rfl⟩
  ·exact .inl ⟨rfl,rfl⟩
 ·obtain⟨hk,e,_,_⟩:=at_ h
  have:=ok.tie _ (bG hk).2
  rcases e with ⟨rfl,rfl⟩ | ⟨rfl,rfl⟩ <;> left
 ·obtain⟨hk,_,e,_⟩:=at_ h
  have:=ok.tie _ (bG hk).2
  left
 ·obtain⟨hk,_⟩:=at_ h
  have:=ok.few
  left
theorem yM {n:Int}{ts:List Tie}{ks:List Nat}(ok:WebOk n ts)(ko:KeepOk ts.length ks){u v k:Nat}{l:Int}(h:(u,v,l,k)∈arcsB ts ks):u<n.toNat/\v<n.toNat:=by
 obtain⟨j,hj,m⟩:=arcsB_mem.mp h
 have:=ok.tie _ (bG (ko.2 j hj)).2
 rcases arcs2B_mem.mp m with e | e <;> cases e <;> left
def spReachedB (K:a8):Sp:=λ vs H Q _=>∃ n ts ks wv kv r,vs=[wv,kv,.int r]/\WK K H n ts ks wv kv/\0<=r/\r<n /\
 ∀ (p lc la:j4)(cvs:List V)(as:List (Option Nat))(cs:List (Option (Int × Int)))(H':Hp),Same H H'->H' p=some (.tup [.ref lc,.ref la])->H' lc=some (.lst cvs)->H' la=some (.lst (as.map oa))->CostL H' cvs cs->Far.Best (arcsB ts ks) n.toNat r.toNat cs as->Q (.ref p) H'
def spTreeB (K:a8):Sp:=λ vs H Q _=>∃ n ts ks wv kv r,vs=[wv,kv,.int r]/\WK K H n ts ks wv kv/\0<=r/\r<n /\
 ∀ (p:j4)(as:List (Option Nat))(cs:List (Option (Int × Int)))(H':Hp),Same H H'->H' p=some (.tup (as.map oa))->Far.Best (arcsB ts ks) n.toNat r.toNat cs as->Q (.ref p) H'
def WayB (H:Hp)(B:List Far.Arc)(n a b:Nat)(v:V):Prop:=∃ cs as,Far.Best B n b cs as/\((v=.non/\Far.get cs a=none)\/∃ t ws c,v=.ref t/\H t=some (.tup (natV ws))/\ws.length<=24/\Far.get cs a=some c/\Far.TPw as b ws.reverse a)
def spWayB (K:a8):Sp:=λ vs H Q _=>∃ n ts ks wv kv a b,vs=[wv,kv,.int a,.int b]/\WK K H n ts ks wv kv/\0<=a/\a<n/\0<=b/\b<n/\∀ v H',Same H H'->WayB H' (arcsB ts ks) n.toNat a.toNat b.toNat v->Q v H'
section
variable {X:Cx}
end
end L3
namespace Srt
open PySem PySem.Spec PyProof.Rows PySem.W
section
variable {prog:m3}{w:uac}{A:v6}{E:c9->d6->Prop}{s:d6}
end
end Srt
namespace L3
open PySem PySem.Spec PyProof.Rows L2
def SetO (P:m3)(w:uac)(a:j4)(S:Int->Bool)(n:Nat):HO:=.ext λ h=>Stb.SetT P w h a S n
section
variable {X:Cx}
end
theorem eY (ts:List Tie)(ks:List Nat):Far.arcsF (arcsB ts ks)=arcs ts ks:=by
 unfold arcs Far.arcsF arcsB
 rw[List.map_flatMap]
 rfl
theorem iB {n:Int}{ts:List Tie}{ks:List Nat}(ok:WebOk n ts)(ko:KeepOk ts.length ks):Far.Sym (arcs ts ks):=λ u v l h=>by
 rw[← eY] at h ⊢
 obtain⟨k,m⟩:=Far.arcsF_mem.mp h
 exact Far.arcsF_mem.mpr ⟨k,(fQ ok ko).sym _ _ _ _ m⟩
def spReachedC (K:a8):Sp:=λ vs H Q _=>∃ n ts ks wv kv r,vs=[wv,kv,.int r]/\WK K H n ts ks wv kv/\0<=r/\r<n /\
 ∀ (p lc la:j4)(cvs:List V)(as:List (Option Nat))(cs:List (Option (Int × Int)))(H':Hp),Same H H'->H' p=some (.tup [.ref lc,.ref la])->H' lc=some (.lst cvs)->H' la=some (.lst (as.map oa))->CostL H' cvs cs->Far.Best (arcsB ts ks) n.toNat r.toNat cs as->Far.Good (arcs ts ks) n.toNat r.toNat cs->Far.Stab (arcs ts ks) cs->Q (.ref p) H'
theorem vF {K:a8}(vs:List V)(H:Hp)(Q:VK)(E:XK)(h:spReachedB K vs H Q E):spReachedC K vs H Q E:=by
 obtain⟨n,ts,ks,wv,kv,r,e,wk,r0,r1,q⟩:=h
 exact⟨n,ts,ks,wv,kv,r,e,wk,r0,r1,λ p lc la cvs as cs H' S h1 h2 h3 cl B _ _=>q p lc la cvs as cs H' S h1 h2 h3 cl B⟩
theorem vE {K:a8}(vs:List V)(H:Hp)(Q:VK)(E:XK)(h:spReached K vs H Q E):spReachedC K vs H Q E:=by
 obtain⟨n,ts,ks,wv,kv,r,e,wk,r0,r1,q⟩:=h
 exact⟨n,ts,ks,wv,kv,r,e,wk,r0,r1,λ p lc la cvs as cs H' S h1 h2 h3 cl _ g st=>q p lc la cvs _ cs H' S h1 h2 h3 cl g st⟩
theorem yY {ts:List Tie}{ks:List Nat}{cs:List (Option (Int × Int))}(h:Far.Stab2 (arcsB ts ks) cs):Far.Stab (arcs ts ks) cs:=λ u v l c m e=>by
 rw[← eY] at m
 obtain⟨k,m⟩:=Far.arcsF_mem.mp m
 obtain⟨c',e',n'⟩:=h _ _ _ _ _ m e
 refine⟨c',e',?_⟩
 unfold Far.lt2 at n'
 simp only at n'
 left
section
variable {own:List Str}{js:List Nat}{g:TG}{te:TE}{σ:L2.St}{Q:VK}{H1:Hp}
end
theorem zL {X:Cx}{own fr:List Str}{scope:ucd}{fp:List j4}{pins:List (j4 × Obj)}{s3:d6}{H3:Hp}:OpR (cxComp X own fr scope fp pins s3 H3) (compareOp .Eq) (op_eqD_i X.K X.A.units):=dM (X:=cxComp X own fr scope fp pins s3 H3)
end L3
namespace HT
open PySem PyProof.Rows
section
variable {prog:m3}{w:uac}{A:v6}{R:Result->d6->Prop}{I:j4}{fp wr:List j4}{G:Array GenState->Array GenState->Prop}{St:Nat->d6->Prop}{its:List c9}{ns:List Int}
end
section
variable {prog:m3}{w:uac}{A:v6}{E:c9->d6->Prop}{s:d6}
end
end HT
namespace L3
open PySem PySem.Spec PyProof.Rows L2
section
variable {own:List Str}{js:List Nat}{g:TG}{tt:TT}{te:TE}{σ:L2.St}{Q:VK}{H1:Hp}
end
def lvl (ls:List (List Nat))(i:Nat):List Nat:=ls.getD i []
structure LevOk (n:Nat)(ls:List (List Nat)):Prop where
 one:1<=ls.length
 six:ls.length<=6
 first:lvl ls 0=d7 n
 rise:∀ i,(lvl ls i).Pairwise (·<·)
 inn:∀ i,∀ p∈lvl ls i,p<n
 down:∀ i,∀ p∈lvl ls (i+1),p∈lvl ls i
def IsTop (ls:List (List Nat))(w b:Nat):Prop:=b<ls.length/\w∈lvl ls b/\∀ i,i<ls.length->w∈lvl ls i->i<=b
def Bun (ls:List (List Nat))(D:List (Option Int))(w:Nat):Prop:=∃ x,Far.get D w=some x/\∀ b p y,IsTop ls w b->p∈lvl ls (b+1)->Far.get D p=some y->x<y
noncomputable def bunB (ls:List (List Nat))(D:List (Option Int))(w:Nat):Bool:=@decide (Bun ls D w) (Classical.propDecidable _)
def FarsOf (ts:List Tie)(n s:Nat)(D:List (Option Int)):Prop:=D.length=n/\∀ u,u<n->Far.Dst (arcs ts (d7 ts.length)) s u (Far.get D u)
def FarsT (H:Hp)(p lf:j4)(n:Nat)(ts:List Tie):Prop:=∃ ys,H lf=some (.lst ys)/\lf≠p/\ys.length=n/\∀ i v,ys[i]?=some v->∃ l D,v=.ref l/\l≠p/\H l=some (.lst (D.map ov))/\FarsOf ts n i D
end L3
namespace HT
open PySem PyProof.Rows
section
variable {prog:m3}{w:uac}{A:v6}{R:Result->d6->Prop}{I:j4}{fp wr:List j4}{G:Array GenState->Array GenState->Prop}{St:Nat->d6->Prop}{its:List c9}{ks:List (List Int)}
end
section
variable {prog:m3}{w:uac}{A:v6}{E:c9->d6->Prop}{s:d6}
end
end HT
namespace L3
open PySem PySem.Spec PyProof.Rows L2
noncomputable def topN (ls:List (List Nat))(w:Nat):Nat:=@dite _ (∃ b,IsTop ls w b) (Classical.propDecidable _) (λ h=>Classical.choose h) (λ _=>0)
structure IsPiv (ls:List (List Nat))(m:Nat)(D:List (Option Int))(o:Option Nat):Prop where
 no:o=none->∀ q∈lvl ls m,Far.get D q=none
 yes:∀ p,o=some p->p∈lvl ls m/\∃ x,Far.get D p=some x/\∀ q∈lvl ls m,∀ y,Far.get D q=some y->x<=y/\(y=x->topN ls q<=topN ls p/\(topN ls q=topN ls p->p<=q))
def tupI (k:List Int):r6:=.tuple (k.map .int)
section
variable {own:List Str}{js:List Nat}{g:TG}{tt:TT}{te:TE}{σ:L2.St}{Q:VK}{H1:Hp}
end
noncomputable def pivN (ls:List (List Nat))(m:Nat)(D:List (Option Int)):Nat:=@dite _ (∃ p,IsPiv ls m D (some p)) (Classical.propDecidable _) (λ h=>Classical.choose h) (λ _=>0)
noncomputable def clN (ls:List (List Nat)):Nat->Nat->Nat->Nat->List (Option Int)->List (Option Int)->Int->List (List Int)
 | 0,w,a,b,_,_,x=>[[(w:Int),(a:Int),(b:Int),x]]
 | f+1,w,a,b,Da,Db,x=>[(w:Int),(a:Int),(b:Int),x]::(if bunB ls Db w=true then [] else clN ls f (pivN ls (topN ls w+1) Db) b a Db Da ((Far.get Db (pivN ls (topN ls w+1) Db)).getD 0))
structure Cs (ts:List Tie)(n:Nat)(ls:List (List Nat))(d:Int)(j w a b:Nat)(Da Db:List (Option Int))(x:Int):Prop where
 fa:FarsOf ts n a Da
 fb:FarsOf ts n b Db
 wn:w<n
 an:a<n
 bn:b<n
 xa:Far.get Da w=some x
 lim:x<=j*d
 ab:Far.get Da b=some d
 ba:Far.get Db a=some d
 yb:∃ y,Far.get Db w=some y
 tp:j<=topN ls w
 bu:bunB ls Da w=true
section
variable {n:Int}{ts:List Tie}{ls:List (List Nat)}{d x:Int}{j w a b:Nat}{Da Db:List (Option Int)}
end
structure RowsOk (ls:List (List Nat))(n:Nat)(d:Int)(Du Dv:List (Option Int))(rows:List (List Int)):Prop where
 few:rows.length<=ls.length
 lim:∀ (i:Nat)(r:List Int),rows[i]?=some r->∃ p a b x:Int,r=[p,a,b,x]/\x<=i*d
 last:∃ (pre:List (List Int))(w:Nat)(a b x:Int),rows=pre++[[(w:Int),a,b,x]]/\w<n/\bunB ls Du w=true/\bunB ls Dv w=true
def ClimbV (K:a8)(H:Hp)(ls:List (List Nat))(n u v:Nat)(Du Dv:List (Option Int))(r:V):Prop:=(r=.non/\Far.get Du v=none)\/∃ t ys d,r=.ref t/\Far.get Du v=some d/\H t=some (.tup ys)/\IsAll K H ((clN ls ls.length u u v Du Dv 0).map tupI) ys/\RowsOk ls n d Du Dv (clN ls ls.length u u v Du Dv 0)
def FarsM (H:Hp)(lf:j4)(n:Nat)(ts:List Tie):Prop:=∃ ys,H lf=some (.lst ys)/\ys.length=n/\∀ i v,ys[i]?=some v->∃ l D,v=.ref l/\H l=some (.lst (D.map ov))/\FarsOf ts n i D
structure Clb (ts:List Tie)(n:Int)(ls:List (List Nat))(d:Int)(u v:Nat)(Du Dv:List (Option Int))(pre:List (List Int))(w a b:Nat)(Da Db:List (Option Int))(x:Int):Prop where
 cs:Cs ts n.toNat ls d pre.length w a b Da Db x
 sides:(Da=Du/\Db=Dv)\/(Da=Dv/\Db=Du)
 lim:∀ (i:Nat)(r:List Int),(pre++[[(w:Int),(a:Int),(b:Int),x]])[i]?=some r->∃ p a b x:Int,r=[p,a,b,x]/\x<=i*d
 rest:pre++clN ls (ls.length-pre.length) w a b Da Db x=clN ls ls.length u u v Du Dv 0
section
variable {n:Int}{ts:List Tie}{ls:List (List Nat)}{d x:Int}{u v w a b:Nat}{Du Dv Da Db:List (Option Int)}{pre:List (List Int)}
end
section
variable {K:a8}{J J':Hp}{ls:List (List Nat)}{n u v:Nat}{Du Dv:List (Option Int)}{r r1 r2:V}
end
end L3
namespace PySem.SeqAt
open PySem.Spec PySem.MeetsSeq PySem.MeetsSeq2 PySem.MeetsSeq3 PySem.SeqRoads2
open AutoSeq1 (wpAny_loadPart')
end PySem.SeqAt
namespace L3
open PySem PySem.Spec PyProof.Rows L2
section
variable {X:Cx}{o e:ubl}{es:List ubl}{to:TE}{t:TA}{name:Str}{apos cpos:Pos}{id:String}{r:V->List V->Hp->VK->Prop}
end
def bk (hi:Option Int)(n j:Nat):Prop:=(hi=none/\j=0)\/(hi=some 0/\j=1/\1<=n)
section
variable {prog:m3}{w:uac}{A:v6}{E:c9->d6->Prop}{s:d6}
end
section
variable {X:Cx}{e st:ubl}{te ts:TE}{lo hi:Option ubl}{th:TO}{pos p2:Pos}
end
def WayM (H:Hp)(ts:List Tie)(ks:List Nat)(a b:Nat)(v:V):Prop:=(v=.non/\Far.Dst (arcs ts ks) a b none)\/∃ t ws x,v=.ref t/\H t=some (.tup (natV ws))/\ws.length<=24/\Far.MinW (arcsB ts ks) a b ws/\Far.Tr (arcs ts ks) a ws b x/\Far.Dst (arcs ts ks) a b (some x)
theorem zam {H:Hp}{n:Int}{m:Nat}{ts:List Tie}{ks:List Nat}{a b:Nat}{v:V}(ok:WebOk n ts)(ko:KeepOk ts.length ks)(h:WayB H (arcsB ts ks) m a b v):WayM H ts ks a b v:=by
 obtain⟨cs,as,B,h⟩:=h
 have KB:=fQ ok ko
 have d:=B.dst1 KB a
 rw[eY] at d
 rcases h with ⟨rfl,e⟩ | ⟨t,ws,c,rfl,ht,l24,e,tp⟩
 ·rw[e] at d
  exact .inl ⟨rfl,d.back (iB ok ko)⟩
 ·rw[e] at d
  obtain⟨S,u⟩:=B.uni KB tp e
  have tr:=u.rt.tr
  rw[eY] at tr
  exact .inr ⟨t,ws,c.1,rfl,ht,l24,B.minw KB tp e,tr,d.back (iB ok ko)⟩
def spWayM (K:a8):Sp:=λ vs H Q _=>∃ n ts ks wv kv a b,vs=[wv,kv,.int a,.int b]/\WK K H n ts ks wv kv/\0<=a/\a<n/\0<=b/\b<n/\∀ v H',Same H H'->WayM H' ts ks a.toNat b.toNat v->Q v H'
theorem zbk {K:a8}(vs:List V)(H:Hp)(Q:VK)(E:XK)(h:spWayM K vs H Q E):spWayB K vs H Q E:=by
 obtain⟨n,ts,ks,wv,kv,a,b,e,wk,a0,a1,b0,b1,q⟩:=h
 exact⟨n,ts,ks,wv,kv,a,b,e,wk,a0,a1,b0,b1,λ v H' S h=>q v H' S (zam wk.2.1 wk.2.2.2 h)⟩
def WaysL (J:Hp)(ts:List Tie)(ks:List Nat)(ys:List V):Prop:=∀ v∈ys,∃ t W a b,v=.ref t/\J t=some (.tup (natV W))/\W.length<=24/\Far.MinW (arcsB ts ks) a b W
def WKL (K:a8)(H:Hp)(n:Int)(ts:List Tie)(ks:List Nat)(wv:V)(kp:j4):Prop:=Is K H (webD n ts) wv/\WebOk n ts/\H kp=some (.lst ((keepI ks).map V.int))/\KeepOk ts.length ks
end L3
namespace Far
def chn (R:Nat->Nat->Prop):List Nat->Prop
 | []=>True
 | [_]=>True
 | a::b::r=>R a b/\chn R (b::r)
section
variable {R:Nat->Nat->Prop}
theorem dZ:∀ {l m:List Nat}{x y:Nat},chn R (l++[x])->R x y->chn R (y::m)->chn R (l++[x]++y::m)
 | [],m,x,y,_,r,h=>⟨r,h⟩
 | [a],m,x,y,h1,r,h=>⟨h1.1,dZ (l:=[]) (x:=x) (y:=y) h1.2 r h⟩
 | a::b::l,m,x,y,h1,r,h=>⟨h1.1,dZ (l:=b::l) (x:=x) (y:=y) h1.2 r h⟩
theorem eO:∀ {l m:List Nat}{x:Nat},chn R (l++x::m)->chn R (l++[x])/\chn R (x::m)
 | [],m,x,h=>⟨trivial,h⟩
 | [a],m,x,h=>⟨⟨h.1,trivial⟩,h.2⟩
 | a::b::l,m,x,h=>⟨⟨h.1,(eO (l:=b::l) (x:=x) h.2).1⟩,(eO (l:=b::l) (x:=x) h.2).2⟩
theorem gR (sy:∀ u v,R u v->R v u):∀ {l:List Nat},chn R l->chn R l.reverse
 | [],_=>trivial
 | [_],_=>trivial
 | a::b::r,h=>by
  have ih:=gR sy h.2
  rw[ub5] at ih
  rw[ub5,ub5]
  exact dZ (l:=r.reverse) (m:=[]) ih (sy _ _ h.1) trivial
theorem gX:∀ {l:List Nat}{i u v:Nat},chn R l->l[i]?=some u->l[i+1]?=some v->R u v
 | [],i,u,v,_,e,_=>by cases e
 | [a],i,u,v,_,_,e=>by cases e
 | a::b::r,0,u,v,h,e1,e2=>by cases e1;cases e2;exact h.1
 | a::b::r,i+1,u,v,h,e1,e2=>gX (l:=b::r) h.2 e1 e2
def RingOf (ws:List Nat)(h:Nat)(tl:List Nat):Prop:=∃ p q,ws=p++h::q/\(tl=q++p\/tl=(q++p).reverse)
end
end Far
namespace L3
open PySem PySem.Spec PyProof.Rows L2
def adjK (ts:List Tie)(ks:List Nat)(u v:Nat):Prop:=∃ k,k∈ks/\tbN ts u v=some k
def Turn (h:Nat)(tl:List Nat):Prop:=(∀ x∈tl,h<=x)/\∀ u v p q,tl=u::p->tl=q++[v]->u<=v
theorem jZ (val:Nat->Int):∀ i,(firstMet val i).Nodup/\∀ k,k∈firstMet val i↔k∈(d7 i).map val
 | 0=>⟨by rw[firstMet_zero];exact List.nodup_nil,λ k=>by rw[firstMet_zero];simp⟩
 | i+1=>by
  obtain⟨h1,h2⟩:=jZ val i
  rw[firstMet_succ,udr,uao]
  unfold step_dedup
  by_cases c:(firstMet val i).any (λ y=>y==val i)=true
  ·rw[ufo c]
   obtain⟨y,hy,e⟩:=uep.mp c
   have e':y=val i:=by simpa using e
   refine⟨h1,λ k=>?_⟩
   rw[h2 k,m5]
   refine⟨.inl,λ z=>z.elim id λ z=>?_⟩
   have:k=val i:=by simpa using z
   rw[this,← e',← h2 y];exact hy
  ·rw[ufp c]
   refine⟨uak.mpr ⟨h1,by simp,λ a ha b hb e=>c (uep.mpr ⟨a,ha,?_⟩)⟩,λ k=>by rw[m5,m5,h2 k];simp⟩
   have:b=val i:=by simpa using hb
   simp [e,this]
def inB (n:Int)(ns:List Int):Bool:=ns.all λ i=>decide (0<=i)&&decide (i<n)
section
variable {g:TG}{tt:TT}{te:TE}{own:List Str}{js:List Nat}{σ:L2.St}{H1:Hp}{Q:VK}
end
def RowV (lo hi:Nat)(J:Hp)(v:V):Prop:=∃ (p:j4)(ns:List Int),v=.ref p/\J p=some (.tup (ns.map V.int))/\lo<=ns.length/\ns.length<=hi
end L3
namespace Stb
open PySem PyProof.Rows
section
variable {prog:m3}{w:uac}{A:v6}{E:c9->d6->Prop}{s:d6}
end
end Stb
namespace L3
open PySem PySem.Spec PyProof.Rows L2
section
variable {X:Cx}
end
end L3
namespace Far
variable {A:List (Nat × Nat × Int)}{s:Nat}
def Unit1 (A:List (Nat × Nat × Int)):Prop:=∀ u v l,(u,v,l)∈A->l=1
def AtK (A:List (Nat × Nat × Int))(s k v:Nat):Prop:=Walk A s v (k:Int)/\∀ x,Walk A s v x->(k:Int)<=x
structure Bfs (A:List (Nat × Nat × Int))(s i:Nat)(D:Nat->Option Nat)(ring:List Nat):Prop where
 found:∀ v d,D v=some d↔AtK A s d v/\d<i
 ring:∀ v,v∈ring↔AtK A s i v
end Far
namespace Lr
open Far (chn dZ eO gR gX RingOf)
section
variable {R:Nat->Nat->Prop}
structure Rg (R:Nat->Nat->Prop)(h:Nat)(tl:List Nat):Prop where
 len:2<=tl.length
 nd:(h::tl).Nodup
 ch:chn R (h::tl++[h])
def Cano (h:Nat)(tl:List Nat):Prop:=(∀ v∈tl,h<v)/\∃ x m y,tl=x::(m++[y])/\x<y
def stepW (rows:Nat->List Nat)(w:List Nat):List (List Nat):=((rows (w.getLast?.getD 0)).filter λ o=>decide (w.headD 0<o)&&!decide (o∈w)).map λ o=>w++[o]
def ways (rows:Nat->List Nat)(n:Nat):Nat->List (List Nat)
 | 0=>(d7 n).map λ v=>[v]
 | s+1=>(ways rows n s).flatMap (stepW rows)
structure PW (R:Nat->Nat->Prop)(n:Nat)(w:List Nat):Prop where
 ne:w≠[]
 nd:w.Nodup
 ch:chn R w
 lt:∀ v∈w,v<n
 up:∀ h t,w=h::t->∀ v∈t,h<v
section
variable {rows:Nat->List Nat}{n:Nat}
end
end
end Lr
namespace Lr
open Far (chn dZ eO gR gX RingOf)
def lle:List Nat->List Nat->Prop
 | [],_=>True
 | _::_,[]=>False
 | a::l,b::m=>a<b\/(a=b/\lle l m)
section
variable {R:Nat->Nat->Prop}
structure Sh (R:Nat->Nat->Prop)(z v:Nat)(l:List Nat):Prop where
 ch:chn R (v::l)
 last:(v::l).getLast?=some z
 min:∀ l',chn R (v::l')->(v::l').getLast?=some z->l.length<=l'.length
def Ds (R:Nat->Nat->Prop)(z:Nat)(D:Nat->Option Nat):Prop:=∀ v,(∀ m,D v=some m->∃ l,chn R (v::l)/\(v::l).getLast?=some z/\l.length=m)/\∀ l,chn R (v::l)->(v::l).getLast?=some z->∃ m,D v=some m/\m<=l.length
def Rm (R:Nat->Nat->Prop)(a b u v:Nat):Prop:=R u v/\¬ (u=a/\v=b)/\¬ (u=b/\v=a)
end
end Lr
namespace Lr
open Far (chn dZ eO gR gX RingOf)
structure Ties (R:Nat->Nat->Prop)(ks:List Nat)(ends:Nat->Nat × Nat):Prop where
 sy:∀ u v,R u v->R v u
 of:∀ k∈ks,(ends k).1<(ends k).2/\R (ends k).1 (ends k).2
 to:∀ u v,R u v->u<v->∃ k∈ks,ends k=(u,v)
 up:∀ k∈ks,∀ j∈ks,k<=j->(ends k).1<(ends j).1\/((ends k).1=(ends j).1/\(ends k).2<=(ends j).2)
section
variable {R:Nat->Nat->Prop}{ks:List Nat}{ends:Nat->Nat × Nat}
end
section
variable {R:Nat->Nat->Prop}{rows:Nat->List Nat}{n:Nat}
end
end Lr
namespace L3
open PySem PySem.Spec PyProof.Rows L2
section
variable {own:List Str}{js:List Nat}{g:TG}{te:TE}{σ:L2.St}{Q:VK}{H1:Hp}
end
structure Bes (H:Hp)(l:j4)(as:List j4)(rows:Nat->List V):Prop where
 top:H l=some (.lst (as.map V.ref))
 nd:as.Nodup
 own:l∉as
 row:∀ i a,as[i]?=some a->H a=some (.lst (rows i))
def Uniq (ts:List Tie)(ks:List Nat)(j m:Nat):Prop:=∃ cs:List Nat,cs.Nodup/\cs.length=m/\∀ c∈cs,∃ k∈ks,∃ l,(j,c,l)∈arcs2 (tieAt ts k)
section
variable {X:Cx}
end
def Adj (ts:List Tie)(ks:List Nat)(u v:Nat):Prop:=∃ k∈ks,(u,v,(tieAt ts k).2.2)∈arcs2 (tieAt ts k)
def en (ts:List Tie)(k:Nat):Nat × Nat:=((tieAt ts k).1.toNat,(tieAt ts k).2.1.toNat)
section
variable {n:Int}{ts:List Tie}{ks:List Nat}{u v k:Nat}
end
theorem dF {K:a8}{H:Hp}{p:j4}{ks:List Nat}(h:H p=some (.tup (natV ks))):Is K H (keepD ks) (.ref p):=⟨p,_,rfl,h,by rw[bT];exact IsAll.ints _⟩
def IsLR (ts:List Tie)(ks:List Nat)(h:Nat)(tl:List Nat):Prop:=Lr.Rg (Adj ts ks) h tl/\Lr.Cano h tl/\(∀ h' tl',Lr.Rg (Adj ts ks) h' tl'->tl.length<=tl'.length)/\∀ h' tl',Lr.Rg (Adj ts ks) h' tl'->Lr.Cano h' tl'->tl'.length=tl.length->Lr.lle (h::tl) (h'::tl')
section
variable {J:It}{g:TG}{tt:TT}{te:TE}{own:List Str}{js:List Nat}{σ:L2.St}{H1:Hp}{Q:VK}
end
end L3
namespace L3
end L3
namespace L3
open PySem PySem.Spec PyProof.Rows L2
theorem aV (a:List Nat):(natV a).length=a.length:=by unfold natV;rw[c7]
theorem jB {f:Nat->List Nat}{m:Nat}:∀ (l:List Nat),(∀ x∈l,(f x).length<=m)->(l.flatMap f).length<=l.length*m
 | [],_=>by simp
 | x::l,h=>by
  have ih:=jB l λ y hy=>h y (j7 _ hy)
  have:=h x i3
  rw[List.flatMap_cons,g9,ube,Nat.succ_mul]
  left
theorem bA (E:List (Option Nat)){i v:Nat}(x:Nat)(h:i<E.length):Far.get (E.set i (some x)) v=if v=i then some x else Far.get E v:=by
 unfold Far.get
 rw[d3,d3]
 by_cases z:v=i
 ·subst z
  rw[ufo rfl,udl h];rfl
 ·rw[ufp z,udz (Ne.symm z)]
section
variable {n g:Int}{ts:List Tie}{ks:List Nat}{k:Nat}
end
def tupH (hs:List Int):r6:=.tuple (hs.map .int)
end L3
namespace Far
end Far
namespace L3
open PySem PySem.Spec PyProof.Rows L2
section
variable {n:Int}{ts:List Tie}
end
end L3
namespace L2
open PySem PySem.Spec PyProof.Rows
section
variable {X:Cx}{k v:ubl}{pos:Pos}{tk tv:TE}
end
end L2
namespace HT
open PySem PyProof.Rows
open Sem (wp)
section
variable {prog:m3}{w:uac}{A:v6}{E:c9->d6->Prop}{s:d6}
end
end HT
namespace L3
open PySem PySem.Spec PyProof.Rows L2
def PapV (H:Hp)(lo hi m:Nat)(v:V):Prop:=∃ p xs,v=.ref p/\H p=some (.tup xs)/\xs.length<=m/\∀ u∈xs,RowV lo hi H u
section
variable {near kept:Nat->Nat->Option Int}{u v:Nat}{r:List (Nat × Nat)}{m:Int × Int × Int}{x y:Int}
end
def WKE (K:a8)(H:Hp)(n:Int)(ts:List Tie)(ks:List Nat)(wv:V)(kp:j4)(tp:Bool):Prop:=Is K H (webD n ts) wv/\WebOk n ts/\H kp=some (if tp=true then .tup (natV ks) else .lst (natV ks))/\KeepOk ts.length ks
section
variable {g:TG}{tt:TT}{te:TE}{own:List Str}{js:List Nat}{σ:L2.St}{H1:Hp}{Q:VK}
end
theorem zag (xs:List V)(k:Nat):cutV xs none (some (k:Int))=xs.take k:=by
 unfold cutV
 rw[HT.wY,HT.zB,List.drop_zero,Nat.sub_zero]
 by_cases z:k<=xs.length
 ·rw[Nat.min_eq_left z]
 ·rw[Nat.min_eq_right (by left),uby (d8 _),uby (by left)]
section
variable {n:Int}{ts:List Tie}{ks:List Nat}
end
section
variable {own:List Str}{js:List Nat}{g:TG}{te:TE}{σ:L2.St}{Q:VK}{H1:Hp}
end
section
variable {n:Int}{ts:List Tie}
def hN (hs:List Int)(v:Nat):Int:=hs.getD v 0
end
theorem iteTe {b:Bool}{A B:Prop}(e:b=true)(h:A):if b=true then A else B:=by rw[ufo e];exact h
theorem iteFe {b:Bool}{A B:Prop}(e:b=false)(h:B):if b=true then A else B:=by rw[e];exact h
end L3
namespace Srt
open PySem PyProof.Rows
section
variable {prog:m3}{w:uac}{A:v6}{E:c9->d6->Prop}{s:d6}{a:j4}
end
end Srt
namespace L3
open PySem PySem.Spec PyProof.Rows L2
section
variable {X:Cx}
end
section
variable {n:Int}{ts:List Tie}
def WyV (H:Hp)(ts:List Tie)(o:Option (List Nat))(v:V):Prop:=(o=none/\v=.non)\/∃ t ws,o=some ws/\v=.ref t/\H t=some (.tup (natV ws))/\ws.length<=24/\linked ts ws
theorem WyV.tk {H H':Hp}{o:Option (List Nat)}{v:V}(k:TupKeep H H')(h:WyV H ts o v):WyV H' ts o v:=by
 rcases h with h | ⟨t,ws,e,e1,e2,z⟩
 ·exact .inl h
 ·exact .inr ⟨t,ws,e,e1,k _ _ e2,z⟩
theorem WyV.same {H H':Hp}{o:Option (List Nat)}{v:V}(k:Same H H')(h:WyV H ts o v):WyV H' ts o v:=h.tk λ _ _ e=>k _ _ e
def wyD:Option (List Nat)->r6
 | none=>.none
 | some ws=>tupH (keepI ws)
theorem WyV.is {K:a8}{H:Hp}{o:Option (List Nat)}{v:V}(h:WyV H ts o v):Is K H (wyD o) v:=by
 rcases h with ⟨rfl,rfl⟩ | ⟨t,ws,rfl,rfl,e2,z⟩
 ·exact rfl
 ·exact⟨t,_,rfl,e2,by rw[bT];exact IsAll.ints _⟩
end
end L3
namespace Z3
open PySem
section
variable {prog:m3}{w:uac}{A:v6}{E:c9->d6->Prop}{s:d6}
end
end Z3
namespace L3
open PySem PySem.Spec PyProof.Rows L2
def isE (ts:List Tie)(u v:Int)(k:Nat):Bool:=decide ((tieAt ts k).1=min u v)&&decide ((tieAt ts k).2.1=max u v)
def lenI (ts:List Tie)(ks:List Nat)(u v:Int):Option Int:=(ks.find? (isE ts u v)).map λ k=>(tieAt ts k).2.2
section
variable {n:Int}{ts:List Tie}{ks:List Nat}
def stepY (ts:List Tie)(ks:List Nat)(ws:List Int)(j:Nat):Option Int:=lenI ts ks (ws.getD j 0) (ws.getD (j+1) 0)
def sumY (ts:List Tie)(ks:List Nat)(ws:List Int):Nat->Option Int
 | 0=>some 0
 | j+1=>(sumY ts ks ws j).bind λ x=>(stepY ts ks ws j).map λ l=>x+l
def rightI (n:Int)(ts:List Tie)(ks:List Nat)(ws:List Int):Option Int:=if (ws≠[]/\ws.Nodup)/\ws.all (λ i=>decide (0<=i)&&decide (i<n))=true then sumY ts ks ws (ws.length-1) else none
noncomputable def wyK (ts:List Tie)(ks:List Nat)(a b:Nat):Option (List Nat):=@dite _ (∃ ws,Far.MinW (arcsB ts ks) a b ws) (Classical.propDecidable _) (λ h=>some (Classical.choose h)) (λ _=>none)
theorem wP (ok:WebOk n ts)(ko:KeepOk ts.length ks){a b:Nat}{ws:List Nat}(h:Far.MinW (arcsB ts ks) a b ws):wyK ts ks a b=some ws:=by
 have ex:∃ ws,Far.MinW (arcsB ts ks) a b ws:=⟨ws,h⟩
 unfold wyK
 rw[dif_pos ex]
 exact congrArg some (h.unique (fQ ok ko) (Classical.choose_spec ex))
theorem wQ {a b:Nat}(d:Far.Dst (arcs ts ks) a b none):wyK ts ks a b=none:=by
 unfold wyK
 refine dif_neg λ ⟨ws,S,x,y,r,_⟩=>?_
 have w:=r.walk
 rw[eY] at w
 obtain⟨z,e,_⟩:=d.2 _ w
 cases e
theorem zal (ok:WebOk n ts)(ko:KeepOk ts.length ks){H:Hp}{a b:Nat}{v:V}(h:WayM H ts ks a b v):WyV H ts (wyK ts ks a b) v:=by
 rcases h with ⟨rfl,d⟩ | ⟨t,ws,x,rfl,e,l,m,tr,d⟩
 ·exact .inl ⟨wQ d,rfl⟩
 ·exact .inr ⟨t,ws,wP ok ko m,rfl,e,l,(oR ok ko tr).2⟩
theorem WayM.v {H:Hp}{a b:Nat}{v:V}(h:WayM H ts ks a b v):WayV H (arcs ts ks) a b v:=by
 rcases h with h | ⟨t,ws,x,e,e1,l,m,tr,d⟩
 ·exact .inl h
 ·exact .inr ⟨t,ws,x,e,e1,l,tr,d⟩
noncomputable def dK (ts:List Tie)(ks:List Nat)(u v:Nat):Option Int:=Classical.epsilon λ o=>Far.Dst (arcs ts ks) u v o
theorem jL (ok:WebOk n ts)(ko:KeepOk ts.length ks)(u v:Nat):Far.Dst (arcs ts ks) u v (dK ts ks u v):=Classical.epsilon_spec (p:=λ o=>Far.Dst (arcs ts ks) u v o) (Far.fP (eB ok ko) u v)
theorem oU (ok:WebOk n ts)(ko:KeepOk ts.length ks){u v:Nat}{o:Option Int}(d:Far.Dst (arcs ts ks) u v o):o=dK ts ks u v:=d.unique (jL ok ko u v)
noncomputable def dKL (n:Int)(ts:List Tie)(ks:List Nat)(u:Nat):List (Option Int):=(d7 n.toNat).map λ v=>dK ts ks u v
theorem jC (n:Int)(ts:List Tie)(ks:List Nat)(u:Nat):(dKL n ts ks u).length=n.toNat:=by unfold dKL;rw[c7,j9]
theorem jM {u v:Nat}(hv:v<n.toNat):(dKL n ts ks u)[v]?=some (dK ts ks u v):=by unfold dKL;rw[j5,ua2 hv];rfl
theorem zaf {u v:Nat}(hv:v<n.toNat):Far.get (dKL n ts ks u) v=dK ts ks u v:=by unfold Far.get;rw[d3,jM hv];rfl
theorem zbg (ok:WebOk n ts)(ko:KeepOk ts.length ks){u:Nat}{DD:List (Option Int)}(lD:DD.length=n.toNat)(hD:∀ v,v<n.toNat->Far.Dst (arcs ts ks) u v (Far.get DD v)):DD=dKL n ts ks u:=by
 refine ub6 λ v=>?_
 by_cases hv:v<n.toNat
 ·rw[jM hv,← oU ok ko (hD v hv)]
  unfold Far.get
  rw[d3,c6 (by left)];rfl
 ·rw[uag (by left),uag (by rw[jC];left)]
noncomputable def htK (n:Int)(ts:List Tie)(ks:List Nat)(t:Int)(k:Nat):List Int:=(dKL n ts ks (tieAt ts k).1.toNat).map (capO (t*(tieAt ts k).2.2+1))
theorem zaa (n:Int)(ts:List Tie)(ks:List Nat)(t:Int)(k:Nat):(htK n ts ks t k).length=n.toNat:=by unfold htK;rw[c7,jC]
end
def winK (ts:List Tie)(ks:List Nat)(t:Int)(k:Nat):Prop:=withinB t (tieAt ts k).2.2 (gO ts ks k)=true
noncomputable def wyT (ts:List Tie)(ks:List Nat)(k:Nat):Option (List Nat):=wyK ts ks (tieAt ts k).1.toNat (tieAt ts k).2.1.toNat
def FirstOut (ts:List Tie)(ks:List Nat)(t:Int)(i k:Nat):Prop:=(outs ts.length ks)[i]?=some k/\¬ winK ts ks t k/\∀ j k',j<i->(outs ts.length ks)[j]?=some k'->winK ts ks t k'
theorem FirstOut.one {ts:List Tie}{ks:List Nat}{t:Int}{i k i' k':Nat}(h:FirstOut ts ks t i k)(h':FirstOut ts ks t i' k'):k=k':=by
 rcases uej i i' with z | z | z
 ·exact absurd (h'.2.2 i k z h.1) h.2.1
 ·subst z
  exact u6 (h.1.symm.trans h'.1)
 ·exact absurd (h.2.2 i' k' z h'.1) h'.2.1
inductive TdD (n:Int)(ts:List Tie)(ks:List Nat)(t:Int):r6->Prop
 | keeps:allIn ts ks t->TdD n ts ks t (.tuple [.str "keeps",.tuple ((outs ts.length ks).map λ k=>wyD (wyT ts ks k))])
 | far {i k:Nat}:FirstOut ts ks t i k->TdD n ts ks t (.tuple [.str "far",.int (k:Int),tupH (htK n ts ks t k)])
theorem FirstOut.not {ts:List Tie}{ks:List Nat}{t:Int}{i k:Nat}(h:FirstOut ts ks t i k):¬ allIn ts ks t:=λ a=>h.2.1 (a k (i6 h.1))
theorem TdD.one {n:Int}{ts:List Tie}{ks:List Nat}{t:Int}{d d':r6}(h:TdD n ts ks t d)(h':TdD n ts ks t d'):d=d':=by
 cases h with
 | keeps a =>
  cases h' with
  | keeps _=>rfl
  | far f=>exact absurd a f.not
 | far f =>
  cases h' with
  | keeps a=>exact absurd a f.not
  | far f'=>rw[f.one f']
def PairsL (H:Hp)(xs ys zs:List V)(m:Nat):Prop:=zs.length=m/\∀ (j:Nat)(z:V),zs[j]?=some z->∃ (T:j4)(x y:V),z=V.ref T/\xs[j]?=some x/\ys[j]?=some y/\H T=some (.tup [x,y])
section
variable {X:Cx}{pins:List (j4 × Obj)}{σ:L2.St}
end
section
variable {n:Int}{ts:List Tie}{ks:List Nat}
end
section
variable {X:Cx}
end
def leadsI (n:Int)(ts:List Tie)(ks:List Nat)(a b:Int)(ws:List Int):Bool:=(rightI n ts ks ws).isSome&&(decide (ws.getD 0 0=a)&&decide (ws.getD (ws.length-1) 0=b))
def goodW (n:Int)(ts:List Tie)(ks:List Nat)(t:Int)(k:Nat)(ws:List Int):Bool:=leadsI n ts ks (tieAt ts k).1 (tieAt ts k).2.1 ws&&decide ((rightI n ts ks ws).getD 0<=t*(tieAt ts k).2.2)
def beyondI (n:Int)(ts:List Tie)(ks:List Nat)(t:Int)(k:Nat)(hs:List Int):Bool:=holdB n ts ks hs&&decide (acrossI ts hs k>t*(tieAt ts k).2.2)
def waysB (n:Int)(ts:List Tie)(ks:List Nat)(t:Int)(W:List (List Int)):Bool:=decide (W.length=(outs ts.length ks).length)&&(d7 (outs ts.length ks).length).all λ i=>goodW n ts ks t ((outs ts.length ks).getD i 0) (W.getD i [])
def farB (n:Int)(ts:List Tie)(ks:List Nat)(t:Int)(k:Int)(hs:List Int):Bool:=(decide (0<=k)&&decide (k<(ts.length:Int)))&&(!decide (k.toNat∈ks)&&beyondI n ts ks t k.toNat hs)
inductive Ppr where
 | keeps (W:List (List Int)):Ppr
 | far (k:Int) (hs:List Int):Ppr
def Ppr.d:Ppr->r6
 | .keeps W=>.tuple [.str "keeps",.tuple (W.map tupH)]
 | .far k hs=>.tuple [.str "far",.int k,tupH hs]
def Ppr.ok:Ppr->Prop
 | .keeps W=>W.length<=1000/\∀ ws∈W,ws.length<=40
 | .far _ hs=>hs.length<=1000
def Ppr.right (n:Int)(ts:List Tie)(ks:List Nat)(t:Int):Ppr->Bool
 | .keeps W=>waysB n ts ks t W
 | .far k hs=>farB n ts ks t k hs
def Cnt (M:List Nat)(m:Nat):Prop:=∃ ms:List Nat,ms.Nodup/\(∀ x,x∈ms↔x∈M)/\ms.length=m
theorem Cnt.one {M:List Nat}{m m':Nat}(h:Cnt M m)(k:Cnt M m'):m=m':=by
 obtain⟨ms,n1,e1,rfl⟩:=h
 obtain⟨ms',n2,e2,rfl⟩:=k
 exact ((uav n1 n2).mpr λ x=>(e1 x).trans (e2 x).symm).length_eq
theorem Cnt.range (n:Nat):Cnt (d7 n) n:=⟨d7 n,udg,λ _=>Iff.rfl,j9⟩
theorem Cnt.join {M:List Nat}{m p q:Nat}(h:Cnt M m)(hp:p∈M)(hq:q∈M)(ne:p≠q):1<=m/\Cnt (Frs.join M p q) (m-1):=by
 obtain⟨ms,n1,e1,rfl⟩:=h
 have hqs:=(e1 q).mpr hq
 refine⟨ucx.mpr (List.ne_nil_of_mem hqs),ms.erase q,n1.erase q,λ x=>?_,List.length_erase_of_mem hqs⟩
 rw[n1.mem_erase_iff,e1]
 unfold Frs.join
 rw[o7]
 constructor
 ·rintro ⟨h1,h2⟩
  exact⟨x,h2,ufp h1⟩
 ·rintro ⟨y,h1,h2⟩
  by_cases c:y=q
  ·rw[ufo c] at h2;subst h2;exact⟨ne,hp⟩
  ·rw[ufp c] at h2;subst h2;exact⟨c,h1⟩
theorem fZ {M:List Nat}{u:Nat}(h:u<M.length):M.getD u 0∈M:=by
 rw[d3,c6 h];exact ueo h
theorem Cnt.like {M M':List Nat}{m:Nat}(h:Cnt M m)(l:M.length=M'.length)(e:∀ u v,u<M.length->v<M.length->(M.getD u 0=M.getD v 0↔M'.getD u 0=M'.getD v 0)):Cnt M' m:=by
 obtain⟨ms,n1,e1,rfl⟩:=h
 have ix:∀ x∈M,M.idxOf x<M.length/\M.getD (M.idxOf x) 0=x:=λ x hx=>by
  have h1:=List.idxOf_lt_length_of_mem hx
  exact⟨h1,by rw[d3,c6 h1];exact List.getElem_idxOf h1⟩
 refine⟨ms.map λ x=>M'.getD (M.idxOf x) 0,?_,λ x=>?_,c7 _⟩
 ·rw[List.Nodup,uar]
  refine ud8 ?_ n1
  intro a b ha hb ne z
  obtain⟨a1,a2⟩:=ix a ((e1 a).mp ha)
  obtain⟨b1,b2⟩:=ix b ((e1 b).mp hb)
  have:=(e _ _ a1 b1).mpr z
  rw[a2,b2] at this
  exact ne this
 ·rw[o7]
  constructor
  ·rintro ⟨y,hy,rfl⟩
   exact fZ (by rw[← l];exact (ix y ((e1 y).mp hy)).1)
  ·intro hx
   obtain⟨i,hi,ei⟩:=ucc hx
   have hi':i<M.length:=by left
   have mi:=fZ hi'
   refine⟨M.getD i 0,(e1 _).mpr mi,?_⟩
   obtain⟨a1,a2⟩:=ix _ mi
   have:=(e _ _ a1 hi').mp a2
   rw[this,d3,c6 hi];exact ei
theorem Cnt.set {M:List Nat}{m:Nat}(h:Cnt M m):HT.setN (keepI M) (keepI M).length=m:=by
 obtain⟨ms,n1,e1,rfl⟩:=h
 obtain⟨h1,h2⟩:=jZ (λ i=>(keepI M).getD i 0) (keepI M).length
 rw[L3.dD (keepI M) 0] at h2
 have nd:(keepI ms).Nodup:=by
  unfold keepI
  rw[List.Nodup,uar]
  exact n1.imp λ ne z=>ne (by left)
 have e:((firstMet (λ i=>(keepI M).getD i 0) (keepI M).length)).Perm (keepI ms):=(uav h1 nd).mpr λ x=>by
  rw[h2]
  unfold keepI
  rw[o7,o7]
  exact⟨λ ⟨y,a,b⟩=>⟨y,(e1 y).mpr a,b⟩,λ ⟨y,a,b⟩=>⟨y,(e1 y).mp a,b⟩⟩
 have:=e.length_eq
 show (firstMet (λ i=>(keepI M).getD i 0) (keepI M).length).length=ms.length
 rw[this];unfold keepI;rw[c7]
theorem nN {ts:List Tie}{k:Nat}:∀ {os done:List Nat},rgN ts done (os++[k])=rgN ts done os++(if cnB ts (done++os) k=true then [] else [k])
 | [],done=>by
  show (if cnB ts done k=true then rgN ts (done++[k]) [] else k::rgN ts (done++[k]) [])=[]++_
  rw[ubb,uey]
  split <;> rfl
 | j::r,done=>by
  have ih:=nN (ts:=ts) (k:=k) (os:=r) (done:=done++[j])
  rw[ub7] at ih
  show (if cnB ts done j=true then rgN ts (done++[j]) (r++[k]) else j::rgN ts (done++[j]) (r++[k]))=(if cnB ts done j=true then rgN ts (done++[j]) r else j::rgN ts (done++[j]) r)++_
  by_cases c:cnB ts done j=true
  ·rw[ufo c,ufo c,ih];rfl
  ·rw[ufp c,ufp c,ih];rfl
theorem nO {P:List Nat->Prop}(h0:P [])(h1:∀ l k,P l->P (l++[k]))(l:List Nat):P l:=by
 have:∀ l,P (List.reverse l):=λ l=>by
  induction l with
  | nil=>exact h0
  | cons k r ih=>rw[ub5];exact h1 _ _ ih
 have:=this l.reverse
 rwa [udx] at this
theorem eS {n:Int}{ts:List Tie}(ok:WebOk n ts)(os:List Nat):(∀ k∈os,k<ts.length)->∃ M,Frs.Mk n.toNat (os.map (t2 ts)) M/\(rgN ts [] os).length<=n.toNat/\Cnt M (n.toNat-(rgN ts [] os).length):=by
 refine nO (P:=λ os=>(∀ k∈os,k<ts.length)->∃ M,Frs.Mk n.toNat (os.map (t2 ts)) M/\(rgN ts [] os).length<=n.toNat/\Cnt M (n.toNat-(rgN ts [] os).length)) (λ _=>⟨_,Frs.Mk.first,uad _,Cnt.range _⟩) (λ l k ih h=>?_) os
 obtain⟨M,mk,le,c⟩:=ih λ j hj=>h j (uab _ hj)
 have tk:=ok.tie _ (bG (h k (m9 _ i3))).2
 have ha:(t2 ts k).1<n.toNat:=oW tk
 have hb:(t2 ts k).2<n.toNat:=oV tk
 have em:(l++[k]).map (t2 ts)=l.map (t2 ts)++[((t2 ts k).1,(t2 ts k).2)]:=by rw[uao];rfl
 rw[em,nN,uey]
 by_cases e:M.getD (t2 ts k).1 0=M.getD (t2 ts k).2 0
 ·have cB:cnB ts l k=true:=cnB_iff.mpr ((mk.2 _ _ ha hb).mp e)
  rw[ufo cB,ubb]
  exact⟨M,mk.same ha hb e,le,c⟩
 ·have cB:¬ cnB ts l k=true:=λ z=>e ((mk.2 _ _ ha hb).mpr (cnB_iff.mp z))
  rw[ufp cB,g9,uaf]
  obtain⟨p1,c1⟩:=c.join (fZ (by rw[mk.1];exact ha)) (fZ (by rw[mk.1];exact hb)) e
  exact⟨_,mk.join ha hb e,by left,by rw[Nat.sub_add_eq];exact c1⟩
noncomputable def pcN (n:Int)(ts:List Tie)(ks:List Nat):Nat:=n.toNat-(rgN ts [] ks).length
theorem zT {n:Nat}{E E':List Frs.T2}{M M':List Nat}(h:Frs.Mk n E M)(k:Frs.Mk n E' M')(e:∀ t,t∈E↔t∈E')(u v:Nat)(hu:u<n)(hv:v<n):M.getD u 0=M.getD v 0↔M'.getD u 0=M'.getD v 0:=(h.2 u v hu hv).trans ((Frs.Cn.iff e).trans (k.2 u v hu hv).symm)
theorem xM {ts:List Tie}{ks ks':List Nat}(h:∀ j,j∈ks↔j∈ks')(t:Frs.T2):t∈ks.map (t2 ts)↔t∈ks'.map (t2 ts):=by
 rw[o7,o7]
 exact⟨λ ⟨j,a,b⟩=>⟨j,(h j).mp a,b⟩,λ ⟨j,a,b⟩=>⟨j,(h j).mpr a,b⟩⟩
theorem vQ {n:Int}{ts:List Tie}(ok:WebOk n ts){os ks:List Nat}(ho:∀ k∈os,k<ts.length){M:List Nat}(mk:Frs.Mk n.toNat (ks.map (t2 ts)) M)(e:∀ j,j∈os↔j∈ks):Cnt M (pcN n ts os):=by
 obtain⟨M0,m0,_,c0⟩:=eS ok os ho
 refine c0.like (by rw[m0.1,mk.1]) λ u v hu hv=>?_
 rw[m0.1] at hu hv
 exact zT m0 mk (xM e) u v hu hv
theorem za2 {n:Int}{ts:List Tie}(ok:WebOk n ts){os ks:List Nat}(ho:∀ k∈os,k<ts.length)(e:∀ j,j∈os↔j∈ks):pcN n ts os=pcN n ts ks:=by
 obtain⟨M0,m0,_,c0⟩:=eS ok ks λ k hk=>ho k ((e k).mpr hk)
 exact (vQ ok ho m0 e).one c0
theorem gU {n:Int}{ts:List Tie}(ok:WebOk n ts){os:List Nat}(ho:∀ k∈os,k<ts.length):((rgN ts [] os).length:Int)=n-(pcN n ts os:Int):=by
 obtain⟨_,_,le,_⟩:=eS ok os ho
 have n1:=ok.n1
 unfold pcN;left
def TD:Nat->r6->Prop
 | 0,d=>(∃ i,d=.int i)\/∃ x,d=.str x/\uck x=true
 | m+1,d=>(∃ i,d=.int i)\/(∃ x,d=.str x/\uck x=true)\/∃ ds,d=.tuple ds/\ds.length<=100/\∀ x∈ds,TD m x
theorem TD.int (m:Nat)(i:Int):TD m (.int i):=by cases m <;> exact .inl ⟨i,rfl⟩
theorem TD.str (m:Nat){x:Str}(h:uck x=true):TD m (.str x):=by
 cases m with
 | zero=>exact .inr ⟨x,rfl,h⟩
 | succ m=>exact .inr (.inl ⟨x,rfl,h⟩)
theorem TD.up:∀ {m:Nat}{d:r6},TD m d->TD (m+1) d
 | 0,d,h=>h.elim (λ ⟨i,e⟩=>.inl ⟨i,e⟩) λ ⟨x,e⟩=>.inr (.inl ⟨x,e⟩)
 | m+1,d,h=>h.elim .inl λ h=>.inr (h.elim .inl λ ⟨ds,e,l,a⟩=>.inr ⟨ds,e,l,λ x hx=>TD.up (a x hx)⟩)
theorem TD.mono {m m':Nat}{d:r6}(h:TD m d)(le:m<=m'):TD m' d:=by
 obtain⟨j,rfl⟩:=Nat.exists_eq_add_of_le le
 clear le
 induction j with
 | zero=>exact h
 | succ j ih=>exact ih.up
theorem TD.ints (m:Nat){hs:List Int}(h:hs.length<=100):TD (m+1) (.tuple (hs.map .int)):=.inr (.inr ⟨_,rfl,by rw[c7];exact h,λ x hx=>by
 obtain⟨i,_,rfl⟩:=o7.mp hx
 exact TD.int _ _⟩)
theorem TD.all {m:Nat}{ds:List r6}(h:TD (m+1) (.tuple ds)):ds.length<=100/\∀ x∈ds,TD m x:=by
 rcases h with ⟨i,e⟩ | ⟨x,e,_⟩ | ⟨ds',e,l,a⟩
 ·cases e
 ·cases e
 ·cases e;exact⟨l,a⟩
theorem TD.list {m:Nat}{ds:List r6}:¬ TD m (.list ds):=by
 cases m with
 | zero=>rintro (⟨i,e⟩ | ⟨x,e,_⟩) <;> cases e
 | succ m=>rintro (⟨i,e⟩ | ⟨x,e,_⟩ | ⟨ds,e,_⟩) <;> cases e
theorem nV:∀ {ds:List r6},(∀ x∈ds,x.canLay0=true)->ucj ds=true
 | [],_=>rfl
 | d::r,h=>by
  show (PyData.canLay0 d&&ucj r)=true
  rw[h d i3,nV λ x hx=>h x (j7 _ hx)];rfl
theorem TD.lay:∀ {m:Nat}{d:r6},TD m d->d.canLay0=true
 | 0,d,h=>by
  rcases h with ⟨i,rfl⟩ | ⟨x,rfl,e⟩
  ·rfl
  ·exact e
 | m+1,d,h=>by
  rcases h with ⟨i,rfl⟩ | ⟨x,rfl,e⟩ | ⟨ds,rfl,_,a⟩
  ·rfl
  ·exact e
  ·show ucj ds=true
   exact nV λ x hx=>(a x hx).lay
theorem nI:∀ {ds:List r6},(∀ x∈ds,tupD x=true)->tupAll ds=true
 | [],_=>rfl
 | d::r,h=>by
  show (tupD d&&tupAll r)=true
  rw[h d i3,nI λ x hx=>h x (j7 _ hx)];rfl
theorem TD.tup:∀ {m:Nat}{d:r6},TD m d->tupD d=true
 | 0,d,h=>by rcases h with ⟨i,rfl⟩ | ⟨x,rfl,e⟩ <;> rfl
 | m+1,d,h=>by
  rcases h with ⟨i,rfl⟩ | ⟨x,rfl,e⟩ | ⟨ds,rfl,_,a⟩
  ·rfl
  ·rfl
  ·exact nI λ x hx=>(a x hx).tup
def toI:r6->Int
 | .int i=>i
 | _=>0
def undD (m:Nat)(ks os:List Nat):r6->Bool
 | .int k=>(decide (0<=k)&&decide (k<(m:Int)))&&(!decide (k.toNat∈ks)&&!decide (k.toNat∈os))
 | _=>false
noncomputable def holdD (n:Int)(ts:List Tie)(ks:List Nat):r6->Bool
 | .tuple hs=>wholesB (.tuple hs)&&holdB n ts ks (hs.map toI)
 | _=>false
noncomputable def beyD (n:Int)(ts:List Tie)(ks:List Nat)(t:Int)(k:Nat):r6->Bool
 | .tuple hs=>wholesB (.tuple hs)&&beyondI n ts ks t k (hs.map toI)
 | _=>false
noncomputable def farD (n:Int)(ts:List Tie)(t:Int)(os:List Nat)(e h:r6):Bool:=match e with
 | .int k=>((decide (0<=k)&&decide (k<(ts.length:Int)))&&decide (k.toNat∈os))&&beyD n ts (outs ts.length os) t k.toNat h
 | _=>false
noncomputable def keptF (ts:List Tie)(ks:List Nat):Int:=(ks.length:Int)+((rgN ts [] (d7 ts.length)).length:Int)-((rgN ts [] ks).length:Int)
def both:Option Int->Option Int->Option Int
 | some x,some y=>some (if y<x then y else x)
 | _,_=>none
noncomputable def shB (n:Int)(ts:List Tie)(t:Int)(r:r6->List Nat->List Nat->Option Int)(d:r6)(ks os:List Nat):Option Int:=match d with
 | .tuple [.str w]=>if w="kept" then some (keptF ts ks) else none
 | .tuple [.str w,e,h]=>if w="far" then (if farD n ts t os e h=true then some ((ts.length:Int)+1) else none) else none
 | .tuple [.str w,e,a,b]=>if w="tie" then (if undD ts.length ks os e=true then both (r a (ks++[(toI e).toNat]) os) (r b ks (os++[(toI e).toNat])) else none) else none
 | _=>none
noncomputable def shF (n:Int)(ts:List Tie)(t:Int):Nat->r6->List Nat->List Nat->Option Int
 | 0,_,_,_=>none
 | m+1,d,ks,os=>shB n ts t (shF n ts t m) d ks os
theorem xH {m:Nat}{os os':List Nat}(h:∀ j,j∈os↔j∈os'):outs m os=outs m os':=by
 unfold outs
 exact List.filter_congr λ k _=>by rw[decide_eq_decide];exact not_congr (h k)
theorem zac {n:Int}{ts:List Tie}{t:Int}{os os':List Nat}(h:∀ j,j∈os↔j∈os')(e a:r6):farD n ts t os e a=farD n ts t os' e a:=by
 cases e <;> try rfl
 rename_i k
 show (((decide (0<=k)&&decide (k<(ts.length:Int)))&&decide (k.toNat∈os))&&beyD n ts (outs ts.length os) t k.toNat a)=(((decide (0<=k)&&decide (k<(ts.length:Int)))&&decide (k.toNat∈os'))&&beyD n ts (outs ts.length os') t k.toNat a)
 rw[xH h,decide_eq_decide.mpr (h k.toNat)]
theorem yS {m:Nat}{ks ks' os os':List Nat}(hk:∀ j,j∈ks↔j∈ks')(h:∀ j,j∈os↔j∈os')(e:r6):undD m ks os e=undD m ks' os' e:=by
 cases e <;> try rfl
 rename_i k
 show ((decide (0<=k)&&decide (k<(m:Int)))&&(!decide (k.toNat∈ks)&&!decide (k.toNat∈os)))=((decide (0<=k)&&decide (k<(m:Int)))&&(!decide (k.toNat∈ks')&&!decide (k.toNat∈os')))
 rw[decide_eq_decide.mpr (h k.toNat),decide_eq_decide.mpr (hk k.toNat)]
theorem jE {m:Nat}{ks os:List Nat}{e:r6}(h:undD m ks os e=true):∃ k:Nat,e=.int (k:Int)/\k<m/\k∉ks/\k∉os/\(toI e).toNat=k:=by
 cases e with
 | int k =>
  have h':((decide (0<=k)&&decide (k<(m:Int)))&&(!decide (k.toNat∈ks)&&!decide (k.toNat∈os)))=true:=h
  simp only [r9,decide_eq_true_eq,Bool.not_eq_true',decide_eq_false_iff_not] at h'
  exact⟨k.toNat,by rw[show ((k.toNat:Nat):Int)=k by left],by left,h'.2.1,h'.2.2,rfl⟩
 | _=>cases h
theorem iK {n:Int}{ts:List Tie}(ok:WebOk n ts){ks ks':List Nat}(p:ks.Perm ks')(h:∀ k∈ks,k<ts.length):keptF ts ks=keptF ts ks':=by
 unfold keptF
 rw[p.length_eq,gU ok h,gU ok (os:=ks') (λ k hk=>h k (p.mem_iff.mpr hk)),za2 ok h λ j=>p.mem_iff]
theorem eC {n:Int}{ts:List Tie}{t:Int}(ok:WebOk n ts):∀ (m:Nat)(d:r6)(ks ks' os os':List Nat),ks.Perm ks'->os.Perm os'->(∀ k∈ks,k<ts.length)->shF n ts t m d ks os=shF n ts t m d ks' os'
 | 0,_,_,_,_,_,_,_,_=>rfl
 | m+1,d,ks,ks',os,os',pk,po,h=>by
  have ek:∀ j,j∈ks↔j∈ks':=λ j=>pk.mem_iff
  have eo:∀ j,j∈os↔j∈os':=λ j=>po.mem_iff
  show shB n ts t (shF n ts t m) d ks os=shB n ts t (shF n ts t m) d ks' os'
  unfold shB
  split
  ·rw[iK ok pk h]
  ·rw[zac eo]
  ·rename_i w e a b
   rw[yS ek eo e]
   by_cases c:w="tie"
   ·rw[ufo c,ufo c]
    by_cases c2:undD ts.length ks' os' e=true
    ·rw[ufo c2,ufo c2]
     obtain⟨k,rfl,kl,_⟩:=jE c2
     rw[eC ok m a _ _ os os' (pk.append_right [(toI (.int (k:Int))).toNat]) po λ j hj=>?_,eC ok m b ks ks' _ _ pk (po.append_right [(toI (.int (k:Int))).toNat]) h]
     rcases m5.mp hj with z | z
     ·exact h j z
     ·rw[i5.mp z];exact kl
    ·rw[ufp c2,ufp c2]
   ·rw[ufp c,ufp c]
  ·rfl
theorem iS {n:Int}{ts:List Tie}{t:Int}:∀ (m:Nat){d:r6}{ks os:List Nat}{x:Int},shF n ts t m d ks os=some x->shF n ts t (m+1) d ks os=some x
 | 0,_,_,_,_,h=>by cases h
 | m+1,d,ks,os,x,h=>by
  replace h:shB n ts t (shF n ts t m) d ks os=some x:=h
  show shB n ts t (shF n ts t (m+1)) d ks os=some x
  unfold shB at h ⊢
  split at h
  ·exact h
  ·exact h
  ·rename_i w e a b
   by_cases c:w="tie"
   ·rw[ufo c] at h
    show (if w="tie" then _ else _)=_
    rw[ufo c]
    by_cases c2:undD ts.length ks os e=true
    ·rw[ufo c2] at h
     rw[ufo c2]
     cases e1:shF n ts t m a (ks++[(toI e).toNat]) os with
     | none=>rw[e1] at h;cases h
     | some y =>
      cases e2:shF n ts t m b ks (os++[(toI e).toNat]) with
      | none=>rw[e1,e2] at h;cases h
      | some z=>rw[iS m e1,iS m e2];rw[e1,e2] at h;exact h
    ·rw[ufp c2] at h;cases h
   ·rw[ufp c] at h;cases h
  ·cases h
theorem gE {n:Int}{ts:List Tie}{t:Int}{m m':Nat}{d:r6}{ks os:List Nat}{x:Int}(h:shF n ts t m d ks os=some x)(le:m<=m'):shF n ts t m' d ks os=some x:=by
 obtain⟨j,rfl⟩:=Nat.exists_eq_add_of_le le
 clear le
 induction j with
 | zero=>exact h
 | succ j ih=>exact iS _ ih
section
variable {n:Int}{ts:List Tie}{ks ks':List Nat}{t:Int}
theorem yR {u v:Nat}{x:Int}(w:Far.Walk (arcs ts ks) u v x):Frs.Cn (ks.map (t2 ts)) u v:=by
 induction w with
 | nil=>exact .nil
 | @snoc a b l x _ m ih =>
  obtain⟨k,hk,m⟩:=arcs_mem.mp m
  refine .snoc ih ?_
  have mk:((tieAt ts k).1.toNat,(tieAt ts k).2.1.toNat)∈ks.map (t2 ts):=o7.mpr ⟨k,hk,rfl⟩
  rcases arcs2_mem.mp m with e | e
  ·have e1:a=(tieAt ts k).1.toNat:=congrArg (·.1) e
   have e2:b=(tieAt ts k).2.1.toNat:=congrArg (·.2.1) e
   exact .inl (by rw[e1,e2];exact mk)
  ·have e1:a=(tieAt ts k).2.1.toNat:=congrArg (·.1) e
   have e2:b=(tieAt ts k).1.toNat:=congrArg (·.2.1) e
   exact .inr (by rw[e1,e2];exact mk)
theorem kT (sub:∀ k∈ks,k∈ks'){u v:Nat}{x:Int}(w:Far.Walk (arcs ts ks) u v x):Far.Walk (arcs ts ks') u v x:=by
 induction w with
 | nil=>exact .nil
 | snoc _ m ih =>
  obtain⟨j,hj,m⟩:=arcs_mem.mp m
  exact .snoc ih (arcs_mem.mpr ⟨j,sub j hj,m⟩)
theorem cW (m:Nat)(ks:List Nat):KeepOk m (outs m ks):=⟨udk.sublist ubj,λ k hk=>(outs_mem.mp hk).1⟩
theorem zbh (h:∀ k∈ks',Frs.Cn (ks.map (t2 ts)) (t2 ts k).1 (t2 ts k).2){u v:Nat}(c:Frs.Cn (ks'.map (t2 ts)) u v):Frs.Cn (ks.map (t2 ts)) u v:=by
 induction c with
 | nil=>exact .nil
 | snoc _ m ih =>
  rcases m with m | m
  ·obtain⟨k,hk,e⟩:=o7.mp m
   have:=h k hk
   rw[e] at this
   exact ih.app this
  ·obtain⟨k,hk,e⟩:=o7.mp m
   have:=h k hk
   rw[e] at this
   exact ih.app this.back
theorem zbl (ok:WebOk n ts)(h1:∀ k∈ks,k<ts.length)(h2:∀ k∈ks',k<ts.length)(h:∀ u v,Frs.Cn (ks.map (t2 ts)) u v↔Frs.Cn (ks'.map (t2 ts)) u v):pcN n ts ks=pcN n ts ks':=by
 obtain⟨M,m1,_,c1⟩:=eS ok ks h1
 obtain⟨M',m2,_,c2⟩:=eS ok ks' h2
 refine (c1.like (M':=M') (by rw[m1.1,m2.1]) λ u v hu hv=>?_).one c2
 rw[m1.1] at hu hv
 exact (m1.2 u v hu hv).trans ((h u v).trans (m2.2 u v hu hv).symm)
theorem zR (ok:WebOk n ts)(ko:KeepOk ts.length ks)(a:allIn ts ks t):∀ k∈d7 ts.length,Frs.Cn (ks.map (t2 ts)) (t2 ts k).1 (t2 ts k).2:=λ k hk=>by
 have hkl:=l9.mp hk
 by_cases c:k∈ks
 ·exact .one (o7.mpr ⟨k,c,rfl⟩)
 ·have w:=a k (outs_mem.mpr ⟨hkl,c⟩)
  have d:=dC ok ko k
  cases e:gO ts ks k with
  | none=>rw[e] at w;cases w
  | some x=>exact yR (d.1 x e)
theorem zQ (ok:WebOk n ts)(ko:KeepOk ts.length ks)(a:allIn ts ks t):pcN n ts ks=pcN n ts (d7 ts.length) :=
 zbl ok ko.2 (λ k hk=>l9.mp hk) λ u v=>⟨λ c=>c.more λ e he=>by
  obtain⟨k,hk,rfl⟩:=o7.mp he
  exact o7.mpr ⟨k,l9.mpr (ko.2 k hk),rfl⟩,λ c=>zbh (zR ok ko a) c⟩
theorem zP (ok:WebOk n ts)(ko:KeepOk ts.length ks)(a:allIn ts ks t):(rgN ts [] ks).length=(rgN ts [] (d7 ts.length)).length:=by
 have h1:=gU ok ko.2
 have h2:=gU ok (os:=d7 ts.length) λ k hk=>l9.mp hk
 rw[zQ ok ko a] at h1
 left
theorem fS (ok:WebOk n ts)(ko:KeepOk ts.length ks)(a:allIn ts ks t):keptF ts ks=(ks.length:Int):=by
 unfold keptF
 rw[zP ok ko a];left
theorem jG:∀ {l r done:List Nat},rgN ts done (l++r)=rgN ts done l++rgN ts (done++l) r
 | [],r,done=>by rw[ubb];rfl
 | j::l,r,done=>by
  have ih:=jG (l:=l) (r:=r) (done:=done++[j])
  rw[ub7] at ih
  show (if cnB ts done j=true then rgN ts (done++[j]) (l++r) else j::rgN ts (done++[j]) (l++r))=(if cnB ts done j=true then rgN ts (done++[j]) l else j::rgN ts (done++[j]) l)++_
  by_cases c:cnB ts done j=true
  ·rw[ufo c,ufo c,ih];rfl
  ·rw[ufp c,ufp c,ih];rfl
theorem vU (ok:WebOk n ts)(ko:KeepOk ts.length ks)(ko':KeepOk ts.length ks')(sub:∀ k∈ks,k∈ks'):keptF ts ks<=keptF ts ks':=by
 obtain⟨rest,er⟩:∃ rest,rest=ks'.filter λ k=>decide (k∉ks):=⟨_,rfl⟩
 have nd:=ko.1.imp (S:=(·≠·)) λ h=>j6 h
 have nd':=ko'.1.imp (S:=(·≠·)) λ h=>j6 h
 have p:(ks++rest).Perm ks':=(uav (uak.mpr ⟨nd,by rw[er];exact ufe ubj nd',λ a ha b hb e=>by
  rw[er] at hb
  exact ufl (z0.mp hb).2 (e ▸ ha)⟩) nd').mpr λ k=>by
   rw[m5,er,z0]
   constructor
   ·rintro (h | h)
    ·exact sub k h
    ·exact h.1
   ·intro h
    by_cases c:k∈ks
    ·exact .inl c
    ·exact .inr ⟨h,ufk c⟩
 have hin:∀ k∈ks++rest,k<ts.length:=λ k hk=>ko'.2 k (p.mem_iff.mp hk)
 rw[← iK ok p hin]
 unfold keptF
 have l1:=(gT (ts:=ts) (rest:=rest) (done:=[]++ks)).length_le
 rw[jG,g9,g9]
 left
theorem hW (ok:WebOk n ts)(ko:KeepOk ts.length ks)(ko':KeepOk ts.length ks')(sub:∀ k∈ks,k∈ks')(a:allIn ts ks t):allIn ts ks' t:=λ k hk=>by
 have hk':=outs_mem.mp hk
 have w:=a k (outs_mem.mpr ⟨hk'.1,λ z=>hk'.2 (sub k z)⟩)
 have d:=dC ok ko k
 have d':=dC ok ko' k
 cases e:gO ts ks k with
 | none=>rw[e] at w;cases w
 | some x =>
  rw[e] at w
  have wk:=d.1 x e
  have wk':=kT (ts:=ts) sub wk
  obtain⟨y,ey,le⟩:=d'.2 x wk'
  rw[ey]
  have w':decide (x<=t*(tieAt ts k).2.2)=true:=w
  show decide (y<=t*(tieAt ts k).2.2)=true
  exact ufk (udw le (ufl w'))
theorem mP (ts:List Tie)(t:Int):allIn ts (d7 ts.length) t:=λ k hk=>absurd (l9.mpr (outs_mem.mp hk).1) (outs_mem.mp hk).2
end
def behB (ks:List Nat)(k:Nat):Bool:=ks.all λ j=>decide (j<k)
def szN (m:Nat):Nat->List (List Nat)
 | 0=>[[]]
 | r+1=>(szN m r).flatMap λ ks=>((d7 m).filter (behB ks)).map λ k=>ks++[k]
theorem fH {m:Nat}:∀ {r:Nat}{ks:List Nat},ks∈szN m r->KeepOk m ks/\ks.length=r
 | 0,ks,h=>by
  rw[i5.mp h];exact⟨⟨.nil,λ k h=>by cases h⟩,rfl⟩
 | r+1,ks,h=>by
  obtain⟨ls,hl,h⟩:=udh.mp h
  obtain⟨k,hk,rfl⟩:=o7.mp h
  obtain⟨h1,h2⟩:=z0.mp hk
  obtain⟨ko,e⟩:=fH hl
  have hb:∀ j∈ls,j<k:=λ j hj=>ufl (uap.mp h2 j hj)
  refine⟨⟨uct.mpr ⟨ko.1,ufi _ _,λ a ha b hb'=>by rw[i5.mp hb'];exact hb a ha⟩,λ j hj=>?_⟩,by rw[g9,e];rfl⟩
  rcases m5.mp hj with z | z
  ·exact ko.2 j z
  ·rw[i5.mp z];exact l9.mp h1
theorem oF {m:Nat}(ks:List Nat):KeepOk m ks->ks∈szN m ks.length:=by
 refine nO (P:=λ ks=>KeepOk m ks->ks∈szN m ks.length) (λ _=>i5.mpr rfl) (λ l k ih h=>?_) ks
 have pw:=uct.mp h.1
 have kl:KeepOk m l:=⟨pw.1,λ j hj=>h.2 j (uab _ hj)⟩
 rw[g9]
 refine udh.mpr ⟨l,ih kl,o7.mpr ⟨k,z0.mpr ⟨l9.mpr (h.2 k (m9 _ i3)),?_⟩,rfl⟩⟩
 exact uap.mpr λ j hj=>ufk (pw.2.2 j hj k i3)
def IsFst (ts:List Tie)(t:Int)(ks:List Nat):Prop:=∃ r i:Nat,(szN ts.length r)[i]?=some ks/\allIn ts ks t/\(∀ (j:Nat)(ks':List Nat),j<i->(szN ts.length r)[j]?=some ks'->¬ allIn ts ks' t)/\∀ (r':Nat)(ks':List Nat),r'<r->ks'∈szN ts.length r'->¬ allIn ts ks' t
section
variable {n:Int}{ts:List Tie}{t:Int}{ks ks':List Nat}
theorem IsFst.ok (h:IsFst ts t ks):KeepOk ts.length ks/\allIn ts ks t:=let ⟨_,_,e,a,_⟩:=h;⟨(fH (i6 e)).1,a⟩
theorem IsFst.least (h:IsFst ts t ks)(ko:KeepOk ts.length ks')(a:allIn ts ks' t):ks.length<=ks'.length:=by
 obtain⟨r,i,e,_,_,c⟩:=h
 have l:=(fH (i6 e)).2
 rcases ub2 ks'.length ks.length with z | z
 ·exact absurd a (c ks'.length ks' (by left) (oF ks' ko))
 ·exact z
noncomputable def tdF (n:Int)(ts:List Tie)(ks:List Nat)(t:Int):r6:=@Classical.epsilon r6 ⟨.none⟩ (TdD n ts ks t)
theorem jR {d:r6}(h:TdD n ts ks t d):d=tdF n ts ks t:=h.one (Classical.epsilon_spec_aux ⟨.none⟩ (TdD n ts ks t) ⟨d,h⟩)
def keptD:r6:=.tuple [.str "kept"]
noncomputable def trF (n:Int)(ts:List Tie)(t:Int)(many:Int):Nat->List Nat->List Nat->r6
 | 0,_,_=>keptD
 | c+1,ks,os=>@ite _ (many<=keptF ts ks) (Classical.propDecidable _) keptD (@ite _ (allIn ts (outs ts.length os) t) (Classical.propDecidable _) (match outs ts.length (ks++os) with
  | []=>keptD
  | k::_=>.tuple [.str "tie",.int (k:Int),trF n ts t many c (insN ks k) os,trF n ts t many c ks (insN os k)]) (tdF n ts (outs ts.length os) t))
theorem vZ {l:List Nat}{P:Nat->Prop}:(¬ ∀ k∈l,P k)->∃ i k:Nat,l[i]?=some k/\¬ P k/\∀ j k',j<i->l[j]?=some k'->P k':=by
 intro h
 induction l with
 | nil=>exact absurd (λ k hk=>by cases hk) h
 | cons x r ih =>
  by_cases c:P x
  ·obtain⟨i,k,e,np,al⟩:=ih λ z=>h λ k hk=>by
    rcases k8.mp hk with rfl | hk
    ·exact c
    ·exact z k hk
   refine⟨i+1,k,by rw[ubh];exact e,np,λ j k' hj e'=>?_⟩
   cases j with
   | zero=>cases e';exact c
   | succ j=>rw[ubh] at e';exact al j k' (by left) e'
  ·exact⟨0,x,rfl,c,λ j k' hj=>by left⟩
theorem oS {ks:List Nat}(ko:KeepOk ts.length ks)(no:¬ allIn ts ks t):∃ d,TdD n ts ks t d:=by
 obtain⟨i,k,e,np,al⟩:=vZ (l:=outs ts.length ks) (P:=winK ts ks t) λ z=>no λ k hk=>z k hk
 exact⟨_,.far ⟨e,np,al⟩⟩
theorem mU (ok:WebOk n ts){os:List Nat}{d:r6}(t1:1<=t)(h:TdD n ts (outs ts.length os) t d)(no:¬ allIn ts (outs ts.length os) t):∃ (k:Nat)(hs:List Int),d=.tuple [.str "far",.int (k:Int),.tuple (hs.map .int)]/\hs.length=n.toNat/\farD n ts t os (.int (k:Int)) (.tuple (hs.map .int))=true:=by
 cases h with
 | keeps a=>exact absurd a no
 | @far i k f =>
  have ko:=cW ts.length os
  have hk:=outs_mem.mp (i6 f.1)
  have hko:k∈os:=by
   by_cases c:k∈os
   ·exact c
   ·exact absurd (outs_mem.mpr ⟨hk.1,c⟩) hk.2
  have tk:=ok.tie _ (bG hk.1).2
  refine⟨k,htK n ts (outs ts.length os) t k,rfl,zaa _ _ _ _ _,?_⟩
  show (((decide (0<=(k:Int))&&decide ((k:Int)<(ts.length:Int)))&&decide ((k:Int).toNat∈os))&&(wholesB (.tuple ((htK n ts (outs ts.length os) t k).map .int))&&beyondI n ts (outs ts.length os) t (k:Int).toNat (((htK n ts (outs ts.length os) t k).map udm).map toI)))=true
  have eI:((htK n ts (outs ts.length os) t k).map udm).map toI=htK n ts (outs ts.length os) t k:=by
   rw[uam];conv=>rhs;rw[← ud1 (htK n ts (outs ts.length os) t k)]
   rfl
  rw[ufk (show 0<=(k:Int) by left),ufk (show (k:Int)<(ts.length:Int) by left),u4,ufk hko,kE,eI]
  have lD:=jC n ts (outs ts.length os) (tieAt ts k).1.toNat
  have hD:∀ v,v<n.toNat->Far.Dst (arcs ts (outs ts.length os)) (tieAt ts k).1.toNat v (Far.get (dKL n ts (outs ts.length os) (tieAt ts k).1.toNat) v):=λ v hv=>by rw[zaf hv];exact jL ok ko _ _
  have hold:=nB (roof:=t*(tieAt ts k).2.2+1) ok ko lD hD
  have tl:0<=t*(tieAt ts k).2.2:=uff (by left) (by left)
  have at_:∀ a:Int,0<=a->a<n->hAt (htK n ts (outs ts.length os) t k) a=capO (t*(tieAt ts k).2.2+1) (dK ts (outs ts.length os) (tieAt ts k).1.toNat a.toNat):=λ a h0 h1=>by
   unfold hAt htK
   rw[d3,j5,jM (by left)];rfl
  have hA:hAt (htK n ts (outs ts.length os) t k) (tieAt ts k).1=0:=by
   rw[at_ _ (by left) (by left)]
   have d:=jL ok ko (tieAt ts k).1.toNat (tieAt ts k).1.toNat
   obtain⟨y,e,le⟩:=d.2 _ .nil
   have ge:=(d.1 y e).nonneg (eB ok ko)
   have y0:y=0:=by left
   rw[e,y0]
   show (if t*(tieAt ts k).2.2+1<0 then t*(tieAt ts k).2.2+1 else 0)=0
   rw[ufp (by left)]
  have hB:hAt (htK n ts (outs ts.length os) t k) (tieAt ts k).2.1=t*(tieAt ts k).2.2+1:=by
   rw[at_ _ (by left) (by left)]
   have nw:=f.2.1
   unfold winK at nw
   rw[← oU ok ko (dC ok ko k)]
   cases e:gO ts (outs ts.length os) k with
   | none=>rfl
   | some x =>
    rw[e] at nw
    have:¬ x<=t*(tieAt ts k).2.2:=λ z=>nw (show decide (x<=_)=true from ufk z)
    show (if t*(tieAt ts k).2.2+1<x then t*(tieAt ts k).2.2+1 else x)=_
    split <;> left
  unfold beyondI
  rw[show holdB n ts (outs ts.length os) (htK n ts (outs ts.length os) t k)=true from hold]
  show decide (acrossI ts (htK n ts (outs ts.length os) t k) k>t*(tieAt ts k).2.2)=true
  refine ufk ?_
  unfold acrossI absI
  rw[hA,hB]
  split <;> left
theorem uM {m:Nat}{ks os:List Nat}:shF n ts t (m+1) keptD ks os=some (keptF ts ks):=by
 show shB n ts t (shF n ts t m) keptD ks os=_
 unfold shB keptD;exact ufo rfl
theorem fV {m:Nat}{ks:List Nat}{k:Nat}(ko:KeepOk m ks)(hk:k∉ks):(insN ks k).Perm (ks++[k]):=by
 refine (uav ((eX ko.1).imp λ h=>j6 h) (uak.mpr ⟨ko.1.imp λ h=>j6 h,(by simp),λ a ha b hb e=>?_⟩)).mpr λ j=>by rw[ins_mem,m5,i5]
 have:b=k:=by simpa using hb
 subst this;subst e;exact hk ha
theorem iC (ok:WebOk n ts)(t1:1<=t){many:Nat}(least:∀ S,KeepOk ts.length S->allIn ts S t->many<=S.length)(mm:many<=ts.length):∀ (c:Nat)(ks os:List Nat),KeepOk ts.length ks->KeepOk ts.length os->(∀ k∈ks,k∉os)->ts.length+1<=ks.length+os.length+c->∃ x,shF n ts t c (trF n ts t many c ks os) ks os=some x/\(many:Int)<=x/\∀ S,KeepOk ts.length S->allIn ts S t->S.length=many->(∀ k∈ks,k∈S)->(∀ k∈os,k∉S)->x=many
 | 0,ks,os,ko,oo,dj,le=>by
  exfalso
  have nd:(ks++os).Nodup:=uak.mpr ⟨ko.1.imp λ h=>j6 h,oo.1.imp λ h=>j6 h,λ a ha b hb e=>dj a ha (e ▸ hb)⟩
  have:=Peel.fU ts.length (ks++os) nd λ k hk=>(m5.mp hk).elim (ko.2 k) (oo.2 k)
  rw[g9] at this
  left
 | c+1,ks,os,ko,oo,dj,le=>by
  show ∃ x,shF n ts t (c+1) (@ite _ ((many:Int)<=keptF ts ks) (Classical.propDecidable _) keptD _) ks os=some x/\_
  by_cases c1:(many:Int)<=keptF ts ks
  ·rw[ufo c1]
   refine⟨_,uM,c1,λ S so sa sl sub _=>?_⟩
   have:=vU ok ko so sub
   rw[fS ok so sa,sl] at this
   left
  rw[ufp c1]
  by_cases c2:allIn ts (outs ts.length os) t
  ·rw[ufo c2]
   cases eo:outs ts.length (ks++os) with
   | nil =>
    exfalso
    have sub:∀ k∈outs ts.length os,k∈ks:=λ k hk=>by
     have h:=outs_mem.mp hk
     by_cases z:k∈ks
     ·exact z
     ·have:k∈outs ts.length (ks++os):=outs_mem.mpr ⟨h.1,λ y=>(m5.mp y).elim z h.2⟩
      rw[eo] at this;cases this
    have a:=hW ok (cW _ _) ko sub c2
    have l:=least ks ko a
    rw[fS ok ko a] at c1
    left
   | cons k r =>
    have hk:=outs_mem.mp (show k∈outs ts.length (ks++os) by rw[eo];exact i3)
    have nk:k∉ks:=λ z=>hk.2 (uab _ z)
    have no:k∉os:=λ z=>hk.2 (m9 _ z)
    have pk:=fV ko nk
    have po:=fV oo no
    have lk:(insN ks k).length=ks.length+1:=by rw[pk.length_eq,g9];rfl
    have lo:(insN os k).length=os.length+1:=by rw[po.length_eq,g9];rfl
    obtain⟨x,ex,mx,sx⟩:=iC ok t1 least mm c (insN ks k) os (cK ko hk.1) oo (λ j hj=>(ins_mem.mp hj).elim (dj j) λ e=>e ▸ no) (by left)
    obtain⟨y,ey,my,sy⟩:=iC ok t1 least mm c ks (insN os k) ko (cK oo hk.1) (λ j hj z=>(ins_mem.mp z).elim (dj j hj) λ e=>nk (e ▸ hj)) (by left)
    rw[eC ok c _ _ _ os os pk (ucg _) (cK ko hk.1).2] at ex
    rw[eC ok c _ ks ks _ _ (ucg _) po ko.2] at ey
    refine⟨if y<x then y else x,?_,by split <;> left,λ S so sa sl sub out=>?_⟩
    ·show shB n ts t (shF n ts t c) (.tuple [.str "tie",.int (k:Int),_,_]) ks os=_
     unfold shB
     show (if _ then _ else _)=_
     have u:undD ts.length ks os (.int (k:Int))=true:=by
      show ((decide (0<=(k:Int))&&decide ((k:Int)<(ts.length:Int)))&&(!decide ((k:Int).toNat∈ks)&&!decide ((k:Int).toNat∈os)))=true
      rw[u4,ufk (show 0<=(k:Int) by left),ufk (show (k:Int)<(ts.length:Int) by left),ufm nk,ufm no];rfl
     rw[ufo rfl,ufo u,show (toI (.int (k:Int))).toNat=k from u4 k,ex,ey];rfl
    ·by_cases z:k∈S
     ·have:=sx S so sa sl (λ j hj=>(ins_mem.mp hj).elim (sub j) λ e=>e ▸ z) out
      split <;> left
     ·have:=sy S so sa sl sub (λ j hj=>(ins_mem.mp hj).elim (out j) λ e=>e ▸ z)
      split <;> left
  ·rw[ufp c2]
   have ex:∃ d,TdD n ts (outs ts.length os) t d:=oS (cW _ _) c2
   obtain⟨d,hd⟩:=ex
   obtain⟨k,hs,e,lh,fd⟩:=mU ok t1 hd c2
   rw[← jR hd,e]
   refine⟨(ts.length:Int)+1,?_,by left,λ S so sa sl sub out=>?_⟩
   ·show shB n ts t (shF n ts t c) (.tuple [.str "far",.int (k:Int),.tuple (hs.map .int)]) ks os=_
    unfold shB
    show (if _ then _ else _)=_
    rw[ufo rfl,ufo fd]
   ·exact absurd (hW ok so (cW _ _) (λ j hj=>outs_mem.mpr ⟨so.2 j hj,λ z=>out j z hj⟩) sa) c2
end
section
variable {n:Int}{ts:List Tie}{t:Int}
theorem uL (ok:WebOk n ts){ks S:List Nat}(nd:ks.Nodup)(so:KeepOk ts.length S)(sub:∀ k∈ks,k∈S):keptF ts ks<=keptF ts S:=by
 obtain⟨rest,er⟩:∃ rest,rest=S.filter λ k=>decide (k∉ks):=⟨_,rfl⟩
 have nd':=so.1.imp (S:=(·≠·)) λ h=>j6 h
 have p:(ks++rest).Perm S:=(uav (uak.mpr ⟨nd,by rw[er];exact ufe ubj nd',λ a ha b hb e=>by
  rw[er] at hb
  exact ufl (z0.mp hb).2 (e ▸ ha)⟩) nd').mpr λ k=>by
   rw[m5,er,z0]
   constructor
   ·rintro (h | h)
    ·exact sub k h
    ·exact h.1
   ·intro h
    by_cases c:k∈ks
    ·exact .inl c
    ·exact .inr ⟨h,ufk c⟩
 have hin:∀ k∈ks++rest,k<ts.length:=λ k hk=>so.2 k (p.mem_iff.mp hk)
 rw[← iK ok p hin]
 unfold keptF
 have l1:=(gT (ts:=ts) (rest:=rest) (done:=[]++ks)).length_le
 rw[jG,g9,g9]
 left
theorem lG (ok:WebOk n ts){S ks:List Nat}(so:KeepOk ts.length S)(ko:KeepOk ts.length ks)(a:allIn ts S t){k:Nat}(kl:k<ts.length)(nk:k∉S)(sub:∀ j∈S,j∈ks):∃ y,Far.Walk (arcs ts ks) (tieAt ts k).1.toNat (tieAt ts k).2.1.toNat y/\y<=t*(tieAt ts k).2.2:=by
 have w:=a k (outs_mem.mpr ⟨kl,nk⟩)
 have d:=dC ok so k
 cases e:gO ts S k with
 | none=>rw[e] at w;cases w
 | some y =>
  rw[e] at w
  have w':decide (y<=t*(tieAt ts k).2.2)=true:=w
  exact⟨y,kT sub (d.1 y e),ufl w'⟩
theorem iR (ok:WebOk n ts){S:List Nat}(so:KeepOk ts.length S)(a:allIn ts S t):∀ (m:Nat){d:r6}{ks os:List Nat}{x:Int},shF n ts t m d ks os=some x->ks.Nodup->(∀ k∈ks,k∈S)->(∀ k∈os,k∉S)->x<=(S.length:Int)
 | 0,_,_,_,_,h,_,_,_=>by cases h
 | m+1,d,ks,os,x,h,nd,sub,out=>by
  replace h:shB n ts t (shF n ts t m) d ks os=some x:=h
  unfold shB at h
  split at h
  ·rename_i w
   by_cases c:w="kept"
   ·rw[ufo c] at h
    have e:keptF ts ks=x:=u6 h
    have:=uL ok nd so sub
    rw[fS ok so a] at this
    left
   ·rw[ufp c] at h;cases h
  ·rename_i w e hh
   by_cases c:w="far"
   ·rw[ufo c] at h
    by_cases c2:farD n ts t os e hh=true
    ·exfalso
     cases e with
     | int k =>
      have b':(((decide (0<=k)&&decide (k<(ts.length:Int)))&&decide (k.toNat∈os))&&beyD n ts (outs ts.length os) t k.toNat hh)=true:=c2
      rw[r9,r9,r9] at b'
      have k0:=ufl b'.1.1.1
      have k1:=ufl b'.1.1.2
      have ko:=ufl b'.1.2
      have kl:k.toNat<ts.length:=by left
      cases hh with
      | tuple hs =>
       have b2:(wholesB (.tuple hs)&&beyondI n ts (outs ts.length os) t k.toNat (hs.map toI))=true:=b'.2
       unfold beyondI at b2
       simp only [r9,decide_eq_true_eq] at b2
       have hold:=b2.2.1
       have far:=b2.2.2
       have oo:=cW ts.length os
       obtain⟨y,wk,le⟩:=lG ok so oo a kl (out _ ko) λ j hj=>outs_mem.mpr ⟨so.2 j hj,λ z=>out j z hj⟩
       have h1:=lL ok oo hold wk
       have h2:=lL ok oo hold (wk.back (iB ok oo))
       unfold acrossI absI hAt at far
       split at far <;> left
      | _=>cases b'.2
     | _=>cases c2
    ·rw[ufp c2] at h;cases h
   ·rw[ufp c] at h;cases h
  ·rename_i w e a' b
   by_cases c:w="tie"
   ·rw[ufo c] at h
    by_cases c2:undD ts.length ks os e=true
    ·rw[ufo c2] at h
     obtain⟨k,rfl,kl,nk,no,ek⟩:=jE c2
     rw[ek] at h
     cases e1:shF n ts t m a' (ks++[k]) os with
     | none=>rw[e1] at h;cases h
     | some y =>
      cases e2:shF n ts t m b ks (os++[k]) with
      | none=>rw[e1,e2] at h;cases h
      | some z =>
       rw[e1,e2] at h
       have hx:(if z<y then z else y)=x:=u6 h
       by_cases ck:k∈S
       ·have:=iR ok so a m e1 (uak.mpr ⟨nd,by simp,λ p hp q hq r=>nk (by rw[← i5.mp hq,← r];exact hp)⟩) (λ j hj=>(m5.mp hj).elim (sub j) λ r=>by rw[i5.mp r];exact ck) out
        split at hx <;> left
       ·have:=iR ok so a m e2 nd sub (λ j hj=>(m5.mp hj).elim (out j) λ r=>by rw[i5.mp r];exact ck)
        split at hx <;> left
    ·rw[ufp c2] at h;cases h
   ·rw[ufp c] at h;cases h
  ·cases h
theorem zS (ok:WebOk n ts){S:List Nat}(so:KeepOk ts.length S)(a:allIn ts S t){k:Nat}(h:k∈neededN ts (d7 ts.length) t):k∈S:=by
 obtain⟨h1,h2⟩:=z0.mp h
 have kl:=l9.mp h1
 by_cases c:k∈S
 ·exact c
 ·exfalso
  have bo:KeepOk ts.length (but (d7 ts.length) k):=jN (fW _)
  obtain⟨y,wk,le⟩:=lG ok so bo a kl c λ j hj=>z0.mpr ⟨l9.mpr (so.2 j hj),ufk λ z=>c (z ▸ hj)⟩
  obtain⟨z,ez,lz⟩:=(dC ok bo k).2 y wk
  rw[ez] at h2
  have:withinB t (tieAt ts k).2.2 (some z)=true:=ufk (show z<=t*(tieAt ts k).2.2 by left)
  rw[this] at h2;cases h2
theorem zO (ok:WebOk n ts){S:List Nat}{t':Int}(le:t<=t')(a:allIn ts S t):allIn ts S t':=λ k hk=>by
 have w:=a k hk
 have tk:=ok.tie _ (bG (outs_mem.mp hk).1).2
 cases e:gO ts S k with
 | none=>rw[e] at w;cases w
 | some x =>
  rw[e] at w
  have w':decide (x<=t*(tieAt ts k).2.2)=true:=w
  have:t*(tieAt ts k).2.2<=t'*(tieAt ts k).2.2:=uer le (by left)
  have:=ufl w'
  exact ufk (show x<=t'*(tieAt ts k).2.2 by left)
end
section
variable {X:Cx}
end
section
variable {X:Cx}
end
theorem gJ {β:Type}:∀ {l:List (Str × β)}{i:Nat}{k:Str}{v:β},(l.map (·.1)).Nodup->l[i]?=some (k,v)->l.lookup k=some v
 | (k',v')::l,0,k,v,_,h=>by
  rw[List.getElem?_cons_zero] at h
  cases h
  rw[uaj];simp
 | (k',v')::l,i+1,k,v,nd,h=>by
  rw[ubh] at h
  rw[ubg,ua5] at nd
  have hm:k∈l.map (·.1):=o7.mpr ⟨_,i6 h,rfl⟩
  have ne:(k==k')=false:=by
   rw[beq_eq_false_iff_ne]
   intro e
   exact nd.1 (e ▸ hm)
  rw[uaj,ne]
  exact gJ nd.2 h
theorem xN {β:Type}{l:List (Str × β)}{i:Nat}{k:Str}{v:β}(nd:(l.map (·.1)).Nodup)(h:l[i]?=some (k,v)):l.reverse.lookup k=some v:=by
 have hi:=(i0.mp h).1
 refine gJ (i:=l.length-1-i) ?_ ?_
 ·rw[List.map_reverse];exact List.pairwise_reverse.mpr (nd.imp λ h=>Ne.symm h)
 ·rw[List.getElem?_reverse (by left)]
  have:l.length-1-(l.length-1-i)=i:=by left
  rw[this];exact h
section
variable {P:m3}{w:uac}{K:a8}{mg:Str->Option c9}{base:Heap}
structure LamScG (xs ys:List Str)(sc:ucd):Prop where
 kind:sc.kind=.function
 co:sc.isCoroutine=false
 gen:sc.isGenerator=false
 px:∀ x∈xs,sc.names.lookup x=some .local
 py:∀ y∈ys,sc.names.lookup y=some .free
 nocell:∀ z∈sc.names,z.2≠.cell
 only:∀ z,sc.names.lookup z=some .free->z∈ys
 ndx:xs.Nodup
 ndy:ys.Nodup
structure Clo (H:Hp)(h:Heap)(ys:List Str)(cl:List (Str × j4))(uys:List c9):Prop where
 names:cl.map (·.1)=ys
 unlike:(cl.map (·.2)).Nodup
 len:uys.length=cl.length
 cell:∀ (i:Nat)(y:Str)(c:j4)(u:c9),cl[i]?=some (y,c)->uys[i]?=some u->h.IsCell c (some u)
 free:∀ y c,(y,c)∈cl->H c=none
theorem lF:∀ {l:List (Str × j4)}{x y:Str}{c:j4},(l.map (·.2)).Nodup->(x,c)∈l->(y,c)∈l->x=y
 | (k,v)::l,x,y,c,nd,hx,hy=>by
  rw[ubg,ua5] at nd
  rcases k8.mp hx with e | e <;> rcases k8.mp hy with e' | e'
  ·cases e;cases e';rfl
  ·cases e;exact absurd (o7.mpr ⟨_,e',rfl⟩) nd.1
  ·cases e';exact absurd (o7.mpr ⟨_,e,rfl⟩) nd.1
  ·exact lF nd.2 e e'
theorem xP {xs ys:List Str}{qual:Str}{scope:ucd}{f:j4}{cd:c9}{cl:List (Str × j4)}{A:v6}{outer:List Env}{s:d6}{H:Hp}{h1:Heap}{us uys:List c9}{vs vys:List V}{tk:Nat}(S:LamScG xs ys scope)(hd:A.handled=none)(e0:Env0 P w K mg base A outer s H)
  (hns:h1.Ns s.heap.objs.size (λ z=>(xs.zip us).reverse.lookup z)) (hk:∀ b o,s.heap.get? b=some o->h1.get? b=some o) (hc:Clo H s.heap ys cl uys) (lx:vs.length=xs.length) (rx:Vals vs us) (ry:Vals vys uys) :
  Inv (cxL P w K mg base (xs++ys) qual scope f cd cl A outer s H) [] (vs.map some++vys.map some) H { s with heap:=h1,toks:=tk }:=by
 have ndc:(cl.map (·.1)).Nodup:=by rw[hc.names];exact S.ndy
 have ly:cl.length=ys.length:=by rw[← hc.names,c7]
 have lu:us.length=xs.length:=rx.length ▸ lx
 have lvy:vys.length=ys.length:=by rw[ry.length,hc.len,ly]
 have cellAt:∀ z c',cl.lookup z=some c'->∃ v,h1.IsCell c' v:=λ z c' h=>by
  obtain⟨i,hi⟩:=ucm.mp (v8 h)
  have il:=(i0.mp hi).1
  have iu:i<uys.length:=by rw[hc.len];exact il
  obtain⟨o,e,r⟩:=hc.cell i z c' uys[i] hi (c6 iu)
  exact⟨_,o,hk _ _ e,r⟩
 have noA:∀ b:j4,b∉(cxL P w K mg base (xs++ys) qual scope f cd cl A outer s H).ex:=λ b z=>absurd (show b∈([]:List j4) from z) (by simp)
 refine⟨⟨e0.mod,S.kind,rfl,rfl,d8 _,λ z z' c' a b=>lF hc.unlike (v8 a) (v8 b),λ z hz=>?_,λ z c' hf=>?_,λ _=>hd,Around.frames_deeper e0.frames,.inr ⟨rfl,rfl⟩,λ b z=>absurd z (noA b),e0.bs,e0.bsz,λ b _ _=>noA b,λ b z=>absurd z (noA b),e0.funs,e0.frf⟩,
  rfl,e0.bare,Un.kept hk,⟨_,hns,λ i z v a b hv=>?_⟩,cellAt,e0.hok.fresh (d8 _),λ z c' a=>hc.free z c' (v8 a),λ p hp=>absurd (show p∈([]:List (j4 × Obj)) from hp) (by simp),e0.hok.kept hk,?_⟩
 ·have hz:scope.names.lookup z=some .cell\/scope.names.lookup z=some .free:=hz
  rcases hz with hz | hz
  ·exact absurd rfl (S.nocell _ (v8 hz))
  ·have hm:=S.only z hz
   rw[← hc.names] at hm
   obtain⟨⟨z',c⟩,hm2,e⟩:=o7.mp hm
   obtain rfl:z'=z:=e
   obtain⟨i,hi⟩:=ucm.mp hm2
   exact⟨c,gJ ndc hi⟩
 ·exact absurd (show false=true from hf) i7
 ·have a:(xs++ys)[i]?=some z:=a
  by_cases il:i<xs.length
  ·rw[uai il] at a
   rw[uai (by rw[c7];left),j5] at b
   obtain⟨v',hv',e⟩:=ubv.mp b
   cases e
   obtain⟨u,hu,ru⟩:=rx.get hv'
   refine⟨u,ru,.inl ⟨S.px z (i6 a),?_⟩⟩
   show (xs.zip us).reverse.lookup z=some u
   refine xN (i:=i) ?_ ?_
   ·rw[List.map_fst_zip (by left)];exact S.ndx
   ·rw[ufa];exact⟨a,hu⟩
  ·rw[uaa (by left)] at a
   rw[uaa (by rw[c7];left),c7,j5,lx] at b
   obtain⟨v',hv',e⟩:=ubv.mp b
   cases e
   obtain⟨u,hu,ru⟩:=ry.get hv'
   have hm:=a
   rw[← hc.names,j5] at hm
   obtain⟨⟨z',c⟩,hcl,e⟩:=ubv.mp hm
   obtain rfl:z'=z:=e
   obtain⟨o,e1,r1⟩:=hc.cell _ _ _ _ hcl hu
   exact⟨u,ru,.inr ⟨.inr (S.py z' (i6 a)),c,gJ ndc hcl,o,hk _ _ e1,r1⟩⟩
 ·show (vs.map some++vys.map some).length=(xs++ys).length
  rw[g9,g9,c7,c7,lx,lvy]
theorem xO {xs ys:List Str}{name qual:Str}{params:Arguments}{body:ubl}{scope:ucd}{f c':j4}{cl:List (Str × j4)}{pm ctv:c9}{A:v6}{outer:List Env}{s:d6}{H:Hp}{us uys:List c9}{vs vys:List V}{t:TE}{Q:VK}{k:Nat}(S:LamScG xs ys scope)(hr:Room (k+1) A)(e0:Env0 P w K mg base A outer s H)
  (ho:s.heap.get? f=some (z9 name qual params body scope cl pm c' ctv)) (hcd:s.heap.CodeRec (.ref c') qual) (hb:bindArgs (ucz name qual params body scope cl pm (.ref c') ctv) ⟨us,[]⟩=pure (xs.zip us))
  (hc:Clo H s.heap ys cl uys) (lx:vs.length=xs.length) (rx:Vals vs us) (ry:Vals vys uys) (ht:PE (cxL P w K mg base (xs++ys) qual scope f (.ref c') cl A outer s H) body t) (hq:t (vs.map some++vys.map some) H Q) :
  codeAny (w8 P w) A (.call (.ref f) ⟨us,[]⟩) (CR CX0 outer P w H s Q E0) s:=by
 have lim:s.heap.NoLimit:=e0.mod.nolimit.keeps λ b o e=>(e0.bs b o e).1
 refine ufh hr.depth ho rfl S.co S.gen rfl hcd ?_
 rw[hb]
 refine i9 (ueb S.nocell (λ z hz=>?_) (λ h1 hns hsb=>⟨lim.fresh _ hsb,?_⟩) S.kind)
 ·exact S.px _ (ucw hz).1
 have hk:∀ b o,s.heap.get? b=some o->h1.get? b=some o:=λ b o e=>hsb.extBut b o (j6 (i8 e)) (b7 _ e)
 have I:=xP (P:=P) (w:=w) (K:=K) (mg:=mg) (base:=base) (qual:=qual) (f:=f) (cd:=.ref c') (tk:=s.toks+(xs.zip us).length) S hr.hd e0 hns hk hc lx rx ry
 refine ufg (ua7 (ht [] _ _ H Q I hq) (λ v s' h=>?_) λ _ _ h=>h.elim)
 obtain⟨v',H',J,rv,q⟩:=h
 exact⟨v',H',J.os,J.bare,J.base,J.hok,rv,q⟩
theorem Clo.un {fs ex:List j4}{H H':Hp}{h h':Heap}{ys:List Str}{cl:List (Str × j4)}{uys:List c9}(c:Clo H h ys cl uys)(u:Un fs ex H H' h h')(hx:∀ y a,(y,a)∈cl->a∉ex):Clo H' h' ys cl uys:=by
 refine⟨c.names,c.unlike,c.len,λ i y a v h1 h2=>?_,λ y a hm=>?_⟩
 ·have hm:=i6 h1
  obtain⟨o,e,d⟩:=c.cell i y a v h1 h2
  obtain⟨sl,e'⟩:=u.any e (c.free y a hm) (hx y a hm)
  exact⟨_,e',d⟩
 ·obtain⟨i,hi⟩:=ucm.mp hm
  have il:=(i0.mp hi).1
  have iu:i<uys.length:=by rw[c.len];exact il
  obtain⟨o,e,_⟩:=c.cell i y a uys[i] hi (c6 iu)
  exact u.free a o e (c.free y a hm) (hx y a hm)
theorem zav {k:Nat}{f:j4}{x:Str}{st:ubm}{fd:ubf}{N ps:List Str}{A:v6}{outer:List Env}{s:d6}{H:Hp}{us:List c9}{vs:List V}{Q:VK}(F:Fun K x x st f fd)(S:FnScope N ps (defScope st))(hr:Room (k+1) A)(e0:Env0 P w K mg base A outer s H)
  (hb:BindsTo s fd ⟨us,[]⟩ (ps.zip us)) (r:Vals vs us) (hl:vs.length=ps.length)
  (hbody:∀ cdv:c9,Room k (A.deeper (envOfC x (defScope st) s.heap.objs.size f cdv))->∃ t,PSs (cxOf CX0 P w K mg base N x (defScope st) f cdv A outer s H E0).nox (defBody st) t/\t { nx:=λ _ H'=>Q .non H',rt:=Q } (start N vs) H) :
  codeAny (w8 P w) A (.call (.ref f) ⟨us,[]⟩) (CR CX0 outer P w H s Q E0) s:=by
 obtain⟨oc,od,kV,doc,pm,an,cdv,ct,osl,rfl,lk,hcd⟩:=F.ex
 have inB:∀ b o,base.get? b=some o->s.heap.get? b=some o:=λ b o e=>(e0.bs b o e).1
 have kS:K.In s.heap:=e0.mod.kin.keeps inB
 refine codeAny_call_function hr.depth (kS _ _ lk) rfl S.co S.gen rfl (PySem.W.codeRec_of kS hcd) (hb _ _ _ _ (wpAny_newFunctionEnv_cells S.kind (λ y hy=>?_) λ env he s1 z=>?_))
 ·exact (S.par y.1 (ucw (show (y.1,y.2)∈_ from hy)).1).imp id λ q=>⟨q,udb _ _ _ (.inl q)⟩
 subst he
 obtain⟨t,ht,hq⟩:=hbody cdv (hr.deeper _)
 refine⟨(e0.mod.nolimit.keeps inB).keeps z.toInCall.keep,codeAny_func (ua7 (ht.nox [] s1 (start N vs) H _ (lK S hr.hd e0 hl r z) hq) (λ fl s' hs=>?_) λ _ _ hs=>hs)⟩
 match fl,hs with
 | .ret u,⟨v,σ',H',J,rv,q⟩=>exact⟨v,H',J.os,J.bare,J.base,J.hok,rv,q⟩
 | .next,⟨σ',H',J,q⟩=>exact⟨V.non,H',J.os,J.bare,J.base,J.hok,rfl,q⟩
 | .brk,⟨_,_,_,q⟩=>exact False.elim q
 | .cont,⟨_,_,_,q⟩=>exact False.elim q
end
section
variable {X:Cx}
def tLam (Pt:j4)(lpos:Pos)(qual:Str)(params:Arguments)(body:ubl)(scope:ucd)(cl:List (Str × j4)):TE:=λ _ H Q=>Tb Pt lpos qual H/\∀ f c' pm ctv H',But Pt H H'->Tf Pt lpos qual H'->(Tf Pt lpos qual H->Same H H')->H f=none ->
 H' f=some (.ext λ g=>g.get? f=some (z9 "<lambda>" qual params body scope cl pm c' ctv))->H' c'=some (.ext λ g=>g.CodeRec (.ref c') qual)->Q (.ref f) H'
theorem za1 {c Pt:j4}{params:Arguments}{body:ubl}{scope:ucd}{lpos:Pos}{cl:List (Str × j4)}(L:LamHd X.mg X.base c Pt)(hcode:X.env.code=.ref c)(hcl:closureFor scope X.env=pure cl)(hdef:defaultsOf params X.env=([],[]):=by rfl) :
  PE X (.Lambda params body scope lpos) (tLam Pt lpos (X.env.qual++"<lambda>") params body scope cl):=λ pins s σ H Q I h =>
 mR I L hcode hdef hcl h.1 λ f c' pm ctv H' s' I' b1 T1 sm ff hf hc'=>⟨.ref f,H',I',rfl,h.2 f c' pm ctv H' b1 T1 sm ff hf hc'⟩
theorem uQ {M:Model}{A:v6}{E:c9->d6->Prop}{s:d6}{env:Env}{pos:Pos}{first:List c9}{Q:c9->d6->Prop}{f c':j4}{e:ubl}{rest:List ubl}{name qual:Str}{params:Arguments}{body:ubl}{scope:ucd}{cl:List (Str × j4)}{pm ctv:c9}
  (h:o8 M A (spliced (backTo pos (uah (e::rest) env))) (λ vs s₁=>s₁.heap.get? f=some (z9 name qual params body scope cl pm c' ctv)/\o8 M A (call (.ref f) (first++vs)) Q E s₁) E s)
  (he:uah (e::rest) env=(false,eval e env)::uah rest env) (hpl:(backTo pos (uah rest env)).any (·.1)=false) :
  o8 M A (callWith pos (.ref f) first (backTo pos (uah (e::rest) env)) []) Q E s:=by
 rw[he] at h ⊢
 refine PySem.W.callWith_of (P:=λ g=>g.get? f=some (z9 name qual params body scope cl pm c' ctv)) ?_ (λ g hg=>⟨.frame,.inl rfl,(PySem.W.Looks.ld (part:=none) hg).andThen .now⟩) (Calls.evalArgs_plain h)
 show ((false||(backTo pos (uah rest env)).any (·.1))||false)=false
 rw[hpl];rfl
def tLamC (i:Nat)(f c':j4)(qual:Str)(ob:Obj)(n:Nat)(vys:List V)(t:TA)(tb:TE):TE:=λ σ H Q=>σ[i]?=some (some (.ref f))/\t σ H λ vs H1=>vs.length=n/\H1 f=some (.ext λ g=>g.get? f=some ob)/\H1 c'=some (.ext λ g=>g.CodeRec (.ref c') qual)/\tb (vs.map some++vys.map some) H1 Q
theorem zJ {k i:Nat}{x:Str}{p pos:Pos}{e:ubl}{es:List ubl}{t:TA}{tb:TE}{xs ys:List Str}{qual:Str}{params:Arguments}{body:ubl}{scope:ucd}{cl:List (Str × j4)}{uys:List c9}{vys:List V}{f c':j4}{pm ctv:c9}(S:LamScG xs ys scope)(hr:Room (k+1) X.A)(hex:X.ex=[])
  (hc:Clo X.H₀ X.s₀.heap ys cl uys) (ry:Vals vys uys) (hN:X.N[i]?=some x) (hv:Vis X.env.scope x) (ha:PA X (e::es) t) (hb:∀ us:List c9,us.length=xs.length->bindArgs (ucz "<lambda>" qual params body scope cl pm (.ref c') ctv) ⟨us,[]⟩=pure (xs.zip us))
  (hbody:∀ (s:d6)(H:Hp),PE (cxL X.prog X.w X.K X.mg X.base (xs++ys) qual scope f (.ref c') cl X.A X.stack s H) body tb)
  (hdb:(x==("__debug__":Str))=false:=by decide) (hcd:(x==("__classdict__":Str))=false:=by decide) (he:uah (e::es) X.env=(false,eval e X.env)::uah es X.env:=by rfl) (hpl:(backTo pos (uah es X.env)).any (·.1)=false:=by rfl) :
  PE X (.Call (.Name x p) (e::es) [] pos) (tLamC i f c' qual (z9 "<lambda>" qual params body scope cl pm c' ctv) xs.length vys t tb):=by
 intro pins s σ H Q I h
 refine ub4 (thn (oG (pos:=p) hN hv hdb hcd pins s σ H (λ v H'=>v=.ref f/\H'=H) I ⟨.ref f,h.1,rfl,rfl⟩) λ u s1 ⟨v,H1,I1,rv,ev,eH⟩=>?_)
 subst ev eH
 obtain rfl:u=Value.ref f:=rv
 refine uQ (name:="<lambda>") (qual:=qual) (params:=params) (body:=body) (scope:=scope) (cl:=cl) (pm:=pm) (c':=c') (ctv:=ctv) (thn (ha pos pins s1 σ H1 _ I1 h.2) λ us s2 ⟨vs,H2,I2,r2,ln,hf,hc2,q⟩=>?_) he hpl
 have gf:=(show ObjOk X.prog X.w H2 s2.heap f _ from I2.hok f _ hf).1
 have gc:=(show ObjOk X.prog X.w H2 s2.heap c' _ from I2.hok c' _ hc2).1
 refine⟨gf,wpAny_call (ucu (xO (k:=k) S hr I2.env0 gf gc (hb us (by rw[← r2.length];exact ln)) (hc.un I2.base λ y a _=>by rw[hex];simp) ln r2 ry (hbody _ _) q) λ r s3 hq=>?_)⟩
 match r,hq with
 | .error _,hq=>exact hq.elim
 | .ok (.ret u3),hq=>exact I2.after hq
 | .ok .next,hq=>exact False.elim hq
 | .ok .brk,hq=>exact False.elim hq
 | .ok .cont,hq=>exact False.elim hq
theorem chosen:∀ {R:Nat->V->c9->Prop}(vys:List V),(∀ j v,vys[j]?=some v->∃ u,RelV v u/\R j v u)->∃ us:List c9,Vals vys us/\∀ j v u,vys[j]?=some v->us[j]?=some u->R j v u
 | R,[],_=>⟨[],.nil,λ j v u h=>by simp at h⟩
 | R,v::vys,h=>by
  obtain⟨u,ru,r0⟩:=h 0 v rfl
  obtain⟨us,rs,r1⟩:=chosen (R:=λ j=>R (j+1)) vys λ j v' e=>h (j+1) v' (by rw[ubh];exact e)
  refine⟨u::us,.cons ru rs,λ j v' u' e1 e2=>?_⟩
  match j,e1,e2 with
  | 0,e1,e2=>cases e1;cases e2;exact r0
  | j+1,e1,e2=>exact r1 j v' u' (by rw[ubh] at e1;exact e1) (by rw[ubh] at e2;exact e2)
theorem zbi {ys:List Str}{cl:List (Str × j4)}{ix:List Nat}{vys:List V}{pins:List (j4 × Obj)}{σ:L2.St}{H:Hp}{s:d6}(I:Inv X pins σ H s)(hn:cl.map (·.1)=ys)(hu:(cl.map (·.2)).Nodup)(lv:vys.length=ys.length)
  (hy:∀ (j:Nat)(y:Str)(c:j4),cl[j]?=some (y,c)->X.env.cells.lookup y=some c/\X.env.scope.names.lookup y=some .cell/\∃ i,ix[j]?=some i/\X.N[i]?=some y) (hσ:∀ (j i:Nat)(v:V),ix[j]?=some i->vys[j]?=some v->σ[i]?=some (some v)) :
  ∃ uys,Clo H s.heap ys cl uys/\Vals vys uys:=by
 have lc:cl.length=ys.length:=by rw[← hn,c7]
 obtain⟨m,hns,lk⟩:=I.loc
 obtain⟨uys,rv,hR⟩:=chosen (R:=λ j v u=>∀ y c,cl[j]?=some (y,c)->s.heap.IsCell c (some u)) vys λ j v e=>by
  have jl:=(i0.mp e).1
  have jc:j<cl.length:=by left
  obtain⟨⟨y,c⟩,hyc⟩:∃ p,cl[j]?=some p:=⟨_,c6 jc⟩
  obtain⟨h1,h2,i,h3,h4⟩:=hy j y c hyc
  obtain⟨u,ru,ly⟩:=lk i y v h4 (hσ j i v h3 e) (.inr (.inl h2))
  refine⟨u,ru,λ y' c' e'=>?_⟩
  rw[hyc] at e'
  cases e'
  rcases ly with ⟨z,_⟩ | ⟨_,c2,e2,ic⟩
  ·have z':X.env.scope.names.lookup y=some .local:=z
   rw[h2] at z';cases z'
  ·rw[h1] at e2;cases e2;exact ic
 refine⟨uys,⟨hn,hu,by rw[← rv.length];left,λ j y c u e1 e2=>?_,λ y c hm=>?_⟩,rv⟩
 ·have jl:=(i0.mp e1).1
  have jv:j<vys.length:=by left
  exact hR j vys[j] u (c6 jv) e2 y c e1
 ·obtain⟨j,hj⟩:=ucm.mp hm
  exact I.freeC y c (hy j y c hj).1
def tCallL (ix:List Nat)(sp:List V->List V->Hp->VK->Prop)(t:TA):TE:=λ σ H Q=>t σ H λ vs H1=>∃ vys,vys.length=ix.length/\(∀ (j i:Nat)(v:V),ix[j]?=some i->vys[j]?=some v->σ[i]?=some (some v))/\sp vys vs H1 Q
theorem xF {x:Str}{p pos:Pos}{e:ubl}{es:List ubl}{t:TA}{ys:List Str}{cl:List (Str × j4)}{ix:List Nat}{f:j4}{sp:List V->List V->Hp->VK->Prop}(hg:Gl X x)(hm:X.mg x=some (.ref f))(hk:ua3 X.K (.ref f)=true)(ha:PA X (e::es) t)
  (run:∀ (s:d6)(H:Hp)(us uys:List c9)(vs vys:List V)(Q:VK),Env0 X.prog X.w X.K X.mg X.base X.A X.stack s H->Vals vs us->Clo H s.heap ys cl uys->Vals vys uys->sp vys vs H Q->codeAny (w8 X.prog X.w) X.A (.call (.ref f) ⟨us,[]⟩) (CR CX0 X.stack X.prog X.w H s Q E0) s)
  (hn:cl.map (·.1)=ys) (hu:(cl.map (·.2)).Nodup) (hi:ix.length=ys.length) (hy:∀ (j:Nat)(y:Str)(c:j4),cl[j]?=some (y,c)->X.env.cells.lookup y=some c/\X.env.scope.names.lookup y=some .cell/\∃ i,ix[j]?=some i/\X.N[i]?=some y)
  (hdb:(x==("__debug__":Str))=false:=by decide) (he:uah (e::es) X.env=(false,eval e X.env)::uah es X.env:=by rfl) (hpl:(backTo pos (uah es X.env)).any (·.1)=false:=by rfl) :
  PE X (.Call (.Name x p) (e::es) [] pos) (tCallL ix sp t):=by
 intro pins s σ H Q I h
 refine ub4 (nU I hg hm ?_ hdb)
 refine PySem.W.callWith_K (h₀:=X.base) I.ok.mod.kin hk (thn (ha pos pins s σ H _ I h) λ us s1 ⟨vs,H1,I1,r,vys,lv,hσ,q⟩=>⟨I1.kIn,?_⟩) he hpl
 obtain⟨uys,hc,ry⟩:=zbi I1 hn hu (lv.trans hi) hy hσ
 refine wpAny_call (ucu (run s1 H1 us uys vs vys Q I1.env0 r hc ry q) λ r s3 hq=>?_)
 match r,hq with
 | .error _,hq=>exact hq.elim
 | .ok (.ret u3),hq=>exact I1.after hq
 | .ok .next,hq=>exact False.elim hq
 | .ok .brk,hq=>exact False.elim hq
 | .ok .cont,hq=>exact False.elim hq
end
section
variable {K:a8}{h:Heap}{mg:Str->Option c9}{x:Str}{st:ubm}{ps:List Str}{f c Pt:j4}{od an odc:Option j4}{sl slc:Array (Option c9)}{oc occ kV dc pm cd ct:c9}{us:Array c9}{fd:ubf}
theorem wW (a:u7 K m7 x=some (some (.ref f)))(l:K.lookup f=some ⟨oc,od,.func fd,sl⟩)(t:uaz K x=some (c,Pt)):fd.code=.ref c:=by
 unfold uaz at t
 rw[a] at t;simp only [l] at t
 split at t
 ·rename_i c2 hc
  split at t
  ·split at t
   ·cases t;exact hc
   ·cases t
  ·cases t
 ·cases t
theorem zae (X:K.In h)(G:h.Ns m7 mg)
  (b:∀ (kV doc pm:c9)(an:Option j4)(cdv ct:c9)(us:List c9),us.length=ps.length->bindArgs (uau x x (defArgs st) (defBody st) (defScope st) .none kV doc pm an cdv ct) ⟨us,[]⟩=pure (ps.zip us))
  (a:u7 K m7 x=some (some (.ref f))) (l:K.lookup f=some ⟨oc,od,.func (uau x x (defArgs st) (defBody st) (defScope st) .none kV dc pm an cd ct),sl⟩) (cc:ubq K cd x=true) (k:ua3 K (.ref f)=true) (t:uaz K x=some (c,Pt)):DefOkC K mg x st ps c:=by
 have e:cd=.ref c:=wW a l t
 subst e
 exact⟨f,_,oc,od,kV,dc,pm,an,ct,sl,rfl,l,cc,k,(jK (st:=st) l cc k).binds b,ue3 X G a⟩
end
def LamHds (mg:Str->Option c9)(base:Heap)(ts:List (j4 × j4)):Prop:=∀ q∈ts,LamHd mg base q.1 q.2
theorem uJ {P:m3}{w:uac}{K:a8}{mg mb:Str->Option c9}{k:Nat}{fa a:j4}{ts:List (j4 × j4)}{fd:ubf}{x:Str}{sp:Sp}{s₁:d6}{vs:List c9}{ns:List Int}
  (KX:K.In s₁.heap) (hns:s₁.heap.Ns m7 mg) (hb:s₁.heap.Ns builtinsNs mb) (hbb:∀ x:Str,x≠"__name__"->mb x=bootBuiltins x) (hlim:s₁.heap.NoLimit) (hg:s₁.gens=#[])
  (ha:s₁.heap.get? a=some { cls:=.type "list",data:=.seq vs.toArray }) (hi:IntsAre vs ns) (hl:ns.length<=o9) (hr:Room k callerA)
  (hT:∀ q∈ts,udo s₁.heap q.1 q.2/\s₁.heap.get? q.2=some (uci #[])) (hbm:∃ bm ob,mg "__builtins__"=some (.ref bm)/\bm≠builtinsNs/\s₁.heap.get? bm=some ob/\ob.cls=.type "module"/\ob.dict=some builtinsNs/\ob.data=.plain) (hnt:ueu K=true)
  (F:∀ base:Heap,K.In base->base.Ns m7 mg->LamHds mg base ts->FnOk P w K mg base CX0 k fa fd [x] sp) (hbind:∀ (s:d6)(u:c9),BindsTo s fd ⟨[u],[]⟩ [(x,u)])
  (hsp:∀ H:Hp,SqL K H a (ns.map V.int)->(∀ q∈ts,H q.2=some (.tbl #[]))->sp [.ref a] H (λ v _=>v=.bl true) λ _ _ _=>False) :
  codeAny (w8 P w) callerA (.call (.ref fa) ⟨[.ref a],[]⟩) (λ r s'=>r=.ok (.ret (.bool true))/\OldK s₁.heap s'.heap/\s'.os=s₁.os/\AllBare s'.gens) s₁:=by
 have rv:=kU hi
 have lenV:=hi.length
 have tabs:∀ b,b∈ts.map (·.2)->s₁.heap.get? b=some (uci #[]):=λ b hm=>by
  obtain⟨q,hq,rfl⟩:=o7.mp hm
  exact (hT q hq).2
 have nap:a∉ts.map (·.2):=λ z=>by rw[tabs a z] at ha;cases ha
 have core : ∀ H : Hp, SqL K H a (ns.map V.int) → HOk P w H s₁.heap → (∀ q∈ts, H q.2 = some (.tbl #[])) → (∀ b, H b ≠ none → b = a \/ b∈ts.map (·.2)) → (H a = none \/ (∃ o xs, H a = some (.frz o (.lst xs))) /\ K.lookup a = none) →
     codeAny (w8 P w) callerA (.call (.ref fa) ⟨[.ref a],[]⟩) (λ r s'=>r=.ok (.ret (.bool true))/\OldK s₁.heap s'.heap/\s'.os=s₁.os/\AllBare s'.gens) s₁:=by
  intro H hS hok hPt hA hK
  have base_of:∀ {b:j4}{o:Obj},s₁.heap.get? b=some o->(∀ ys n,o.data≠.seq ys n)->o.cls≠.none->(hidT s₁.heap H).get? b=some o:=λ {b o} e n1 n2=>fY e (by
   cases q:H b with
   | none=>rfl
   | some u =>
    rcases hA b (by rw[q];simp) with z | z
    ·rw[z,ha] at e;cases e;exact absurd rfl (n1 _ _)
    ·rw[tabs b z] at e;cases e;exact absurd rfl n2)
  have nsK:∀ {b:j4}{m:Str->Option c9},s₁.heap.Ns b m->(hidT s₁.heap H).Ns b m:=λ {b m} ⟨o,es,ep,e,d,r⟩=>⟨o,es,ep,fY e (by
   cases q:H b with
   | none=>rfl
   | some u =>
    rcases hA b (by rw[q];simp) with z | z
    ·rw[z,ha] at e;cases e;cases d
    ·rw[tabs b z] at e;cases e;cases d),d,r⟩
  have hKb:K.In (hidT s₁.heap H):=λ b o e=>fY (KX b o e) (by
   cases q:H b with
   | none=>rfl
   | some u =>
    rcases hA b (by rw[q];simp) with z | z
    ·subst z
     rcases hK with hK | hK
     ·rw[hK] at q;cases q
     ·rw[hK.2] at e;cases e
    ·have h2:=uap.mp hnt (b,o) (PySem.W.mem_of_lookupK e)
     have e2:=KX b o e
     rw[tabs b z] at e2;cases e2
     exact absurd (show false=true from h2) i7)
  have hM:Mod K mg (hidT s₁.heap H):=⟨hKb,nsK hns,⟨mb,nsK hb,hbb⟩,let ⟨mc,h1,h2⟩:=hlim;⟨mc,nsK h1,h2⟩⟩
  have hL:LamHds mg (hidT s₁.heap H) ts:=λ q hq=>by
   refine⟨?_,let ⟨bm,ob,b1,b2,b3,b4,b5,b6⟩:=hbm;⟨bm,ob,b1,b2,base_of b3 (λ ys n z=>by rw[b6] at z;cases z) (λ z=>by rw[b4] at z;cases z),b4,b5,b6⟩⟩
   obtain⟨o,us,file,tf,flags,tg,inF,text,tt,e1,e2,e3,r⟩:=(hT q hq).1
   refine⟨o,us,file,tf,flags,tg,inF,text,tt,fY e1 ?_,e2,e3,r⟩
   cases q':H q.1 with
   | none=>rfl
   | some u =>
    rcases hA q.1 (by rw[q'];simp) with z | z
    ·rw[z,ha] at e1;cases e1;cases e3
    ·rw[tabs _ z] at e1;cases e1;cases e2
  have e0:Env0 P w K mg (hidT s₁.heap H) callerA [] s₁ H:=⟨rfl,hM,λ b o e=>zN e,udv (vX _ _),trivial,λ b hb=>absurd (show b∈([]:List j4) from hb) (by simp),hok,.of_eq hg⟩
  refine ucu ((F _ hKb (nsK hns) hL).run callerA [] s₁ H ⟨[.ref a],[]⟩ [.ref a] [.ref a] _ _ hr e0 (hbind s₁ (.ref a)) (.cons rfl .nil) (hsp H hS hPt)) λ r s' h=>?_
  cases r with
  | error e=>exact h.elim
  | ok fl =>
   cases fl with
   | next=>exact False.elim h
   | brk=>exact False.elim h
   | cont=>exact False.elim h
   | ret u =>
    obtain⟨v,H',os,bare,un,hok',r',q⟩:=h
    have q':v=.bl true:=q
    subst q'
    obtain rfl:u=Value.bool true:=r'
    have kept:∀ b o,b∉ts.map (·.2)->s₁.heap.get? b=some o->s'.heap.get? b=some o:=λ b o nb e=>by
     cases q:H b with
     | none=>exact un.keep b o e q (by intro z;exact absurd (show b∈([]:List j4) from z) (by simp)) (by simp)
     | some u =>
      rcases hA b (by rw[q];simp) with z | z
      ·subst z
       rcases hK with hK | ⟨⟨ob,xs,hK⟩,_⟩
       ·rw[hK] at q;cases q
       ·have z2:=un.frzs b ob _ hK
        obtain⟨e1,_⟩:=hok b _ hK
        obtain⟨e2,_⟩:=hok' b _ z2
        rw[e] at e1;cases e1
        exact e2
      ·exact absurd z nb
    have grown:∀ q∈ts,∃ more,s'.heap.get? q.2=some (uci (#[]++more)):=λ q hq=>by
     obtain⟨more,hPt'⟩:=un.tbls q.2 _ (hPt q hq)
     exact⟨more,hok' q.2 _ hPt'⟩
    refine⟨rfl,⟨λ b o e=>?_,λ b o e=>?_⟩,os,bare⟩
    ·by_cases nb:b∈ts.map (·.2)
     ·obtain⟨q,hq,rfl⟩:=o7.mp nb
      obtain⟨more,gP⟩:=grown q hq
      rw[(hT q hq).2] at e;cases e
      exact .inr (.inl ⟨((hT q hq).1.tab (hT q hq).2).isCodeTable,rfl,#[],more,rfl,gP⟩)
     ·exact .inl (kept b o nb e)
    ·by_cases nb:b∈ts.map (·.2)
     ·obtain⟨q,hq,rfl⟩:=o7.mp nb
      obtain⟨more,gP⟩:=grown q hq
      exact⟨_,gP⟩
     ·exact⟨o,kept b o nb e⟩
 have memT:∀ q∈ts,q.2∈ts.map (·.2):=λ q hq=>o7.mpr ⟨q,hq,rfl⟩
 cases hk:K.lookup a with
 | some o =>
  have e:=KX a o hk
  rw[ha] at e
  cases e
  refine core (λ b=>if b∈ts.map (·.2) then some (.tbl #[]) else none) (.inr ⟨_,vs.toArray,_,hk,rfl,rfl,rfl,by rw[h9,lenV];exact hl,by simpa using rv⟩) (λ b u z=>?_) (λ q hq=>ufo (memT q hq)) (λ b z=>?_) (.inl (ufp nap))
  ·by_cases hb:b∈ts.map (·.2)
   ·have z':=(ufo hb).symm.trans z
    cases z'
    exact tabs b hb
   ·have z':=(ufp hb).symm.trans z
    cases z'
  ·by_cases hb:b∈ts.map (·.2)
   ·exact .inr hb
   ·exact absurd (ufp hb) z
 | none =>
  have eA:(λ b=>if b=a then some (HO.frz { cls:=.type "list",data:=.seq vs.toArray } (.lst (ns.map V.int))) else if b∈ts.map (·.2) then some (.tbl #[]) else none) a=some (.frz { cls:=.type "list",data:=.seq vs.toArray } (.lst (ns.map V.int))):=ufo rfl
  refine core (λ b=>if b=a then some (.frz { cls:=.type "list",data:=.seq vs.toArray } (.lst (ns.map V.int))) else if b∈ts.map (·.2) then some (.tbl #[]) else none) (.inl (.inr ⟨_,eA⟩)) (λ b u z=>?_) (λ q hq=>?_) (λ b z=>?_) (.inr ⟨⟨_,_,eA⟩,hk⟩)
  ·by_cases hb:b=a
   ·have z':=(ufo hb).symm.trans z
    cases z'
    subst hb
    exact⟨ha,by rw[c7];exact hl,vs,_,rv,ha⟩
   ·have z1:(if b∈ts.map (·.2) then some (HO.tbl #[]) else none)=some u:=by rw[← z];exact (ufp hb).symm
    by_cases hb2:b∈ts.map (·.2)
    ·rw[ufo hb2] at z1;cases z1;exact tabs b hb2
    ·rw[ufp hb2] at z1;cases z1
  ·have ne:q.2≠a:=λ z=>nap (z ▸ memT q hq)
   show (if q.2=a then _ else _)=_
   rw[ufp ne,ufo (memT q hq)]
  ·by_cases hb:b=a
   ·exact .inl hb
   ·by_cases hb2:b∈ts.map (·.2)
    ·exact .inr hb2
    ·exact absurd ((ufp hb).trans (ufp hb2)) z
theorem wT {l:PySem.W.OpenLaw}{n k:Nat}{q:m3}{loose:List Str}{XP:(Str->Option c9)->Heap->Prop}{YP:uac->Heap->Prop}{d d1 d2:DefRec}{K:Params->a8}{sp:uac->j4->j4->Sp}{x x1 x2:Str}
  (hn:l.most=some n) (hn2:n<=o9) (hdf:d.params.defaults=[]) (hr:Room k callerA) (hY:∀ (w:uac)(h:Heap),YP w h->(K w.params).In h)
  (hrec1:(recsOf q).find? (λ e=>e.name==x1)=some d1) (hrec2:(recsOf q).find? (λ e=>e.name==x2)=some d2) (htab:∀ w:uac,∃ c1 p1 c2 p2,uaz (K w.params) x1=some (c1,p1)/\uaz (K w.params) x2=some (c2,p2)/\p2≠p1) (hnt:∀ w:uac,ueu (K w.params)=true)
  (F:∀ (w:uac)(mg:Str->Option c9)(fa:j4)(h:Heap)(c1 p1 c2 p2:j4),(K w.params).In h->h.Ns m7 mg->mg d.name=some (.ref fa)->uaz (K w.params) x1=some (c1,p1)->uaz (K w.params) x2=some (c2,p2) ->
   ∃ fd:ubf,(∀ (s:d6)(u:c9),BindsTo s fd ⟨[u],[]⟩ [(x,u)])/\∀ base:Heap,(K w.params).In base->base.Ns m7 mg->LamHd mg base c1 p1->LamHd mg base c2 p2->FnOk l.prog w (K w.params) mg base CX0 k fa fd [x] (sp w p1 p2))
  (hsp:∀ (w:uac)(p1 p2:j4)(H:Hp)(a:j4)(ns:List Int),p2≠p1->ns.length<=n->SqL (K w.params) H a (ns.map V.int)->H p1=some (.tbl #[])->H p2=some (.tbl #[])->sp w p1 p2 [.ref a] H (λ v _=>v=.bl true) λ _ _ _=>False) :
  PySem.W.WalkO q loose XP YP l.row.toRowW d [] (λ f vs=>PySem.call f vs):=by
 refine Att.attach_call hn hdf λ w s₀ s₁ mg mb fa o pm cd doc a vs ns G Y ho hd hcd hmg hobj hints hlen hg=>?_
 have KX:=hY w _ Y
 obtain⟨c1,p1,c2,p2,t1,t2,ne⟩:=htab w
 have hT:∀ q∈[(c1,p1),(c2,p2)],udo s₁.heap q.1 q.2/\s₁.heap.get? q.2=some (uci #[]):=λ q' hq=>by
  rcases k8.mp hq with rfl | hq
  ·exact PySem.W.tab_of G.T KX hrec1 t1
  ·rcases k8.mp hq with rfl | hq
   ·exact PySem.W.tab_of G.T KX hrec2 t2
   ·cases hq
 obtain⟨fd,hb,hF⟩:=F w mg fa _ c1 p1 c2 p2 KX G.T.g hmg t1 t2
 exact uJ KX G.T.g G.T.b G.T.builtins G.T.nolimit hg hobj hints (r8 hlen hn2) hr hT G.T.bmain (hnt w) (λ base h1 h2 h3=>hF base h1 h2 (h3 (c1,p1) i3) (h3 (c2,p2) (j7 _ i3))) hb λ H hS hP=>hsp w p1 p2 H a ns ne hlen hS (hP (c1,p1) i3) (hP (c2,p2) (j7 _ i3))
end L3
namespace Hx
open PySem PySem.W
structure Ch where
 i:Nat
 a:Nat
 t:Nat
 j:Nat
 u:Nat
 b:Nat:=0
def stt (p:m3)(i:Nat):ubm:=p.main.body.getD i (.Pass ⟨0,0,0,0⟩)
def fileS:Str:=u5 "/claim/cut.py"
def mdV (p:m3)(c:Ch):c9:=match stt p c.j with
 | .Assign _ (.Constant (.str x) _ _) _=>.str x c.u
 | _=>.str (u5 "__main__") c.u
def sT (xs:List c9):Obj:=⟨.type "tuple",none,.seq xs.toArray 0,#[]⟩
def fE (xs:List c9):Obj:=⟨.none,none,.fields xs.toArray,#[]⟩
def tks:List Str->Nat->List c9
 | [],_=>[]
 | v::r,t=>.str v t::tks r (t+1)
def z:c9:=.int 0 0
def cdO (nm q:Str)(t:Nat)(l:Int)(na fl:Int)(k:c9)(fn:Bool)(tb vs cs tp:c9)(u:Nat):Obj :=
 ⟨.type "code",none,.fields #[.str nm t,.str q (t+1),.str fileS (t+2),.int l 0,.int na 0,z,z,.int fl 0,k,.bool fn,.int 181 0,tb,.none,vs,cs,tp,.int u 0,.int l 0,.str fileS (u+1)],#[]⟩
def ent (P:Params)(s:Str)(t:Nat)(v:c9):DictEntry:=⟨PyData.keyHash P s,.str s t,v⟩
def dO (es:List DictEntry)(n:Nat):Obj:=⟨.type "dict",none,.dict es.toArray n,#[]⟩
structure Got where
 os:List Obj
 en:List DictEntry
 tb:List c9
def fO (P:Params)(md:c9)(a t:Nat)(name:Str)(args:Arguments)(body:List ubm)(scope:ucd)(bind:Str)(pos:Pos):Got :=
 let fd:ubf:=⟨name,bind,args,.stmts body,scope,0,[],.none,.none,.none,.none,none,.none,.none,0⟩
 let k (vs cs:c9) (b u:Nat) (h:List Obj):Got :=
  ⟨h++[⟨.none,none,.func fd,#[]⟩,cdO name bind t pos.line args.args.length 3 (.ref a) true (.ref (a+1)) vs cs (.ref b) u,
   ⟨.type "function",none,.func ⟨name,bind,args,.stmts body,scope,3,[],.none,.none,.none,md,none,.ref (b+1),.none,0⟩,#[]⟩],
   [ent P name (u+2) (.ref (b+2))],[.int pos.line 0,.int pos.col 0,.ref (b+1)]⟩
 match localNames args scope (.stmts body) with
 | none=>k .none .none (a+2) (t+3) [sT [],fE []]
 | some (vs,cs)=>k (.ref (a+2)) (.ref (a+3)) (a+4) (t+3+vs.length+cs.length) [sT [],fE [],sT (tks vs (t+3)),sT (tks cs (t+3+vs.length))]
def mro0:List c9:=[.type "ValueError",.type "Exception",.type "BaseException",.type "object"]
def clO (P:Params)(md:c9)(a t:Nat)(base:Option Nat)(sub:List c9)(name bind:Str)(pos:Pos):Got :=
 let l:Int:=pos.line
 let w:=base.isNone
 let C:=a+9-(if w then 0 else 0)
 let bs:c9:=match base with | none=>.type "ValueError" | some b=>.ref b
 let e1:=ent P (u5 "__module__") (t+7) md
 let e2:=ent P (u5 "__firstlineno__") (t+11) (.int l (t+10))
 let e3:=ent P (u5 "__static_attributes__") (t+12) (.ref (a+7))
 ⟨[sT [bs],⟨.type "builtin_function_or_method",none,.fields #[.builtin "type.__prepare__",.type "type"],#[]⟩,
  dO [e1,ent P (u5 "__qualname__") (t+9) (.str bind (t+8)),e2,e3] 4,sT [],fE [],
  cdO name bind (t+2) l 0 0 (.ref (a+3)) false (.ref (a+4)) .none .none .none (t+5),
  ⟨.type "frame",none,.plain,#[some (.ref (a+5)),some (.ref 3),some (.ref (a+2)),none,some md,none,some (.ref 0)]⟩,sT [],
  dO (e1::e2::e3::(if w then [ent P (u5 "__weakref__") (t+14) (.ref (a+10)),ent P (u5 "__doc__") (t+15) .none] else [ent P (u5 "__doc__") (t+13) .none])) (if w then 3 else 2),
  ⟨.type "type",none,.cls ⟨name,[bs],.ref C::(match base with | none=>mro0 | some b=>.ref b::mro0),a+8,bind,true,[],sub,false,none,false⟩,
   #[some (.ref a),none,some (.str name t),some (.str bind (t+8)),some (.builtin "ValueError.__new__"),some (.bool true)]⟩] ++
  (if w then [⟨.type "getset_descriptor",none,.fields #[.str (u5 "__weakref__") (t+13),.ref C,.builtin "ExceptionGroup.__weakref__",.none],#[]⟩] else []) ++
  [⟨.type "super",none,.fields #[.ref C,.ref C,.ref C],#[]⟩,⟨.type "builtin_function_or_method",none,.fields #[.builtin "object.__init_subclass__",.ref C],#[]⟩],
  [ent P name (t+(if w then 17 else 15)) (.ref C)],[.int l 0,.int pos.col 0,.ref (a+5)]⟩
def got (p:m3)(P:Params)(cs:List Ch)(c:Ch):Got:=match stt p c.i with
 | .FunctionDef name args body _ _ _ scope _ bind pos=>fO P (mdV p c) c.a c.t name args body scope bind pos
 | .ClassDef name _ _ _ _ _ _ _ bind _ pos=>clO P (mdV p c) c.a c.t (if c.b==0 then none else some c.b) (cs.filterMap λ d=>if d.b==c.a+9 then some (.ref (d.a+9)) else none) name bind pos
 | _=>⟨[],[],[]⟩
def nameNow (p:m3)(cs:List Ch):Option c9:=match cs.getLast? with
 | some c=>some (mdV p { c with j:=c.j,u:=c.u })
 | none=>none
def setName (P:Params)(v:Option c9):List DictEntry->List DictEntry
 | e::r=>(match v with | some v=>{ e with val:=v } | none=>e)::r
 | []=>[]
def globO (p:m3)(P:Params)(cs:List Ch)(en:List DictEntry):Obj->Obj
 | ⟨c,d,.dict es n,s⟩=>⟨c,d,.dict (setName P (nameNow p cs) es.toList++en).toArray (n+en.length),s⟩
 | o=>o
def objs (p:m3)(P:Params)(B:List Obj)(cs:List Ch):List Obj :=
 let gs:=cs.map (got p P cs)
 match B with
 | b0::b1::b2::b3::r=>b0::b1::b2::globO p P cs (gs.flatMap (·.en)) b3::(r++(sT []::fE (gs.flatMap (·.tb)) ::
  cdO (u5 "<module>") (u5 "<module>") 182 1 0 0 (.ref 11) false (.ref 12) .none .none .none 185 ::
  ⟨.type "frame",none,.plain,#[some (.ref 13),some (.ref 3),some (.ref 3),none,some (.str (u5 "__main__") 164),none,some (.ref 0)]⟩::gs.flatMap (·.os)))
 | _=>[]
def spl:List Obj->List Obj × List Obj
 | []=>([],[])
 | x::r=>(x::(spl r).2,(spl r).1)
def braun:Nat->List Obj->BT
 | 0,_=>.nil
 | _+1,[]=>.nil
 | f+1,o::r=>.node o (braun f (spl r).1) (braun f (spl r).2)
structure Cut where
 k:Nat
 n:Nat
 t:Nat
def hpT (p:m3)(B:Params->List Obj)(cs:List Ch)(c:Cut)(P:Params):Heap:=absHeap (braun 12 (objs p P (B P) (cs.take c.k))) c.n {}
def stT (p:m3)(B:Params->List Obj)(D:Drawn)(cs:List Ch)(c:Cut)(w:uac)(os:OsState):SharedT :=
 ⟨braun 12 (objs p w.params (B w.params) (cs.take c.k)),c.n,{},ude [],D,c.t,os⟩
def env (p:m3):Env:={ scope:=p.main.scope,locals:=mainNs,globals:=mainNs,cells:=[],code:=.ref 13,frame:=some 14 }
def cE (p:m3):Code:=.body p.main.body (env p)
def pos0:Pos:=⟨0,0,0,0⟩
def posOf (p:m3):Nat->Pos
 | 0=>pos0
 | k+1=>match stt p k with
  | .Assign [.Name _ q] _ _=>q
  | .FunctionDef _ _ _ _ _ _ _ _ _ q=>q
  | .ClassDef _ _ _ _ _ _ _ _ _ _ q=>q
  | _=>pos0
def ann0:Option c9:=some (.ref 6)
def PieceT (p:m3)(B:Params->List Obj)(D:Drawn)(cs:List Ch)(a b:Cut)(N:Nat):Prop:=∀ w:uac,
 (λ os=>segRunT treeTable p w 11 ann0 1 N (stT p B D cs a w os) (piecesOf ((p.main.body.drop a.k).take (b.k-a.k)) (env p) (cE p) (posOf p a.k) [topFrame pos0]))=λ os=>some (Flow.next,stT p B D cs b w os,cE p,posOf p b.k)
def PreT (p:m3)(B:Params->List Obj)(D:Drawn)(h:Params->Heap)(t:Nat)(cs:List Ch)(a:Cut):Prop:=∀ w:uac,
 (λ os=>topGo treeTable p w 11 ann0 12 ⟨h w.params,ude [],D,t,os⟩ (topStub p))=λ os=>some ((stT p B D cs a w os).abs,⟨denote treeTable (cE p),cE p,pos0,[topFrame pos0]⟩)
def BlockT (p:m3):Prop:=∀ (w:uac)(s:d6),segRun treeTable p w 11 ann0 1 1 s (blockOf p.main.body (env p) (cE p) pos0 [topFrame pos0])=some (.next,s,cE p,pos0)
noncomputable def boots (P:Params):List Obj:=[boot_o_0 P,boot_o_1 P,boot_o_2 P,boot_o_3 P,boot_o_4 P,boot_o_5 P,boot_o_6 P,boot_o_7 P,boot_o_8 P,boot_o_9 P,boot_o_10 P]
def qv (p:m3)(is:List Nat):m3:={ p with main:={ p.main with body:=is.map (stt p) } }
def nmO:ubm->Option Str
 | .FunctionDef n ..=>some n
 | .ClassDef n ..=>some n
 | _=>none
def lz (p:m3)(is:List Nat)(n:Nat):List Str:=(d7 n).filterMap λ i=>if is.contains i then none else nmO (stt p i)
def kk (a:Nat)(g:Got):List (Nat × Obj):=match g.os with
 | [_,_,_,c,f]=>[(a+3,c),(a+4,f)]
 | [_,_,_,_,_,c,f]=>[(a+5,c),(a+6,f)]
 | _::_::_::_::_::_::_::_::d::C::_=>[(a+8,d),(a+9,C)]
 | _=>[]
def Kf (p:m3)(B:Params->List Obj)(cs:List Ch)(P:Params):Frag :=
 let gs:=cs.map (got p P cs)
 (3,globO p P cs (gs.flatMap (·.en)) ((B P).getD 3 (sT [])))::(cs.zip gs).flatMap λ c=>kk c.1.a c.2
def LookA (p:m3)(B:Params->List Obj)(D:Drawn)(h:Params->Heap)(cs:List Ch)(c:Cut):Prop:=∀ w:uac,(λ os =>
  (staticsOk (importedModules p.main.body) (h w.params) (hpT p B cs c w.params)&&namesBound p (hpT p B cs c w.params)&&gensDone ⟨hpT p B cs c w.params,ude [],D,c.t,os⟩&&laidKept (h w.params) (hpT p B cs c w.params)))=λ _:OsState=>true
def LookB (p:m3)(B:Params->List Obj)(D:Drawn)(cs:List Ch)(c:Cut)(is:List Nat)(rc:WRecords):Prop:=∀ w:uac,(λ os =>
  openSeen (qv p is) (lz p is c.k) (importedModules p.main.body) (λ s=>xlAt (qv p is) [] s&&recOk rc s) true ⟨hpT p B cs c w.params,ude [],D,c.t,os⟩)=λ _:OsState=>openGood (qv p is) (lz p is c.k)
def LookC (p:m3)(B:Params->List Obj)(cs:List Ch)(c:Cut)(as:List Nat):Prop:=∀ w:uac,as.map (hpT p B cs c w.params).get?=(Kf p B cs w.params).map λ p=>some p.2
section
variable {p:m3}{D:Drawn}{cs:List Ch}
theorem zab {w:uac}{s:d6}{c:Code}{q:Pos}:topRun treeTable p w 11 ann0 2 s ⟨doneF .next,c,q,[topFrame pos0]⟩=some s:=rfl
theorem wD {w:uac}{os:OsState}{c:Cut}(h:p.main.body.drop c.k=[]) :
  topRun treeTable p w 11 ann0 2 (stT p boots boot_drawn cs c w os).abs (restOf (p.main.body.drop c.k) (env p) (cE p) (posOf p c.k) [topFrame pos0])=some (stT p boots boot_drawn cs c w os).abs:=by
 rw[h];exact piece_nil zab
theorem chain {w:uac}{os:OsState}{a b:Cut}{N M:Nat}{r:d6}(h:PieceT p boots boot_drawn cs a b N)(le:a.k<=b.k)
  (k:topRun treeTable p w 11 ann0 M (stT p boots boot_drawn cs b w os).abs (restOf (p.main.body.drop b.k) (env p) (cE p) (posOf p b.k) [topFrame pos0])=some r) :
  topRun treeTable p w 11 ann0 (N+M) (stT p boots boot_drawn cs a w os).abs (restOf (p.main.body.drop a.k) (env p) (cE p) (posOf p a.k) [topFrame pos0])=some r:=by
 have e:p.main.body.drop a.k=(p.main.body.drop a.k).take (b.k-a.k)++p.main.body.drop b.k:=by
  have x:=(udq (b.k-a.k) (p.main.body.drop a.k)).symm
  rw[List.drop_drop,Nat.add_sub_cancel' le] at x;exact x
 rw[e];exact piece_app (segRun_of (congrFun (h w) os)) k
theorem zC {w:uac}{os:OsState}{M:Nat}{r:d6}(pre:PreT p boots boot_drawn boot_heap boot_toks cs ⟨0,15,187⟩)(bl:BlockT p)
  (k:topRun treeTable p w 11 ann0 M (stT p boots boot_drawn cs ⟨0,15,187⟩ w os).abs (restOf (p.main.body.drop 0) (env p) (cE p) (posOf p 0) [topFrame pos0])=some r) :
  topRun treeTable p w 11 ann0 (12+(1+M)) ⟨boot_heap w.params,ude [],boot_drawn,boot_toks,os⟩ (topStub p)=some r :=
 go_top (congrFun (pre w) os) (piece_block (bl w _) k)
theorem zV {is as:List Nat}{rc:WRecords}{c:Cut}{M N:Nat}{e:∀ P,as=(Kf p boots cs P).map (·.1)}
  (op:opening p=plainProg p.main.scope.names) (hN:Nat.ble 600 N=true) (fe:∀ s,fenceModules? p s=some s)
  (size:∀ w:uac,((boot_heap w.params).isNs m7&&(ude []:Array GenState).size==0,(boot_heap w.params).objs.size,(boot_heap w.params).nsMap m7 "__annotations__")=(true,11,ann0))
  (run:∀ (w:uac)(os:OsState),topRun treeTable p w 11 ann0 M ⟨boot_heap w.params,ude [],boot_drawn,boot_toks,os⟩ (topStub p)=some (stT p boots boot_drawn cs c w os).abs) (le:Nat.ble M N=true)
  (hA:LookA p boots boot_drawn boot_heap cs c) (hB:LookB p boots boot_drawn cs c is rc) (hC:LookC p boots cs c as) :
  LeftO p (qv p is) (lz p is c.k) (λ s=>xlAt (qv p is) [] s&&recOk rc s) (Hook.obs (kHook (Kf p boots cs) as e)) (Hook.val (kHook (Kf p boots cs) as e)) N :=
 LeftO.of_pieces (H₀:=boot_heap) (H₁:=hpT p boots cs c) (boot_open op hN fe) size run le λ w=>funext λ os=>by
  have a:=congrFun (hA w) os
  have b:=congrFun (hB w) os
  have c:=hC w
  exact looks_pair a (looks_pair b c)
end
end Hx
set_option hygiene false
local macro_rules | `(tactic| exists $k, $s) => `(tactic| (refine dQ (k := $k) D $s (fun vs H Q E h => by first | (obtain ⟨_, rfl, _⟩ := h; rfl) | (obtain ⟨_, _, rfl, _⟩ := h; rfl) | (obtain ⟨_, _, _, rfl, _⟩ := h; rfl) | (obtain ⟨_, _, _, _, rfl, _⟩ := h; rfl) | (obtain ⟨_, _, _, _, _, rfl, _⟩ := h; rfl) | (obtain ⟨_, _, _, _, _, _, rfl, _⟩ := h; rfl) | (obtain ⟨_, _, _, _, _, _, _, rfl, _⟩ := h; rfl) | (obtain ⟨_, _, _, _, _, _, _, _, rfl, _⟩ := h; rfl) | (obtain ⟨_, _, _, _, _, _, _, _, _, rfl, _⟩ := h; rfl) | (obtain ⟨_, _, _, _, _, _, _, _, _, _, rfl, _⟩ := h; rfl) | (obtain ⟨_, _, _, _, _, _, _, _, _, _, _, rfl, _⟩ := h; rfl) | (obtain ⟨_, _, _, _, _, _, _, _, _, _, _, _, rfl, _⟩ := h; rfl) | (obtain ⟨_, _, _, _, _, _, _, _, _, _, _, _, _, rfl, _⟩ := h; rfl) | (obtain ⟨_, _, _, _, _, _, _, _, _, _, _, _, _, _, rfl, _⟩ := h; rfl) | (obtain ⟨_, _, _, _, _, _, _, _, _, _, _, _, _, _, _, rfl, _⟩ := h; rfl)) (fun f cdv A outer s H vs Q E hr h => ?_); have nd := ($s).nd))
local macro_rules | `(tactic| exists $k, $s, $s2) => `(tactic| refine dQ (k := $k) D $s (fun vs H Q E h => ?_) (fun f cdv A outer s H vs Q E hr h => ?_))
local macro_rules | `(‹$n:num›) => `(Ok P w K mg base $n)
set_option hygiene true
namespace Me
open PySem PySem.Spec PyProof.Rows L2 L3
def top (i:Nat):ubm:=a7.main.body.getD i (.Pass ⟨0,0,0,0⟩)
abbrev s_is_whole:ubm:=top 1
theorem sc_is_whole:FnScope ["thing"] ["thing"] (defScope s_is_whole):=by right
abbrev s_is_wholes:ubm:=top 2
theorem sc_is_wholes:FnScope ["thing"] ["thing"] (defScope s_is_wholes):=by right
abbrev s_is_tuple_of:ubm:=top 3
theorem sc_is_tuple_of:FnScope ["thing","many"] ["thing","many"] (defScope s_is_tuple_of):=by right
abbrev s_is_told:ubm:=top 4
theorem sc_is_told:FnScope ["thing","word","many"] ["thing","word","many"] (defScope s_is_told):=by right
abbrev s_is_tie_number:ubm:=top 10
theorem sc_is_tie_number:FnScope ["web","thing"] ["web","thing"] (defScope s_is_tie_number):=by right
abbrev s_whole:ubm:=top 11
theorem sc_whole:FnScope ["web"] ["web"] (defScope s_whole):=by right
abbrev s_tie_between:ubm:=top 12
theorem sc_tie_between:FnScope ["web","a","b","ends","number","tie"] ["web","a","b"] (defScope s_tie_between):=by right
abbrev s_order_of:ubm:=top 13
theorem sc_order_of:FnScope ["web"] ["web"] (defScope s_order_of):=by right
abbrev s_ties_along:ubm:=top 15
theorem sc_ties_along:FnScope ["web","places"] ["web","places"] (defScope s_ties_along):=by right
abbrev s_way_length:ubm:=top 16
theorem sc_way_length:FnScope ["web","way"] ["web","way"] (defScope s_way_length):=by right
abbrev s_tie_weights:ubm:=top 17
theorem sc_tie_weights:FnScope ["web","weights","weight","tie"] ["web"] (defScope s_tie_weights):=by right
abbrev s_cost_with:ubm:=top 18
theorem sc_cost_with:FnScope ["cost","length","weight"] ["cost","length","weight"] (defScope s_cost_with):=by right
abbrev s_reached_from:ubm:=top 19
theorem sc_reached_from:FnScope ["web","keep","root","weights","costs","ahead","again","tie","a","b","length","one","other","cost"] ["web","keep","root"] (defScope s_reached_from):=by right
abbrev s_fars_from:ubm:=top 20
theorem sc_fars_from:FnScope ["web","keep","root","costs","ahead"] ["web","keep","root"] (defScope s_fars_from):=by right
abbrev s_tree_from:ubm:=top 21
theorem sc_tree_from:FnScope ["web","keep","root","costs","ahead"] ["web","keep","root"] (defScope s_tree_from):=by right
abbrev s_the_way:ubm:=top 22
theorem sc_the_way:FnScope ["web","keep","a","b","tree","way"] ["web","keep","a","b"] (defScope s_the_way):=by right
abbrev s_across:ubm:=top 24
theorem sc_across:FnScope ["web","tie","heights","a","b","length"] ["web","tie","heights"] (defScope s_across):=by right
abbrev s_heights_hold:ubm:=top 25
theorem sc_heights_hold:FnScope ["web","keep","heights"] ["web","keep","heights"] (defScope s_heights_hold):=by right
abbrev s_heights_from:ubm:=top 26
theorem sc_heights_from:FnScope ["web","keep","a","roof"] ["web","keep","a","roof"] (defScope s_heights_from):=by right
abbrev s_need_times:ubm:=top 28
theorem sc_need_times:FnScope ["t"] ["t"] (defScope s_need_times):=by right
abbrev s_not_kept:ubm:=top 29
theorem sc_not_kept:FnScope ["web","keep"] ["web","keep"] (defScope s_not_kept):=by right
abbrev s_way_of:ubm:=top 30
theorem sc_way_of:FnScope ["web","keep","tie","a","b","length"] ["web","keep","tie"] (defScope s_way_of):=by right
abbrev s_is_within:ubm:=top 31
theorem sc_is_within:FnScope ["web","tie","t","way"] ["web","tie","t","way"] (defScope s_is_within):=by right
abbrev s_heights_of:ubm:=top 32
theorem sc_heights_of:FnScope ["web","keep","tie","t","a","b","length"] ["web","keep","tie","t"] (defScope s_heights_of):=by right
abbrev s_heights_beyond:ubm:=top 33
theorem sc_heights_beyond:FnScope ["web","keep","tie","t","heights"] ["web","keep","tie","t","heights"] (defScope s_heights_beyond):=by right
abbrev s_times_told:ubm:=top 34
theorem sc_times_told:FnScope ["web","keep","t","ways","tie","way"] ["web","keep","t"] (defScope s_times_told):=by right
abbrev s_ringless:ubm:=top 36
theorem sc_ringless:FnScope ["web","ties","marks","told","tie","a","b","length","one","other"] ["web","ties"] (defScope s_ringless):=by right
abbrev s_without:ubm:=top 38
theorem sc_without:FnScope ["keep","tie"] ["keep","tie"] (defScope s_without):=by right
abbrev s_spare:ubm:=top 39
theorem sc_spare:FnScope ["web","keep","tie","a","b","length"] ["web","keep","tie"] (defScope s_spare):=by right
abbrev s_with_tie:ubm:=top 41
theorem sc_with_tie:FnScope ["keep","tie"] ["keep","tie"] (defScope s_with_tie):=by right
abbrev s_reason_of:ubm:=top 42
theorem sc_reason_of:FnScope ["web","keep","tie","t","way"] ["web","keep","tie","t"] (defScope s_reason_of):=by right
abbrev s_ruled:ubm:=top 43
theorem sc_ruled:FnScope ["keep","ties","word","reason_for","reasons","tie","reason"] ["keep","ties","word","reason_for"] (defScope s_ruled):=by right
abbrev s_ruled_behind:ubm:=top 44
theorem sc_ruled_behind:FnScope ["web","keep","ties","t"] ["web","keep","ties","t"] (defScope s_ruled_behind):=by right
abbrev s_ring_rule:ubm:=top 45
theorem sc_ring_rule:FnScope ["web","t"] ["web","t"] (defScope s_ring_rule):=by right
abbrev s_needed:ubm:=top 46
theorem sc_needed:FnScope ["web","keep","t"] ["web","keep","t"] (defScope s_needed):=by right
abbrev s_kept_show:ubm:=top 48
theorem sc_kept_show:FnScope ["web","kept"] ["web","kept"] (defScope s_kept_show):=by right
abbrev s_not_among:ubm:=top 49
theorem sc_not_among:FnScope ["web","out"] ["web","out"] (defScope s_not_among):=by right
abbrev s_far_show:ubm:=top 50
theorem sc_far_show:FnScope ["web","t","out","tie","heights"] ["web","t","out","tie","heights"] (defScope s_far_show):=by right
abbrev s_is_undecided:ubm:=top 51
theorem sc_is_undecided:FnScope ["web","kept","out","tie"] ["web","kept","out","tie"] (defScope s_is_undecided):=by right
abbrev s_shown:ubm:=top 52
theorem sc_shown:FnScope ["web","t","tree","kept","out","one","other"] ["web","t","tree","kept","out"] (defScope s_shown):=by right
abbrev s_cases_show:ubm:=top 53
theorem sc_cases_show:FnScope ["web","t","tree"] ["web","t","tree"] (defScope s_cases_show):=by right
abbrev s_one_tie_more:ubm:=top 55
theorem sc_one_tie_more:FnScope ["web","keeps","told","keep","behind"] ["web","keeps"] (defScope s_one_tie_more):=by right
abbrev s_first_fewest:ubm:=top 56
theorem sc_first_fewest:FnScope ["web","t","keeps","keep"] ["web","t"] (defScope s_first_fewest):=by right
abbrev s_tree_of:ubm:=top 57
theorem sc_tree_of:FnScope ["web","t","many","kept","out","told","tie","one"] ["web","t","many","kept","out"] (defScope s_tree_of):=by right
abbrev s_fewest:ubm:=top 58
theorem sc_fewest:FnScope ["web","t","keep"] ["web","t"] (defScope s_fewest):=by right
abbrev s__law_pot:ubm:=top 60
theorem sc__law_pot:FnScope ["script","k","cell","prime"] ["script","k"] (defScope s__law_pot):=by right
abbrev s__law_take:ubm:=top 61
theorem sc__law_take:FnScope ["pot","many","found"] ["pot","many"] (defScope s__law_take):=by right
abbrev s__law_length:ubm:=top 62
theorem sc__law_length:FnScope ["pot","way"] ["pot","way"] (defScope s__law_length):=by right
abbrev s__law_tied:ubm:=top 63
theorem sc__law_tied:FnScope ["pot","n","style","a","b","beside"] ["pot","n","style","a","b"] (defScope s__law_tied):=by right
abbrev s__law_order:ubm:=top 64
theorem sc__law_order:FnScope ["pot","many","left","found","turn"] ["pot","many"] (defScope s__law_order):=by right
abbrev s__law_web:ubm:=top 65
theorem sc__law_web:FnScope ["pot","most","n","style","way","names","ties","b","a","one","other"] ["pot","most"] (defScope s__law_web):=by right
abbrev s__law_fars:ubm:=top 66
theorem sc__law_fars:FnScope ["web","keep","start","found","turn","number","a","b","length","one","other","more"] ["web","keep","start"] (defScope s__law_fars):=by right
abbrev s__law_rest:ubm:=top 67
theorem sc__law_rest:FnScope ["web","left"] ["web","left"] (defScope s__law_rest):=by right
abbrev s__law_far_leaf:ubm:=top 68
theorem sc__law_far_leaf:FnScope ["web","t","left","tie","a","b","length","roof","heights"] ["web","t","left","tie"] (defScope s__law_far_leaf):=by right
abbrev s__law_tree:ubm:=top 69
theorem sc__law_tree:FnScope ["pot","web","t","kept","left","deep","some","tie","one"] ["pot","web","t","kept","left","deep"] (defScope s__law_tree):=by right
abbrev s__law_times:ubm:=top 70
theorem sc__law_times:FnScope ["pot"] ["pot"] (defScope s__law_times):=by right
abbrev s__law_is_near:ubm:=top 71
theorem sc__law_is_near:FnScope ["web","keep","t"] ["web","keep","t"] (defScope s__law_is_near):=by right
abbrev s__law_grown:ubm:=top 72
theorem sc__law_grown:FnScope ["pot","web","t","keep","number"] ["pot","web","t"] (defScope s__law_grown):=by right
abbrev s__law_none_fewer:ubm:=top 73
theorem sc__law_none_fewer:FnScope ["web","t","keeps","shown_v","must","keep"] ["web","t","keeps","shown_v","must"] (defScope s__law_none_fewer):=by right
abbrev s_law:ubm:=top 74
theorem sc_law:FnScope ["script","k","pot","web","t","tree","shown_v","must","keeps","keep","cases","few"] ["script"] (defScope s_law):=by right
section
variable {P:m3}{w:uac}{K:a8}{mg:Str->Option c9}{base:Heap}
theorem rZ (T:Bi mg)(D:DefOk K mg "_law_take" s__law_take ["pot","many"]):‹1› "_law_take" ["pot","many"] spTake:=by
 exists 0,sc__law_take
 obtain⟨p,m,rfl,⟨a,b,hp,ha,hb,hb2⟩,hm,hm2,q⟩:=h
 refine⟨_,(aD (aS (aO cM (aG aX (pv 0) aC (λ _ _=>rfl)) aC (nomark _)) (aD (aN (i:=2) nd rfl (j8 rfl) (aI cJ (aG aX (pv 0) aC (λ _ _=>rfl)) (pv 1))) (aD (bK (aI nT (aG aX (pv 0) aC (λ _ _=>rfl)) (pv 1)) (dJ (pv 0) aC dG)) (aE (aH (pv 2))))) aR) (aD (bK (aI cJ (aI bN (aI dA (aG aX (pv 0) aC (λ _ _=>rfl)) aC) aC) aC) (dJ (pv 0) aC dG)) (aE (aH (aI cJ (aI nT (aI cJ (aI cI (aG aX (pv 0) aC (λ _ _=>rfl)) aC) aC) aC) (pv 1)))))),?_⟩
 refine⟨_,rfl,p,_,_,_,rfl,rfl,SqL.of hp,rfl,_,_,rfl,rfl,_,rfl,?_⟩
 refine ite2 (λ c=>?_) (λ c=>?_)
 ·refine⟨_,rfl,p,_,_,_,rfl,rfl,SqL.of hp,rfl,_,rfl,_,_,rfl,rfl,hm,?_⟩
  refine⟨_,rfl,p,_,_,_,rfl,rfl,SqL.of hp,rfl,_,rfl,_,_,rfl,rfl,⟨hm,hm2⟩,?_⟩
  refine⟨_,rfl,p,_,0,0,rfl,rfl,hp,rfl,_,rfl,?_⟩
  refine q _ _ (ub3 _ (by left)) (ubz _ hm) But.upd ⟨a / m,b,aM,Int.ediv_nonneg ha (by left),hb,hb2⟩
 ·refine⟨_,rfl,p,_,_,_,rfl,rfl,SqL.of hp,rfl,_,_,rfl,rfl,.inr ⟨by decide,by decide⟩,_,_,rfl,rfl,_,_,rfl,rfl,(by show (0:Int)<2147483647;decide),?_⟩
  refine⟨_,rfl,p,_,1,1,rfl,rfl,hp,rfl,?_⟩
  have n1:0<=(b*48271+12820163)%2147483647:=ub3 _ (by decide)
  have n2:(b*48271+12820163)%2147483647<2147483647:=ubz _ (by decide)
  refine⟨_,rfl,p,_,_,_,rfl,rfl,SqL.of aM,rfl,_,_,rfl,rfl,⟨by decide,by decide,by left⟩,_,_,rfl,rfl,(by show (0:Int)<2147483629;decide),_,_,rfl,rfl,⟨by decide,by decide⟩,_,rfl,_,_,rfl,rfl,hm,?_⟩
  exact q _ _ (ub3 _ (by left)) (ubz _ hm) But.upd ⟨a,_,aM,ha,n1,n2⟩
theorem tL (T:Bi mg)(D:DefOk K mg "_law_pot" s__law_pot ["script","k"]):‹1› "_law_pot" ["script","k"] (spPot K):=by
 exists 0,sc__law_pot
 obtain⟨a,k,ns,rfl,hS,hk0,hk1,q⟩:=h
 have hl:(ns.map V.int).length=ns.length:=c7 _
 refine⟨_,(aD (aN (i:=2) nd rfl (j8 rfl) aC) (aD (aS (aO cQ (pv 1) (aP bB rfl T.z_len (by symm) (aA (pv 0) aB)) (nomark _)) (aE (aN (i:=2) nd rfl (j8 rfl) (aI cJ (aG aX (pv 0) (pv 1) (λ _ _=>rfl)) (aI nS (aI nS (aI cI aC aC) (aI cI aC aC)) (aI cI aC aC))))) aR) (aD (aN (i:=3) nd rfl (j8 rfl) (aG aX (dL (aA aC (aA aC (aA aC (aA aC (aA aC aB)))))) (aI cJ (pv 1) aC) (λ _ _=>rfl))) (aE (aH (dL (aA (aP (iA rfl) rfl T.z_max (by symm) (aA aC (aA (aI cH (pv 2) (aI cI aC aC)) aB))) (aA (aI cJ (aI cI (aI bN (aI bN (aI cJ (pv 2) (pv 3)) (aI dA aC (pv 1))) aC) aC) aC) aB)))))))),?_⟩
  -- behind the test: cell is some number that is not below nought
 have rest : ∀ (cell : Int), 0 <= cell → ∀ (σ : L2.St), σ = [some (.ref a), some (.int k), some (.int cell), none] →
     (tSeq (tAsg (tOp (rIxL K) (tLst (tCons (tC (.int 2147483629)) (tCons (tC (.int 2147483587)) (tCons (tC (.int 2147483579)) (tCons (tC (.int 2147483563)) (tCons (tC (.int 2147483549)) tNil)))))) (tOp (rI (λ _ j=>0<j) λ i j=>.int (i%j)) (tVar 1) (tC (.int 5)))) (gName 3))
       (tRet (tLst (tCons (tCB (λ xs H Q=>∃ i j,xs=[.int i,.int j]/\Q (.int (if j>i then j else i)) H) (tCons (tC (.int 0)) (tCons (tOp (rI0 λ i j=>.int (i-j)) (tVar 2) (tOp (rI CPow λ i j=>.int (i^j.toNat)) (tC (.int 10)) (tC (.int 18)))) tNil)))
         (tCons (tOp (rI (λ _ j=>0<j) λ i j=>.int (i%j)) (tOp (rI CPow λ i j=>.int (i^j.toNat)) (tOp (rI0 λ i j=>.int (i+j)) (tOp (rI0 λ i j=>.int (i+j)) (tOp (rI (λ _ j=>0<j) λ i j=>.int (i%j)) (tVar 2) (tVar 3)) (tOp (rI CMul λ i j=>.int (i*j)) (tC (.int 7919)) (tVar 1))) (tC (.int 11))) (tC (.int 3))) (tC (.int 2147483647))) tNil)))))
       { nx:=λ _ H'=>Q .non H',rt:=Q } σ H:=by
  intro cell hc σ hσ
  subst hσ
  refine⟨(by show 5<=o9;decide),λ l hl=>?_⟩
  refine⟨_,rfl,_,_,rfl,rfl,(by show (0:Int)<5;decide),?_⟩
  have m0:0<=k%5:=ub3 _ (by decide)
  have m1:k%5<5:=ubz _ (by decide)
  have pr:∃ v:Int,atI [V.int 2147483629,V.int 2147483587,V.int 2147483579,V.int 2147483563,V.int 2147483549] (k%5)=some (.int v)/\2147483549<=v/\v<=2147483629:=by
   have:k%5=0\/k%5=1\/k%5=2\/k%5=3\/k%5=4:=by left
   rcases this with e | e | e | e | e <;> rw[e] <;> exact⟨_,rfl,by decide,by decide⟩
  obtain⟨v,hv,v1,v2⟩:=pr
  refine⟨l,_,_,_,rfl,rfl,SqL.of aM,hv,?_⟩
  have S1:Same H (upd H l (.lst [V.int 2147483629,V.int 2147483587,V.int 2147483579,V.int 2147483563,V.int 2147483549])):=aW hl
  refine⟨_,rfl,_,_,rfl,rfl,⟨by decide,by decide,by decide⟩,_,_,rfl,rfl,_,_,rfl,?_⟩
  refine⟨_,rfl,_,rfl,_,_,rfl,rfl,(by show (0:Int)<v;left),_,rfl,_,_,rfl,rfl,.inl ⟨by decide,by decide⟩,_,_,rfl,rfl,_,_,rfl,rfl,_,_,rfl,rfl,⟨by decide,by decide,?_⟩,_,_,rfl,rfl,(by show (0:Int)<2147483647;decide),?_⟩
  ·have c0:0<=cell%v:=ub3 _ (by left)
   have c1:cell%v<v:=ubz _ (by left)
   left
  refine⟨(by show 2<=o9;decide),λ l2 hl2=>?_⟩
  refine q l2 _ (S1.trans (aW hl2)) (S1.free hl2) ⟨_,_,aM,?_,ub3 _ (by decide),ubz _ (by decide)⟩
  split <;> left
 refine⟨_,rfl,_,rfl,a,_,rfl,.inl hS,_,_,rfl,rfl,_,rfl,?_⟩
 refine ite2 (λ c=>?_) (λ c=>?_)
 ·have c':k<(((ns.map V.int).length:Nat):Int):=ufl c
  rw[hl] at c'
  obtain⟨v,hv⟩:∃ v:Int,atI (ns.map V.int) k=some (.int v):=by
   have hk:k.toNat<ns.length:=by left
   have ek:k=((k.toNat:Nat):Int):=by left
   have z:atI (ns.map V.int) ((k.toNat:Nat):Int)=some (.int ns[k.toNat]):=oC (by rw[j5,c6 hk] <;> rfl)
   rw[← ek] at z
   exact⟨_,z⟩
  refine⟨_,rfl,_,rfl,a,_,_,_,rfl,rfl,hS,hv,?_⟩
  refine⟨_,_,rfl,rfl,⟨by decide,by decide,by decide⟩,_,_,rfl,rfl,⟨by decide,by decide,by decide⟩,_,_,rfl,rfl,mulB,_,_,rfl,rfl,⟨by decide,by decide,by decide⟩,_,_,rfl,rfl,mulB2,_,_,rfl,rfl,posB,?_⟩
  exact rest _ (ub3 _ (by have:=posB;left)) _ rfl
 ·exact rest 5 (by decide) _ rfl
theorem qK (T:Bi mg)(D:DefOk K mg "_law_length" s__law_length ["pot","way"])(O__law_take:‹1› "_law_take" ["pot","many"] spTake):‹2› "_law_length" ["pot","way"] spLength:=by
 exists 1,sc__law_length
 obtain⟨p,y,rfl,hp,hy0,hy5,q⟩:=h
 refine⟨_,(aD (aS (aO cQ (pv 1) aC (nomark _)) (aE (aH (aG aX (dL (aA aC (aA (aI bN aC (aF O__law_take hr rfl (aA (pv 0) (aA aC aB)))) aB))) (pv 1) (λ _ _=>rfl)))) aR) (aD (aS (aO bH (pv 1) aC (nomark _)) (aE (aH (aI bN aC (aF O__law_take hr rfl (aA (pv 0) (aA aC aB)))))) aR) (aD (aS (aO bH (pv 1) aC (nomark _)) (aE (aH (aG aX (dL (aA aC (aA aC (aA aC (aA (aI cI aC aC) (aA (aI cH (aI cI aC aC) aC) (aA (aI cI aC aC) aB))))))) (aF O__law_take hr rfl (aA (pv 0) (aA aC aB))) (λ _ _=>rfl)))) aR) (aE (aH (aI bN aC (aI dA (aF O__law_take hr rfl (aA (pv 0) (aA (aI cI aC aC) aB))) (aF O__law_take hr rfl (aA (pv 0) (aA (aI bN (aI cI aC aC) aC) aB)))))))))),?_⟩
 refine⟨_,rfl,_,_,rfl,rfl,_,rfl,?_⟩
 refine ite2 (λ c=>?_) (λ c=>?_)
 ·have c':y<2:=ufl c
  refine⟨_,rfl,p,3,rfl,hp,by decide,by decide,λ r H1 r0 r1 b1 p1=>?_⟩
  refine⟨_,_,rfl,rfl,(by show 2<=o9;decide),λ l hl=>?_⟩
  have at_:∃ v:Int,atI [V.int 1,V.int (1+r)] y=some (.int v)/\1<=v/\v<=10^18:=by
   have:y=0\/y=1:=by left
   rcases this with e | e <;> rw[e]
   ·exact⟨1,rfl,by symm,by symm⟩
   ·exact⟨1+r,rfl,by left,by left⟩
  obtain⟨v,hv,v0,v1⟩:=at_
  refine⟨_,rfl,l,_,_,_,rfl,rfl,SqL.of aM,hv,?_⟩
  obtain⟨a',b',e',z⟩:=p1
  exact q v _ v0 v1 (b1.trans (But.new hl)) ⟨a',b',(aW hl) _ _ e',z⟩
 refine⟨_,rfl,rfl,_,rfl,?_⟩
 refine ite2 (λ c2=>?_) (λ c2=>?_)
 ·refine⟨_,rfl,p,50,rfl,hp,by decide,by decide,λ r H1 r0 r1 b1 p1=>?_⟩
  exact⟨_,_,rfl,rfl,q _ _ (by left) (by left) b1 p1⟩
 refine⟨_,rfl,rfl,_,rfl,?_⟩
 refine ite2 (λ c3=>?_) (λ c3=>?_)
 ·refine⟨_,_,rfl,rfl,⟨by decide,by decide,by decide⟩,_,_,rfl,rfl,⟨by decide,by decide,by decide⟩,_,_,rfl,rfl,_,_,rfl,rfl,⟨by decide,by decide,by decide⟩,(by show 6<=o9;decide),λ l hl=>?_⟩
  have hp':Pot (upd H l (.lst [V.int 1,V.int 2,V.int 3,V.int ((10:Int)^(18:Int).toNat),V.int ((10:Int)^(18:Int).toNat-1),V.int ((10:Int)^(17:Int).toNat)])) p:=by
   obtain⟨a',b',e',z⟩:=hp
   exact⟨a',b',(aW hl) _ _ e',z⟩
  have lp:l≠p:=by
   obtain⟨a',b',e',z⟩:=hp
   exact λ e=>by rw[e,e'] at hl;cases hl
  refine⟨_,rfl,p,6,rfl,hp',by decide,by decide,λ r H1 r0 r1 b1 p1=>?_⟩
  have at_:∃ v:Int,atI [V.int 1,V.int 2,V.int 3,V.int ((10:Int)^(18:Int).toNat),V.int ((10:Int)^(18:Int).toNat-1),V.int ((10:Int)^(17:Int).toNat)] r=some (.int v)/\1<=v/\v<=10^18:=by
   have:r=0\/r=1\/r=2\/r=3\/r=4\/r=5:=by left
   rcases this with e | e | e | e | e | e <;> rw[e] <;> exact⟨_,rfl,by symm,by symm⟩
  obtain⟨v,hv,v0,v1⟩:=at_
  refine⟨l,_,_,_,rfl,rfl,SqL.of (b1 _ _ lp aM),hv,?_⟩
  exact q v _ v0 v1 ((But.new hl).trans b1) p1
 ·refine⟨_,rfl,_,_,rfl,rfl,⟨by decide,by decide,by decide⟩,p,_,rfl,hp,by decide,by decide,λ r H1 r0 r1 b1 p1=>?_⟩
  refine⟨_,rfl,_,_,rfl,rfl,⟨by decide,by decide,by decide⟩,_,_,rfl,rfl,p,_,rfl,p1,by decide,by decide,λ r2 H2 r20 r21 b2 p2=>?_⟩
  have e9:((10:Int)^(9:Int).toNat)=1000000000:=by decide
  rw[e9] at r1 r21
  refine⟨_,_,rfl,rfl,.inl ⟨by left,by left⟩,_,_,rfl,rfl,?_⟩
  have m0:0<=r*r2:=uff r0 r20
  have m1:r*r2<=999999999*1000000000:=Int.mul_le_mul (by left) (by left) r20 (by decide)
  exact q _ _ (by left) (by left) (b1.trans b2) p2
theorem rY (T:Bi mg)(D:DefOk K mg "_law_tied" s__law_tied ["pot","n","style","a","b"])(O__law_take:‹1› "_law_take" ["pot","many"] spTake):‹2› "_law_tied" ["pot","n","style","a","b"] spTied:=by
 exists 1,sc__law_tied
 obtain⟨p,n,y,a,b,rfl,hp,q⟩:=h
 have q0:∀ k,Q (.bl k) H:=λ k=>q k H But.refl hp
 refine⟨_,(aD (aN (i:=5) nd rfl (j8 rfl) (jT (bD bH (aI cH (pv 4) (pv 3)) aC (nomark _)) (bV (bD bH (aI cH (pv 4) (pv 3)) (aI cH (pv 1) aC) (nomark _))))) (aD (aS (aO cQ (pv 2) aC (nomark _)) (aE (aH (jT (pv 5) (bV (cG (bD bH (pv 2) aC (nomark _)) (bV (bD bH (aF O__law_take hr rfl (aA (pv 0) (aA aC aB))) aC (nomark _)))))))) aR) (aD (aS (aO cQ (pv 2) aC (nomark _)) (aE (aH (bD bH (bD cM (aF O__law_take hr rfl (aA (pv 0) (aA aC aB))) aC (nomark _)) (bD bH (pv 2) aC (nomark _)) (nomark _)))) aR) (aD (aS (aO bH (pv 2) aC (nomark _)) (aE (aH (jT (bD bH (aI cH (pv 4) (pv 3)) aC (nomark _)) (bV (cG (bD bH (aI cH (pv 4) (pv 3)) aC (nomark _)) (bV (bD cM (aI cJ (pv 4) aC) aC (nomark _)))))))) aR) (aD (aS (aO cQ (pv 2) aC (nomark _)) (aE (aH (cG (bD bH (bD bH (aI cJ (pv 3) aC) (aI cJ (pv 4) aC) (nomark _)) (bD bH (pv 2) aC (nomark _)) (nomark _)) (bV (bD cM (aF O__law_take hr rfl (aA (pv 0) (aA aC aB))) aC (nomark _)))))) aR) (aE (aH cD))))))),?_⟩
 refine⟨_,rfl,_,rfl,_,_,rfl,rfl,rfl,_,rfl,?_⟩
 refine ite2 (λ c=>?_) (λ c=>?_)
 all_goals (try refine⟨_,rfl,_,rfl,_,_,rfl,rfl,_,rfl,_,_,rfl,rfl,rfl,?_⟩)
 all_goals
  refine⟨_,rfl,_,_,rfl,rfl,_,rfl,?_⟩
  refine ite2 (λ c1=>?_) (λ c1=>?_)
  ·refine⟨_,rfl,_,rfl,?_⟩
   refine ite2 (λ d=>?_) (λ d=>?_)
   ·exact q0 _
   ·refine⟨_,rfl,rfl,_,rfl,?_⟩
    refine ite2 (λ d=>?_) (λ d=>?_)
    ·exact⟨_,rfl,p,_,rfl,hp,by decide,by decide,λ r H' _ _ b1 p1=>⟨rfl,q _ _ b1 p1⟩⟩
    ·exact q0 _
  refine⟨_,rfl,_,_,rfl,rfl,_,rfl,?_⟩
  refine ite2 (λ c2=>?_) (λ c2=>?_)
  ·exact⟨_,rfl,p,_,rfl,hp,by decide,by decide,λ r H' _ _ b1 p1=>⟨_,_,rfl,rfl,_,rfl,rfl,rfl,q _ _ b1 p1⟩⟩
  refine⟨_,rfl,rfl,_,rfl,?_⟩
  refine ite2 (λ c3=>?_) (λ c3=>?_)
  ·refine⟨_,rfl,_,rfl,_,_,rfl,rfl,rfl,_,rfl,?_⟩
   refine ite2 (λ d=>?_) (λ d=>?_)
   ·exact q0 _
   ·refine⟨_,rfl,_,rfl,_,_,rfl,rfl,rfl,_,rfl,?_⟩
    refine ite2 (λ d=>?_) (λ d=>?_)
    ·exact⟨_,rfl,_,_,rfl,rfl,(by show (0:Int)<3;decide),_,_,rfl,rfl,q0 _⟩
    ·exact q0 _
  refine⟨_,rfl,_,_,rfl,rfl,_,rfl,?_⟩
  refine ite2 (λ c4=>?_) (λ c4=>?_)
  ·refine⟨_,rfl,_,_,rfl,rfl,(by show (0:Int)<2;decide),_,rfl,_,_,rfl,rfl,(by show (0:Int)<2;decide),rfl,_,rfl,rfl,rfl,_,rfl,?_⟩
   refine ite2 (λ d=>?_) (λ d=>?_)
   ·exact⟨_,rfl,p,_,rfl,hp,by decide,by decide,λ r H' _ _ b1 p1=>⟨_,_,rfl,rfl,q _ _ b1 p1⟩⟩
   ·exact q0 _
  ·exact q0 _
theorem rA (T:Bi mg)(D:DefOk K mg "_law_order" s__law_order ["pot","many"])(O__law_take:‹1› "_law_take" ["pot","many"] spTake):‹2› "_law_order" ["pot","many"] spOrder:=by
 exists 1,sc__law_order
 obtain⟨p,m,rfl,hp,hm0,hm1,q⟩:=h
 refine⟨_,(aD (aN (i:=2) nd rfl (j8 rfl) (bI (kD rfl) rfl T.z_list (by symm) (aA (bI hO rfl T.z_range (by symm) (aA (pv 1) aB)) aB))) (aD (aN (i:=3) nd rfl (j8 rfl) (dL aB)) (aD (bM PassesOwn.never rfl (dR rfl T.z_range (aA (pv 1) aB)) (aJ (i:=4) nd rfl (j8 rfl)) (aE (bX (cP ual ua1 ua0 fT (pv 3) (aA (cP ual PySem.F.slot_list_pop PySem.F.type_list_pop xL (pv 2) (aA (aF O__law_take hr rfl (aA (pv 0) (aA (aP bB rfl T.z_len (by symm) (aA (pv 2) aB)) aB))) aB)) aB))))) (aE (aH (pv 3)))))),?_⟩
 refine⟨_,rfl,m,rfl,λ g hg=>?_⟩
 refine⟨g,m,rfl,aM,hm0,hm1,λ l hl=>?_⟩
 refine⟨(by show 0<=o9;decide),λ l2 hl2=>?_⟩
 obtain⟨H0,eH0⟩:∃ H0,H0=upd (upd (upd H g (.rng 0 m)) l (.lst ((d7 m.toNat).map λ i:Nat=>V.int (i:Int)))) l2 (.lst []):=⟨_,rfl⟩
 rw[← eH0]
 have S1:Same H (upd H g (.rng 0 m)):=aW hg
 have S2:=S1.trans (aW (o:=.lst ((d7 m.toNat).map λ i:Nat=>V.int (i:Int))) hl)
 have S3:Same H H0:=by rw[eH0];exact S2.trans (aW hl2)
 have fl:H l=none:=S1.free hl
 have fl2:H l2=none:=S2.free hl2
 have ll2:l≠l2:=λ e=>by rw[← e,aM] at hl2;cases hl2
 have el:H0 l=some (.lst ((d7 m.toNat).map λ i:Nat=>V.int (i:Int))):=by rw[eH0,aK ll2,aM]
 have el2:H0 l2=some (.lst []):=by rw[eH0,aM]
 have hp0:Pot H0 p:=by
  obtain⟨a,b,e,z⟩:=hp
  exact⟨a,b,S3 _ _ e,z⟩
 have nlp:l≠p:=by
  obtain⟨a,b,e,z⟩:=hp
  exact λ x=>by rw[x,e] at fl;cases fl
 have nl2p:l2≠p:=by
  obtain⟨a,b,e,z⟩:=hp
  exact λ x=>by rw[x,e] at fl2;cases fl2
 refine⟨_,rfl,m,rfl,by left,by left,?_⟩
 refine eN (n:=m.toNat) (λ i σ H'=>∃ (t:Option V)(ls ms:List Int),σ=[some (.ref p),some (.int m),some (.ref l),some (.ref l2),t]/\H' l=some (.lst (ls.map V.int))/\H' l2=some (.lst (ms.map V.int))/\Pot H' p /\
  (∀ b o,b≠p->H b=some o->H' b=some o)/\(ms++ls).Perm ((d7 m.toNat).map λ i:Nat=>(i:Int))/\ms.length=i) ?start ?turn ?fin
 case start=>exact⟨none,(d7 m.toNat).map λ i:Nat=>(i:Int),[],rfl,by rw[el,uam];rfl,el2,hp0,λ b o _ e=>S3 b o e,ucg _,rfl⟩
 case turn =>
  rintro i σ H' hi ⟨t,ls,ms,rfl,e1,e2,hp',kp,pm,hl'⟩
  have hlen:ls.length=m.toNat-i:=by
   have:=pm.length_eq
   rw[g9,c7,j9] at this
   left
  refine⟨_,rfl,.inl ⟨rfl,_,SqL.of e2⟩,_,rfl,.inl ⟨rfl,_,SqL.of e1⟩,_,rfl,_,rfl,l,_,rfl,.inl (SqL.of e1),?_⟩
  refine⟨p,_,rfl,hp',(by rw[c7];left),(by rw[c7];left),λ r H1 r0 r1 b1 p1=>?_⟩
  rw[c7] at r1
  have hr1:r.toNat<ls.length:=by left
  have er:r=((r.toNat:Nat):Int):=by left
  have six:seqIndex? r (ls.map V.int).length=some r.toNat:=(jA (by unfold ixN;rw[ufo r0,ufo (by rw[c7];left)])).1
  refine⟨l,_,r,r.toNat,.int ls[r.toNat],rfl,rfl,b1 _ _ nlp e1,by left,by left,six,by rw[j5,c6 hr1];rfl,?_⟩
  refine⟨l2,_,_,rfl,rfl,by rw[aK ll2.symm];exact b1 _ _ nl2p e2,?_,?_⟩
  ·rw[c7]
   exact ubn (by left:ms.length<=1000) (by decide)
  ·refine⟨_,ls.eraseIdx r.toNat,ms++[ls[r.toNat]],rfl,?_,?_,?_,?_,?_,by rw[g9,uaf];left⟩
   ·rw[aK ll2,aM,lH]
   ·rw[aM,uao];rfl
   ·obtain⟨a,b,e,z⟩:=p1
    exact⟨a,b,by rw[aK nl2p.symm,aK nlp.symm];exact e,z⟩
   ·intro b o hb e
    have n1:b≠l:=λ x=>by rw[x,fl] at e;cases e
    have n2:b≠l2:=λ x=>by rw[x,fl2] at e;cases e
    rw[aK n2,aK n1]
    exact b1 _ _ hb (kp _ _ hb e)
   ·refine List.Perm.trans ?_ pm
    rw[ub7]
    refine List.Perm.append_left _ ?_
    show (ls[r.toNat]::ls.eraseIdx r.toNat).Perm ls
    exact kR ls r.toNat hr1
 case fin =>
  rintro σ H' ⟨t,ls,ms,rfl,e1,e2,hp',kp,pm,hl'⟩
  have hlen:ls=[]:=by
   have:=pm.length_eq
   rw[g9,c7,j9] at this
   exact List.eq_nil_of_length_eq_zero (by left)
  subst hlen
  rw[ubb] at pm
  exact⟨_,rfl,q l2 H' ms kp hp' fl2 nl2p e2 pm⟩
def WInv (H:Hp)(p ln lt:j4)(m n st wy:Int)(ms:List Int)(b a:Nat)(σ:L2.St)(H':Hp):Prop :=
 ∃ (t7 t8 t9 t10:Option V)(ys:List V)(ties:List Tie),σ=[some (.ref p),some (.int m),some (.int n),some (.int st),some (.int wy),some (.ref ln),some (.ref lt),t7,t8,t9,t10] /\
  H' ln=some (.lst (ms.map V.int))/\H' lt=some (.lst ys)/\TieL H' ys ties/\Pot H' p/\(∀ b o,b≠p->H b=some o->H' b=some o)/\Grown n.toNat ms b a ties
theorem tK (T:Bi mg)(D:DefOk K mg "_law_web" s__law_web ["pot","most"])(O__law_take:‹2› "_law_take" ["pot","many"] spTake)(O__law_order:‹2› "_law_order" ["pot","many"] spOrder)
  (O__law_tied:‹2› "_law_tied" ["pot","n","style","a","b"] spTied) (O__law_length:‹2› "_law_length" ["pot","way"] spLength):‹3› "_law_web" ["pot","most"] (spWeb K):=by
 exists 2,sc__law_web
 obtain⟨p,m,rfl,hp,hm0,hm1,q⟩:=h
 refine⟨_,(aD (aN (i:=2) nd rfl (j8 rfl) (aI bN aC (aF O__law_take hr rfl (aA (pv 0) (aA (pv 1) aB))))) (aD (aN (i:=3) nd rfl (j8 rfl) (aF O__law_take hr rfl (aA (pv 0) (aA aC aB)))) (aD (aN (i:=4) nd rfl (j8 rfl) (aF O__law_take hr rfl (aA (pv 0) (aA aC aB)))) (aD (aN (i:=5) nd rfl (j8 rfl) (aF O__law_order hr rfl (aA (pv 0) (aA (pv 2) aB)))) (aD (aN (i:=6) nd rfl (j8 rfl) (dL aB)) (aD (bM PassesOwn.never rfl (dR rfl T.z_range (aA (pv 2) aB)) (aJ (i:=7) nd rfl (j8 rfl)) (aE (bM PassesOwn.never rfl (dR rfl T.z_range (aA (pv 7) aB)) (aJ (i:=8) nd rfl (j8 rfl)) (aE (aS (PW.pt (zaw (bL (aF O__law_tied hr rfl (aA (pv 0) (aA (pv 2) (aA (pv 3) (aA (pv 8) (aA (pv 7) aB))))))) (zF (aO cQ (aP bB rfl T.z_len (by symm) (aA (pv 6) aB)) aC (nomark _))))) (aD (bK (aP sC rfl T.z_sorted (by symm) (aA (dL (aA (aG aX (pv 5) (pv 8) (λ _ _=>rfl)) (aA (aG aX (pv 5) (pv 7) (λ _ _=>rfl)) aB))) aB)) (zaz (n:=2) rfl (aQ (aJ (i:=9) nd rfl (j8 rfl)) (aQ (aJ (i:=10) nd rfl (j8 rfl)) bQ)))) (aE (bX (cP ual ua1 ua0 fT (pv 6) (aA (oH (aA (pv 9) (aA (pv 10) (aA (aF O__law_length hr rfl (aA (pv 0) (aA (pv 4) aB))) aB)))) aB))))) aR))))) (aE (aH (oH (aA (pv 2) (aA (bI kB rfl T.z_tuple (by symm) (aA (aP sB rfl T.z_sorted (by symm) (aA (pv 6) aB)) aB)) aB))))))))))),?_⟩
 refine⟨_,rfl,_,rfl,p,m,rfl,hp,by left,by left,λ r1 H1 r10 r11 b1 p1=>?_⟩
 refine⟨_,_,rfl,rfl,?_⟩
 refine⟨_,rfl,p,8,rfl,p1,by decide,by decide,λ st H2 _ _ b2 p2=>?_⟩
 refine⟨_,rfl,p,5,rfl,p2,by decide,by decide,λ wy H3 wy0 wy1 b3 p3=>?_⟩
 refine⟨_,rfl,_,rfl,p,_,rfl,p3,by left,by left,λ ln H4 ms b4 p4 f4 n4 e4 pm=>?_⟩
 obtain⟨n,en⟩:∃ n:Int,n=1+r1:=⟨_,rfl⟩
 rw[← en] at pm
 have bt4:But p H H4:=b1.trans (b2.trans (b3.trans b4))
 have fln:H ln=none:=by
  cases e:H ln with
  | none=>rfl
  | some u=>rw[(b1.trans (b2.trans b3)) _ _ n4 e] at f4;cases f4
 refine⟨(by show 0<=o9;decide),λ lt hlt=>?_⟩
 have flt:H lt=none:=by
  by_cases z:lt=p
  ·obtain⟨a',b',e',_⟩:=p4;rw[z,e'] at hlt;cases hlt
  ·cases e:H lt with
   | none=>rfl
   | some u=>rw[bt4 _ _ z e] at hlt;cases hlt
 have nlt:lt≠p:=by
  obtain⟨a',b',e',_⟩:=p4
  exact λ x=>by rw[x,e'] at hlt;cases hlt
 have nln:ln≠lt:=λ x=>by rw[← x,e4] at hlt;cases hlt
 have pm0:Perm0 n.toNat ms:=Perm0.of pm
 refine⟨_,rfl,n,by rw[en],by left,by left,?_⟩
 refine eN (n:=n.toNat) (λ i σ H'=>WInv H p ln lt m n st wy ms i 0 σ H') ?start ?turn ?fin
 case start =>
  refine⟨none,none,none,none,[],[],by rw[en];rfl,by rw[aK nln];exact e4,aM,.nil,?_,λ b o hb e=>?_,Grown.start⟩
  ·obtain⟨a',b',e',z⟩:=p4
   exact⟨a',b',by rw[aK nlt.symm];exact e',z⟩
  ·rw[aK (λ x=>by rw[x,flt] at e;cases e)]
   exact bt4 _ _ hb e
 case turn =>
  rintro i σ H' hi ⟨t7,t8,t9,t10,ys,ties,rfl,g1,g2,g3,g4,g5,g6⟩
  refine⟨_,rfl,_,rfl,by left,by left,?_⟩
  have ei:((0+(i:Int)):Int).toNat=i:=by left
  rw[ei]
  refine eN (n:=i) (λ k σ H''=>(∃ t7,σ[7]?=some (some (.int (0+(i:Int))))/\t7=())/\WInv H p ln lt m n st wy ms i k σ H'') ?start2 ?turn2 ?fin2
  case start2=>exact⟨⟨(),rfl,rfl⟩,some (.int (0+(i:Int))),t8,t9,t10,ys,ties,rfl,g1,g2,g3,g4,g5,g6⟩
  case fin2 =>
   rintro σ H'' ⟨_,t7,t8,t9,t10,ys,ties,rfl,g1,g2,g3,g4,g5,g6⟩
   exact⟨t7,t8,t9,t10,ys,ties,rfl,g1,g2,g3,g4,g5,g6.down⟩
  case turn2 =>
   rintro k σ K1 hk ⟨⟨_,h7,_⟩,t7,t8,t9,t10,ys,ties,rfl,g1,g2,g3,g4,g5,g6⟩
   have e7:t7=some (.int (0+(i:Int))):=by simpa using h7
   subst e7
   have again : ∀ {u8 u9 u10 : Option V}{ys' : List V}{ts : List Tie}{J : Hp}, J ln = some (.lst (ms.map V.int)) → J lt = some (.lst ys') → TieL J ys' ts → Pot J p → (∀ b o, b ≠ p → H b = some o → J b = some o) → Grown n.toNat ms i (k+1) ts →
       (∃ t7,([some (.ref p),some (.int m),some (.int n),some (.int st),some (.int wy),some (.ref ln),some (.ref lt),some (.int (0+(i:Int))),u8,u9,u10]:L2.St)[7]?=some (some (.int (0+(i:Int))))/\t7=())/\WInv H p ln lt m n st wy ms i (k+1) [some (.ref p),some (.int m),some (.int n),some (.int st),some (.int wy),some (.ref ln),some (.ref lt),some (.int (0+(i:Int))),u8,u9,u10] J :=
    λ a1 a2 a3 a4 a5 a6=>⟨⟨(),rfl,rfl⟩,_,_,_,_,_,_,rfl,a1,a2,a3,a4,a5,a6⟩
   refine⟨_,rfl,_,rfl,_,rfl,_,rfl,_,rfl,p,_,_,_,_,rfl,g4,λ kk K2 c2 d2=>⟨kk,rfl,?_⟩⟩
   have nlnp:ln≠p:=n4
   have l1:K2 ln=some (.lst (ms.map V.int)):=c2 _ _ nlnp g1
   have l2:K2 lt=some (.lst ys):=c2 _ _ nlt g2
   have tup2:∀ a xs,K1 a=some (.tup xs)->K2 a=some (.tup xs):=λ a xs e=>c2 _ _ (λ x=>by
    obtain⟨a',b',e',_⟩:=g4
    rw[x,e'] at e;cases e) e
   have l3:TieL K2 ys ties:=g3.keep tup2
   have l5:∀ b o,b≠p->H b=some o->K2 b=some o:=λ b o hb e=>c2 _ _ hb (g5 _ _ hb e)
   have ylen:ys.length=ties.length:=Paired.length g3
   cases kk with
   | false =>
    refine iteF (iteF ?_)
    exact again l1 l2 l3 d2 l5 g6.skip
   | true =>
    refine iteT ?_
    refine⟨_,rfl,lt,_,rfl,.inl (SqL.of l2),_,_,rfl,rfl,_,rfl,?_⟩
    refine ite2 (λ c=>?_) (λ c=>?_)
    case refine_2=>exact again l1 l2 l3 d2 l5 g6.skip
    have c':((ys.length:Nat):Int)<60:=ufl c
    have hkn:k<n.toNat:=by left
    have at_:∀ j:Nat,j<n.toNat->atI (ms.map V.int) (j:Int)=some (.int (ms.getD j 0)):=λ j hj=>by
     have hj':j<ms.length:=by rw[pm0.len];exact hj
     refine oC ?_
     rw[j5,c6 hj']
     simp [ubo,hj']
    have ak:atI (ms.map V.int) (0+(k:Int))=some (.int (ms.getD k 0)):=by rw[Int.zero_add];exact at_ k hkn
    have ai:atI (ms.map V.int) (0+(i:Int))=some (.int (ms.getD i 0)):=by rw[Int.zero_add];exact at_ i hi
    refine⟨_,rfl,_,rfl,ln,_,_,_,rfl,rfl,SqL.of l1,ak,_,rfl,_,rfl,ln,_,_,_,rfl,rfl,SqL.of l1,ai,(by show 2<=o9;decide),λ s1 hs1=>?_⟩
    refine⟨s1,[ms.getD k 0,ms.getD i 0],rfl,SqL.of aM,(by show 2<64;decide),λ zs pz wz s2 hs2=>?_⟩
    obtain⟨x,y,rfl,hxy,hor⟩:=tY pz wz
    refine⟨s2,_,rfl,SqL.of aM,rfl,?_⟩
    refine⟨_,_,rfl,_,_,rfl,rfl,?_⟩
    have n1:∀ b o,K2 b=some o->b≠s1:=λ b o e=>aY e hs1
    have n2:∀ b o,K2 b=some o->b≠s2:=λ b o e=>aY (aW hs1 b o e) hs2
    have up:∀ b o,K2 b=some o->upd (upd K2 s1 (.lst [.int (ms.getD k 0),.int (ms.getD i 0)])) s2 (.lst [.int x,.int y]) b=some o:=λ b o e=>by rw[aK (n2 b o e),aK (n1 b o e)];exact e
    refine⟨_,rfl,.inl ⟨rfl,_,SqL.of (up _ _ l2)⟩,_,rfl,_,rfl,_,rfl,_,rfl,?_⟩
    refine⟨p,wy,rfl,?_,wy0,wy1,λ len K5 ln0 ln1 c5 d5=>?_⟩
    ·obtain⟨a',b',e',z⟩:=d2
     exact⟨a',b',up _ _ e',z⟩
    refine⟨(by show 3<=o9;decide),λ tp htp=>?_⟩
    have pl:∃ xs,K2 p=some (.lst xs):=d2.lst
    have up5:∀ b o,b≠p->K2 b=some o->upd K5 tp (.tup [.int x,.int y,.int len]) b=some o:=λ b o hb e=>by
     have e5:=c5 b o hb (up b o e)
     rw[aK (aY e5 htp)];exact e5
    refine⟨lt,_,_,rfl,rfl,up5 _ _ nlt l2,?_,?_⟩
    ·exact ubn (by left:ys.length<=1000) (by decide)
    have k5:∀ b o,b≠p->b≠lt->K2 b=some o->upd (upd K5 tp (.tup [.int x,.int y,.int len])) lt (.lst (ys++[.ref tp])) b=some o:=λ b o hb hb2 e=>by rw[aK hb2];exact up5 b o hb e
    have ntp:tp≠lt:=λ z=>by
     have:=c5 _ _ nlt (up _ _ l2)
     rw[← z,htp] at this;cases this
    refine again (k5 _ _ nlnp nln l1) aM (TieL.snoc (TieL.keep l3 λ a xs e=>k5 _ _ ?_ ?_ e) ?_) ?_ (λ b o hb e=>k5 _ _ hb (λ z=>by rw[z,flt] at e;cases e) (l5 _ _ hb e))
     (g6.add (x:=x) (y:=y) (l:=len) pm0 hk hi (by left) ln0 ln1 hor hxy)
    ·intro z
     obtain⟨xs',e'⟩:=pl
     rw[z,e'] at e;cases e
    ·intro z
     rw[z,l2] at e;cases e
    ·rw[aK ntp,aM];rfl
    ·obtain⟨a',b',e',z⟩:=d5
     exact⟨a',b',by rw[aK nlt.symm,aK (aY e' htp)];exact e',z⟩
 case fin =>
  rintro σ H' ⟨t7,t8,t9,t10,ys,ties,rfl,g1,g2,g3,g4,g5,g6⟩
  have ylen:ys.length=ties.length:=Paired.length g3
  have few:=g6.few
  refine⟨_,rfl,_,rfl,lt,ys,ties.map tieI,rfl,SqL.of g2,by left,kF (λ y t ⟨a,e1,e2⟩=>⟨a,e1,SqT.of e2⟩) g3,λ k hk=>?_,λ qs pq wq l hl=>?_⟩
  ·obtain⟨t,_,rfl⟩:=o7.mp hk
   exact λ z=>by cases z
  obtain⟨ts,pt,tl,wt⟩:=yW g3 pq wq
  refine⟨l,_,rfl,.inl ⟨SqL.of aM,λ l' hl'=>?_⟩⟩
  refine⟨(by show 2<=o9;decide),λ v hv=>?_⟩
  have S1:Same H' (upd H' l (.lst (qs.map (·.1)))):=aW hl
  have S2:=S1.trans (aW (o:=.tup (qs.map (·.1))) hl')
  have S3:=S2.trans (aW (o:=.tup [.int n,.ref l']) hv)
  refine q (.ref v) _ n ts (λ b o hb e=>S3 _ _ (g5 _ _ hb e)) ?_ ⟨by left,by left,zE wt ((pt.pairwise_iff (λ {a b} h z=>h ⟨z.1.symm,z.2.symm⟩)).mpr g6.nd),by have:=pt.length_eq;left,λ t ht=>?_⟩ (by left) ?_
  ·obtain⟨a',b',e',z⟩:=g4
   exact⟨a',b',S3 _ _ e',z⟩
  ·have:=g6.ok t (pt.mem_iff.mp ht)
   have e:((n.toNat:Nat):Int)=n:=by left
   rw[e] at this
   exact this
  ·refine⟨v,_,rfl,aM,_,_,rfl,rfl,_,_,rfl,⟨l',qs.map (·.1),rfl,?_,?_⟩,rfl⟩
   ·exact (aW hv) _ _ aM
   ·exact TieL.is (tl.keep λ a xs e=>S3 _ _ e)
theorem tH (T:Bi mg)(D:DefOk K mg "is_whole" s_is_whole ["thing"]):‹1› "is_whole" ["thing"] (spD1 K (λ _=>True) wholeB):=by
 exists 0,sc_is_whole
 obtain⟨d,v,rfl,hd,_,q⟩:=h
 have q0:=q H (Same.refl H)
 have ty:=jP hd
 refine⟨_,(aE (aH (cG (aP (gA (n:="int")) rfl T.z_isinstance (by symm) (aA (pv 0) (aA (gG (v:=.ty "int") rfl T.z_int (by symm) rfl) aB))) (bV (za0 (aP (gA (n:="bool")) rfl T.z_isinstance (by symm) (aA (pv 0) (aA (gG (v:=.ty "bool") rfl T.z_bool (by symm) rfl) aB)))))))),?_⟩
 cases d with
 | int i=>exact⟨_,rfl,_,_,_,rfl,ty,rfl,_,rfl,iteT ⟨_,rfl,_,_,_,rfl,ty,rfl,_,rfl,q0⟩⟩
 | bool b=>exact⟨_,rfl,_,_,_,rfl,ty,rfl,_,rfl,iteT ⟨_,rfl,_,_,_,rfl,ty,rfl,_,rfl,q0⟩⟩
 | none=>exact⟨_,rfl,_,_,_,rfl,ty,rfl,_,rfl,iteF q0⟩
 | str x=>exact⟨_,rfl,_,_,_,rfl,ty,rfl,_,rfl,iteF q0⟩
 | tuple ds=>exact⟨_,rfl,_,_,_,rfl,ty,rfl,_,rfl,iteF q0⟩
 | list ds=>exact⟨_,rfl,_,_,_,rfl,ty,rfl,_,rfl,iteF q0⟩
 | dict ds=>exact⟨_,rfl,_,_,_,rfl,ty,rfl,_,rfl,iteF q0⟩
theorem rV (T:Bi mg)(D:DefOk K mg "is_wholes" s_is_wholes ["thing"])(O_is_whole:‹1› "is_whole" ["thing"] (spD1 K (λ _=>True) wholeB)):‹2› "is_wholes" ["thing"] (spD1 K few wholesB):=by
 exists 1,sc_is_wholes
 obtain⟨d,v,rfl,hd,hfew,q⟩:=h
 have q0:=q H (Same.refl H)
 have ty:=jP hd
 refine⟨_,(aE (aH (cG (aP (gA (n:="tuple")) rfl T.z_isinstance (by symm) (aA (pv 0) (aA (gG (v:=.ty "tuple") rfl T.z_tuple (by symm) rfl) aB))) (bV (aP (nC rfl) rfl T.z_all (by symm) (aA (bY (N:=["thing"]) (sc0:=defScope s_is_wholes) (own:=["part"]) (fr:=[]) (js:=[]) rfl (cC (pv 0)) (λ _ _ _ _=>(aJ (i:=0) (by show List.Nodup [("part":Str)];decide +kernel) rfl (j8 rfl))) (λ _ _ _ _=>cO) (λ _ _ _ _=>(aF O_is_whole hr rfl (aA (pv 0) aB)))) aB)))))),?_⟩
 cases d with
 | int i=>exact⟨_,rfl,_,_,_,rfl,ty,rfl,_,rfl,iteF q0⟩
 | bool b=>exact⟨_,rfl,_,_,_,rfl,ty,rfl,_,rfl,iteF q0⟩
 | none=>exact⟨_,rfl,_,_,_,rfl,ty,rfl,_,rfl,iteF q0⟩
 | str x=>exact⟨_,rfl,_,_,_,rfl,ty,rfl,_,rfl,iteF q0⟩
 | list ds=>exact⟨_,rfl,_,_,_,rfl,ty,rfl,_,rfl,iteF q0⟩
 | dict ds=>exact⟨_,rfl,_,_,_,rfl,ty,rfl,_,rfl,iteF q0⟩
 | tuple ds =>
  refine⟨_,rfl,_,_,_,rfl,ty,rfl,_,rfl,iteT ?_⟩
  obtain⟨p,vs,rfl,hp,hall⟩:=hd
  have hl:=hall.length
  have hf:ds.length<=1000:=hfew
  refine⟨_,rfl,p,rfl,⟨_,SqT.of hp⟩,?_⟩
  refine mX hp (λ σ'=>σ'.length=1) (λ i v _=>v=.bl (wholeB (ds.getD i .none))) (by left) (by rfl) (λ _ _ _ _ _ h=>h) (λ i x σ' H' hx s sg C hC=>?_) (λ L ys H' hL s hH hly hys=>?_)
  ·obtain⟨d,hdi,hdx⟩:=hall.get' hx
   match σ',sg with
   | [o],_ =>
    refine⟨_,rfl,d,x,rfl,Is.same s d hdx,trivial,λ H5 s5=>hC _ _ _ rfl s5 ?_⟩
    simp [ubo,hdi]
  ·refine⟨L,_,rfl,SqL.of (by rw[hH,nD (hly.trans hl) hys]),?_⟩
   have e:((d7 ds.length).map λ i=>wholeB (ds.getD i .none)).all id=ds.all wholeB:=by
    have:((d7 ds.length).map λ i=>wholeB (ds.getD i .none))=ds.map wholeB:=by
     have:=congrArg (List.map wholeB) (L3.dD ds .none)
     rw[uam] at this
     exact this
    rw[this,uek]
    rfl
   rw[e]
   exact q H' s
theorem qI (T:Bi mg)(D:DefOk K mg "tie_weights" s_tie_weights ["web"]):‹1› "tie_weights" ["web"] (spWeights K):=by
 exists 0,sc_tie_weights
 obtain⟨n,ts,v,rfl,hw,few60,q⟩:=h
 obtain⟨g0,g,ws,rfl,hg0,hg,hall,hlw⟩:=bC hw
 refine⟨_,(aD (aN (i:=1) nd rfl (j8 rfl) (bF aB)) (aD (aN (i:=2) nd rfl (j8 rfl) aC) (aD (bM PassesOwn.never rfl (cC (aG aL (pv 0) aC (λ _ _=>rfl))) (aJ (i:=3) nd rfl (j8 rfl)) (aD (bX (cP ual ua1 ua0 eJ (pv 1) (aA (pv 2) aB))) (aE (aN (i:=2) nd rfl (j8 rfl) (aI dA aC (pv 2)))))) (aE (aH (pv 1)))))),?_⟩
 refine⟨(by show 0<=1000;decide),λ l J0 S0 f0 e0=>?_⟩
 refine⟨_,rfl,g0,_,_,_,rfl,rfl,SqT.of (S0 _ _ hg0),rfl,g,rfl,⟨_,SqT.of (S0 _ _ hg)⟩,?_⟩
 refine fD (xs:=ws) (λ i σ J=>∃ y3:Option V,σ=[some (.ref g0),some (.ref l),some (.int (2^i)),y3]/\Same H J/\J l=some (.lst (pows i))) ⟨none,rfl,S0,e0⟩ (λ i σ J _ h=>by obtain⟨_,_,s,_⟩:=h;exact SqT.of (s _ _ hg)) (λ i x σ J hx h=>?_) (λ σ J h=>?_)
 ·obtain⟨y3,rfl,s1,e1⟩:=h
  have hi:i<ws.length:=(i0.mp hx).1
  refine⟨_,rfl,.inl ⟨rfl,_,SqL.of e1⟩,_,rfl,l,_,_,rfl,rfl,e1,(by unfold pows;rw[c7,j9];left),λ J1 b1 e2=>?_⟩
  refine⟨_,rfl,_,_,rfl,rfl,.inl ⟨by decide,by decide⟩,?_⟩
  refine⟨some x,?_,λ b o e=>b1 _ _ (aY e f0) (s1 _ _ e),by rw[e2,vG]⟩
  have ep:(2:Int)*2^i=2^(i+1):=by rw[Int.pow_succ,Int.mul_comm]
  show [some (V.ref g0),some (V.ref l),some (V.int (2*2^i)),some x]=_
  rw[ep]
 ·obtain⟨y3,rfl,s1,e1⟩:=h
  exact⟨_,rfl,q l J s1 f0 (by rw[e1,hlw])⟩
theorem rX (T:Bi mg)(D:DefOk K mg "cost_with" s_cost_with ["cost","length","weight"]):‹1› "cost_with" ["cost","length","weight"] (spCost K):=by
 exists 0,sc_cost_with
 obtain⟨c,x,y,l,ww,rfl,hc,q⟩:=h
 refine⟨_,(aE (aH (aT (aA (aI bN (aG aL (pv 0) aC (λ _ _=>rfl)) (pv 1)) (aA (aI bN (aG aL (pv 0) aC (λ _ _=>rfl)) (pv 2)) aB))))),?_⟩
 exact⟨_,rfl,c,_,_,_,rfl,rfl,SqT.of hc,rfl,_,rfl,_,_,rfl,rfl,_,rfl,c,_,_,_,rfl,rfl,SqT.of hc,rfl,_,rfl,_,_,rfl,rfl,(by show 2<=1000;decide),λ t J S f e=>q t J S e⟩
def rWB (H:Hp)(wv kv:V)(n r:Int)(ts:List Tie)(ks:List Nat)(lw lc la:j4)(m:Nat)(σ:L2.St)(J:Hp):Prop:=∃ (cs:List (Option (Int × Int)))(as:List (Option Nat))(ag:Bool)(y7 y8 y9 y10 y11 y12 y13:Option V),σ=[some wv,some kv,some (.int r),some (.ref lw),some (.ref lc),some (.ref la),some (.bl ag),y7,y8,y9,y10,y11,y12,y13] /\
 RA H J lw lc la (pows ts.length) cs as/\Far.Good (arcs ts ks) n.toNat r.toNat cs/\Far.Run (arcsB ts ks) r.toNat cs as/\(ag=false->Far.Stab2 (arcsB ts ks) cs)/\m=Far.mu cs+(if ag=true then 1 else 0)
theorem pF (T:Bi mg)(D:DefOk K mg "reached_from" s_reached_from ["web","keep","root"])(O_tie_weights:‹1› "tie_weights" ["web"] (spWeights K))(O_cost_with:‹1› "cost_with" ["cost","length","weight"] (spCost K)):‹2› "reached_from" ["web","keep","root"] (spReachedC K):=by
 exists 1,sc_reached_from
 obtain⟨n,ts,ks,wv,kv,r,rfl,⟨isw,ok,isk,ko⟩,r0,r1,q⟩:=h
 have few60:=ok.few
 have n1:=ok.n1
 have n24:=ok.n24
 obtain⟨g0,g,ws,rfl,hg0,hg,hall,hlw⟩:=bC isw
 obtain⟨kp,rfl,hkp⟩:=eM isk
 have P:=eB ok ko
 refine⟨_,(aD (aN (i:=3) nd rfl (j8 rfl) (aF O_tie_weights hr rfl (aA (pv 0) aB))) (aD (aN (i:=4) nd rfl (j8 rfl) (aI iW (bF (aA bE aB)) (aG aL (pv 0) aC (λ _ _=>rfl)))) (aD (aN (i:=5) nd rfl (j8 rfl) (aI iW (bF (aA bE aB)) (aG aL (pv 0) aC (λ _ _=>rfl)))) (aD (bK (aT (aA aC (aA aC aB))) (dJ (pv 4) (pv 2) dG)) (aD (aN (i:=6) nd rfl (j8 rfl) cD) (aD (iG PassesOwn.never (bL (pv 6)) (aD (aN (i:=6) nd rfl (j8 rfl) cD) (aE (bM PassesOwn.never rfl (cC (pv 1)) (aJ (i:=7) nd rfl (j8 rfl)) (aD (bK (aG aL (aG aL (pv 0) aC (λ _ _=>rfl)) (pv 7) (λ _ _=>rfl)) (bS (n:=3) rfl (aQ (aJ (i:=8) nd rfl (j8 rfl)) (aQ (aJ (i:=9) nd rfl (j8 rfl)) (aQ (aJ (i:=10) nd rfl (j8 rfl)) bQ))))) (aE (bM PassesOwn.never rfl (cC (aT (aA (aT (aA (pv 8) (aA (pv 9) aB))) (aA (aT (aA (pv 9) (aA (pv 8) aB))) aB)))) (bS (n:=2) rfl (aQ (aJ (i:=11) nd rfl (j8 rfl)) (aQ (aJ (i:=12) nd rfl (j8 rfl)) bQ))) (aD (aS (aO cL (aG aX (pv 4) (pv 11) (λ _ _=>rfl)) bE (nomark _)) (aE sX) aR) (aD (aN (i:=13) nd rfl (j8 rfl) (aF O_cost_with hr rfl (aA (aG aX (pv 4) (pv 11) (λ _ _=>rfl)) (aA (pv 10) (aA (aG aX (pv 3) (pv 7) (λ _ _=>rfl)) aB))))) (aE (aS (PW.pt (bW (aO cL (aG aX (pv 4) (pv 12) (λ _ _=>rfl)) bE (nomark _)) (bZ (aO (za6 hr.units0) (pv 13) (aG aX (pv 4) (pv 12) (λ _ _=>rfl)) (nomark _))))) (aD (bK (pv 13) (dJ (pv 4) (pv 12) dG)) (aD (bK (pv 11) (dJ (pv 5) (pv 12) dG)) (aE (aN (i:=6) nd rfl (j8 rfl) cD)))) aR))))))))))) (aE (aH (aT (aA (pv 4) (aA (pv 5) aB))))))))))),?_⟩
 refine⟨_,rfl,n,ts,_,rfl,isw,few60,λ lw J1 S1 f1 e1=>?_⟩
 refine⟨(by show 1<=1000;decide),λ t0 J2 S2 f2 e2=>⟨_,rfl,g0,_,_,_,rfl,rfl,SqT.of (S2 _ _ (S1 _ _ hg0)),rfl,t0,n,_,rfl,rfl,e2,by left,by left,λ lc J3 S3 f3 e3=>?_⟩⟩
 have S13:=S1.trans (S2.trans S3)
 refine⟨(by show 1<=1000;decide),λ t1 J4 S4 f4 e4=>⟨_,rfl,g0,_,_,_,rfl,rfl,SqT.of (S4 _ _ (S13 _ _ hg0)),rfl,t1,n,_,rfl,rfl,e4,by left,by left,λ la J5 S5 f5 e5=>?_⟩⟩
 refine⟨(by show 2<=1000;decide),λ t2 J6 S6 f6 e6=>?_⟩
 have S36:=S4.trans (S5.trans S6)
 have elc:=S36 _ _ e3
 refine⟨_,rfl,_,rfl,lc,_,r,r.toNat,rfl,rfl,elc,cY r0 (by rw[v5];left),?_⟩
 have Sall:Same H J6:=S13.trans S36
 have fc:H lc=none:=(S1.trans S2).free f3
 have fa:H la=none:=(S13.trans S4).free f5
 have nwc:lw≠lc:=λ z=>by rw[← z,S2 _ _ e1] at f3;cases f3
 have nwa:lw≠la:=λ z=>by rw[← z,S4 _ _ (S3 _ _ (S2 _ _ e1))] at f5;cases f5
 have nca:lc≠la:=λ z=>by rw[← z,S4 _ _ e3] at f5;cases f5
 have R0:RA H J6 lw lc la (pows ts.length) (k9 n.toNat none) (k9 n.toNat none):=⟨Sall,fc,fa,nwc,nwa,nca,S36 _ _ (S3 _ _ (S2 _ _ e1)),⟨_,elc,CostL.first _⟩,by rw[S6 _ _ e5,List.map_replicate];rfl⟩
 have R1:=R0.put (k:=r.toNat) elc (by rw[v5];left) e6
  -- the passes
 refine⟨rWB H (.ref g0) (.ref kp) n r ts ks lw lc la,⟨_,_,_,true,none,none,none,none,none,none,none,rfl,R1,Far.Good.first (by left),Far.Run.first (by left),λ z=>(by cases z),rfl⟩,?_⟩
 rintro m σ J ⟨c0,as0,ag,y7,y8,y9,y10,y11,y12,y13,rfl,R,G,AH,St,rfl⟩
 refine⟨_,rfl,ag,rfl,?_⟩
 cases ag with
 | false =>
  refine iteF ?_
  obtain⟨cvs,hc,cl⟩:=R.co
  exact⟨_,rfl,_,rfl,(by show 2<=1000;decide),λ p J' S' f' e'=>q p lc la cvs as0 c0 J' (R.same.trans S') e' (S' _ _ hc) (S' _ _ R.ah) (cl.keep (nJ S')) (AH.best P G (St rfl)) G (yY (St rfl))⟩
 | true =>
  refine iteT ⟨λ σ' J'=>∃ m',m'<Far.mu c0+1/\rWB H (.ref g0) (.ref kp) n r ts ks lw lc la m' σ' J',λ _ _ h=>h,?_⟩
  refine⟨_,rfl,kp,rfl,⟨_,SqT.of (R.same _ _ hkp)⟩,?_⟩
  refine fD (xs:=(keepI ks).map V.int) (λ i σ J=>∃ (cs:List (Option (Int × Int)))(as:List (Option Nat))(ag:Bool)(y7 y8 y9 y10 y11 y12 y13:Option V),σ=[some (.ref g0),some (.ref kp),some (.int r),some (.ref lw),some (.ref lc),some (.ref la),some (.bl ag),y7,y8,y9,y10,y11,y12,y13] /\
   RA H J lw lc la (pows ts.length) cs as/\Far.Good (arcs ts ks) n.toNat r.toNat cs/\Far.Run (arcsB ts ks) r.toNat cs as/\Far.PS2 c0 (λ z=>z∈arcsB ts (ks.take i)) cs ag) ⟨c0,as0,false,_,_,_,_,_,_,_,rfl,R,G,AH,.inl ⟨rfl,rfl,λ u v l k c z=>by cases z⟩⟩ (λ i σ J _ h=>?_) (λ i x σ J hx h=>?_) (λ σ J h=>?_)
  ·obtain⟨cs,as,ag,y7,y8,y9,y10,y11,y12,y13,rfl,R,_⟩:=h
   exact SqT.of (R.same _ _ hkp)
  ·obtain⟨cs,as,ag,y7,y8,y9,y10,y11,y12,y13,rfl,R,G,AH,Pt⟩:=h
   obtain⟨k,hk,rfl⟩:=gK hx
   have hkl:k<ts.length:=ko.2 k (i6 hk)
   obtain⟨ta,hta,htie⟩:=bR hall hkl
   obtain⟨t,et⟩:∃ t,t=tieAt ts k:=⟨_,rfl⟩
   rw[← et] at htie
   have tk:=ok.tie _ (bG hkl).2
   rw[← et] at tk
   refine⟨_,rfl,g0,_,_,_,rfl,rfl,SqT.of (R.same _ _ hg0),rfl,_,rfl,g,_,_,_,rfl,rfl,SqT.of (R.same _ _ hg),aZ (o6 _) hta,ta,_,rfl,SqT.of (R.same _ _ htie),rfl,_,_,rfl,_,_,rfl,_,_,rfl,rfl,?_⟩
   refine⟨_,rfl,_,rfl,(by show 2<=1000;decide),λ t1 K1 T1 u1 v1=>⟨_,rfl,_,rfl,(by show 2<=1000;decide),λ t2 K2 T2 u2 v2=>⟨(by show 2<=1000;decide),λ t3 K3 T3 u3 v3=>⟨t3,rfl,⟨_,SqT.of v3⟩,?_⟩⟩⟩⟩
   have R3:=R.step (T1.trans (T2.trans T3))
   have v1':=T3 _ _ (T2 _ _ v1)
   have v2':=T3 _ _ v2
   refine fD (xs:=[V.ref t1,.ref t2]) (λ j σ J=>∃ (cs:List (Option (Int × Int)))(as:List (Option Nat))(ag:Bool)(y11 y12 y13:Option V),σ=[some (.ref g0),some (.ref kp),some (.int r),some (.ref lw),some (.ref lc),some (.ref la),some (.bl ag),some (.int (k:Int)),some (.int t.1),some (.int t.2.1),some (.int t.2.2),y11,y12,y13] /\
    RA H J lw lc la (pows ts.length) cs as/\Far.Good (arcs ts ks) n.toNat r.toNat cs/\Far.Run (arcsB ts ks) r.toNat cs as/\Far.PS2 c0 (λ z=>z∈arcsB ts (ks.take i)\/z∈(arcs2B t k).take j) cs ag/\TupKeep K3 J) ⟨cs,as,ag,_,_,_,rfl,R3,G,AH,Pt.less λ a z=>z.elim id λ z=>(by cases z),λ _ _ e=>e⟩ (λ j σ J _ h=>?_) (λ j x σ J hx h=>?_) (λ σ J h=>?_)
   ·obtain⟨cs,as,ag,y11,y12,y13,rfl,R,G,AH,Pt,tk⟩:=h
    exact SqT.of (tk _ _ v3)
   ·obtain⟨cs,as,ag,y11,y12,y13,rfl,R,G,AH,Pt,tkp⟩:=h
    obtain⟨p,u,v,rfl,hp,u0,un,v0,vn,arc,arcB,more⟩:∃ p u v,x=.ref p/\J p=some (.tup [.int u,.int v])/\0<=u/\u<n/\0<=v/\v<n/\(u.toNat,v.toNat,t.2.2)∈arcs ts ks/\(u.toNat,v.toNat,t.2.2,k)∈arcsB ts ks/\∀ z,z∈(arcs2B t k).take (j+1)->z∈(arcs2B t k).take j\/z=(u.toNat,v.toNat,t.2.2,k):=by
     have memB:∀ z,z∈arcs2B t k->z∈arcsB ts ks:=λ z hz=>arcsB_mem.mpr ⟨k,i6 hk,by rw[← et];exact hz⟩
     have mem:∀ z,z∈arcs2 t->z∈arcs ts ks:=λ z hz=>arcs_mem.mpr ⟨k,i6 hk,by rw[← et];exact hz⟩
     match j,hx with
     | 0,hx=>cases hx;exact⟨t1,t.1,t.2.1,rfl,tkp _ _ v1',by left,by left,by left,by left,mem _ (arcs2_mem.mpr (.inl rfl)),memB _ (arcs2B_mem.mpr (.inl rfl)),λ z hz=>by unfold arcs2B at *;simpa using hz⟩
     | 1,hx=>cases hx;exact⟨t2,t.2.1,t.1,rfl,tkp _ _ v2',by left,by left,by left,by left,mem _ (arcs2_mem.mpr (.inr rfl)),memB _ (arcs2B_mem.mpr (.inr rfl)),λ z hz=>by unfold arcs2B at *;simpa using hz⟩
    refine⟨p,_,rfl,SqT.of hp,rfl,_,_,rfl,_,_,rfl,rfl,?_⟩
    obtain⟨cvs,hc,cl⟩:=R.co
    have lenC:cvs.length=n.toNat:=by rw[cl.1];exact G.len
    obtain⟨x1,at1,cv1⟩:=nZ cl u0 (by rw[G.len];left)
    obtain⟨x2,at2,cv2⟩:=nZ cl v0 (by rw[G.len];left)
    have next:∀ {cs':List (Option (Int × Int))}{ag':Bool},Far.PS2 c0 (Far.plusA (λ z=>z∈arcsB ts (ks.take i)\/z∈(arcs2B t k).take j) (u.toNat,v.toNat,t.2.2,k)) cs' ag'->Far.PS2 c0 (λ z=>z∈arcsB ts (ks.take i)\/z∈(arcs2B t k).take (j+1)) cs' ag':=λ h=>h.less λ z hz=>by
     rcases hz with hz | hz
     ·exact .inl (.inl hz)
     ·exact (more z hz).elim (λ y=>.inl (.inr y)) .inr
    refine⟨_,rfl,_,rfl,lc,_,_,_,rfl,rfl,SqL.of hc,at1,rfl,_,rfl,ite2 (λ c1=>?_) (λ c1=>?_)⟩
    ·-- not reached
     have gu:Far.get cs u.toNat=none:=by
      cases e:Far.get cs u.toNat with
      | none=>rfl
      | some d =>
       rw[e] at cv1
       obtain⟨tt,rfl,_⟩:=cv1
       cases ufl c1
     exact⟨cs,as,ag,_,_,_,rfl,R,G,AH,next (Pt.no gu),tkp⟩
    ·obtain⟨d,gu⟩:∃ d,Far.get cs u.toNat=some d:=by
      cases e:Far.get cs u.toNat with
      | none=>rw[e] at cv1;exact absurd (ufk (show x1=V.non from cv1)) c1
      | some d=>exact⟨d,rfl⟩
     rw[gu] at cv1
     obtain⟨td,rfl,htd⟩:=cv1
     have pw:=zax (i:=k) (by left)
     refine⟨_,rfl,_,rfl,lc,_,_,_,rfl,rfl,SqL.of hc,at1,_,rfl,_,rfl,_,rfl,lw,_,_,_,rfl,rfl,SqL.of R.wl,aZ (o6 _) (zG hkl),td,_,_,_,_,rfl,htd,λ tn L1 Z1 en=>?_⟩
     have R':=R.step Z1
     have hc':=Z1 _ _ hc
     have tkp':TupKeep K3 L1:=λ a xs e=>Z1 _ _ (tkp a xs e)
     have done : ∀ (hlt : Far.get cs v.toNat = none \/ ∃ c', Far.get cs v.toNat = some c' /\ Far.lt2 (d.1+t.2.2, d.2+2^k) c') , ∀ L, L = upd (upd L1 lc (.lst (cvs.set v.toNat (.ref tn)))) la (.lst ((as.map oa).set v.toNat (.int u))) →
         RA H L lw lc la (pows ts.length) (cs.set v.toNat (some (d.1+t.2.2,d.2+2^k))) (as.set v.toNat (some u.toNat))/\Far.Good (arcs ts ks) n.toNat r.toNat (cs.set v.toNat (some (d.1+t.2.2,d.2+2^k)))/\Far.Run (arcsB ts ks) r.toNat (cs.set v.toNat (some (d.1+t.2.2,d.2+2^k))) (as.set v.toNat (some u.toNat))/\Far.PS2 c0 (λ z=>z∈arcsB ts (ks.take i)\/z∈(arcs2B t k).take (j+1)) (cs.set v.toNat (some (d.1+t.2.2,d.2+2^k))) true/\TupKeep K3 L:=λ hlt L eL=>by
      subst eL
      obtain⟨G',mm⟩:=G.step P (by left) arc (by left) pw.1 pw.2 (by left) gu hlt
      have Rp:=R'.put hc' (k:=v.toNat) (by left) en
      have Rm:=Rp.mark (k:=v.toNat) (u:=u.toNat)
      rw[uan u0] at Rm
      exact⟨Rm,G',Far.Run.step P G AH arc arcB (by left) gu hlt,next (Pt.put mm),λ a xs e=>fG Rp.ah _ _ (fG hc' _ _ (tkp' a xs e))⟩
     have ha:=R'.ah
     have hal:(as.map oa).length=n.toNat:=by rw[c7,AH.len];exact G.len
     refine⟨_,rfl,_,rfl,lc,_,_,_,rfl,rfl,SqL.of hc',at2,rfl,_,rfl,ite2 (λ c2=>iteT ?_) (λ c2=>?_)⟩
     ·have gv:Far.get cs v.toNat=none:=by
       cases e:Far.get cs v.toNat with
       | none=>rfl
       | some d =>
        rw[e] at cv2
        obtain⟨tt,rfl,_⟩:=cv2
        cases ufl c2
      obtain⟨R2,G2,A2,P2,k2⟩:=done (.inl gv) _ rfl
      exact⟨_,rfl,_,rfl,_,rfl,lc,_,_,_,rfl,rfl,hc',cY v0 (by left),_,rfl,_,rfl,_,rfl,la,_,_,_,rfl,rfl,(by rw[aK R.nca.symm];exact ha),cY v0 (by left),_,_,true,_,_,_,rfl,R2,G2,A2,P2,k2⟩
     ·obtain⟨d2,gv⟩:∃ d,Far.get cs v.toNat=some d:=by
       cases e:Far.get cs v.toNat with
       | none=>rw[e] at cv2;exact absurd (ufk (show x2=V.non from cv2)) c2
       | some d=>exact⟨d,rfl⟩
      rw[gv] at cv2
      obtain⟨te,rfl,hte⟩:=cv2
      refine⟨_,rfl,_,rfl,_,rfl,lc,_,_,_,rfl,rfl,SqL.of hc',at2,tn,te,L3.e2 (d.1+t.2.2,d.2+2^k),L3.e2 d2,rfl,rfl,SqT.of en,SqT.of (Z1 _ _ hte),_,rfl,ite2 (λ c3=>?_) (λ c3=>?_)⟩
      ·have hl:=(mQ _ _).mp c3
       obtain⟨R2,G2,A2,P2,k2⟩:=done (.inr ⟨d2,gv,hl⟩) _ rfl
       exact⟨_,rfl,_,rfl,_,rfl,lc,_,_,_,rfl,rfl,hc',cY v0 (by left),_,rfl,_,rfl,_,rfl,la,_,_,_,rfl,rfl,(by rw[aK R.nca.symm];exact ha),cY v0 (by left),_,_,true,_,_,_,rfl,R2,G2,A2,P2,k2⟩
      ·have hn:¬ Far.lt2 (d.1+t.2.2,d.2+2^k) d2:=λ z=>c3 ((mQ _ _).mpr z)
       exact⟨cs,as,ag,_,_,_,rfl,R',G,AH,next (Pt.old gu gv hn),tkp'⟩
   ·obtain⟨cs,as,ag,y11,y12,y13,rfl,R,G,AH,Pt,tkp⟩:=h
    refine⟨cs,as,ag,_,_,_,_,_,_,_,rfl,R,G,AH,Pt.less λ z hz=>?_⟩
    exact (uW hk hz).elim .inl λ y=>.inr (by rw[← et] at y;exact y)
  ·obtain⟨cs,as,ag,y7,y8,y9,y10,y11,y12,y13,rfl,R2,G2,A2,Pt⟩:=h
   have lk:((keepI ks).map V.int).length=ks.length:=by unfold keepI;rw[c7,c7]
   rw[lk,ubw] at Pt
   rcases Pt with ⟨ea,ec,st⟩ | ⟨ea,lt⟩
   ·subst ea
    rw[← ec] at st
    exact⟨Far.mu cs+0,by rw[ec];left,cs,as,false,_,_,_,_,_,_,_,rfl,R2,G2,A2,λ _=>st,rfl⟩
   ·subst ea
    exact⟨Far.mu cs+1,by left,cs,as,true,_,_,_,_,_,_,_,rfl,R2,G2,A2,λ z=>(by cases z),rfl⟩
theorem rW (T:Bi mg)(D:DefOk K mg "fars_from" s_fars_from ["web","keep","root"])(O_reached_from:‹2› "reached_from" ["web","keep","root"] (spReached K)):‹3› "fars_from" ["web","keep","root"] (spFars K):=by
 exists 2,sc_fars_from
 obtain⟨n,ts,ks,wv,kv,r,rfl,wk,r0,r1,q⟩:=h
 have n24:=wk.2.1.n24
 refine⟨_,(aD (bK (aF O_reached_from hr rfl (aA (pv 0) (aA (pv 1) (aA (pv 2) aB)))) (bS (n:=2) rfl (aQ (aJ (i:=3) nd rfl (j8 rfl)) (aQ (aJ (i:=4) nd rfl (j8 rfl)) bQ)))) (aE (aH (bY (N:=["web","keep","root","costs","ahead"]) (sc0:=defScope s_fars_from) (own:=["cost"]) (fr:=[]) (js:=[]) rfl (bU (pv 3)) (λ _ _ _ _=>(aJ (i:=0) (by show List.Nodup [("cost":Str)];decide +kernel) rfl (j8 rfl))) (λ _ _ _ _=>cO) (λ _ _ _ _=>(dX (aO cL (pv 0) bE (nomark _)) bE (aG cX (pv 0) aC (λ _ _=>rfl)))))))),?_⟩
 refine⟨_,rfl,_,rfl,_,rfl,n,ts,ks,wv,kv,r,rfl,wk,r0,r1,λ p lc la cvs avs cs J S ep ec ea cl G St=>?_⟩
 refine⟨p,_,rfl,SqT.of ep,rfl,_,_,rfl,_,_,rfl,rfl,?_⟩
 have lenC:cvs.length=n.toNat:=by rw[cl.1];exact G.len
 refine⟨_,rfl,lc,rfl,⟨_,SqL.of ec⟩,?_⟩
 refine dY ec (λ σ'=>σ'.length=1) (λ i v _=>v=ov ((Far.get cs i).map (·.1))) (by left) (by rfl) (λ _ _ _ _ _ h=>h) (λ i x σ' H' hx s2 sg C hC=>?_) (λ L ys H2 hL s2 hH hly hys=>?_)
 ·match σ',sg with
  | [o],_ =>
   have cv:=cl.2 i x hx
   refine⟨_,rfl,rfl,_,rfl,ite2 (λ c=>?_) (λ c=>?_)⟩
   ·have e:Far.get cs i=none:=by
     cases e:Far.get cs i with
     | none=>rfl
     | some d =>
      rw[e] at cv
      obtain⟨tt,rfl,_⟩:=cv
      cases ufl c
    exact hC _ _ _ rfl (Same.refl _) (by rw[e];rfl)
   ·obtain⟨d,gu⟩:∃ d,Far.get cs i=some d:=by
     cases e:Far.get cs i with
     | none=>rw[e] at cv;exact absurd (ufk (show x=V.non from cv)) c
     | some d=>exact⟨d,rfl⟩
    rw[gu] at cv
    obtain⟨td,rfl,htd⟩:=cv
    exact⟨_,rfl,td,_,_,_,rfl,rfl,SqT.of (s2 _ _ htd),rfl,hC _ _ _ rfl (Same.refl _) (by rw[gu];rfl)⟩
 ·obtain⟨DD,eD⟩:∃ DD,DD=cs.map λ o=>o.map (·.1):=⟨_,rfl⟩
  have gD:∀ v,Far.get DD v=(Far.get cs v).map (·.1):=λ v=>by
   rw[eD];unfold Far.get
   rw[d3,j5,d3]
   cases cs[v]? <;> rfl
  refine q L DD H2 (S.trans s2) (S.free hL) ?_ (by rw[eD,c7];exact G.len) λ v hv=>by rw[gD];exact G.dst St v
  rw[hH]
  refine congrArg (λ z=>some (HO.lst z)) (ub6 λ i=>?_)
  have lD:DD.length=n.toNat:=by rw[eD,c7];exact G.len
  by_cases hi:i<n.toNat
  ·rw[fI (by left),gD]
   have e:ys[i]?=some ys[i]:=c6 (by left)
   rw[e,hys i _ e]
  ·rw[uag (by left),uag (by rw[c7];left)]
theorem pU (T:Bi mg)(D:DefOk K mg "heights_from" s_heights_from ["web","keep","a","roof"])(O_fars_from:‹3› "fars_from" ["web","keep","root"] (spFars K)):‹4› "heights_from" ["web","keep","a","roof"] (spHFrom K):=by
 exists 3,sc_heights_from
 obtain⟨n,ts,ks,wv,kv,a,roof,rfl,wk,a0,a1,q⟩:=h
 have n24:=wk.2.1.n24
 refine⟨_,(aE (aH (bI cF rfl T.z_tuple (by symm) (aA (bY (N:=["web","keep","a","roof"]) (sc0:=defScope s_heights_from) (own:=["length"]) (fr:=["roof"]) (js:=[3]) rfl (bU (aF O_fars_from hr rfl (aA (pv 0) (aA (pv 1) (aA (pv 2) aB))))) (λ _ _ _ _=>(aJ (i:=0) (by show List.Nodup [("length":Str),("roof":Str)];decide +kernel) rfl (j8 rfl))) (λ _ _ _ _=>cO) (λ _ _ _ _=>(dX (aO cL (pv 0) bE (nomark _)) (pv 1) (aP (dW rfl) rfl T.z_min (by symm) (aA (pv 0) (aA (pv 1) aB)))))) aB)))),?_⟩
 refine⟨_,rfl,_,rfl,_,rfl,n,ts,ks,wv,kv,a,rfl,wk,a0,a1,λ l DD J S f1 e1 lD hD=>?_⟩
 refine⟨l,rfl,⟨_,SqL.of e1⟩,?_⟩
 refine dY e1 (λ σ'=>∃ o,σ'=[o,some (.int roof)]) (λ i v _=>v=.int (capO roof (Far.get DD i))) (by rw[c7];left) (by exact⟨none,rfl⟩) (λ _ _ _ _ _ h=>h) (λ i x σ' H' hx s2 sg C hC=>?_) (λ L ys H2 hL s2 hH hly hys=>?_)
 ·obtain⟨o,rfl⟩:=sg
  have hi:i<DD.length:=by have:=(i0.mp hx).1;rw[c7] at this;exact this
  rw[fI hi] at hx
  cases hx
  refine⟨_,rfl,rfl,_,rfl,?_⟩
  cases e:Far.get DD i with
  | none=>exact iteT ⟨_,rfl,hC _ _ _ ⟨_,rfl⟩ (Same.refl _) (by rw[e];rfl)⟩
  | some x=>exact iteF ⟨_,rfl,_,rfl,_,_,rfl,hC _ _ _ ⟨_,rfl⟩ (Same.refl _) (by rw[e];rfl)⟩
 ·have lY:ys.length=DD.length:=by rw[hly,c7]
  refine⟨L,_,rfl,hH,λ t J2 S2 f2 e2=>q t DD J2 (S.trans (s2.trans S2)) ?_ lD hD⟩
  rw[e2]
  refine congrArg (λ z=>some (HO.tup z)) (ub6 λ i=>?_)
  by_cases hi:i<DD.length
  ·have e:ys[i]?=some ys[i]:=c6 (by left)
   rw[e,hys i _ e,j5,j5,c6 hi]
   unfold Far.get
   rw[d3,c6 hi];rfl
  ·rw[uag (by left),uag (by rw[c7,c7];left)]
theorem qW (T:Bi mg)(D:DefOk K mg "tree_from" s_tree_from ["web","keep","root"])(O_reached_from:‹2› "reached_from" ["web","keep","root"] (spReachedB K)):‹3› "tree_from" ["web","keep","root"] (spTreeB K):=by
 exists 2,sc_tree_from
 obtain⟨n,ts,ks,wv,kv,r,rfl,wk,r0,r1,q⟩:=h
 refine⟨_,(aD (bK (aF O_reached_from hr rfl (aA (pv 0) (aA (pv 1) (aA (pv 2) aB)))) (bS (n:=2) rfl (aQ (aJ (i:=3) nd rfl (j8 rfl)) (aQ (aJ (i:=4) nd rfl (j8 rfl)) bQ)))) (aE (aH (bI cF rfl T.z_tuple (by symm) (aA (pv 4) aB))))),?_⟩
 refine⟨_,rfl,_,rfl,_,rfl,n,ts,ks,wv,kv,r,rfl,wk,r0,r1,λ p lc la cvs as cs J S ep ec ea cl G=>?_⟩
 refine⟨p,_,rfl,SqT.of ep,rfl,_,_,rfl,_,_,rfl,rfl,?_⟩
 exact⟨_,rfl,la,_,rfl,ea,λ t J2 S2 f2 e2=>q t as cs J2 (S.trans S2) e2 G⟩
theorem nE {ws:List V}{x:V}:atI (ws++[x]) (-1)=some x:=by
 unfold atI ixN
 rw[ufp (by decide),ufo (by rw[g9,uaf];left)]
 show (ws++[x])[(-1+((ws++[x]).length:Int)).toNat]?=some x
 rw[g9,uaf,show (-1+((ws.length+1:Nat):Int)).toNat=ws.length by left]
 simp
theorem tD (T:Bi mg)(D:DefOk K mg "the_way" s_the_way ["web","keep","a","b"])(O_tree_from:‹3› "tree_from" ["web","keep","root"] (spTreeB K)):‹4› "the_way" ["web","keep","a","b"] (spWayB K):=by
 exists 3,sc_the_way
 obtain⟨n,ts,ks,wv,kv,a,b,rfl,wk,a0,a1,b0,b1,q⟩:=h
 have n24:=wk.2.1.n24
 have KB:=fQ wk.2.1 wk.2.2.2
 refine⟨_,(aD (aN (i:=4) nd rfl (j8 rfl) (aF O_tree_from hr rfl (aA (pv 0) (aA (pv 1) (aA (pv 3) aB))))) (aD (aN (i:=5) nd rfl (j8 rfl) (bF (aA (pv 2) aB))) (aD (iG PassesOwn.never (aO fJ (aG aX (pv 5) (gY gS aC) (λ _ _=>rfl)) (pv 3) (nomark _)) (aD (aS (aO cL (aG aL (pv 4) (aG aX (pv 5) (gY gS aC) (λ _ _=>rfl)) (λ _ _=>rfl)) bE (nomark _)) (aE (aH bE)) aR) (aE (bX (cP ual ua1 ua0 eJ (pv 5) (aA (aG aL (pv 4) (aG aX (pv 5) (gY gS aC) (λ _ _=>rfl)) (λ _ _=>rfl)) aB)))))) (aE (aH (bI cF rfl T.z_tuple (by symm) (aA (pv 5) aB))))))),?_⟩
 refine⟨_,rfl,_,rfl,_,rfl,n,ts,ks,wv,kv,b,rfl,wk,b0,b1,λ p as cs J S ep G=>?_⟩
 refine⟨_,rfl,(by show 1<=1000;decide),λ lw J1 S1 f1 e1=>?_⟩
 have lA:=G.alen
 have ep1:=S1 _ _ ep
 have fw:H lw=none:=S.free f1
 have nlp:p≠lw:=λ z=>by rw[z,f1] at ep;cases ep
 refine⟨λ m σ J2=>∃ (pre:List Nat)(c:Nat),σ=[some wv,some kv,some (.int a),some (.int b),some (.ref p),some (.ref lw)]/\Same H J2/\J2 p=some (.tup (as.map oa))/\J2 lw=some (.lst (natV (pre++[c])))/\c<n.toNat /\
  ((pre=[]/\c=a.toNat/\Far.get cs c=none/\m=0)\/∃ ca cc,Far.get cs a.toNat=some ca/\Far.get cs c=some cc/\(∀ P,Far.TPw as b.toNat P c->Far.TPw as b.toNat (P++pre.reverse) a.toNat)/\pre.length+1<=Far.beyond n.toNat cs cc.1/\m=cc.1.toNat),?_,?_⟩
 ·have e1':J1 lw=some (.lst (natV ([]++[a.toNat]))):=by rw[e1];show some (HO.lst [V.int a])=some (HO.lst [V.int ((a.toNat:Nat):Int)]);rw[uan a0]
  cases e:Far.get cs a.toNat with
  | none=>exact⟨0,[],a.toNat,rfl,S.trans S1,ep1,e1',by left,.inl ⟨rfl,rfl,e,rfl⟩⟩
  | some ca=>exact⟨_,[],a.toNat,rfl,S.trans S1,ep1,e1',by left,.inr ⟨ca,ca,rfl,e,λ P t=>by rw[List.reverse_nil,ubb];exact t,Far.uR (by left) e,rfl⟩⟩
 rintro m σ J2 ⟨pre,c,rfl,sm,hp,hw,hc,inv⟩
 have lastV:atI (natV (pre++[c])) (-1)=some (.int (c:Int)):=by
  unfold natV;rw[uao];exact nE
 have hat:atI (as.map oa) (c:Int)=some (oa (Far.get as c)):=aZ (o6 _) (by rw[u4];exact zbn (by left))
 refine⟨_,rfl,_,rfl,lw,_,_,_,rfl,rfl,SqL.of hw,lastV,_,rfl,rfl,_,rfl,?_⟩
 by_cases cb:c=b.toNat
 ·refine iteNS (by rw[cb,uan b0]) ?_
  refine⟨_,rfl,lw,_,rfl,hw,λ t J3 S3 f3 e3=>q _ J3 (sm.trans S3) ⟨cs,as,G,.inr ?_⟩⟩
  rcases inv with ⟨_,_,ec,_⟩ | ⟨ca,cc,e1',e2',tp,hl,_⟩
  ·rw[cb,G.start] at ec;cases ec
  ·have:=Far.lW n.toNat cs cc.1
   refine⟨t,pre++[c],ca,rfl,e3,by rw[g9,uaf];left,e1',?_⟩
   rw[ucv]
   have:=tp [b.toNat] (by rw[cb];exact .root)
   rw[cb];exact this
 ·have ne:decide (V.int (c:Int)=V.int b)=false:=ufm λ z=>cb (by injection z with z;left)
  rw[ne]
  refine iteT ⟨λ σ' J'=>∃ m',m'<m/\∃ (pre:List Nat)(c:Nat),σ'=[some wv,some kv,some (.int a),some (.int b),some (.ref p),some (.ref lw)]/\Same H J'/\J' p=some (.tup (as.map oa))/\J' lw=some (.lst (natV (pre++[c])))/\c<n.toNat /\
   ((pre=[]/\c=a.toNat/\Far.get cs c=none/\m'=0)\/∃ ca cc,Far.get cs a.toNat=some ca/\Far.get cs c=some cc/\(∀ P,Far.TPw as b.toNat P c->Far.TPw as b.toNat (P++pre.reverse) a.toNat)/\pre.length+1<=Far.beyond n.toNat cs cc.1/\m'=cc.1.toNat),λ _ _ h=>h,?_⟩
  refine⟨_,rfl,_,rfl,_,rfl,lw,_,_,_,rfl,rfl,SqL.of hw,lastV,p,_,_,_,rfl,rfl,SqT.of hp,hat,rfl,_,rfl,?_⟩
  cases ea:Far.get as c with
  | none =>
   refine iteT (q _ _ sm ⟨cs,as,G,.inl ⟨rfl,?_⟩⟩)
   rcases inv with ⟨_,ec,e2',_⟩ | ⟨ca,cc,_,e2',_⟩
   ·rw[← ec];exact e2'
   ·exact absurd ea (G.has c cc e2' cb)
  | some u =>
   obtain⟨l,k,cu,mm,e1',e2'⟩:=G.arc _ _ ea
   rw[ea] at hat
   rcases inv with ⟨_,_,ec,_⟩ | ⟨ca,cc,e3',e4',tp,hl,rfl⟩
   ·rw[ec] at e2';cases e2'
   ·have ecc:cc=(cu.1+l,cu.2+2^k):=u6 (e4'.symm.trans e2')
    have l1:=KB.pos _ _ _ _ mm
    have cu0:=G.nn _ _ e1'
    have hu:=(yM wk.2.1 wk.2.2.2 mm).1
    have c1:cc.1=cu.1+l:=by rw[ecc]
    have bl:=Far.wG hu e1' (show cu.1<cc.1 by left)
    have ble:=Far.lW n.toNat cs cu.1
    have lenW:(natV (pre++[c])).length=pre.length+1:=by unfold natV;rw[c7,g9,uaf]
    refine iteF ⟨_,rfl,.inl ⟨rfl,_,SqL.of hw⟩,_,rfl,_,rfl,_,rfl,lw,_,_,_,rfl,rfl,SqL.of hw,lastV,p,_,_,_,rfl,rfl,SqT.of hp,hat,lw,_,_,rfl,rfl,hw,by left,λ J3 b3 e3=>?_⟩
    refine⟨cu.1.toNat,by left,pre++[c],u,rfl,λ c o z=>b3 _ _ (aY z fw) (sm _ _ z),b3 _ _ nlp hp,?_,hu,.inr ⟨ca,cu,e3',e1',λ P t=>?_,by rw[g9,uaf];left,rfl⟩⟩
    ·rw[e3];unfold natV;rw[uao (l₂:=[u])];rfl
    ·have:=tp (P++[c]) (.step ea t)
     rw[ucv]
     rw[ub7] at this
     exact this
theorem qJ (T:Bi mg)(D:DefOk K mg "tie_between" s_tie_between ["web","a","b"]):‹1› "tie_between" ["web","a","b"] (spTB K):=by
 exists 0,sc_tie_between
 obtain⟨n,ts,wv,u,v,rfl,isw,few60,q⟩:=h
 have units:∀ {x:Nat},x<=3->(A.deeper (envOfC "tie_between" (defScope s_tie_between) s.heap.objs.size f cdv)).units+x<cLine:=λ {x} hu=>by have:=hr.units;left
 obtain⟨g0,g,ws,rfl,hg0,hg,hall,hlw⟩:=bC isw
 refine⟨_,(aD (aN (i:=3) nd rfl (j8 rfl) (aT (aA (aP (dW rfl) rfl T.z_min (by symm) (aA (pv 1) (aA (pv 2) aB))) (aA (aP (iA rfl) rfl T.z_max (by symm) (aA (pv 1) (aA (pv 2) aB))) aB)))) (aD (bM PassesOwn.never rfl (zH true rfl T.z_enumerate (aA (aG aL (pv 0) aC (λ _ _=>rfl)) aB)) (bS (n:=2) rfl (aQ (aJ (i:=4) nd rfl (j8 rfl)) (aQ (aJ (i:=5) nd rfl (j8 rfl)) bQ))) (aE (aS (aO dM (iI iQ (pv 5) iV (iU aC)) (pv 3) (nomark _)) (aE (aH (pv 4))) aR))) (aE (aH bE)))),?_⟩
 refine⟨_,rfl,_,rfl,_,_,rfl,_,rfl,_,rfl,_,_,rfl,(by show 2<=1000;decide),λ te J1 S1 f1 e1=>?_⟩
 have eMin:(if (v:Int)<(u:Int) then (v:Int) else u)=min (u:Int) v:=by split <;> left
 have eMax:(if (v:Int)>(u:Int) then (v:Int) else u)=max (u:Int) v:=by split <;> left
 rw[eMin,eMax] at e1
 refine⟨_,rfl,g0,_,_,_,rfl,rfl,SqT.of (S1 _ _ hg0),rfl,g,rfl,⟨ws,SqX.of (S1 _ _ hg)⟩,?_⟩
 refine⟨λ i m σ J=>m=ts.length-i/\i<=ts.length/\(∃ y4 y5:Option V,σ=[some (.ref g0),some (.int (u:Int)),some (.int (v:Int)),some (.ref te),y4,y5])/\Same J1 J/\∀ k,k<i->isTB ts u v k=false,⟨_,rfl,uad _,⟨none,none,rfl⟩,Same.refl _,λ k hk=>(by left)⟩,?_⟩
 rintro i m σ J ⟨rfl,hi,⟨y4,y5,rfl⟩,sm,pre⟩
 have sH:=S1.trans sm
 have sq:SqX true K J g ws:=SqX.of (sH _ _ hg)
 by_cases hlt:i<ts.length
 ·refine .inr ⟨⟨ws,ws[i]'(by left),sq,by simp [show i<ws.length by left]⟩,λ σ' J'=>∃ m',m'<ts.length-i/\(m'=ts.length-(i+1)/\i+1<=ts.length/\(∃ y4 y5:Option V,σ'=[some (.ref g0),some (.int (u:Int)),some (.int (v:Int)),some (.ref te),y4,y5])/\Same J1 J'/\∀ k,k<i+1->isTB ts u v k=false),λ _ _ h=>h,λ x J' hy=>?_⟩
  obtain⟨T',y,hT,rfl,rfl,ey⟩:=hy
  have hyi:=ey ws sq
  obtain⟨ta,hta,htie⟩:=bR hall hlt
  rw[hta] at hyi
  cases hyi
  have S2:=aW (o:=.tup [.int (i:Nat),.ref ta]) hT
  have htie':=S2 _ _ (sH _ _ htie)
  refine⟨T',_,rfl,SqT.of aM,rfl,_,_,rfl,_,_,rfl,rfl,?_⟩
  refine⟨_,rfl,_,rfl,ta,_,rfl,htie',λ tc J3 S3 e3=>?_⟩
  have e3':J3 tc=some (.tup (([(tieAt ts i).1,(tieAt ts i).2.1]:List Int).map V.int)):=e3
  have e1':J3 te=some (.tup (([min (u:Int) v,max (u:Int) v]:List Int).map V.int)):=S3 _ _ (S2 _ _ (sm _ _ e1))
  refine⟨_,rfl,.tuple (([(tieAt ts i).1,(tieAt ts i).2.1]:List Int).map .int),.tuple (([min (u:Int) v,max (u:Int) v]:List Int).map .int),⟨tc,_,rfl,e3',IsAll.ints _⟩,⟨te,_,rfl,e1',IsAll.ints _⟩,eW _,eW _,?_,_,rfl,?_⟩
  ·have d1:=lO [(tieAt ts i).1,(tieAt ts i).2.1]
   have d2:uec (.tuple (([(tieAt ts i).1,(tieAt ts i).2.1]:List Int).map .int))=uel (([(tieAt ts i).1,(tieAt ts i).2.1]:List Int).map .int)+1:=rfl
   exact units (r8 (Nat.min_le_left _ _) (by rw[d2];left))
  have eq:uc4 (.tuple (([(tieAt ts i).1,(tieAt ts i).2.1]:List Int).map .int)) (.tuple (([min (u:Int) v,max (u:Int) v]:List Int).map .int))=isTB ts u v i:=xG _ _ _ _
  rw[eq]
  have SS:=S2.trans S3
  refine ite2 (λ c=>?_) (λ c=>?_)
  ·have et:tbN ts u v=some i:=by
    unfold tbN
    refine List.find?_range_eq_some.mpr ⟨c,l9.mpr hlt,λ j hj=>?_⟩
    rw[pre j hj];rfl
   have q1:=q J3 (sH.trans SS)
   rw[et] at q1
   exact⟨_,rfl,q1⟩
  ·refine⟨ts.length-(i+1),by left,rfl,hlt,⟨_,_,rfl⟩,sm.trans SS,λ k hk=>?_⟩
   by_cases z:k=i
   ·rw[z];exact uda.mpr c
   ·exact pre k (by left)
 ·have e:i=ts.length:=by left
  subst e
  refine .inl ⟨⟨ws,sq,by left⟩,?_⟩
  have et:tbN ts u v=none:=by
   unfold tbN
   refine List.find?_eq_none.mpr λ k hk=>?_
   rw[pre k (l9.mp hk)];exact i7
  have q1:=q J sH
  rw[et] at q1
  exact q1
theorem qX (T:Bi mg)(D:DefOk K mg "ties_along" s_ties_along ["web","places"])(O_tie_between:‹1› "tie_between" ["web","a","b"] (spTB K)):‹2› "ties_along" ["web","places"] (spAlong K):=by
 exists 1,sc_ties_along
 obtain⟨n,ts,wv,t,ws,rfl,isw,few60,ht,l24,lk,q⟩:=h
 have lenW:(natV ws).length=ws.length:=by unfold natV;rw[c7]
 have ecut:cutV (natV ws) (some 1) none=natV (ws.drop 1):=by
  unfold cutV
  have h1:HT.sIx (natV ws).length (natV ws).length none=(natV ws).length:=rfl
  rw[h1]
  by_cases z:ws=[]
  ·subst z;rfl
  ·have pos:=ucx.mpr z
   have h0:HT.sIx (natV ws).length 0 (some 1)=1:=by
    unfold HT.sIx
    simp
    left
   rw[h0,uby (by rw[udi];exact d8 _)]
   unfold natV
   rw[List.map_drop]
 refine⟨_,(aE (aH (bY (N:=["web","places"]) (sc0:=defScope s_ties_along) (own:=["one","other"]) (fr:=["web"]) (js:=[0]) rfl (zay true true rfl T.z_zip (aA (pv 1) (aA (iI iQ (pv 1) (iU aC) iV) aB))) (λ _ _ _ _=>(zI (n:=2) rfl (aQ (aJ (i:=0) (by show List.Nodup [("one":Str),("other":Str),("web":Str)];decide +kernel) rfl (j8 rfl)) (aQ (aJ (i:=1) (by show List.Nodup [("one":Str),("other":Str),("web":Str)];decide +kernel) rfl (j8 rfl)) bQ)))) (λ _ _ _ _=>cO) (λ _ _ _ _=>(aF O_tie_between hr rfl (aA (pv 2) (aA (pv 0) (aA (pv 1) aB)))))))),?_⟩
 refine⟨_,rfl,_,rfl,_,rfl,t,_,rfl,ht,λ t2 J1 S1 e1=>?_⟩
 rw[ecut] at e1
 refine⟨t,t2,rfl,⟨_,SqX.of (t:=true) (S1 _ _ ht)⟩,⟨_,SqX.of (t:=true) e1⟩,?_⟩
 have lenD:(natV (ws.drop 1)).length=ws.length-1:=by unfold natV;rw[c7,udi]
 refine xZ (t1:=true) (t2:=true) (xs:=natV ws) (zs:=natV (ws.drop 1)) (S1 _ _ ht) e1 (λ σ'=>∃ o1 o2,σ'=[o1,o2,some wv]) (λ i x _=>x=V.int (((tbN ts (ws.getD i 0) (ws.getD (i+1) 0)).getD 0:Nat):Int)) (by left) (by exact⟨none,none,rfl⟩) (λ _ _ _ _ _ h=>h) (λ i x z U σ' H' hxi hzi s2 hU sg C hC=>?_) (λ L ys H2 hL s2 hH hly hys=>?_)
 ·obtain⟨o1,o2,rfl⟩:=sg
  obtain⟨u,hu,rfl⟩:=bP hxi
  obtain⟨v,hv,rfl⟩:=bP hzi
  rw[List.getElem?_drop,Nat.add_comm] at hv
  obtain⟨k,ek,hk⟩:=hX lk hu hv
  have eu:ws.getD i 0=u:=by rw[d3,hu];rfl
  have ev:ws.getD (i+1) 0=v:=by rw[d3,hv];rfl
  refine⟨U,_,rfl,SqT.of aM,rfl,_,_,rfl,_,_,rfl,rfl,?_⟩
  have SU:=aW (o:=.tup [V.int (u:Int),.int (v:Int)]) hU
  refine⟨_,rfl,_,rfl,_,rfl,n,ts,wv,u,v,rfl,Is.same (S1.trans (s2.trans SU)) _ isw,few60,λ H5 s5=>hC _ _ _ ⟨_,_,rfl⟩ (SU.trans s5) ?_⟩
  rw[eu,ev,ek];rfl
 ·refine q L H2 (S1.trans s2) ?_
  rw[hH]
  refine congrArg (λ z=>some (HO.lst z)) (ub6 λ i=>?_)
  have hl2:ys.length=ws.length-1:=by rw[hly,lenW,lenD];left
  unfold alongN natV
  rw[uam,j5]
  by_cases hi:i<ws.length-1
  ·have e:ys[i]?=some ys[i]:=c6 (by left)
   rw[e,hys i _ e,ua2 hi];rfl
  ·rw[uag (by left),uag (by rw[j9];left)];rfl
theorem qV (T:Bi mg)(D:DefOk K mg "way_length" s_way_length ["web","way"])(O_ties_along:‹2› "ties_along" ["web","places"] (spAlong K)):‹3› "way_length" ["web","way"] (spWLen K):=by
 exists 2,sc_way_length
 obtain⟨n,ts,wv,t,ws,rfl,isw,few60,ht,l24,lk,q⟩:=h
 obtain⟨g0,g,tws,rfl,hg0,hg,hall,hlw⟩:=bC isw
 refine⟨_,(aE (aH (aP (wE rfl) rfl T.z_sum (by symm) (aA (bY (N:=["web","way"]) (sc0:=defScope s_way_length) (own:=["tie"]) (fr:=["web"]) (js:=[0]) rfl (bU (aF O_ties_along hr rfl (aA (pv 0) (aA (pv 1) aB)))) (λ _ _ _ _=>(aJ (i:=0) (by show List.Nodup [("tie":Str),("web":Str)];decide +kernel) rfl (j8 rfl))) (λ _ _ _ _=>cO) (λ _ _ _ _=>(aG cX (aG cX (aG cX (pv 1) aC (λ _ _=>rfl)) (pv 0) (λ _ _=>rfl)) aC (λ _ _=>rfl)))) aB)))),?_⟩
 refine⟨_,rfl,_,rfl,n,ts,_,t,ws,rfl,isw,few60,ht,l24,lk,λ l J1 S1 e1=>?_⟩
 refine⟨l,rfl,⟨_,SqL.of e1⟩,?_⟩
 have lenA:(natV (alongN ts ws)).length=ws.length-1:=by unfold natV alongN;rw[c7,c7,j9]
 refine dY e1 (λ σ'=>∃ o,σ'=[o,some (.ref g0)]) (λ i x _=>x=V.int (tieAt ts ((alongN ts ws).getD i 0)).2.2) (by left) (by exact⟨none,rfl⟩) (λ _ _ _ _ _ h=>h) (λ i x σ' H' hx s2 sg C hC=>?_) (λ L ys H2 hL s2 hH hly hys=>?_)
 ·obtain⟨o,rfl⟩:=sg
  obtain⟨k,hk,rfl⟩:=bP hx
  have hkl:=yN lk k (i6 hk)
  obtain⟨ta,hta,htie⟩:=bR hall hkl
  have s12:=S1.trans s2
  have ek:(alongN ts ws).getD i 0=k:=by rw[d3,hk];rfl
  exact⟨_,rfl,g0,_,_,_,rfl,rfl,SqT.of (s12 _ _ hg0),rfl,_,rfl,g,_,_,_,rfl,rfl,SqT.of (s12 _ _ hg),aZ (o6 _) hta,ta,_,_,_,rfl,rfl,SqT.of (s12 _ _ htie),rfl,hC _ _ _ ⟨_,rfl⟩ (Same.refl _) (by rw[ek])⟩
 ·refine⟨L,(alongN ts ws).map λ k=>(tieAt ts k).2.2,rfl,?_,?_⟩
  ·rw[hH]
   refine congrArg (λ z=>some (HO.lst z)) (ub6 λ i=>?_)
   have hl2:ys.length=ws.length-1:=by rw[hly,lenA]
   have la:(alongN ts ws).length=ws.length-1:=by unfold alongN;rw[c7,j9]
   rw[j5,j5]
   by_cases hi:i<ws.length-1
   ·have e:ys[i]?=some ys[i]:=c6 (by left)
    have e2:(alongN ts ws)[i]?=some ((alongN ts ws).getD i 0):=by rw[d3,c6 (by left)];rfl
    rw[e,hys i _ e,e2];rfl
   ·rw[uag (by left),uag (by left)];rfl
  ·rw[lZ]
   exact q H2 (S1.trans s2)
theorem uE (T:Bi mg)(D:DefOk K mg "without" s_without ["keep","tie"]):‹1› "without" ["keep","tie"] (spWithout K):=by
 exists 0,sc_without
 obtain⟨m,ks,kv,k,rfl,isk,ko,m60,q⟩:=h
 obtain⟨kp,rfl,hkp⟩:=eM isk
 rw[← bT] at hkp
 have lks:=ko.len
 have len:(natV ks).length=ks.length:=by unfold natV;rw[c7]
 refine⟨_,(aE (aH (bI cF rfl T.z_tuple (by symm) (aA (bY (N:=["keep","tie"]) (sc0:=defScope s_without) (own:=["other"]) (fr:=["tie"]) (js:=[1]) rfl (cC (pv 0)) (λ _ _ _ _=>(aJ (i:=0) (by show List.Nodup [("other":Str),("tie":Str)];decide +kernel) rfl (j8 rfl))) (λ _ _ _ _=>(cV (aO fJ (pv 0) (pv 1) (nomark _)))) (λ _ _ _ _=>(pv 0))) aB)))),?_⟩
 refine⟨_,rfl,kp,rfl,⟨_,SqT.of hkp⟩,?_⟩
 refine dU hkp (λ σ'=>∃ o,σ'=[o,some (.int (k:Int))]) (λ i=>if decide (ks.getD i 0≠k)=true then some (V.int ((ks.getD i 0:Nat):Int)) else none) (by left) (by exact⟨none,rfl⟩) (λ i x σ' H' hx s2 sg C L hC hL=>?_) (λ L H2 hL s2 hH=>?_)
 ·obtain⟨o,rfl⟩:=sg
  obtain⟨j,hj,rfl⟩:=bP hx
  have ej:ks.getD i 0=j:=by rw[d3,hj];rfl
  refine⟨_,rfl,_,rfl,rfl,_,rfl,?_⟩
  by_cases z:j=k
  ·refine iteNS (by rw[z]) (hL _ _ ⟨_,rfl⟩ (Same.refl _) ?_)
   rw[ej,ufp]
   exact λ y=>ufl y z
  ·have ne:decide (V.int (j:Int)=V.int (k:Int))=false:=ufm λ y=>z (by injection y with y;left)
   rw[ne]
   refine iteT ⟨_,rfl,hC _ _ _ ⟨_,rfl⟩ (Same.refl _) ?_⟩
   rw[ej,ufo (ufk z)]
 ·refine⟨L,_,rfl,hH,λ t J S f e=>q t J (s2.trans S) ?_⟩
  rw[e,len]
  exact congrArg (λ z=>some (HO.tup z)) (mI (λ j=>decide (j≠k)) ks)
theorem xK (T:Bi mg)(D:DefOk K mg "spare" s_spare ["web","keep","tie"])(O_without:‹4› "without" ["keep","tie"] (spWithout K))(O_the_way:‹4› "the_way" ["web","keep","a","b"] (spWay K)):‹5› "spare" ["web","keep","tie"] (spSpare K):=by
 exists 4,sc_spare
 obtain⟨n,ts,ks,wv,kv,k,rfl,wk,hkl,q⟩:=h
 have ok:=wk.2.1
 obtain⟨g0,g,ws,rfl,hg0,hg,hall,hlw⟩:=bC wk.1
 obtain⟨ta,hta,htie⟩:=bR hall hkl
 have tk:=ok.tie _ (bG hkl).2
 refine⟨_,(aD (bK (aG aL (aG aL (pv 0) aC (λ _ _=>rfl)) (pv 2) (λ _ _=>rfl)) (bS (n:=3) rfl (aQ (aJ (i:=3) nd rfl (j8 rfl)) (aQ (aJ (i:=4) nd rfl (j8 rfl)) (aQ (aJ (i:=5) nd rfl (j8 rfl)) bQ))))) (aE (aH (aF O_the_way hr rfl (aA (pv 0) (aA (aF O_without hr rfl (aA (pv 1) (aA (pv 2) aB))) (aA (pv 3) (aA (pv 4) aB)))))))),?_⟩
 refine⟨_,rfl,g0,_,_,_,rfl,rfl,SqT.of hg0,rfl,_,rfl,g,_,_,_,rfl,rfl,SqT.of hg,aZ (o6 _) hta,ta,_,rfl,SqT.of htie,rfl,_,_,rfl,_,_,rfl,_,_,rfl,rfl,?_⟩
 refine⟨_,rfl,_,rfl,_,rfl,_,ks,kv,k,rfl,wk.2.2.1,wk.2.2.2,ok.few,λ p J S e=>?_⟩
 refine⟨_,rfl,_,rfl,n,ts,but ks k,_,_,_,_,rfl,⟨Is.same S _ wk.1,ok,⟨p,_,rfl,e,by rw[bT];exact IsAll.ints _⟩,jN wk.2.2.2⟩,by left,by left,by left,by left,λ v J2 S2 hv=>q v J2 (S.trans S2) hv⟩
theorem qY (T:Bi mg)(D:DefOk K mg "need_times" s_need_times ["t"])(O_is_whole:‹1› "is_whole" ["thing"] (spD1 K (λ _=>True) wholeB)):‹2› "need_times" ["t"] (spNeed K):=by
 exists 1,sc_need_times
 obtain⟨t,rfl,t1,t99,q⟩:=h
 refine⟨_,(aE (aS (PW.pt (bW (cA (bL (aF O_is_whole hr rfl (aA (pv 0) aB)))) (bZ (cA (xB eE eE aC (pv 0) aC))))) (aE mL) aR)),?_⟩
 refine⟨_,rfl,.int t,.int t,rfl,rfl,trivial,λ H1 s1=>⟨_,rfl,iteF ?_⟩⟩
 refine⟨_,rfl,_,_,rfl,rfl,_,rfl,?_⟩
 have e1:decide ((1:Int)<=t)=true:=ufk t1
 have e2:decide (t<=99)=true:=ufk t99
 rw[e1]
 refine iteT ⟨_,_,rfl,rfl,_,rfl,?_⟩
 rw[e2]
 exact iteF (q H1 s1)
theorem rT (T:Bi mg)(D:DefOk K mg "is_within" s_is_within ["web","tie","t","way"])(O_way_length:‹3› "way_length" ["web","way"] (spWLen K)):‹4› "is_within" ["web","tie","t","way"] (spWithin K):=by
 exists 3,sc_is_within
 obtain⟨n,ts,ks,wv,k,t,v,rfl,isw,ok,ko,hkl,t1,t99,hv,q⟩:=h
 have tk:=ok.tie _ (bG hkl).2
 obtain⟨g0,g,ws',rfl,hg0,hg,hall,hlw⟩:=bC isw
 obtain⟨ta,hta,htie⟩:=bR hall hkl
 refine⟨_,(aE (aH (cG (bD nR (pv 3) bE (nomark _)) (bV (bD eE (aF O_way_length hr rfl (aA (pv 0) (aA (pv 3) aB))) (aI dA (pv 2) (aG aL (aG aL (aG aL (pv 0) aC (λ _ _=>rfl)) (pv 1) (λ _ _=>rfl)) aC (λ _ _=>rfl))) (nomark _)))))),?_⟩
 rcases hv with ⟨rfl,hd⟩ | ⟨tw,ws,x,rfl,htw,l24,tr,hd⟩
 ·refine⟨_,rfl,rfl,_,rfl,iteF ?_⟩
  have q0:=q H (Same.refl H)
  rw[jV hd] at q0
  exact q0
 ·obtain⟨ew,lk⟩:=oR ok ko tr
  refine⟨_,rfl,rfl,_,rfl,iteT ?_⟩
  refine⟨_,rfl,_,rfl,n,ts,_,tw,ws,rfl,isw,ok.few,htw,l24,lk,λ J S=>?_⟩
  have q0:=q J S
  rw[jV hd] at q0
  rw[ew]
  exact⟨_,rfl,_,rfl,g0,_,_,_,rfl,rfl,SqT.of (S _ _ hg0),rfl,_,rfl,g,_,_,_,rfl,rfl,SqT.of (S _ _ hg),aZ (o6 _) hta,ta,_,_,_,rfl,rfl,SqT.of (S _ _ htie),rfl,_,_,rfl,rfl,.inl ⟨by left,by left⟩,_,_,rfl,rfl,q0⟩
theorem vJ (T:Bi mg)(D:DefOk K mg "needed" s_needed ["web","keep","t"])(O_need_times:‹5› "need_times" ["t"] (spNeed K))(O_is_within:‹5› "is_within" ["web","tie","t","way"] (spWithin K))(O_spare:‹5› "spare" ["web","keep","tie"] (spSpare K)):‹6› "needed" ["web","keep","t"] (spNeeded K):=by
 exists 5,sc_needed
 obtain⟨n,ts,ks,wv,kv,t,rfl,wk,t1,t99,q⟩:=h
 refine⟨_,(aD (bX (aF O_need_times hr rfl (aA (pv 2) aB))) (aE (aH (bI cF rfl T.z_tuple (by symm) (aA (bY (N:=["web","keep","t"]) (sc0:=defScope s_needed) (own:=["tie"]) (fr:=["web","t","keep"]) (js:=[0,2,1]) rfl (cC (pv 1)) (λ _ _ _ _=>(aJ (i:=0) (by show List.Nodup [("tie":Str),("web":Str),("t":Str),("keep":Str)];decide +kernel) rfl (j8 rfl))) (λ _ _ _ _=>(cV (cA (bL (aF O_is_within hr rfl (aA (pv 1) (aA (pv 0) (aA (pv 2) (aA (aF O_spare hr rfl (aA (pv 1) (aA (pv 3) (aA (pv 0) aB)))) aB))))))))) (λ _ _ _ _=>(pv 0))) aB))))),?_⟩
 refine⟨_,rfl,t,rfl,t1,t99,λ H1 s1=>?_⟩
 have wk1:=wk.same s1
 have ok:=wk.2.1
 have ko:=wk.2.2.2
 have few60:=ok.few
 obtain⟨kp,rfl,hkp⟩:=eM wk1.2.2.1
 rw[← bT] at hkp
 have lks:=ko.len
 have len:(natV ks).length=ks.length:=by unfold natV;rw[c7]
 refine⟨_,rfl,kp,rfl,⟨_,SqT.of hkp⟩,?_⟩
 refine dU hkp (λ σ'=>∃ o,σ'=[o,some wv,some (.int t),some (.ref kp)]) (λ i=>if (!withinB t (tieAt ts (ks.getD i 0)).2.2 (gO ts (but ks (ks.getD i 0)) (ks.getD i 0)))=true then some (V.int ((ks.getD i 0:Nat):Int)) else none) (by left) (by exact⟨none,rfl⟩) (λ i x σ' H' hx s2 sg C L hC hL=>?_) (λ L H2 hL s2 hH=>?_)
 ·obtain⟨o,rfl⟩:=sg
  obtain⟨k,hk,rfl⟩:=bP hx
  have hkl:k<ts.length:=ko.2 k (i6 hk)
  have ej:ks.getD i 0=k:=by rw[d3,hk];rfl
  have wk2:=wk1.same s2
  refine⟨_,rfl,_,rfl,_,rfl,_,rfl,_,rfl,_,rfl,n,ts,ks,wv,_,k,rfl,wk2,hkl,λ v J S hv=>?_⟩
  refine⟨n,ts,but ks k,wv,k,t,v,rfl,Is.same S _ wk2.1,ok,jN ko,hkl,t1,t99,hv,λ J2 S2=>⟨_,rfl,?_⟩⟩
  refine iteB2 (λ c=>hL _ _ ⟨_,rfl⟩ (S.trans S2) ?_) (λ c=>⟨_,rfl,hC _ _ _ ⟨_,rfl⟩ (S.trans S2) ?_⟩)
  ·rw[ej,c];rfl
  ·rw[ej,c];rfl
 ·refine⟨L,_,rfl,hH,λ tt J S f e=>q tt J (s1.trans (s2.trans S)) ?_⟩
  rw[e,len]
  exact congrArg (λ z=>some (HO.tup z)) (mI (λ k=>!withinB t (tieAt ts k).2.2 (gO ts (but ks k) k)) ks)
theorem iY {M:List Nat}{i:Int}(h0:0<=i)(h:i.toNat<M.length):atI (natV M) i=some (.int ((M.getD i.toNat 0:Nat):Int)):=by
 refine aZ h0 ?_
 unfold natV
 rw[j5,c6 h,d3,c6 h];rfl
theorem fF (x y:Nat):decide (V.int (x:Int)=V.int (y:Int))=decide (x=y):=by
 by_cases e:x=y
 ·rw[ufk e,ufk (by rw[e])]
 ·rw[ufm e,ufm λ h=>e (by injection h with h;exact_mod_cast h)]
theorem xJ (T:Bi mg)(D:DefOk K mg "whole" s_whole ["web"]):‹1› "whole" ["web"] (spWhole K):=by
 exists 0,sc_whole
 obtain⟨n,ts,v,rfl,hw,few60,q⟩:=h
 obtain⟨g0,g,ws,rfl,hg0,hg,hall,hlw⟩:=bC hw
 refine⟨_,(aE (aH (bI (qP rfl) rfl T.z_tuple (by symm) (aA (bI hO rfl T.z_range (by symm) (aA (aP bB rfl T.z_len (by symm) (aA (aG aL (pv 0) aC (λ _ _=>rfl)) aB)) aB)) aB)))),?_⟩
 refine⟨_,rfl,g0,_,_,_,rfl,rfl,SqT.of hg0,rfl,g,_,rfl,.inr (SqT.of hg),_,rfl,λ r hr'=>?_⟩
 refine⟨r,_,rfl,aM,by left,by left,λ l H' S f e=>q l H' ((aW hr').trans S) ((aW (o:=.rng 0 _) hr').free f) ?_⟩
 rw[e,show ((ws.length:Nat):Int).toNat=ts.length by left]
theorem tG (T:Bi mg)(D:DefOk K mg "not_kept" s_not_kept ["web","keep"])(O_whole:‹1› "whole" ["web"] (spWhole K)):‹2› "not_kept" ["web","keep"] (spOuts K):=by
 exists 1,sc_not_kept
 obtain⟨n,ts,ks,wv,kv,rfl,wk,q⟩:=h
 have few60:=wk.2.1.few
 obtain⟨kp,rfl,hkp⟩:=eM wk.2.2.1
 rw[← bT] at hkp
 refine⟨_,(aE (aH (bY (N:=["web","keep"]) (sc0:=defScope s_not_kept) (own:=["tie"]) (fr:=["keep"]) (js:=[1]) rfl (cC (aF O_whole hr rfl (aA (pv 0) aB))) (λ _ _ _ _=>(aJ (i:=0) (by show List.Nodup [("tie":Str),("keep":Str)];decide +kernel) rfl (j8 rfl))) (λ _ _ _ _=>(cV (aO eG (pv 0) (pv 1) (by with_unfolding_all rfl)))) (λ _ _ _ _=>(pv 0))))),?_⟩
 refine⟨_,rfl,n,ts,wv,rfl,wk.1,few60,λ l H1 s1 f1 e1=>?_⟩
 refine⟨l,rfl,⟨_,SqT.of e1⟩,?_⟩
 have len:(natV (d7 ts.length)).length=ts.length:=by unfold natV;rw[c7,j9]
 refine dU e1 (λ σ'=>∃ o,σ'=[o,some (.ref kp)]) (λ i=>if decide (i∉ks)=true then some (V.int (i:Int)) else none) (by left) (by exact⟨none,rfl⟩) (λ i x σ' H' hx s2 sg C L hC hL=>?_) (λ L H2 hL s2 hH=>?_)
 ·obtain⟨o,rfl⟩:=sg
  obtain⟨k,hk,rfl⟩:=bP hx
  have ek:k=i:=by
   have hi:=(i0.mp hk).1
   rw[j9] at hi
   rw[ua2 hi] at hk
   cases hk;rfl
  subst ek
  refine⟨_,rfl,_,rfl,kp,_,rfl,.inr (SqT.of ((s1.trans s2) _ _ hkp)),rfl,cU ks,_,rfl,?_⟩
  show if (!inV (V.int (k:Int)) (natV ks))=true then _ else _
  rw[cZ (o6 _),u4]
  refine iteB2 (λ c=>?_) (λ c=>?_)
  ·refine hL _ _ ⟨_,rfl⟩ (Same.refl _) ?_
   rw[ufp]
   exact λ z=>ufl z (ufl c)
  ·refine⟨_,rfl,hC _ _ _ ⟨_,rfl⟩ (Same.refl _) ?_⟩
   rw[ufo (ufk (ufn c))]
 ·refine q L H2 (s1.trans s2) (s1.free hL) ?_
  rw[hH,len,cS];rfl
theorem vL (T:Bi mg)(D:DefOk K mg "across" s_across ["web","tie","heights"]):‹1› "across" ["web","tie","heights"] (spAcross K):=by
 exists 0,sc_across
 obtain⟨n,ts,wv,k,p,hs,rfl,isw,ok,hkl,ht,hlh,q⟩:=h
 obtain⟨g0,g,ws,rfl,hg0,hg,hall,hlw⟩:=bC isw
 obtain⟨ta,hta,htie⟩:=bR hall hkl
 have tk:=ok.tie _ (bG hkl).2
 refine⟨_,(aD (bK (aG aL (aG aL (pv 0) aC (λ _ _=>rfl)) (pv 1) (λ _ _=>rfl)) (bS (n:=3) rfl (aQ (aJ (i:=3) nd rfl (j8 rfl)) (aQ (aJ (i:=4) nd rfl (j8 rfl)) (aQ (aJ (i:=5) nd rfl (j8 rfl)) bQ))))) (aE (aH (aP yC rfl T.z_abs (by symm) (aA (aI cH (aG aL (pv 2) (pv 3) (λ _ _=>rfl)) (aG aL (pv 2) (pv 4) (λ _ _=>rfl))) aB))))),?_⟩
 refine⟨_,rfl,g0,_,_,_,rfl,rfl,SqT.of hg0,rfl,_,rfl,g,_,_,_,rfl,rfl,SqT.of hg,aZ (o6 _) hta,ta,_,rfl,SqT.of htie,rfl,_,_,rfl,_,_,rfl,_,_,rfl,rfl,?_⟩
 exact⟨_,rfl,_,rfl,p,_,_,_,rfl,rfl,SqT.of ht.1,jI (by left) (by left),_,rfl,_,rfl,p,_,_,_,rfl,rfl,SqT.of ht.1,jI (by left) (by left),_,_,rfl,rfl,_,rfl,q⟩
theorem tE (T:Bi mg)(D:DefOk K mg "ringless" s_ringless ["web","ties"]):‹1› "ringless" ["web","ties"] (spRingless K):=by
 exists 0,sc_ringless
 obtain⟨n,ts,os,wv,o,rfl,hw,ok,hos,l60,ho,q⟩:=h
 have n1:=ok.n1
 have n24:=ok.n24
 obtain⟨g0,g,ws,rfl,hg0,hg,hall,hlw⟩:=bC hw
 refine⟨_,(aD (aN (i:=2) nd rfl (j8 rfl) (bI (kD rfl) rfl T.z_list (by symm) (aA (bI hO rfl T.z_range (by symm) (aA (aG aL (pv 0) aC (λ _ _=>rfl)) aB)) aB))) (aD (aN (i:=3) nd rfl (j8 rfl) (bF aB)) (aD (bM PassesOwn.never rfl (cC (pv 1)) (aJ (i:=4) nd rfl (j8 rfl)) (aD (bK (aG aL (aG aL (pv 0) aC (λ _ _=>rfl)) (pv 4) (λ _ _=>rfl)) (bS (n:=3) rfl (aQ (aJ (i:=5) nd rfl (j8 rfl)) (aQ (aJ (i:=6) nd rfl (j8 rfl)) (aQ (aJ (i:=7) nd rfl (j8 rfl)) bQ))))) (aD (aN (i:=8) nd rfl (ue9 rfl) (aG aX (pv 2) (pv 5) (λ _ _=>rfl))) (aD (aN (i:=9) nd rfl (ue9 rfl) (aG aX (pv 2) (pv 6) (λ _ _=>rfl))) (aE (aS (aO fJ (pv 8) (pv 9) (nomark _)) (aD (fM (i:=2) (N:=["web","ties","marks","told","tie","a","b","length","one","other"]) (sc0:=defScope s_ringless) (own:=["mark"]) (fr:=["other","one"]) (js:=[9,8]) rfl (bU (pv 2)) (λ _ _ _ _=>(aJ (i:=0) (by show List.Nodup [("mark":Str),("other":Str),("one":Str)];decide +kernel) rfl (j8 rfl))) (λ _ _ _ _=>cO) (λ _ _ _ _=>(dX (aO bH (pv 0) (pv 1) (nomark _)) (pv 2) (pv 0))) nd rfl (j8 rfl)) (aE (bX (cP ual ua1 ua0 eJ (pv 3) (aA (pv 4) aB))))) aR)))))) (aE (aH (pv 3)))))),?_⟩
 refine⟨_,rfl,g0,_,_,_,rfl,rfl,SqT.of hg0,rfl,_,rfl,λ r hr'=>⟨r,n,rfl,aM,by left,by left,λ lm hlm=>?_⟩⟩
 have S1:Same H (upd H r (.rng 0 n)):=aW hr'
 have S2:Same (upd H r (.rng 0 n)) (upd (upd H r (.rng 0 n)) lm (.lst ((d7 n.toNat).map λ i:Nat=>V.int (i:Int)))):=aW hlm
 have e2:upd (upd H r (.rng 0 n)) lm (.lst ((d7 n.toNat).map λ i:Nat=>V.int (i:Int))) lm=some (.lst (natV (d7 n.toNat))):=aM
 generalize upd (upd H r (.rng 0 n)) lm (.lst ((d7 n.toNat).map λ i:Nat=>V.int (i:Int)))=J2 at S2 e2
 refine⟨(by show 0<=1000;decide),λ lt J3 S3 f3 e3=>?_⟩
 have S03:=S1.trans (S2.trans S3)
 have fl:H lt=none:=(S1.trans S2).free f3
 have nlm:lm≠lt:=λ z=>by rw[← z,e2] at f3;cases f3
 refine⟨_,rfl,o,rfl,⟨_,SqT.of (S03 _ _ ho)⟩,?_⟩
 have len:(natV os).length=os.length:=by unfold natV;rw[c7]
 refine fD (xs:=natV os) (λ i σ J=>∃ (lm:j4)(M tl:List Nat)(y4 y5 y6 y7 y8 y9:Option V),σ=[some (.ref g0),some (.ref o),some (.ref lm),some (.ref lt),y4,y5,y6,y7,y8,y9]/\Same H J/\lm≠lt/\J lm=some (.lst (natV M))/\J lt=some (.lst (natV tl))/\tl.length<=i/\Frs.Mk n.toNat ((os.take i).map (t2 ts)) M/\tl++rgN ts (os.take i) (os.drop i)=rgN ts [] os) ⟨lm,_,[],none,none,none,none,none,none,rfl,S03,nlm,S3 _ _ e2,e3,uad _,Frs.Mk.first,rfl⟩ (λ i σ J _ h=>?_) (λ i x σ J hx h=>?_) (λ σ J h=>?_)
 ·obtain⟨lm,M,tl,y4,y5,y6,y7,y8,y9,rfl,sm,_⟩:=h
  exact SqT.of (sm _ _ ho)
 ·obtain⟨lm,M,tl,y4,y5,y6,y7,y8,y9,rfl,sm,nlm,hM,hT,ltl,mk,er⟩:=h
  obtain⟨k,hk,rfl⟩:=bP hx
  have hi:=i0.mp hk
  have hkl:k<ts.length:=hos k (i6 hk)
  obtain⟨ta,hta,htie⟩:=bR hall hkl
  have tk:=ok.tie _ (bG hkl).2
  obtain⟨t,et⟩:∃ t,t=tieAt ts k:=⟨_,rfl⟩
  rw[← et] at htie tk
  have lM:=mk.1
  have il:i<os.length:=hi.1
  have ha:t.1.toNat<n.toNat:=oW tk
  have hb:t.2.1.toNat<n.toNat:=oV tk
  have ed:os.drop i=k::os.drop (i+1):=by rw[uc7 hi.1,hi.2]
  have et2:t2 ts k=(t.1.toNat,t.2.1.toNat):=by unfold t2;rw[← et]
  have tn:os.take (i+1)=os.take i++[k]:=cR hk
  have mE:(os.take (i+1)).map (t2 ts)=(os.take i).map (t2 ts)++[(t.1.toNat,t.2.1.toNat)]:=by rw[tn,uao,List.map_singleton,et2]
  refine⟨_,rfl,g0,_,_,_,rfl,rfl,SqT.of (sm _ _ hg0),rfl,_,rfl,g,_,_,_,rfl,rfl,SqT.of (sm _ _ hg),aZ (o6 _) hta,ta,_,rfl,SqT.of (sm _ _ htie),rfl,_,_,rfl,_,_,rfl,_,_,rfl,rfl,?_⟩
  refine⟨_,rfl,_,rfl,lm,_,_,_,rfl,rfl,SqL.of hM,iY tk.1 (by rw[lM];exact ha),?_⟩
  refine⟨_,rfl,_,rfl,lm,_,_,_,rfl,rfl,SqL.of hM,iY (zbo tk) (by rw[lM];exact hb),?_⟩
  refine⟨_,rfl,_,rfl,rfl,_,rfl,?_⟩
  rw[fF]
  by_cases c:M.getD t.1.toNat 0=M.getD t.2.1.toNat 0
  ·refine iteNS c ⟨lm,M,tl,_,_,_,_,_,_,rfl,sm,nlm,hM,hT,by left,by rw[mE];exact mk.same ha hb c,?_⟩
   rw[← er,ed,tn]
   have cB:cnB ts (os.take i) k=true:=cnB_iff.mpr (by rw[et2];exact (mk.2 _ _ ha hb).mp c)
   show _=tl++(if cnB ts (os.take i) k=true then _ else _)
   rw[ufo cB]
  ·rw[ufm c]
   refine iteT ?_
   refine⟨_,rfl,lm,rfl,⟨_,SqL.of hM⟩,?_⟩
   have lnM:(natV M).length=n.toNat:=by unfold natV;rw[c7];exact lM
   refine dY hM (λ σ'=>∃ o,σ'=[o,some (.int ((M.getD t.2.1.toNat 0:Nat):Int)),some (.int ((M.getD t.1.toNat 0:Nat):Int))]) (λ i v _=>v=.int (((if M.getD i 0=M.getD t.2.1.toNat 0 then M.getD t.1.toNat 0 else M.getD i 0:Nat)):Int)) (by left) (by exact⟨none,rfl⟩) (λ _ _ _ _ _ h=>h) (λ i2 x2 σ' H' hx2 s4 sg C hC=>?_) (λ L zs J4 hL S4 hH hly hys=>?_)
   ·obtain⟨o2,rfl⟩:=sg
    obtain⟨m,hm,rfl⟩:=bP hx2
    have em:M.getD i2 0=m:=by rw[d3,hm];rfl
    rw[em] at hC
    refine⟨_,rfl,_,rfl,rfl,_,rfl,?_⟩
    rw[fF]
    refine ite2 (λ c2=>⟨_,rfl,hC _ _ _ ⟨_,rfl⟩ (Same.refl _) ?_⟩) (λ c2=>⟨_,rfl,hC _ _ _ ⟨_,rfl⟩ (Same.refl _) ?_⟩)
    ·rw[ufo (ufl c2)]
    ·rw[ufp (ufn (uda.mpr c2))]
   have ez:zs=natV (Frs.join M (M.getD t.1.toNat 0) (M.getD t.2.1.toNat 0)):=by
    have lj:(natV (Frs.join M (M.getD t.1.toNat 0) (M.getD t.2.1.toNat 0))).length=n.toNat:=by unfold natV Frs.join;rw[c7,c7];exact lM
    refine uca (by left) λ j h1 h2=>?_
    have:=hys j _ (c6 h1)
    rw[this]
    have hj:j<M.length:=by left
    have e:=iY (M:=Frs.join M (M.getD t.1.toNat 0) (M.getD t.2.1.toNat 0)) (i:=(j:Int)) (o6 _) (by unfold Frs.join;rw[c7];simpa using hj)
    rw[u4,Frs.join_at hj] at e
    have e2:(natV (Frs.join M (M.getD t.1.toNat 0) (M.getD t.2.1.toNat 0)))[j]?=some (natV (Frs.join M (M.getD t.1.toNat 0) (M.getD t.2.1.toNat 0)))[j]:=c6 h2
    have e3:=aZ (i:=(j:Int)) (o6 _) (by rw[u4];exact e2)
    rw[e] at e3
    exact (u6 e3)
   rw[ez] at hH
   have hT4:=S4 _ _ hT
   have nL:L≠lt:=λ z=>by rw[z,hT] at hL;cases hL
   have ltv:(natV tl).length=tl.length:=by unfold natV;rw[c7]
   refine⟨_,rfl,.inl ⟨rfl,_,SqL.of hT4⟩,_,rfl,lt,_,_,rfl,rfl,hT4,by left,λ J5 b5 e5=>?_⟩
   refine⟨L,_,tl++[k],_,_,_,_,_,_,rfl,λ b o' e=>b5 _ _ (aY e fl) ((sm.trans S4) _ _ e),nL,b5 _ _ nL hH,by rw[e5];unfold natV;rw[uao];rfl,by rw[g9,uaf];left,by rw[mE];exact mk.join ha hb c,?_⟩
   rw[← er,ed,tn]
   have cB:¬ cnB ts (os.take i) k=true:=λ z=>c ((mk.2 _ _ ha hb).mpr (by have:=cnB_iff.mp z;rw[et2] at this;exact this))
   show _=tl++(if cnB ts (os.take i) k=true then _ else _)
   rw[ufp cB,ub7];rfl
 ·obtain⟨lm,M,tl,y4,y5,y6,y7,y8,y9,rfl,sm,nlm,hM,hT,ltl,mk,er⟩:=h
  refine⟨_,rfl,q lt J sm fl ?_⟩
  rw[len,List.drop_length,ubw] at er
  rw[hT,← er]
  show some (HO.lst (natV tl))=some (HO.lst (natV (tl++[])))
  rw[ubb]
theorem pG (T:Bi mg)(D:DefOk K mg "is_tie_number" s_is_tie_number ["web","thing"])(O_is_whole:‹1› "is_whole" ["thing"] (spD1 K (λ _=>True) wholeB)):‹2› "is_tie_number" ["web","thing"] (spNum K):=by
 exists 1,sc_is_tie_number
 obtain⟨n,ts,d,v,u,rfl,hw,hd,q⟩:=h
 refine⟨_,(aE (aH (cG (aF O_is_whole hr rfl (aA (pv 1) aB)) (bV (xE eE cQ aC (pv 1) (aP bB rfl T.z_len (by symm) (aA (aG aL (pv 0) aC (λ _ _=>rfl)) aB))))))),?_⟩
 refine⟨_,rfl,d,u,rfl,hd,trivial,λ H1 s1=>⟨_,rfl,?_⟩⟩
 have q0:=q H1 s1
 cases d with
 | int i =>
  have e:u=.int i:=hd
  subst e
  obtain⟨p,g,ws,rfl,hp,hg,hall,hl⟩:=bC (Is.same s1 _ hw)
  refine iteT ⟨_,rfl,_,_,rfl,rfl,_,rfl,ite2 (λ c=>⟨_,rfl,p,_,_,_,rfl,rfl,SqT.of hp,rfl,g,_,rfl,.inr (SqT.of hg),_,_,rfl,rfl,?_⟩) (λ c=>?_)⟩
  ·have e:numB ts.length (.int i)=decide (i<(ws.length:Int)):=by show (decide (0<=i)&&decide (i<(ts.length:Int)))=_;rw[show decide (0<=i)=true from c,hl];rfl
   rw[e] at q0;exact q0
  ·have e:numB ts.length (.int i)=false:=by show (decide (0<=i)&&decide (i<(ts.length:Int)))=_;rw[show decide (0<=i)=false from uda.mpr c];rfl
   rw[e] at q0;exact q0
 | bool b=>exact iteF q0
 | none=>exact iteF q0
 | str x=>exact iteF q0
 | tuple ds=>exact iteF q0
 | list ds=>exact iteF q0
 | dict ds=>exact iteF q0
def tupB:r6->Nat->Bool
 | .tuple ds,m=>decide (ds.length=m)
 | _,_=>false
def toldB (y:Str)(m:Nat):r6->Bool
 | .tuple (.str x::r)=>decide (r.length+1=m)&&decide (x=y)
 | _=>false
def spTupD (K:a8):Sp:=λ vs H Q _=>∃ (d:r6)(v:V)(m:Nat),vs=[v,.int (m:Int)]/\Is K H d v/\Q (.bl (tupB d m)) H
theorem pR (T:Bi mg)(D:DefOk K mg "is_tuple_of" s_is_tuple_of ["thing","many"]):‹1› "is_tuple_of" ["thing","many"] (spTupD K):=by
 exists 0,sc_is_tuple_of
 obtain⟨d,v,m,rfl,hd,q⟩:=h
 have ty:=jP hd
 refine⟨_,(aE (aH (cG (aP (gA (n:="tuple")) rfl T.z_isinstance (by symm) (aA (pv 0) (aA (gG (v:=.ty "tuple") rfl T.z_tuple (by symm) rfl) aB))) (bV (bD bH (aP bB rfl T.z_len (by symm) (aA (pv 0) aB)) (pv 1) (nomark _)))))),?_⟩
 cases d with
 | int i=>exact⟨_,rfl,_,_,_,rfl,ty,rfl,_,rfl,iteF q⟩
 | bool b=>exact⟨_,rfl,_,_,_,rfl,ty,rfl,_,rfl,iteF q⟩
 | none=>exact⟨_,rfl,_,_,_,rfl,ty,rfl,_,rfl,iteF q⟩
 | str x=>exact⟨_,rfl,_,_,_,rfl,ty,rfl,_,rfl,iteF q⟩
 | list ds=>exact⟨_,rfl,_,_,_,rfl,ty,rfl,_,rfl,iteF q⟩
 | dict ds=>exact⟨_,rfl,_,_,_,rfl,ty,rfl,_,rfl,iteF q⟩
 | tuple ds =>
  refine⟨_,rfl,_,_,_,rfl,ty,rfl,_,rfl,iteT ?_⟩
  obtain⟨p,vs,rfl,hp,hall⟩:=hd
  have hl:=hall.length
  refine⟨_,rfl,p,_,rfl,.inr (SqT.of hp),_,rfl,rfl,?_⟩
  have e:decide (V.int ((vs.length:Nat):Int)=V.int (m:Int))=decide (ds.length=m):=by
   by_cases z:ds.length=m
   ·rw[ufk z,ufk (by rw[hl,z])]
   ·rw[ufm z,ufm λ y=>z (by injection y with y;left)]
  rw[e]
  exact q
theorem gM {x y:Str}:uc4 (.str x) (.str y)=decide (x=y):=by
 show (x==y)=_
 by_cases z:x=y
 ·subst z;rw[ufk rfl];exact beq_self_eq_true _
 ·rw[ufm z];exact beq_false_of_ne z
def spTolD (K:a8):Sp:=λ vs H Q _=>∃ (M:Nat)(d:r6)(v:V)(y:Str)(m:Nat),vs=[v,.str y,.int ((m+1:Nat):Int)]/\Is K H d v/\TD M d/\uck y=true/\Q (.bl (toldB y (m+1) d)) H
theorem tI (T:Bi mg)(D:DefOk K mg "is_told" s_is_told ["thing","word","many"])(O_is_tuple_of:‹1› "is_tuple_of" ["thing","many"] (spTupD K)):‹2› "is_told" ["thing","word","many"] (spTolD K):=by
 exists 1,sc_is_told
 obtain⟨M,d,v,y,m,rfl,hd,td,sy,q⟩:=h
 have units:(A.deeper (envOfC "is_told" (defScope s_is_told) s.heap.objs.size f cdv)).units+1<cLine:=by have:=hr.units;left
 refine⟨_,(aE (aH (cG (aF O_is_tuple_of hr rfl (aA (pv 0) (aA (pv 2) aB))) (bV (bD dM (aG aL (pv 0) aC (λ _ _=>rfl)) (pv 1) (nomark _)))))),?_⟩
 refine⟨_,rfl,_,rfl,d,v,m+1,rfl,hd,_,rfl,?_⟩
 cases d with
 | int i=>exact iteF q
 | bool b=>exact iteF q
 | none=>exact iteF q
 | str x=>exact iteF q
 | list ds=>exact iteF q
 | dict ds=>exact iteF q
 | tuple ds =>
  show if decide (ds.length=m+1)=true then _ else _
  cases ds with
  | nil=>exact iteF q
  | cons d0 r =>
   obtain⟨p,vs,rfl,hp,v0,r0,rfl,h0,hr0⟩:=id hd
   cases e1:decide ((d0::r).length=m+1) with
   | false =>
    refine iteF ?_
    have e:toldB y (m+1) (.tuple (d0::r))=false:=by
     cases d0 <;> try rfl
     show (decide (r.length+1=m+1)&&_)=false
     rw[show decide (r.length+1=m+1)=false from e1];rfl
    rw[e] at q;exact q
   | true =>
    have a0:atI (v0::r0) 0=some v0:=aZ (uae 0) (by rfl)
    have t0:TD M d0:=by
     cases M with
     | zero=>rcases td with ⟨i,e⟩ | ⟨x,e,_⟩ <;> cases e
     | succ M=>exact (td.all.2 d0 i3).up
    have dp:∀ x:r6,min x.depth (PyData.str y).depth=0:=λ x=>Nat.min_eq_zero_iff.mpr (.inr rfl)
    refine iteT ⟨_,rfl,p,_,_,_,rfl,rfl,SqT.of hp,a0,_,rfl,d0,.str y,h0,rfl,t0.lay,sy,?_,?_⟩
    ·rw[dp];exact Nat.lt_of_succ_lt units
    ·have e:toldB y (m+1) (.tuple (d0::r))=uc4 d0 (.str y):=by
      cases d0 with
      | str x =>
       rw[gM]
       show (decide (r.length+1=m+1)&&decide (x=y))=_
       rw[show decide (r.length+1=m+1)=true from e1];rfl
      | int i=>rfl
      | bool b=>rfl
      | none=>rfl
      | list ds=>rfl
      | dict ds=>rfl
      | tuple ds=>rfl
     rw[e] at q;exact q
theorem kI {hs:List r6}(h:wholesB (.tuple hs)=true):hs=(hs.map toI).map udm:=by
 have h':hs.all wholeB=true:=h
 rw[uam]
 conv=>lhs;rw[← ud1 hs]
 refine ubt λ x hx=>?_
 have:=uap.mp h' x hx
 cases x with
 | int i=>rfl
 | _=>cases this
def spHoldD (K:a8):Sp:=λ vs H Q _=>∃ (M:Nat)(n:Int)(ts:List Tie)(ks:List Nat)(wv kv v:V)(d:r6),vs=[wv,kv,v]/\WK K H n ts ks wv kv/\Is K H d v/\TD M d/\∀ H',Same H H'->Q (.bl (holdD n ts ks d)) H'
theorem pH (T:Bi mg)(D:DefOk K mg "heights_hold" s_heights_hold ["web","keep","heights"])(O_is_wholes:‹2› "is_wholes" ["thing"] (spD1 K few wholesB))(O_across:‹2› "across" ["web","tie","heights"] (spAcross K)):‹3› "heights_hold" ["web","keep","heights"] (spHoldD K):=by
 exists 2,sc_heights_hold
 obtain⟨M,n,ts,ks,wv,kv,v,d,rfl,⟨isw,ok,isk,ko⟩,hd,td,q⟩:=h
 have n1:=ok.n1
 have few60:=ok.few
 obtain⟨g0,g,ws,rfl,hg0,hg,hall,hlw⟩:=bC isw
 obtain⟨kp,rfl,hkp⟩:=eM isk
 have fw:few d:=by
  cases d with
  | tuple ds =>
   cases M with
   | zero=>rcases td with ⟨i,e⟩ | ⟨x,e,_⟩ <;> cases e
   | succ M=>exact r8 td.all.1 (by decide)
  | list ds=>exact absurd td TD.list
  | _=>trivial
 refine⟨_,(aD (aS (PW.pt (bW (cA (bL (aF O_is_wholes hr rfl (aA (pv 2) aB)))) (bZ (aO fJ (aP bB rfl T.z_len (by symm) (aA (pv 2) aB)) (aG aL (pv 0) aC (λ _ _=>rfl)) (nomark _))))) (aE (aH cD)) aR) (aE (aH (aP (nC rfl) rfl T.z_all (by symm) (aA (bY (N:=["web","keep","heights"]) (sc0:=defScope s_heights_hold) (own:=["tie"]) (fr:=["web","heights"]) (js:=[0,2]) rfl (cC (pv 1)) (λ _ _ _ _=>(aJ (i:=0) (by show List.Nodup [("tie":Str),("web":Str),("heights":Str)];decide +kernel) rfl (j8 rfl))) (λ _ _ _ _=>cO) (λ _ _ _ _=>(bD eE (aF O_across hr rfl (aA (pv 1) (aA (pv 0) (aA (pv 2) aB)))) (aG cX (aG cX (aG cX (pv 1) aC (λ _ _=>rfl)) (pv 0) (λ _ _=>rfl)) aC (λ _ _=>rfl)) (nomark _)))) aB))))),?_⟩
 refine⟨_,rfl,d,v,rfl,hd,fw,λ H1 s1=>⟨_,rfl,?_⟩⟩
 cases ew:wholesB d with
 | false =>
  refine iteT ?_
  have e:holdD n ts ks d=false:=by
   cases d with
   | tuple ds=>show (wholesB (.tuple ds)&&_)=false;rw[ew];rfl
   | _=>rfl
  have q1:=q H1 s1
  rw[e] at q1;exact q1
 | true =>
 refine iteF ?_
 cases d with
 | tuple ds =>
  obtain⟨hs,ehs⟩:∃ hs,hs=ds.map toI:=⟨_,rfl⟩
  have eds:=kI ew
  rw[← ehs] at eds
  have eH:holdD n ts ks (.tuple ds)=holdB n ts ks hs:=by show (wholesB (.tuple ds)&&_)=_;rw[ew,uch,ehs]
  rw[eH] at q
  have hs1000:hs.length<=1000:=by rw[ehs,c7];exact fw
  obtain⟨p,xs,rfl,hp,hxs⟩:=hd
  rw[eds] at hxs
  have ht:IntT H p hs:=⟨by rw[hp,IsAll.of_ints hxs],hs1000⟩
  have t1:=ht.same s1
  refine⟨_,rfl,p,_,rfl,.inr (SqT.of t1.1),_,rfl,g0,_,_,_,rfl,rfl,SqT.of (s1 _ _ hg0),rfl,rfl,_,rfl,?_⟩
  by_cases hn:hs.length=n.toNat
  case neg =>
   have ne:decide (V.int (((hs.map V.int).length:Nat):Int)=V.int n)=false:=ufm λ e=>by
    have:(((hs.map V.int).length:Nat):Int)=n:=by injection e
    rw[c7] at this
    left
   rw[ne]
   refine iteT ?_
   have q1:=q H1 s1
   have e:holdB n ts ks hs=false:=by unfold holdB;rw[ufm hn];rfl
   rw[e] at q1;exact q1
  refine iteNS (by rw[c7,hn];congr 1;left) ?_
  refine⟨_,rfl,kp,rfl,⟨_,SqT.of (s1 _ _ hkp)⟩,?_⟩
  have lk:((keepI ks).map V.int).length=ks.length:=by unfold keepI;rw[c7,c7]
  have lks:=ko.len
  refine mX (s1 _ _ hkp) (λ σ'=>∃ o,σ'=[o,some (.ref g0),some (.ref p)]) (λ i v _=>v=.bl (decide (acrossI ts hs (ks.getD i 0)<=(tieAt ts (ks.getD i 0)).2.2))) (by left) (by exact⟨none,rfl⟩) (λ _ _ _ _ _ h=>h) (λ i x σ' H' hx s2 sg C hC=>?_) (λ L ys H2 hL s2 hH hly hys=>?_)
  ·obtain⟨o,rfl⟩:=sg
   obtain⟨k,hk,rfl⟩:=gK hx
   have hkl:k<ts.length:=ko.2 k (i6 hk)
   obtain⟨ta,hta,htie⟩:=bR hall hkl
   have s12:=s1.trans s2
   have ek:ks.getD i 0=k:=by rw[d3,hk];rfl
   refine⟨_,rfl,_,rfl,_,rfl,n,ts,_,k,p,hs,rfl,Is.same s12 _ isw,ok,hkl,ht.same s12,hn,?_⟩
   refine⟨_,rfl,g0,_,_,_,rfl,rfl,SqT.of (s12 _ _ hg0),rfl,_,rfl,g,_,_,_,rfl,rfl,SqT.of (s12 _ _ hg),aZ (o6 _) hta,ta,_,_,_,rfl,rfl,SqT.of (s12 _ _ htie),rfl,_,_,rfl,rfl,hC _ _ _ ⟨_,rfl⟩ (Same.refl _) ?_⟩
   rw[ek]
  ·refine⟨L,_,rfl,SqL.of (by rw[hH,nD (hly.trans lk) hys]),?_⟩
   have q1:=q H2 (s1.trans s2)
   have e:holdB n ts ks hs=((d7 ks.length).map λ i=>decide (acrossI ts hs (ks.getD i 0)<=(tieAt ts (ks.getD i 0)).2.2)).all id:=by
    unfold holdB
    rw[ufk hn,uch]
    have z:=congrArg (List.map λ k=>decide (acrossI ts hs k<=(tieAt ts k).2.2)) (L3.dD ks 0)
    rw[uam] at z
    have z':((d7 ks.length).map λ i=>decide (acrossI ts hs (ks.getD i 0)<=(tieAt ts (ks.getD i 0)).2.2))=ks.map λ k=>decide (acrossI ts hs k<=(tieAt ts k).2.2):=z
    rw[z',uek];rfl
   rw[e] at q1;exact q1
 | _=>cases ew
def spBeyD (K:a8):Sp:=λ vs H Q _=>∃ (M:Nat)(n:Int)(ts:List Tie)(ks:List Nat)(wv kv:V)(k:Nat)(t:Int)(v:V)(d:r6),vs=[wv,kv,.int (k:Int),.int t,v]/\WK K H n ts ks wv kv/\k<ts.length/\1<=t/\t<=99/\Is K H d v/\TD M d/\∀ H',Same H H'->Q (.bl (beyD n ts ks t k d)) H'
theorem oZ (T:Bi mg)(D:DefOk K mg "heights_beyond" s_heights_beyond ["web","keep","tie","t","heights"])(O_heights_hold:‹3› "heights_hold" ["web","keep","heights"] (spHoldD K))(O_across:‹3› "across" ["web","tie","heights"] (spAcross K)):‹4› "heights_beyond" ["web","keep","tie","t","heights"] (spBeyD K):=by
 exists 3,sc_heights_beyond
 obtain⟨M,n,ts,ks,wv,kv,k,t,v,d,rfl,wk,hkl,t1,t99,hd,td,q⟩:=h
 refine⟨_,(aE (aH (cG (aF O_heights_hold hr rfl (aA (pv 0) (aA (pv 1) (aA (pv 4) aB)))) (bV (bD cM (aF O_across hr rfl (aA (pv 0) (aA (pv 2) (aA (pv 4) aB)))) (aI dA (pv 3) (aG aL (aG aL (aG aL (pv 0) aC (λ _ _=>rfl)) (pv 2) (λ _ _=>rfl)) aC (λ _ _=>rfl))) (nomark _)))))),?_⟩
 refine⟨_,rfl,_,rfl,_,rfl,M,n,ts,ks,wv,kv,v,d,rfl,wk,hd,td,λ H1 s1=>⟨_,rfl,?_⟩⟩
 have q1:=q H1 s1
 cases e:holdD n ts ks d with
 | false =>
  have e2:beyD n ts ks t k d=false:=by
   cases d with
   | tuple hs =>
    have e':(wholesB (.tuple hs)&&holdB n ts ks (hs.map toI))=false:=e
    show (wholesB (.tuple hs)&&(holdB n ts ks (hs.map toI)&&_))=false
    rw[← Bool.and_assoc,e'];rfl
   | _=>rfl
  rw[e2] at q1
  exact iteF q1
 | true =>
  cases d with
  | tuple ds =>
   have e':(wholesB (.tuple ds)&&holdB n ts ks (ds.map toI))=true:=e
   rw[r9] at e'
   have eds:=kI e'.1
   have e2:beyD n ts ks t k (.tuple ds)=decide (acrossI ts (ds.map toI) k>t*(tieAt ts k).2.2):=by
    show (wholesB (.tuple ds)&&(holdB n ts ks (ds.map toI)&&_))=_
    rw[e'.1,e'.2,uch,uch]
   rw[e2] at q1
   have hb:=e'.2
   have fw:ds.length<=1000:=by
    cases M with
    | zero=>rcases td with ⟨i,e⟩ | ⟨x,e,_⟩ <;> cases e
    | succ M=>exact r8 td.all.1 (by decide)
   generalize ds.map toI=hs at eds hb q1
   obtain⟨p,xs,rfl,hp,hxs⟩:=hd
   rw[eds] at hxs
   have iT:IntT H p hs:=⟨by rw[hp,IsAll.of_ints hxs],by rw[eds,c7] at fw;exact fw⟩
   have ln:hs.length=n.toNat:=by
    unfold holdB at hb
    rw[r9] at hb
    exact ufl hb.1
   obtain⟨g0,g,ws',rfl,hg0,hg,hall,hlw⟩:=bC wk.1
   obtain⟨ta,hta,htie⟩:=bR hall hkl
   refine iteT ⟨_,rfl,_,rfl,_,rfl,n,ts,_,k,p,hs,rfl,(wk.same s1).1,wk.2.1,hkl,iT.same s1,ln,_,rfl,_,rfl,g0,_,_,_,rfl,rfl,SqT.of (s1 _ _ hg0),rfl,_,rfl,g,_,_,_,rfl,rfl,SqT.of (s1 _ _ hg),aZ (o6 _) hta,ta,_,_,_,rfl,rfl,SqT.of (s1 _ _ htie),rfl,_,_,rfl,rfl,.inl ⟨by left,by left⟩,_,_,rfl,rfl,q1⟩
  | _=>cases e
def WO (K:a8)(H:Hp)(n:Int)(ts:List Tie)(wv:V):Prop:=Is K H (webD n ts) wv/\WebOk n ts
theorem WO.same {K:a8}{H H':Hp}{n:Int}{ts:List Tie}{wv:V}(h:WO K H n ts wv)(s:Same H H'):WO K H' n ts wv:=⟨Is.same s _ h.1,h.2⟩
theorem WO.but {K:a8}{H H':Hp}{n:Int}{ts:List Tie}{wv:V}{p:j4}(h:WO K H n ts wv)(b:But p H H')(hp:Pot H p):WO K H' n ts wv:=by
 obtain⟨xs,e⟩:=hp.lst
 exact⟨Is.but b e _ (eZ n ts) h.1,h.2⟩
theorem oI {m:Nat}{ks:List Nat}(h:∀ k∈ks,k<m)(nd:ks.Nodup):ks.length<=m:=Peel.fU m ks nd h
def spKeptS (K:a8):Sp:=λ vs H Q _=>∃ (n:Int)(ts:List Tie)(ks:List Nat)(wv:V)(kp:j4),vs=[wv,.ref kp]/\WO K H n ts wv/\H kp=some (.tup (natV ks))/\KeepOk ts.length ks/\∀ H',Same H H'->Q (.int (keptF ts ks)) H'
theorem rS (T:Bi mg)(D:DefOk K mg "kept_show" s_kept_show ["web","kept"])(O_whole:‹1› "whole" ["web"] (spWhole K))(O_ringless:‹1› "ringless" ["web","ties"] (spRingless K)):‹2› "kept_show" ["web","kept"] (spKeptS K):=by
 exists 1,sc_kept_show
 obtain⟨n,ts,ks,wv,kp,rfl,⟨isw,ok⟩,hkp,ko,q⟩:=h
 have few60:=ok.few
 have lks:=ko.len
 refine⟨_,(aE (aH (aI cH (aI bN (aP bB rfl T.z_len (by symm) (aA (pv 1) aB)) (aP bB rfl T.z_len (by symm) (aA (aF O_ringless hr rfl (aA (pv 0) (aA (aF O_whole hr rfl (aA (pv 0) aB)) aB))) aB))) (aP bB rfl T.z_len (by symm) (aA (aF O_ringless hr rfl (aA (pv 0) (aA (pv 1) aB))) aB))))),?_⟩
 refine⟨_,rfl,kp,_,rfl,.inr (SqT.of hkp),_,rfl,_,rfl,n,ts,wv,rfl,isw,few60,λ l H1 S1 f1 e1=>?_⟩
 refine⟨n,ts,_,wv,l,rfl,Is.same S1 _ isw,ok,λ k hk=>l9.mp hk,by rw[j9];exact few60,e1,λ l2 H2 S2 f2 e2=>?_⟩
 refine⟨l2,_,rfl,.inl (SqL.of e2),_,_,rfl,rfl,?_⟩
 have S12:=S1.trans S2
 refine⟨_,rfl,_,rfl,n,ts,ks,wv,kp,rfl,Is.same S12 _ isw,ok,ko.2,r8 lks few60,S12 _ _ hkp,λ l3 H3 S3 f3 e3=>?_⟩
 refine⟨l3,_,rfl,.inl (SqL.of e3),_,_,rfl,rfl,?_⟩
 rw[aV,aV,aV]
 exact q H3 (S12.trans S3)
def spNotAm (K:a8):Sp:=λ vs H Q _=>∃ (n:Int)(ts:List Tie)(os:List Nat)(wv:V)(op:j4),vs=[wv,.ref op]/\WO K H n ts wv/\H op=some (.tup (natV os))/\∀ p H',Same H H'->H' p=some (.tup (natV (outs ts.length os)))->Q (.ref p) H'
theorem rR (T:Bi mg)(D:DefOk K mg "not_among" s_not_among ["web","out"])(O_whole:‹1› "whole" ["web"] (spWhole K)):‹2› "not_among" ["web","out"] (spNotAm K):=by
 exists 1,sc_not_among
 obtain⟨n,ts,os,wv,op,rfl,⟨isw,ok⟩,hop,q⟩:=h
 have few60:=ok.few
 refine⟨_,(aE (aH (bI cF rfl T.z_tuple (by symm) (aA (bY (N:=["web","out"]) (sc0:=defScope s_not_among) (own:=["tie"]) (fr:=["out"]) (js:=[1]) rfl (cC (aF O_whole hr rfl (aA (pv 0) aB))) (λ _ _ _ _=>(aJ (i:=0) (by show List.Nodup [("tie":Str),("out":Str)];decide +kernel) rfl (j8 rfl))) (λ _ _ _ _=>(cV (aO eG (pv 0) (pv 1) (by with_unfolding_all rfl)))) (λ _ _ _ _=>(pv 0))) aB)))),?_⟩
 refine⟨_,rfl,n,ts,wv,rfl,isw,few60,λ l H1 s1 f1 e1=>?_⟩
 refine⟨l,rfl,⟨_,SqT.of e1⟩,?_⟩
 have len:(natV (d7 ts.length)).length=ts.length:=by unfold natV;rw[c7,j9]
 refine dU e1 (λ σ'=>∃ o,σ'=[o,some (.ref op)]) (λ i=>if decide (i∉os)=true then some (V.int (i:Int)) else none) (by left) (by exact⟨none,rfl⟩) (λ i x σ' H' hx s2 sg C L hC hL=>?_) (λ L H2 hL s2 hH=>?_)
 ·obtain⟨o,rfl⟩:=sg
  obtain⟨k,hk,rfl⟩:=bP hx
  have ek:k=i:=by
   have hi:=(i0.mp hk).1
   rw[j9] at hi
   rw[ua2 hi] at hk
   cases hk;rfl
  subst ek
  refine⟨_,rfl,_,rfl,op,_,rfl,.inr (SqT.of ((s1.trans s2) _ _ hop)),rfl,cU os,_,rfl,?_⟩
  show if (!inV (V.int (k:Int)) (natV os))=true then _ else _
  rw[cZ (o6 _),u4]
  refine iteB2 (λ c=>?_) (λ c=>?_)
  ·refine hL _ _ ⟨_,rfl⟩ (Same.refl _) ?_
   rw[ufp]
   exact λ z=>ufl z (ufl c)
  ·refine⟨_,rfl,hC _ _ _ ⟨_,rfl⟩ (Same.refl _) ?_⟩
   rw[ufo (ufk (ufn c))]
 ·rw[len,cS] at hH
  exact⟨L,_,rfl,hH,λ p H3 S3 f3 e3=>q p H3 (s1.trans (s2.trans S3)) e3⟩
theorem gH {m:Nat}(ks:List Nat):KeepOk m (outs m ks):=⟨udk.sublist ubj,λ k hk=>(outs_mem.mp hk).1⟩
def spFarS (K:a8):Sp:=λ vs H Q _=>∃ (M:Nat)(n:Int)(ts:List Tie)(os:List Nat)(wv ev hv:V)(op:j4)(t:Int)(e h:r6),vs=[wv,.int t,.ref op,ev,hv]/\WO K H n ts wv/\1<=t/\t<=99/\H op=some (.tup (natV os))/\Is K H e ev/\Is K H h hv/\TD M h/\∀ H',Same H H'->Q (ov (if farD n ts t os e h=true then some ((ts.length:Int)+1) else none)) H'
theorem tJ (T:Bi mg)(D:DefOk K mg "far_show" s_far_show ["web","t","out","tie","heights"])(O_is_tie_number:‹4› "is_tie_number" ["web","thing"] (spNum K))(O_not_among:‹4› "not_among" ["web","out"] (spNotAm K))(O_heights_beyond:‹4› "heights_beyond" ["web","keep","tie","t","heights"] (spBeyD K)):‹5› "far_show" ["web","t","out","tie","heights"] (spFarS K):=by
 exists 4,sc_far_show
 obtain⟨M,n,ts,os,wv,ev,hv,op,t,e,d,rfl,⟨isw,ok⟩,t1,t99,hop,he,hd,td,q⟩:=h
 refine⟨_,(aD (aS (PW.pt (bW (cA (bL (aF O_is_tie_number hr rfl (aA (pv 0) (aA (pv 3) aB))))) (bZ (aO fL (pv 3) (pv 2) (by with_unfolding_all rfl))))) (aE (aH bE)) aR) (aD (aS (cA (bL (aF O_heights_beyond hr rfl (aA (pv 0) (aA (aF O_not_among hr rfl (aA (pv 0) (aA (pv 2) aB))) (aA (pv 3) (aA (pv 1) (aA (pv 4) aB)))))))) (aE (aH bE)) aR) (aE (aH (aI bN (aP bB rfl T.z_len (by symm) (aA (aG aL (pv 0) aC (λ _ _=>rfl)) aB)) aC))))),?_⟩
 refine⟨_,rfl,_,rfl,n,ts,e,wv,ev,rfl,isw,he,λ H1 s1=>⟨_,rfl,?_⟩⟩
 have no:(∀ b:Bool,b=false->farD n ts t os e d=b)->Q .non H1:=λ z=>by
  have q1:=q H1 s1
  rw[z false rfl] at q1;exact q1
 cases en:numB ts.length e with
 | false =>
  refine iteT (no λ b hb=>?_)
  rw[hb]
  cases e with
  | int k =>
   have en':(decide (0<=k)&&decide (k<(ts.length:Int)))=false:=en
   show (((decide (0<=k)&&decide (k<(ts.length:Int)))&&_)&&_)=false
   rw[en'];rfl
  | _=>rfl
 | true =>
 cases e with
 | int k =>
  have he':ev=.int k:=he
  subst he'
  have en':(decide (0<=k)&&decide (k<(ts.length:Int)))=true:=en
  have eF:farD n ts t os (.int k) d=(decide (k.toNat∈os)&&beyD n ts (outs ts.length os) t k.toNat d):=by
   show (((decide (0<=k)&&decide (k<(ts.length:Int)))&&decide (k.toNat∈os))&&_)=_
   rw[en',uch]
  rw[r9] at en'
  have k0:=ufl en'.1
  have k1:=ufl en'.2
  refine iteF ⟨_,rfl,_,rfl,op,_,rfl,.inr (SqT.of (s1 _ _ hop)),rfl,cU os,_,rfl,?_⟩
  show if (!inV (V.int k) (natV os))=true then _ else _
  rw[cZ k0]
  cases e2:decide (k.toNat∈os) with
  | false=>exact iteT (no λ b hb=>by rw[hb,eF,e2];rfl)
  | true =>
   rw[e2,uch] at eF
   rw[eF] at q
   refine iteF ⟨_,rfl,_,rfl,_,rfl,n,ts,os,wv,op,rfl,⟨Is.same s1 _ isw,ok⟩,s1 _ _ hop,λ p H2 s2 e3=>?_⟩
   have s12:=s1.trans s2
   obtain⟨m,rfl⟩:∃ m:Nat,k=m:=⟨k.toNat,by left⟩
   refine⟨_,rfl,_,rfl,_,rfl,M,n,ts,outs ts.length os,wv,.ref p,m,t,hv,d,rfl,⟨Is.same s12 _ isw,ok,dF e3,gH os⟩,by left,t1,t99,Is.same s12 _ hd,td,λ H3 s3=>⟨_,rfl,?_⟩⟩
   have q3:=q H3 (s12.trans s3)
   rw[u4] at q3
   cases e4:beyD n ts (outs ts.length os) t m d with
   | false=>rw[e4] at q3;exact iteT q3
   | true =>
    rw[e4] at q3
    obtain⟨g0,g,ws,rfl,hg0,hg,hall,hlw⟩:=bC (Is.same (s12.trans s3) _ isw)
    refine iteF ⟨_,rfl,g0,_,_,_,rfl,rfl,SqT.of hg0,rfl,g,_,rfl,.inr (SqT.of hg),_,_,rfl,rfl,?_⟩
    rw[hlw];exact q3
 | _=>cases en
def spUnd (K:a8):Sp:=λ vs H Q _=>∃ (n:Int)(ts:List Tie)(ks os:List Nat)(wv ev:V)(kp op:j4)(e:r6),vs=[wv,.ref kp,.ref op,ev]/\WO K H n ts wv/\H kp=some (.tup (natV ks))/\H op=some (.tup (natV os))/\Is K H e ev/\∀ H',Same H H'->Q (.bl (undD ts.length ks os e)) H'
theorem pQ (T:Bi mg)(D:DefOk K mg "is_undecided" s_is_undecided ["web","kept","out","tie"])(O_is_tie_number:‹2› "is_tie_number" ["web","thing"] (spNum K)):‹3› "is_undecided" ["web","kept","out","tie"] (spUnd K):=by
 exists 2,sc_is_undecided
 obtain⟨n,ts,ks,os,wv,ev,kp,op,e,rfl,⟨isw,ok⟩,hkp,hop,he,q⟩:=h
 refine⟨_,(aE (aH (cG (aF O_is_tie_number hr rfl (aA (pv 0) (aA (pv 3) aB))) (cG (bD fL (pv 3) (pv 1) (by with_unfolding_all rfl)) (bV (bD fL (pv 3) (pv 2) (by with_unfolding_all rfl))))))),?_⟩
 refine⟨_,rfl,_,rfl,n,ts,e,wv,ev,rfl,isw,he,λ H1 s1=>⟨_,rfl,?_⟩⟩
 have q1:=q H1 s1
 cases en:numB ts.length e with
 | false =>
  have:undD ts.length ks os e=false:=by
   cases e with
   | int k =>
    have en':(decide (0<=k)&&decide (k<(ts.length:Int)))=false:=en
    show ((decide (0<=k)&&decide (k<(ts.length:Int)))&&_)=false
    rw[en'];rfl
   | _=>rfl
  rw[this] at q1
  exact iteF q1
 | true =>
 cases e with
 | int k =>
  have he':ev=.int k:=he
  subst he'
  have en':(decide (0<=k)&&decide (k<(ts.length:Int)))=true:=en
  have eF:undD ts.length ks os (.int k)=(!decide (k.toNat∈ks)&&!decide (k.toNat∈os)):=by
   show ((decide (0<=k)&&decide (k<(ts.length:Int)))&&_)=_
   rw[en',uch]
  rw[eF] at q1
  rw[r9] at en'
  have k0:=ufl en'.1
  refine iteT ⟨_,rfl,_,rfl,kp,_,rfl,.inr (SqT.of (s1 _ _ hkp)),rfl,cU ks,_,rfl,?_⟩
  show if (!inV (V.int k) (natV ks))=true then _ else _
  rw[cZ k0]
  cases e2:decide (k.toNat∈ks) with
  | true=>rw[e2] at q1;exact iteF q1
  | false =>
   rw[e2] at q1
   refine iteT ⟨_,rfl,_,rfl,op,_,rfl,.inr (SqT.of (s1 _ _ hop)),rfl,cU os,?_⟩
   show Q (.bl (!inV (V.int k) (natV os))) H1
   rw[cZ k0]
   exact q1
 | _=>cases en
theorem vS:LamScope "tie" "web" (lamScopeOf s_order_of):=⟨rfl,rfl,rfl,rfl,rfl,by symm,λ z h=>(show ∀ z∈(lamScopeOf s_order_of).names,z.2=NameKind.free->z.1=u5 "web" by symm) _ (v8 h) rfl,by decide⟩
theorem tF {c Pt:j4}(T:Bi mg)(D:DefOkC K mg "order_of" s_order_of ["web"] c)(L:LamHd mg base c Pt)(O_whole:‹3› "whole" ["web"] (spWhole K)):‹4› "order_of" ["web"] (spOrd K Pt (lamPosOf s_order_of)):=by
 refine oK (k:=3) D sc_order_of (λ vs H Q E h=>?_) (λ f A outer s H vs Q E hr h=>?_)
 ·obtain⟨n,ts,v,rfl,_⟩:=h
  rfl
 obtain⟨n,ts,v,rfl,hw,ok,tb,q⟩:=h
 have nd:=sc_order_of.nd
 refine⟨_,(aE (aH (bI cF rfl T.z_tuple (by symm) (aA (xD (cy:=s.heap.objs.size+1) (x:="tie") (y:="web") (i:=0) L rfl hr rfl T.z_sorted (aA (aF O_whole hr rfl (aA (pv 0) aB)) aB) vS rfl rfl rfl rfl (λ _ _ _ _=>rfl) (λ _ _ _ _ _=>aT (aA (aG (iZ (K:=K) rfl) (aG (iZ (K:=K) rfl) (aG (iZ (K:=K) rfl) (pv 1) aC (λ _ _=>rfl)) (pv 0) (λ _ _=>rfl)) aC (λ _ _=>rfl)) (aA (pv 0) aB)))) aB)))),?_⟩
 have few60:=ok.few
 refine⟨_,rfl,n,ts,v,rfl,hw,few60,λ l J S fr e=>?_⟩
 obtain⟨g0,g,ws,rfl,hg0,hg,hall,hlw⟩:=bC hw
 have len:(natV (d7 ts.length)).length=ts.length:=by unfold natV;rw[c7,j9]
 refine⟨l,_,(d7 ts.length).map (okey ts),.ref g0,rfl,e,by left,by rw[c7,j9,len],λ k hk=>?_,rfl,tb.same S,λ j x k hx hk H2 b2=>?_,λ qs pq wq l2 J2 b2 tb2 sm2 f2 e2=>?_⟩
 ·obtain⟨i,_,rfl⟩:=o7.mp hk
  exact λ z=>by cases z
 ·obtain⟨i,hi,rfl⟩:=bP hx
  have hj:j<ts.length:=by have:=(i0.mp hi).1;rw[j9] at this;exact this
  rw[ua2 hj] at hi;cases hi
  rw[j5,ua2 hj] at hk;cases hk
  obtain⟨ta,hta,htie⟩:=bR hall hj
  have nt:∀ {b:j4}{xs:List V},J b=some (.tup xs)->H2 b=some (.tup xs):=λ e=>b2 _ _ (λ z=>by
   obtain⟨ps,e',_⟩:=tb.same S
   rw[z,e'] at e;cases e) e
  refine⟨_,rfl,g0,_,_,_,rfl,rfl,SqT.of (nt (S _ _ hg0)),rfl,_,rfl,g,_,_,_,rfl,rfl,SqT.of (nt (S _ _ hg)),aZ (o6 _) hta,ta,_,_,_,rfl,rfl,SqT.of (nt (S _ _ htie)),rfl,_,rfl,(by show 2<=1000;decide),λ t J3 S3 f3 e3=>⟨S3,t,rfl,e3⟩⟩
 ·refine⟨l2,_,rfl,e2,λ l3 J3 S3 f3 e3=>q l3 _ J3 (za3 pq wq) ((Same.but S).trans (b2.trans (Same.but S3))) (tb2.same S3) (λ z=>S.trans ((sm2 (z.same S)).trans S3)) (S.free ?_) ?_⟩
  ·cases e4:J l3 with
   | none=>rfl
   | some o =>
    by_cases z:l3=Pt
    ·obtain⟨ps,e5,_⟩:=tb2
     rw[z,e5] at f3;cases f3
    ·rw[b2 _ _ z e4] at f3;cases f3
  ·rw[e3];exact congrArg (λ z=>some (HO.tup z)) (xI pq)
def spWayOf (K:a8):Sp:=λ vs H Q _=>∃ n ts ks wv kv,∃ k:Nat,vs=[wv,kv,.int (k:Int)]/\WK K H n ts ks wv kv/\k<ts.length/\∀ v H',Same H H'->WayV H' (arcs ts ks) (tieAt ts k).1.toNat (tieAt ts k).2.1.toNat v->Q v H'
def spHOf (K:a8):Sp:=λ vs H Q _=>∃ n ts ks wv kv,∃ (k:Nat)(t:Int),vs=[wv,kv,.int (k:Int),.int t]/\WK K H n ts ks wv kv/\k<ts.length/\1<=t/\t<=99/\∀ p xs H',Same H H'->H' p=some (.tup xs)->Q (.ref p) H'
def spWayO19 (K:a8):Sp:=λ vs H Q _=>∃ n ts ks wv kv,∃ k:Nat,vs=[wv,kv,.int (k:Int)]/\WK K H n ts ks wv kv/\k<ts.length/\∀ v H',Same H H'->WayM H' ts ks (tieAt ts k).1.toNat (tieAt ts k).2.1.toNat v->Q v H'
def spHO19 (K:a8):Sp:=λ vs H Q _=>∃ n ts ks wv kv,∃ (k:Nat)(t:Int),vs=[wv,kv,.int (k:Int),.int t]/\WK K H n ts ks wv kv/\k<ts.length/\1<=t/\t<=99/\∀ p H',Same H H'->H' p=some (.tup ((htK n ts ks t k).map V.int))->Q (.ref p) H'
def spTold19 (K:a8):Sp:=λ vs H Q _=>∃ n ts ks wv kv t,vs=[wv,kv,.int t]/\WK K H n ts ks wv kv/\1<=t/\t<=99/\∀ v d H',Same H H'->Is K H' d v->TdD n ts ks t d->Q v H'
theorem sZ (T:Bi mg)(D:DefOk K mg "way_of" s_way_of ["web","keep","tie"])(O_the_way:‹4› "the_way" ["web","keep","a","b"] (spWayM K)):‹5› "way_of" ["web","keep","tie"] (spWayO19 K):=by
 exists 4,sc_way_of
 obtain⟨n,ts,ks,wv,kv,k,rfl,wk,hkl,q⟩:=h
 have ok:=wk.2.1
 obtain⟨g0,g,ws,rfl,hg0,hg,hall,hlw⟩:=bC wk.1
 obtain⟨ta,hta,htie⟩:=bR hall hkl
 have tk:=ok.tie _ (bG hkl).2
 refine⟨_,(aD (bK (aG aL (aG aL (pv 0) aC (λ _ _=>rfl)) (pv 2) (λ _ _=>rfl)) (bS (n:=3) rfl (aQ (aJ (i:=3) nd rfl (j8 rfl)) (aQ (aJ (i:=4) nd rfl (j8 rfl)) (aQ (aJ (i:=5) nd rfl (j8 rfl)) bQ))))) (aE (aH (aF O_the_way hr rfl (aA (pv 0) (aA (pv 1) (aA (pv 3) (aA (pv 4) aB)))))))),?_⟩
 refine⟨_,rfl,g0,_,_,_,rfl,rfl,SqT.of hg0,rfl,_,rfl,g,_,_,_,rfl,rfl,SqT.of hg,aZ (o6 _) hta,ta,_,rfl,SqT.of htie,rfl,_,_,rfl,_,_,rfl,_,_,rfl,rfl,?_⟩
 exact⟨_,rfl,_,rfl,_,rfl,_,rfl,n,ts,ks,_,kv,_,_,rfl,wk,by left,by left,by left,by left,λ v J S hv=>q v J S hv⟩
theorem pS (T:Bi mg)(D:DefOk K mg "heights_of" s_heights_of ["web","keep","tie","t"])(O_heights_from:‹4› "heights_from" ["web","keep","a","roof"] (spHFrom K)):‹5› "heights_of" ["web","keep","tie","t"] (spHO19 K):=by
 exists 4,sc_heights_of
 obtain⟨n,ts,ks,wv,kv,k,t,rfl,wk,hkl,t1,t99,q⟩:=h
 have ok:=wk.2.1
 have ko:=wk.2.2.2
 obtain⟨g0,g,ws,rfl,hg0,hg,hall,hlw⟩:=bC wk.1
 obtain⟨ta,hta,htie⟩:=bR hall hkl
 have tk:=ok.tie _ (bG hkl).2
 refine⟨_,(aD (bK (aG aL (aG aL (pv 0) aC (λ _ _=>rfl)) (pv 2) (λ _ _=>rfl)) (bS (n:=3) rfl (aQ (aJ (i:=4) nd rfl (j8 rfl)) (aQ (aJ (i:=5) nd rfl (j8 rfl)) (aQ (aJ (i:=6) nd rfl (j8 rfl)) bQ))))) (aE (aH (aF O_heights_from hr rfl (aA (pv 0) (aA (pv 1) (aA (pv 4) (aA (aI bN (aI dA (pv 3) (pv 6)) aC) aB)))))))),?_⟩
 refine⟨_,rfl,g0,_,_,_,rfl,rfl,SqT.of hg0,rfl,_,rfl,g,_,_,_,rfl,rfl,SqT.of hg,aZ (o6 _) hta,ta,_,rfl,SqT.of htie,rfl,_,_,rfl,_,_,rfl,_,_,rfl,rfl,?_⟩
 refine⟨_,rfl,_,rfl,_,rfl,_,rfl,_,rfl,_,_,rfl,rfl,.inl ⟨by left,by left⟩,_,_,rfl,rfl,n,ts,ks,_,kv,_,_,rfl,wk,by left,by left,λ p DD J S e lD hD=>q p J S ?_⟩
 have eD:=zbg ok ko lD hD
 subst eD
 exact e
theorem pN (T:Bi mg)(D:DefOk K mg "times_told" s_times_told ["web","keep","t"])(O_need_times:‹5› "need_times" ["t"] (spNeed K))(O_not_kept:‹5› "not_kept" ["web","keep"] (spOuts K))(O_way_of:‹5› "way_of" ["web","keep","tie"] (spWayO19 K))(O_is_within:‹5› "is_within" ["web","tie","t","way"] (spWithin K))(O_heights_of:‹5› "heights_of" ["web","keep","tie","t"] (spHO19 K)):‹6› "times_told" ["web","keep","t"] (spTold19 K):=by
 exists 5,sc_times_told
 obtain⟨n,ts,ks,wv,kv,t,rfl,wk,t1,t99,q⟩:=h
 have ok:=wk.2.1
 have ko:=wk.2.2.2
 have few60:=ok.few
 refine⟨_,(aD (bX (aF O_need_times hr rfl (aA (pv 2) aB))) (aD (aN (i:=3) nd rfl (j8 rfl) (bF aB)) (aD (bM PassesOwn.never rfl (bU (aF O_not_kept hr rfl (aA (pv 0) (aA (pv 1) aB)))) (aJ (i:=4) nd rfl (j8 rfl)) (aD (aN (i:=5) nd rfl (j8 rfl) (aF O_way_of hr rfl (aA (pv 0) (aA (pv 1) (aA (pv 4) aB))))) (aD (aS (cA (bL (aF O_is_within hr rfl (aA (pv 0) (aA (pv 4) (aA (pv 2) (aA (pv 5) aB))))))) (aE (aH (aT (aA bO (aA (pv 4) (aA (aF O_heights_of hr rfl (aA (pv 0) (aA (pv 1) (aA (pv 4) (aA (pv 2) aB))))) aB)))))) aR) (aE (bX (cP ual ua1 ua0 eJ (pv 3) (aA (pv 5) aB))))))) (aE (aH (aT (aA bO (aA (bI cF rfl T.z_tuple (by symm) (aA (pv 3) aB)) aB)))))))),?_⟩
 refine⟨_,rfl,t,rfl,t1,t99,λ H1 s1=>?_⟩
 refine⟨(by show 0<=1000;decide),λ lw J2 S2 f2 e2=>?_⟩
 have S12:=s1.trans S2
 have fw:H lw=none:=s1.free f2
 refine⟨_,rfl,_,rfl,n,ts,ks,wv,kv,rfl,wk.same S12,λ lo J3 S3 f3 e3=>?_⟩
 have nlo:lo≠lw:=λ z=>by rw[z,e2] at f3;cases f3
 have S13:=S12.trans S3
 refine⟨lo,rfl,⟨_,SqL.of e3⟩,?_⟩
 have len:(natV (outs ts.length ks)).length=(outs ts.length ks).length:=by unfold natV;rw[c7]
 have lo60:=mM ts.length ks
 refine dH (xs:=natV (outs ts.length ks)) (λ i σ J=>∃ (ys:List V)(y4 y5:Option V),σ=[some wv,some kv,some (.int t),some (.ref lw),y4,y5]/\Same H J/\J lo=some (.lst (natV (outs ts.length ks)))/\J lw=some (.lst ys)/\ys.length=i/\(∀ j k,j<i->(outs ts.length ks)[j]?=some k->winK ts ks t k)/\∀ (j k:Nat)(v:V),(outs ts.length ks)[j]?=some k->ys[j]?=some v->WyV J ts (wyT ts ks k) v) ⟨[],none,none,rfl,S13,e3,S3 _ _ e2,rfl,λ j k h=>(by left),λ j k v _ h=>(by cases h)⟩ (λ i σ J _ h=>?_) (λ i x σ J hx h=>?_) (λ σ J h=>?_)
 ·obtain⟨ys,y4,y5,rfl,sm,hlo,_⟩:=h
  exact SqL.of hlo
 ·obtain⟨ys,y4,y5,rfl,sm,hlo,hlw,ly,hin,hwy⟩:=h
  obtain⟨k,hk,rfl⟩:=bP hx
  have hko:=i6 hk
  have hkl:k<ts.length:=(outs_mem.mp hko).1
  have hi:i<(outs ts.length ks).length:=(i0.mp hk).1
  refine⟨_,rfl,_,rfl,_,rfl,n,ts,ks,wv,kv,k,rfl,wk.same sm,hkl,λ v J4 S4 hv=>?_⟩
  have wk4:=wk.same (sm.trans S4)
  refine⟨_,rfl,_,rfl,_,rfl,_,rfl,n,ts,ks,wv,k,t,v,rfl,wk4.1,ok,ko,hkl,t1,t99,hv.v,λ J5 S5=>⟨_,rfl,iteB2 (λ c=>?_) (λ c=>?_)⟩⟩
  ·refine⟨_,rfl,.inl ⟨rfl,_,SqL.of (S5 _ _ (S4 _ _ hlw))⟩,_,rfl,lw,_,_,rfl,rfl,S5 _ _ (S4 _ _ hlw),by left,λ J6 b6 e6=>?_⟩
   have tk6:TupKeep J5 J6:=λ a xs e=>b6 _ _ (λ z=>by rw[z,S5 _ _ (S4 _ _ hlw)] at e;cases e) e
   refine⟨ys++[v],_,_,rfl,λ b o e=>b6 _ _ (aY e fw) ((sm.trans (S4.trans S5)) _ _ e),b6 _ _ nlo ((S4.trans S5) _ _ hlo),e6,by rw[g9,ly];rfl,λ j k' hj hk'=>?_,λ j k' v' hk' hv'=>?_⟩
   ·rcases ub2 j i with z | z
    ·exact hin j k' z hk'
    ·have:j=i:=by left
     subst this
     rw[hk] at hk';cases hk'
     exact c
   ·rcases ub2 j i with z | z
    ·rw[uai (by left)] at hv'
     exact ((hwy j k' v' hk' hv').same (S4.trans S5)).tk tk6
    ·rw[uaa (by left),ly] at hv'
     have:j-i=0:=by
      have:=(i0.mp hv').1
      rw[uaf] at this;left
     rw[this] at hv'
     cases hv'
     have:j=i:=by left
     subst this
     rw[hk] at hk';cases hk'
     exact ((zal ok ko hv).same S5).tk tk6
  ·refine⟨_,rfl,_,rfl,_,rfl,_,rfl,_,rfl,n,ts,ks,wv,kv,k,t,rfl,wk4.same S5,hkl,t1,t99,λ p J6 S6 e6=>?_⟩
   refine⟨(by show 3<=1000;decide),λ pp J7 S7 f7 e7=>q (.ref pp) _ J7 (sm.trans (S4.trans (S5.trans (S6.trans S7)))) ?_ (.far (i:=i) (k:=k) ⟨hk,λ z=>(by rw[show withinB t (tieAt ts k).2.2 (gO ts ks k)=true from z] at c;cases c),hin⟩)⟩
   exact⟨pp,_,rfl,e7,_,_,rfl,rfl,_,_,rfl,rfl,_,_,rfl,⟨p,_,rfl,S7 _ _ e6,IsAll.ints _⟩,rfl⟩
 ·obtain⟨ys,y4,y5,rfl,sm,hlo,hlw,ly,hin,hwy⟩:=h
  refine⟨_,rfl,lw,_,rfl,hlw,λ tp J4 S4 f4 e4=>⟨(by show 2<=1000;decide),λ pp J7 S7 f7 e7=>q (.ref pp) _ J7 (sm.trans (S4.trans S7)) ?_ (.keeps λ k hk=>?_)⟩⟩
  ·refine⟨pp,_,rfl,e7,_,_,rfl,rfl,_,_,rfl,⟨tp,ys,rfl,S7 _ _ e4,IsAll.of (by rw[ly,len,c7]) λ i d v hd hv=>?_⟩,rfl⟩
   rw[j5] at hd
   obtain⟨k,hk,rfl⟩:=ubv.mp hd
   exact ((hwy i k v hk hv).same (S4.trans S7)).is
  ·obtain⟨j,hj,e⟩:=ucc hk
   exact hin j k (by left) (by rw[c6 hj,e])
def spWithT (K:a8):Sp:=λ vs H Q _=>∃ (m:Nat)(ks:List Nat)(kp:j4)(k:Nat),vs=[.ref kp,.int (k:Int)]/\H kp=some (.tup (natV ks))/\KeepOk m ks/\m<=60/\k∉ks/\∀ p H',Same H H'->H' p=some (.tup (natV (insN ks k)))->Q (.ref p) H'
def RsnV (H:Hp)(ts:List Tie)(t:Int)(ks:List Nat)(k:Nat)(v:V):Prop:=∃ p x u,v=.ref p/\H p=some (.tup [.str x,u])/\x=(if wiB ts t ks k=true then "way" else "heights")
def spReason (K:a8):Sp:=λ vs H Q _=>∃ n ts ks wv kv,∃ (k:Nat)(t:Int),vs=[wv,kv,.int (k:Int),.int t]/\WK K H n ts ks wv kv/\k<ts.length/\1<=t/\t<=99/\∀ v H',Same H H'->RsnV H' ts t ks k v->Q v H'
theorem sY (T:Bi mg)(D:DefOk K mg "with_tie" s_with_tie ["keep","tie"]):‹1› "with_tie" ["keep","tie"] (spWithT K):=by
 exists 0,sc_with_tie
 obtain⟨m,ks,kp,k,rfl,hkp,ko,m60,hk,q⟩:=h
 have lk:=ko.len
 refine⟨_,(aE (aH (bI cF rfl T.z_tuple (by symm) (aA (aP kC rfl T.z_sorted (by symm) (aA (aI gI (pv 0) (aT (aA (pv 1) aB))) aB)) aB)))),?_⟩
 refine⟨_,rfl,_,rfl,(by show 1<=1000;decide),λ t1 J1 S1 f1 e1=>?_⟩
 have lv:(natV ks).length=ks.length:=by unfold natV;rw[c7]
 refine⟨kp,t1,_,_,rfl,rfl,S1 _ _ hkp,e1,r8 (show (natV ks).length+1<=61 by left) (by decide),λ t2 J2 S2 e2=>?_⟩
 have e2':J2 t2=some (.tup ((keepI ks++[(k:Int)]).map V.int)):=by rw[e2,uao,← bT];rfl
 refine⟨t2,_,rfl,e2',by rw[g9];unfold keepI;rw[c7];show ks.length+1<64;left,λ ms pm pw ls J3 S3 f3 e3=>?_⟩
 rw[kQ ko.1 hk pm pw,← bT] at e3
 exact⟨ls,_,rfl,e3,λ t4 J4 S4 f4 e4=>q t4 J4 (S1.trans (S2.trans (S3.trans S4))) e4⟩
theorem rQ (T:Bi mg)(D:DefOk K mg "reason_of" s_reason_of ["web","keep","tie","t"])(O_way_of:‹5› "way_of" ["web","keep","tie"] (spWayOf K))(O_is_within:‹5› "is_within" ["web","tie","t","way"] (spWithin K))(O_heights_of:‹5› "heights_of" ["web","keep","tie","t"] (spHOf K)):‹6› "reason_of" ["web","keep","tie","t"] (spReason K):=by
 exists 5,sc_reason_of
 obtain⟨n,ts,ks,wv,kv,k,t,rfl,wk,hkl,t1,t99,q⟩:=h
 have ok:=wk.2.1
 have ko:=wk.2.2.2
 refine⟨_,(aD (aN (i:=4) nd rfl (j8 rfl) (aF O_way_of hr rfl (aA (pv 0) (aA (pv 1) (aA (pv 2) aB))))) (aD (aS (bL (aF O_is_within hr rfl (aA (pv 0) (aA (pv 2) (aA (pv 3) (aA (pv 4) aB)))))) (aE (aH (aT (aA bO (aA (pv 4) aB))))) aR) (aE (aH (aT (aA bO (aA (aF O_heights_of hr rfl (aA (pv 0) (aA (pv 1) (aA (pv 2) (aA (pv 3) aB))))) aB))))))),?_⟩
 refine⟨_,rfl,_,rfl,_,rfl,n,ts,ks,wv,kv,k,rfl,wk,hkl,λ v J4 S4 hv=>?_⟩
 have wk4:=wk.same S4
 refine⟨_,rfl,_,rfl,_,rfl,_,rfl,n,ts,ks,wv,k,t,v,rfl,wk4.1,ok,ko,hkl,t1,t99,hv,λ J5 S5=>⟨_,rfl,ite2 (λ c=>?_) (λ c=>?_)⟩⟩
 ·refine⟨_,rfl,(by show 2<=1000;decide),λ p J6 S6 f6 e6=>q _ J6 (S4.trans (S5.trans S6)) ⟨p,_,_,rfl,e6,?_⟩⟩
  rw[ufo (show wiB ts t ks k=true from c)]
 ·refine⟨_,rfl,_,rfl,_,rfl,_,rfl,n,ts,ks,wv,kv,k,t,rfl,wk4.same S5,hkl,t1,t99,λ p xs J6 S6 e6=>?_⟩
  refine⟨(by show 2<=1000;decide),λ pp J7 S7 f7 e7=>q _ J7 (S4.trans (S5.trans (S6.trans S7))) ⟨pp,_,_,rfl,e7,?_⟩⟩
  rw[ufp (show ¬ wiB ts t ks k=true from c)]
theorem RsnV.same {H H':Hp}{ts:List Tie}{t:Int}{ks:List Nat}{k:Nat}{v:V}(h:RsnV H ts t ks k v)(S:Same H H'):RsnV H' ts t ks k v:=let ⟨p,x,u,e,h1,h2⟩:=h;⟨p,x,u,e,S _ _ h1,h2⟩
theorem RsnV.but {H H':Hp}{l:j4}{xs:List V}{ts:List Tie}{t:Int}{ks:List Nat}{k:Nat}{v:V}(h:RsnV H ts t ks k v)(S:But l H H')(hl:H l=some (.lst xs)):RsnV H' ts t ks k v:=let ⟨p,x,u,e,h1,h2⟩:=h;⟨p,x,u,e,S _ _ (λ z=>by rw[z,hl] at h1;cases h1) h1,h2⟩
theorem xQ {H:Hp}{p:j4}{ks:List Nat}(h:H p=some (.tup (natV ks))):Is K H (keepD ks) (.ref p):=by
 rw[bT] at h
 exact⟨p,_,rfl,h,IsAll.ints _⟩
def spRuledL (ts:List Tie)(t:Int)(qual:Str)(L:Arguments × ubl × ucd × Pos)(cl:List (Str × j4))(tb:TE):List V->List V->Hp->VK->Prop:=λ vys vs H Q=>∃ (kp o f c':j4)(pm ctv:c9)(ks os:List Nat),vs=[.ref kp,.ref o,.str "heights",.ref f]/\H kp=some (.tup (natV ks))/\KeepOk ts.length ks/\ts.length<=60/\H o=some (.tup (natV os))/\os.Nodup/\os.length<=60/\(∀ k∈os,k<ts.length/\k∉ks) /\
 H f=some (.ext λ g=>g.get? f=some (z9 "<lambda>" qual L.1 L.2.1 L.2.2.1 cl pm c' ctv))/\H c'=some (.ext λ g=>g.CodeRec (.ref c') qual) /\
 (∀ (i k:Nat)(kq:j4)(H':Hp)(Q':VK),os[i]?=some k->Same H H'->H' kq=some (.tup (natV (ruleN ts t ks (os.take i))))->(∀ v H'',Same H' H''->RsnV H'' ts t (ruleN ts t ks (os.take i)) k v->Q' v H'')->tb ([some (.ref kq),some (.int (k:Int))]++vys.map some) H' Q') /\
 ∀ p kp' rp xs H',Same H H'->H p=none->H' p=some (.tup [.ref kp',.ref rp])->H' kp'=some (.tup (natV (ruleN ts t ks os)))->H' rp=some (.tup xs)->xs.length=os.length->(∀ i k x,os[i]?=some k->xs[i]?=some x->RsnV H' ts t (ruleN ts t ks (os.take i)) k x)->Q (.ref p) H'
theorem vD {ts:List Tie}{t:Int}{qual:Str}{L:Arguments × ubl × ucd × Pos}{cl:List (Str × j4)}{tb:TE}{ys:List Str}(T:Bi mg)(D:DefOk K mg "ruled" s_ruled ["keep","ties","word","reason_for"])(O_with_tie:‹7› "with_tie" ["keep","tie"] (spWithT K))(LS:LamScG ["ahead","tie"] ys L.2.2.1)
  (hBind0:∀ (pm ctv:c9)(c':j4)(us:List c9),us.length=(["ahead","tie"]:List Str).length->bindArgs (ucz "<lambda>" qual L.1 L.2.1 L.2.2.1 cl pm (.ref c') ctv) ⟨us,[]⟩=pure ((["ahead","tie"]:List Str).zip us))
  (hBody0:∀ (A:v6)(outer:List Env)(s:d6)(H:Hp)(f c':j4),Room 6 (A.deeper (ud5 qual L.2.2.1 s.heap.objs.size f (.ref c') cl))->PE (cxL P w K mg base ((["ahead","tie"]:List Str)++ys) qual L.2.2.1 f (.ref c') cl A outer s H) L.2.1 tb) :
  ∃ F:j4,mg "ruled"=some (.ref F)/\ua3 K (.ref F)=true/\∀ (A:v6)(outer:List Env)(s:d6)(H:Hp)(us uys:List c9)(vs vys:List V)(Q:VK),Room 8 A->Env0 P w K mg base A outer s H->Vals vs us->Clo H s.heap ys cl uys->Vals vys uys->spRuledL ts t qual L cl tb vys vs H Q ->
   codeAny (w8 P w) A (.call (.ref F) ⟨us,[]⟩) (CR CX0 outer P w H s Q E0) s:=by
 obtain⟨f0,fd,F,b,m⟩:=D
 refine⟨f0,m,F.kp,λ A outer s H us uys vs vys Q hrA e0 rv hClo hVys h=>?_⟩
 obtain⟨kp,o,f,c',pm,ctv,ks,os,rfl,hkp0,kok0,m60,ho,ndo,lo60,hos,hf,hc',rd,q⟩:=h
 have lus:us.length=4:=rv.length.symm
 have bnd:=b s us (e0.mod.kin.keeps λ b o e=>(e0.bs b o e).1) (by rw[ubb];exact lus)
 rw[ubb] at bnd
 refine zav (k:=7) F sc_ruled hrA e0 bnd rv rfl λ cdv hr=>?_
 have nd:=sc_ruled.nd
 have hBind:=hBind0 pm ctv c'
 have hBody:=λ (s':d6) (H':Hp)=>hBody0 (A.deeper (envOfC "ruled" (defScope s_ruled) s.heap.objs.size f0 cdv)) (envOfC "ruled" (defScope s_ruled) s.heap.objs.size f0 cdv::outer) s' H' f c' (hr.deeper _)
 have lv:(natV os).length=os.length:=by unfold natV;rw[c7]
 refine⟨_,(aD (aN (i:=4) nd rfl (j8 rfl) (bF aB)) (aD (bM PassesOwn.never rfl (cC (pv 1)) (aJ (i:=5) nd rfl (j8 rfl)) (aD (aN (i:=6) nd rfl (j8 rfl) (zJ (i:=3) LS hr rfl hClo hVys rfl (j8 rfl) (aA (pv 0) (aA (pv 5) aB)) hBind hBody)) (aD (aS (aO bH (aG aL (pv 6) aC (λ _ _=>rfl)) (pv 2) (nomark _)) (aE (aN (i:=0) nd rfl (j8 rfl) (aF O_with_tie hr rfl (aA (pv 0) (aA (pv 5) aB))))) aR) (aE (bX (cP ual ua1 ua0 eJ (pv 4) (aA (pv 6) aB))))))) (aE (aH (aT (aA (pv 0) (aA (bI cF rfl T.z_tuple (by symm) (aA (pv 4) aB)) aB))))))),?_⟩
 refine⟨(by show 0<=1000;decide),λ lr J1 S1 f1 e1=>?_⟩
 have fr:H lr=none:=f1
 refine⟨_,rfl,o,rfl,⟨_,SqT.of (S1 _ _ ho)⟩,?_⟩
 refine fD (xs:=natV os) (λ i σ J=>∃ (kp':j4)(xs:List V)(y5 y6:Option V),σ=[some (.ref kp'),some (.ref o),some (.str "heights"),some (.ref f),some (.ref lr),y5,y6]/\Same H J/\J kp'=some (.tup (natV (ruleN ts t ks (os.take i))))/\J lr=some (.lst xs)/\xs.length=i/\∀ j k x,j<i->os[j]?=some k->xs[j]?=some x->RsnV J ts t (ruleN ts t ks (os.take j)) k x) ⟨kp,[],none,none,rfl,S1,S1 _ _ hkp0,e1,rfl,λ j k x h=>by left⟩ (λ i σ J _ h=>?_) (λ i x σ J hx h=>?_) (λ σ J h=>?_)
 ·obtain⟨kp',xs,y5,y6,rfl,sm,_⟩:=h
  exact SqT.of (sm _ _ ho)
 ·obtain⟨kp',xs,y5,y6,rfl,sm,hkp,hlr,lx,rs⟩:=h
  obtain⟨k,hk,rfl⟩:=bP hx
  have hkm:=i6 hk
  have ih:=i0.mp hk
  have hkl:=(hos k hkm).1
  have kok:KeepOk ts.length (ruleN ts t ks (os.take i)):=fA kok0 λ j hj=>(hos j (udy hj)).1
  have hkn:k∉ruleN ts t ks (os.take i):=λ z=>by
   rcases mJ z with z | z
   ·exact (hos k hkm).2 z
   ·have e:os=os.take i++k::os.drop (i+1):=by
     have:=(udq i os).symm
     rw[uc7 ih.1,ih.2] at this
     exact this
    rw[e] at ndo
    exact (uak.mp ndo).2.2 k z k i3 rfl
  refine⟨rfl,_,rfl,_,rfl,rfl,sm _ _ hf,sm _ _ hc',?_⟩
  refine rd i k kp' J _ hk sm hkp λ v J4 S4 hv=>?_
  obtain⟨pr,xr,ur,rfl,hpr,exr⟩:=id hv
  have tn:ruleN ts t ks (os.take (i+1))=(if wiB ts t (ruleN ts t ks (os.take i)) k=true then ruleN ts t ks (os.take i) else insN (ruleN ts t ks (os.take i)) k):=by rw[cR hk];exact kZ
  have hlr4:=S4 _ _ hlr
  have il:i<os.length:=ih.1
  have fin:∀ (kp':j4)(J5 J6:Hp),Same J4 J5->J5 kp'=some (.tup (natV (ruleN ts t ks (os.take (i+1)))))->But lr J5 J6->J6 lr=some (.lst (xs++[.ref pr]))->Same H J6/\J6 kp'=some (.tup (natV (ruleN ts t ks (os.take (i+1)))))/\J6 lr=some (.lst (xs++[.ref pr]))/\(xs++[V.ref pr]).length=i+1/\∀ j k x,j<i+1->os[j]?=some k->(xs++[V.ref pr])[j]?=some x->RsnV J6 ts t (ruleN ts t ks (os.take j)) k x:=by
   intro kp' J5 J6 S5 e5 b6 e6
   have hlr5:=S5 _ _ hlr4
   refine⟨λ b o' e=>b6 _ _ (aY e fr) ((sm.trans (S4.trans S5)) _ _ e),b6 _ _ (λ z=>by rw[z,hlr5] at e5;cases e5) e5,e6,by rw[g9,lx];rfl,λ j k' x hj h1 h2=>?_⟩
   by_cases z:j<i
   ·rw[uai (by left)] at h2
    exact ((rs j k' x z h1 h2).same (S4.trans S5)).but b6 hlr5
   ·have:j=i:=by left
    subst this
    rw[hk] at h1
    cases h1
    rw[uaa (by left),lx,Nat.sub_self] at h2
    cases h2
    exact (hv.same S5).but b6 hlr5
  refine⟨_,rfl,pr,_,_,_,rfl,rfl,SqT.of hpr,rfl,_,rfl,rfl,_,rfl,?_⟩
  by_cases c:wiB ts t (ruleN ts t ks (os.take i)) k=true
  ·rw[ufo c] at exr tn
   subst exr
   rw[ufm (λ z=>by cases z)]
   refine iteF ?_
   refine⟨_,rfl,.inl ⟨rfl,_,SqL.of hlr4⟩,_,rfl,lr,_,_,rfl,rfl,hlr4,by left,λ J6 b6 e6=>?_⟩
   obtain⟨h1,h2,h3,h4,h5⟩:=fin kp' J4 J6 (Same.refl _) (by rw[tn];exact S4 _ _ hkp) b6 e6
   exact⟨kp',_,_,_,rfl,h1,h2,h3,h4,h5⟩
  ·rw[ufp c] at exr tn
   subst exr
   rw[ufk rfl]
   refine iteT ?_
   refine⟨_,rfl,_,rfl,ts.length,_,kp',k,rfl,S4 _ _ hkp,kok,m60,hkn,λ kq J5 S5 e5=>?_⟩
   have hlr5:=S5 _ _ hlr4
   refine⟨_,rfl,.inl ⟨rfl,_,SqL.of hlr5⟩,_,rfl,lr,_,_,rfl,rfl,hlr5,by left,λ J6 b6 e6=>?_⟩
   obtain⟨h1,h2,h3,h4,h5⟩:=fin kq J5 J6 S5 (by rw[tn];exact e5) b6 e6
   exact⟨kq,_,_,_,rfl,h1,h2,h3,h4,h5⟩
 ·obtain⟨kp',xs,y5,y6,rfl,sm,hkp,hlr,lx,rs⟩:=h
  rw[lv,ubw] at hkp
  refine⟨_,rfl,_,rfl,lr,_,rfl,hlr,λ rp J4 S4 f4 e4=>⟨(by show 2<=1000;decide),λ p J5 S5 f5 e5=>q p kp' rp xs J5 (sm.trans (S4.trans S5)) ((sm.trans S4).free f5) e5 ((S4.trans S5) _ _ hkp) (S5 _ _ e4) (by left) λ i k x h1 h2=>(rs i k x ?_ h1 h2).same (S4.trans S5)⟩⟩
  have:=(i0.mp h1).1
  left
def lam4:ubm->Option (Arguments × ubl × ucd × Pos)
 | .Return (some (.Call _ [_,_,_,.Lambda a b sc p] _ _)) _=>some (a,b,sc,p)
 | _=>none
def lam4Of (st:ubm):Arguments × ubl × ucd × Pos:=match defBody st with
 | [r]=>(lam4 r).getD (defArgs st,.Name "" ⟨0,0,0,0⟩,defScope st,⟨0,0,0,0⟩)
 | _=>(defArgs st,.Name "" ⟨0,0,0,0⟩,defScope st,⟨0,0,0,0⟩)
abbrev lamQB:Str:=("ruled_behind"++".<locals>.")++"<lambda>"
theorem uK:LamScG ["ahead","tie"] ["web","t"] (lam4Of s_ruled_behind).2.2.1:=⟨rfl,rfl,rfl,by symm,by symm,by symm,λ z h=>(show ∀ z∈(lam4Of s_ruled_behind).2.2.1.names,z.2=NameKind.free->z.1∈([u5 "web",u5 "t"]:List Str) by symm) _ (v8 h) rfl,by symm,by symm⟩
def spRuledB (K:a8)(Pt:j4)(lp:Pos):Sp:=λ vs H Q _=>∃ (n:Int)(ts:List Tie)(ks os:List Nat)(wv:V)(kp o:j4)(t:Int),vs=[wv,.ref kp,.ref o,.int t]/\Is K H (webD n ts) wv/\WebOk n ts/\H kp=some (.tup (natV ks))/\KeepOk ts.length ks/\H o=some (.tup (natV os))/\os.Nodup/\os.length<=60/\(∀ k∈os,k<ts.length/\k∉ks)/\1<=t/\t<=99/\Tb Pt lp lamQB H /\
 ∀ p kp' rp xs H',But Pt H H'->Tf Pt lp lamQB H'->(Tf Pt lp lamQB H->Same H H')->H' p=some (.tup [.ref kp',.ref rp])->H' kp'=some (.tup (natV (ruleN ts t ks os)))->H' rp=some (.tup xs)->xs.length=os.length->(∀ i k x,os[i]?=some k->xs[i]?=some x->RsnV H' ts t (ruleN ts t ks (os.take i)) k x)->Q (.ref p) H'
theorem pO {c Pt:j4}(T:Bi mg)(D:DefOkC K mg "ruled_behind" s_ruled_behind ["web","keep","ties","t"] c)(hL:LamHd mg base c Pt)(D_ruled:DefOk K mg "ruled" s_ruled ["keep","ties","word","reason_for"])(O_with_tie:‹7› "with_tie" ["keep","tie"] (spWithT K))(O_reason_of:‹6› "reason_of" ["web","keep","tie","t"] (spReason K)):‹9› "ruled_behind" ["web","keep","ties","t"] (spRuledB K Pt (lam4Of s_ruled_behind).2.2.2):=by
 refine oK (k:=8) D sc_ruled_behind (λ vs H Q E h=>?_) (λ f A outer s H vs Q E hr h=>?_)
 ·obtain⟨n,ts,ks,os,wv,kp,o,t,rfl,_⟩:=h
  rfl
 obtain⟨n,ts,ks,os,wv,kp,o,t,rfl,hw,ok,hkp,kok,ho,ndo,lo,hos,t1,t99,tb,q⟩:=h
 have nd:=sc_ruled_behind.nd
 obtain⟨F,hMg,hKp,run⟩:=vD (P:=P) (w:=w) (K:=K) (mg:=mg) (base:=base) (ts:=ts) (t:=t) (qual:=lamQB) (L:=lam4Of s_ruled_behind) (cl:=[("web",s.heap.objs.size+1),("t",s.heap.objs.size+2)]) (ys:=["web","t"]) T D_ruled O_with_tie uK (λ pm ctv c' us hl=>match us,hl with | [_,_],_=>rfl)
  (λ A' outer' s' H' f' c' hr'=>aF O_reason_of hr' rfl (aA (pv 2) (aA (pv 0) (aA (pv 1) (aA (pv 3) aB)))))
 have hRun:=λ (s':d6) (H':Hp) (us uys:List c9) (vs vys:List V) (Q:VK)=>run (A.deeper (envOfC "ruled_behind" (defScope s_ruled_behind) s.heap.objs.size f (.ref c))) (envOfC "ruled_behind" (defScope s_ruled_behind) s.heap.objs.size f (.ref c)::outer) s' H' us uys vs vys Q hr
 have hUn:(([("web",s.heap.objs.size+1),("t",s.heap.objs.size+2)]:List (Str × j4)).map (·.2)).Nodup:=by
  show [s.heap.objs.size+1,s.heap.objs.size+2].Nodup
  simp
 refine⟨_,(aE (aH (xF (ix:=[0,3]) rfl hMg hKp (aA (pv 1) (aA (pv 2) (aA bO (aA (za1 hL rfl rfl) aB)))) hRun rfl hUn rfl (λ j y c h=>match j,h with
  | 0,h=>by cases h;exact⟨rfl,rfl,0,rfl,rfl⟩
  | 1,h=>by cases h;exact⟨rfl,rfl,3,rfl,rfl⟩
  | j+2,h=>by cases h)))),?_⟩
 refine⟨_,rfl,_,rfl,tb,λ f1 c' pm ctv J1 b1 T1 sm1 ff hf hc'=>?_⟩
 have nt:∀ {b:j4}{xs:List V},H b=some (.tup xs)->J1 b=some (.tup xs):=λ e=>b1 _ _ (λ z=>by
  obtain⟨ps,e',_⟩:=tb
  rw[z,e'] at e;cases e) e
 refine⟨[wv,.int t],rfl,λ j i v h1 h2=>?_,kp,o,f1,c',pm,ctv,ks,os,rfl,nt hkp,kok,ok.few,nt ho,ndo,lo,hos,hf,hc',λ i k kq H' Q' hk S' hkq q'=>?_,λ p kp' rp xs H' S' fp hp hkp' hrp lx rs=>?_⟩
 ·match j,h1,h2 with
  | 0,h1,h2=>cases h1;cases h2;rfl
  | 1,h1,h2=>cases h1;cases h2;rfl
  | j+2,h1,h2=>cases h2
 ·refine⟨_,rfl,_,rfl,_,rfl,_,rfl,n,ts,_,wv,.ref kq,k,t,rfl,⟨Is.same S' _ (fX b1 tb _ (eZ n ts) hw),ok,xQ hkq,fA kok λ j hj=>(hos j (udy hj)).1⟩,(hos k (i6 hk)).1,t1,t99,λ v H'' S'' hv=>q' v H'' S'' hv⟩
 ·exact q p kp' rp xs H' (b1.trans (Same.but S')) (T1.same S') (λ z=>(sm1 z).trans S') hp hkp' hrp lx rs
abbrev Bt2 (p q:j4)(H H':Hp):Prop:=∀ b o,b≠p->b≠q->H b=some o->H' b=some o
theorem jF {p q:j4}{H H':Hp}{lp:Pos}{qn:Str}{lp':Pos}{qn':Str}(h:Tb q lp qn H)(b:But p H H')(t:Tb p lp' qn' H)(ne:q≠p):Tb q lp qn H':=by
 obtain⟨ps,e,r⟩:=h
 obtain⟨ps',e',_⟩:=t
 refine⟨ps,b _ _ ne e,r.imp id λ ⟨c',e1,e2⟩=>⟨c',e1,b _ _ (λ z=>by rw[z,e'] at e2;cases e2) e2⟩⟩
def spRing (K:a8)(p q:j4)(lp lq:Pos):Sp:=λ vs H Q _=>∃ n ts wv,∃ t:Int,vs=[wv,.int t]/\Is K H (webD n ts) wv/\WebOk n ts/\1<=t/\t<=99/\q≠p/\Tb p lp lamQ H/\Tb q lq lamQB H /\
 ∀ r kp rp xs os H',OrdOk ts os->Bt2 p q H H'->Tb p lp lamQ H'->Tb q lq lamQB H'->H' r=some (.tup [.ref kp,.ref rp])->H' kp=some (.tup (natV (ruleN ts t [] os)))->H' rp=some (.tup xs)->xs.length=os.length->(∀ i k x,os[i]?=some k->xs[i]?=some x->RsnV H' ts t (ruleN ts t [] (os.take i)) k x)->Q (.ref r) H'
theorem rP {Pt Pq:j4}(T:Bi mg)(D:DefOk K mg "ring_rule" s_ring_rule ["web","t"])(O_need_times:‹9› "need_times" ["t"] (spNeed K))(O_order_of:‹9› "order_of" ["web"] (spOrd K Pt (lamPosOf s_order_of)))(O_ruled_behind:‹9› "ruled_behind" ["web","keep","ties","t"] (spRuledB K Pq (lam4Of s_ruled_behind).2.2.2)):‹10› "ring_rule" ["web","t"] (spRing K Pt Pq (lamPosOf s_order_of) (lam4Of s_ruled_behind).2.2.2):=by
 exists 9,sc_ring_rule
 obtain⟨n,ts,wv,t,rfl,hw,ok,t1,t99,npq,tp,tq,q⟩:=h
 have few60:=ok.few
 refine⟨_,(aD (bX (aF O_need_times hr rfl (aA (pv 1) aB))) (aE (aH (aF O_ruled_behind hr rfl (aA (pv 0) (aA (aT aB) (aA (aF O_order_of hr rfl (aA (pv 0) aB)) (aA (pv 1) aB)))))))),?_⟩
 refine⟨_,rfl,t,rfl,t1,t99,λ H1 S1=>?_⟩
 refine⟨_,rfl,(by show 0<=1000;decide),λ k0 J0 S0 f0 e0=>?_⟩
 have S10:=S1.trans S0
 have tp0:=tp.same S10
 have tq0:=tq.same S10
 have hw0:=Is.same S10 _ hw
 refine⟨_,rfl,n,ts,wv,rfl,hw0,ok,tp0,λ lo os J1 ord b1 tf1 sm1 f1 e1=>?_⟩
 have lo60:os.length<=60:=by rw[ord.1.length_eq,j9];exact few60
 have e0':J1 k0=some (.tup (natV [])):=b1 _ _ (λ z=>by obtain⟨_,e,_⟩:=tp0;rw[z,e] at e0;cases e0) e0
 have tq1:=jF tq0 b1 tp0 npq
 refine⟨_,rfl,n,ts,[],os,wv,k0,lo,t,rfl,fX b1 tp0 _ (eZ n ts) hw0,ok,e0',⟨ucb,λ _ h=>(by cases h)⟩,e1,ord.1.nodup_iff.mpr udg,lo60,λ k hk=>⟨l9.mp (ord.1.mem_iff.mp hk),λ z=>by cases z⟩,t1,t99,tq1,λ r kp rp xs J2 b2 tf2 sm2 hp hkp hrp lx rs=>?_⟩
 exact q r kp rp xs os J2 ord (λ b o z1 z2 e=>b2 _ _ z2 (b1 _ _ z1 (S10 _ _ e))) (jF tf1.tb b2 tq1 (Ne.symm npq)) tf2.tb hp hkp hrp lx rs
theorem iN {y:Str}{m:Nat}{d:r6}(h:toldB y (m+1) d=true):∃ r,d=.tuple (.str y::r)/\r.length=m:=by
 match d,h with
 | .tuple (.str x::r),h =>
  have h':(decide (r.length+1=m+1)&&decide (x=y))=true:=h
  rw[r9] at h'
  have e1:=ufl h'.1
  have e2:=ufl h'.2
  subst e2
  exact⟨r,rfl,by left⟩
theorem yZ {n:Int}{ts:List Tie}{t:Int}{r:r6->List Nat->List Nat->Option Int}{d:r6}{ks os:List Nat}(h1:toldB "kept" 1 d=false)(h2:toldB "far" 3 d=false)(h3:toldB "tie" 4 d=false):shB n ts t r d ks os=none:=by
 unfold shB
 split
 ·rename_i w
  have h1':(decide (([]:List r6).length+1=1)&&decide (w="kept"))=false:=h1
  have:¬ w="kept":=ufn (by simpa using h1')
  rw[ufp this]
 ·rename_i w e h
  have h2':(decide ([e,h].length+1=3)&&decide (w="far"))=false:=h2
  have:¬ w="far":=ufn (by simpa using h2')
  rw[ufp this]
 ·rename_i w e a b
  have h3':(decide ([e,a,b].length+1=4)&&decide (w="tie"))=false:=h3
  have:¬ w="tie":=ufn (by simpa using h3')
  rw[ufp this]
 ·rfl
theorem mT {m:Nat}{ks:List Nat}{k:Nat}(ko:KeepOk m ks)(hk:k∉ks):(insN ks k).Perm (ks++[k]):=by
 refine (uav ((eX ko.1).imp λ h=>j6 h) (uak.mpr ⟨ko.1.imp λ h=>j6 h,(by simp),λ a ha b hb e=>?_⟩)).mpr λ j=>by rw[ins_mem,m5,i5]
 have:b=k:=by simpa using hb
 subst this;subst e;exact hk ha
theorem jS {M i:Nat}{ds:List r6}{x:r6}(h:TD (M+1) (.tuple ds))(e:ds[i]?=some x):TD M x:=h.all.2 x (i6 e)
def spShw (K:a8)(m:Nat):Sp:=λ vs H Q _=>∃ (n:Int)(ts:List Tie)(ks os:List Nat)(wv v:V)(kp op:j4)(t:Int)(d:r6),vs=[wv,.int t,v,.ref kp,.ref op]/\WO K H n ts wv/\1<=t/\t<=99/\Is K H d v/\TD m d/\H kp=some (.tup (natV ks))/\KeepOk ts.length ks/\H op=some (.tup (natV os))/\KeepOk ts.length os/\∀ H',Same H H'->Q (ov (shF n ts t (m+1) d ks os)) H'
theorem kK {m j:Nat}(T:Bi mg)(D:DefOk K mg "shown" s_shown ["web","t","tree","kept","out"])(O_is_told:Ok P w K mg base j "is_told" ["thing","word","many"] (spTolD K))(O_kept_show:Ok P w K mg base j "kept_show" ["web","kept"] (spKeptS K))(O_far_show:Ok P w K mg base j "far_show" ["web","t","out","tie","heights"] (spFarS K))(O_is_undecided:Ok P w K mg base j "is_undecided" ["web","kept","out","tie"] (spUnd K))(O_with_tie:Ok P w K mg base j "with_tie" ["keep","tie"] (spWithT K)){sp:Sp}(O_shown:Ok P w K mg base j "shown" ["web","t","tree","kept","out"] sp)(hsp:∀ m',m=m'+1->∀ vs H Q E,spShw K m' vs H Q E->sp vs H Q E):Ok P w K mg base (j+1) "shown" ["web","t","tree","kept","out"] (spShw K m):=by
 refine dQ (k:=j) D sc_shown (λ vs H Q E h=>?_) (λ f cdv A outer s H vs Q E hr h=>?_)
 ·obtain⟨n,ts,ks,os,wv,v,kp,op,t,d,rfl,_⟩:=h
  rfl
 obtain⟨n,ts,ks,os,wv,v,kp,op,t,d,rfl,wo,t1,t99,hd,td,hkp,ko,hop,oo,q⟩:=h
 have nd:=sc_shown.nd
 have few60:=wo.2.few
 have q':∀ {x:Option Int},shB n ts t (shF n ts t m) d ks os=x->∀ H',Same H H'->Q (ov x) H':=λ e H' s=>by rw[← e];exact q H' s
 refine⟨_,(aD (aS (bL (aF O_is_told hr rfl (aA (pv 2) (aA bO (aA aC aB))))) (aE (aH (aF O_kept_show hr rfl (aA (pv 0) (aA (pv 3) aB))))) aR) (aD (aS (bL (aF O_is_told hr rfl (aA (pv 2) (aA bO (aA aC aB))))) (aE (aH (aF O_far_show hr rfl (aA (pv 0) (aA (pv 1) (aA (pv 4) (aA (aG aL (pv 2) aC (λ _ _=>rfl)) (aA (aG aL (pv 2) aC (λ _ _=>rfl)) aB)))))))) aR) (aD (aS (PW.pt (bW (cA (bL (aF O_is_told hr rfl (aA (pv 2) (aA bO (aA aC aB)))))) (bZ (cA (bL (aF O_is_undecided hr rfl (aA (pv 0) (aA (pv 3) (aA (pv 4) (aA (aG aL (pv 2) aC (λ _ _=>rfl)) aB)))))))))) (aE (aH bE)) aR) (aD (aN (i:=5) nd rfl (j8 rfl) (aF O_shown hr rfl (aA (pv 0) (aA (pv 1) (aA (aG aL (pv 2) aC (λ _ _=>rfl)) (aA (aF O_with_tie hr rfl (aA (pv 3) (aA (aG aL (pv 2) aC (λ _ _=>rfl)) aB))) (aA (pv 4) aB))))))) (aD (aN (i:=6) nd rfl (j8 rfl) (aF O_shown hr rfl (aA (pv 0) (aA (pv 1) (aA (aG aL (pv 2) aC (λ _ _=>rfl)) (aA (pv 3) (aA (aF O_with_tie hr rfl (aA (pv 4) (aA (aG aL (pv 2) aC (λ _ _=>rfl)) aB))) aB))))))) (aD (aS (PW.pt (bW (aO cL (pv 5) bE (nomark _)) (bZ (aO cL (pv 6) bE (nomark _))))) (aE (aH bE)) aR) (aE (aH (aP (dW rfl) rfl T.z_min (by symm) (aA (pv 5) (aA (pv 6) aB))))))))))),?_⟩
 refine⟨_,rfl,m,d,v,"kept",0,rfl,hd,td,by symm,_,rfl,?_⟩
 cases e1:toldB "kept" 1 d with
 | true =>
  refine iteT ?_
  obtain⟨r,rfl,lr⟩:=iN e1
  obtain rfl:r=[]:=List.length_eq_zero_iff.mp lr
  exact⟨_,rfl,_,rfl,n,ts,ks,wv,kp,rfl,wo,hkp,ko,λ H1 s1=>q' (x:=some (keptF ts ks)) (by unfold shB;exact ufo rfl) H1 s1⟩
 | false =>
 refine iteF ⟨_,rfl,m,d,v,"far",2,rfl,hd,td,by symm,_,rfl,?_⟩
 cases e2:toldB "far" 3 d with
 | true =>
  refine iteT ?_
  obtain⟨r,rfl,lr⟩:=iN e2
  match r,lr with
  | [e,h],_ =>
   obtain⟨p,vs,rfl,hp,v1,r1,rfl,h1,v2,r2,rfl,h2,v3,r3,rfl,h3,h4⟩:=id hd
   obtain rfl:r3=[]:=h4
   have tdh:TD m h:=by
    cases m with
    | zero=>rcases td with ⟨i,z⟩ | ⟨x,z,_⟩ <;> cases z
    | succ m=>exact (jS (i:=2) td rfl).up
   exact⟨_,rfl,_,rfl,_,rfl,_,rfl,p,_,_,_,rfl,rfl,SqT.of hp,rfl,_,rfl,p,_,_,_,rfl,rfl,SqT.of hp,rfl,m,n,ts,os,wv,v2,v3,op,t,e,h,rfl,wo,t1,t99,hop,h2,h3,tdh,λ H1 s1=>q' (by unfold shB;exact ufo rfl) H1 s1⟩
 | false =>
 refine iteF ⟨_,rfl,m,d,v,"tie",3,rfl,hd,td,by symm,_,rfl,?_⟩
 cases e3:toldB "tie" 4 d with
 | false=>exact iteT (iteT (q' (yZ e1 e2 e3) H (Same.refl H)))
 | true =>
 obtain⟨r,rfl,lr⟩:=iN e3
 match r,lr with
 | [e,a,b],_ =>
  obtain⟨p,vs,rfl,hp,v1,r1,rfl,h1,v2,r2,rfl,h2,v3,r3,rfl,h3,v4,r4,rfl,h4,h5⟩:=id hd
  obtain rfl:r4=[]:=h5
  refine iteF ⟨_,rfl,_,rfl,_,rfl,_,rfl,p,_,_,_,rfl,rfl,SqT.of hp,rfl,n,ts,ks,os,wv,v2,kp,op,e,rfl,wo,hkp,hop,h2,λ H1 s1=>⟨_,rfl,?_⟩⟩
  cases e4:undD ts.length ks os e with
  | false=>exact iteT (q' (x:=none) (by unfold shB;show (if _ then _ else _)=_;rw[ufo rfl,ufp (by rw[e4];decide)]) H1 s1)
  | true =>
   obtain⟨k,rfl,kl,nk,no,ek⟩:=jE e4
   obtain rfl:v2=.int (k:Int):=h2
   refine iteF ?_
   cases m with
   | zero=>rcases td with ⟨i,z⟩ | ⟨x,z,_⟩ <;> cases z
   | succ m =>
    have ta:=jS (i:=2) td rfl
    have tb:=jS (i:=3) td rfl
    have pk:=mT ko nk
    have po:=mT oo no
    have hF:shB n ts t (shF n ts t (m+1)) (.tuple [.str "tie",.int (k:Int),a,b]) ks os=both (shF n ts t (m+1) a (insN ks k) os) (shF n ts t (m+1) b ks (insN os k)):=by
     unfold shB
     show (if _ then _ else _)=_
     rw[ufo rfl,ufo e4,ek,eC wo.2 (m+1) a _ _ os os pk (ucg _) (cK ko kl).2,eC wo.2 (m+1) b ks ks _ _ (ucg _) po ko.2]
    refine⟨_,rfl,_,rfl,_,rfl,p,_,_,_,rfl,rfl,SqT.of (s1 _ _ hp),rfl,?_⟩
    refine⟨_,rfl,_,rfl,p,_,_,_,rfl,rfl,SqT.of (s1 _ _ hp),rfl,ts.length,ks,kp,k,rfl,s1 _ _ hkp,ko,few60,nk,λ p2 H2 s2 e5=>?_⟩
    have s12:=s1.trans s2
    refine⟨_,rfl,hsp m rfl _ _ _ _ ⟨n,ts,insN ks k,os,wv,v3,p2,op,t,a,rfl,wo.same s12,t1,t99,Is.same s12 _ h3,ta,e5,cK ko kl,s12 _ _ hop,oo,λ H3 s3=>?_⟩⟩
    have s13:=s12.trans s3
    refine⟨_,rfl,_,rfl,_,rfl,p,_,_,_,rfl,rfl,SqT.of (s13 _ _ hp),rfl,_,rfl,?_⟩
    refine⟨_,rfl,_,rfl,p,_,_,_,rfl,rfl,SqT.of (s13 _ _ hp),rfl,ts.length,os,op,k,rfl,s13 _ _ hop,oo,few60,no,λ p4 H4 s4 e6=>?_⟩
    have s14:=s13.trans s4
    refine hsp m rfl _ _ _ _ ⟨n,ts,ks,insN os k,wv,v4,kp,p4,t,b,rfl,wo.same s14,t1,t99,Is.same s14 _ h4,tb,s14 _ _ hkp,ko,e6,cK oo kl,λ H5 s5=>?_⟩
    have s15:=s14.trans s5
    have q5:=q' hF H5 s15
    refine⟨_,rfl,rfl,_,rfl,?_⟩
    cases f1:shF n ts t (m+1) a (insN ks k) os with
    | none =>
     rw[f1] at q5
     exact iteT (iteT q5)
    | some x =>
     refine iteF ⟨_,rfl,rfl,_,rfl,?_⟩
     cases f2:shF n ts t (m+1) b ks (insN os k) with
     | none =>
      rw[f1,f2] at q5
      exact iteT q5
     | some y =>
      rw[f1,f2] at q5
      exact iteF ⟨_,rfl,_,rfl,x,y,rfl,q5⟩
theorem mN {j:Nat}(T:Bi mg)(D:DefOk K mg "shown" s_shown ["web","t","tree","kept","out"])(O_is_told:Ok P w K mg base j "is_told" ["thing","word","many"] (spTolD K))(O_kept_show:Ok P w K mg base j "kept_show" ["web","kept"] (spKeptS K))(O_far_show:Ok P w K mg base j "far_show" ["web","t","out","tie","heights"] (spFarS K))(O_is_undecided:Ok P w K mg base j "is_undecided" ["web","kept","out","tie"] (spUnd K))(O_with_tie:Ok P w K mg base j "with_tie" ["keep","tie"] (spWithT K)):∀ m:Nat,Ok P w K mg base (j+m+1) "shown" ["web","t","tree","kept","out"] (spShw K m)
 | 0=>by
  have O:Ok P w K mg base j "shown" ["web","t","tree","kept","out"] (λ _ _ _ _=>False):=by
   obtain⟨f,fd,F,b,m⟩:=D
   exact⟨f,fd,⟨λ _ _ _ _ h=>h.elim,λ _ _ _ _ _ _ _ _ _ _ _ _ _ h=>h.elim⟩,b,F.kp,m⟩
  exact kK (P:=P) (w:=w) (base:=base) T D O_is_told O_kept_show O_far_show O_is_undecided O_with_tie O λ m' e=>by cases e
 | m+1=>kK (P:=P) (w:=w) (base:=base) T D (O_is_told.mono (by left)) (O_kept_show.mono (by left)) (O_far_show.mono (by left)) (O_is_undecided.mono (by left)) (O_with_tie.mono (by left)) (mN T D O_is_told O_kept_show O_far_show O_is_undecided O_with_tie m) λ m' e vs H Q E z=>by cases e;exact z
def spCases (K:a8)(m:Nat):Sp:=λ vs H Q _=>∃ (n:Int)(ts:List Tie)(wv v:V)(t:Int)(d:r6),vs=[wv,.int t,v]/\WO K H n ts wv/\1<=t/\t<=99/\Is K H d v/\TD m d/\∀ H',Same H H'->Q (ov (shF n ts t (m+1) d [] [])) H'
theorem qZ {m j:Nat}(T:Bi mg)(D:DefOk K mg "cases_show" s_cases_show ["web","t","tree"])(O_need_times:Ok P w K mg base j "need_times" ["t"] (spNeed K))(O_shown:Ok P w K mg base j "shown" ["web","t","tree","kept","out"] (spShw K m)):Ok P w K mg base (j+1) "cases_show" ["web","t","tree"] (spCases K m):=by
 refine dQ (k:=j) D sc_cases_show (λ vs H Q E h=>?_) (λ f cdv A outer s H vs Q E hr h=>?_)
 ·obtain⟨n,ts,wv,v,t,d,rfl,_⟩:=h
  rfl
 obtain⟨n,ts,wv,v,t,d,rfl,wo,t1,t99,hd,td,q⟩:=h
 have nd:=sc_cases_show.nd
 refine⟨_,(aD (bX (aF O_need_times hr rfl (aA (pv 1) aB))) (aE (aH (aF O_shown hr rfl (aA (pv 0) (aA (pv 1) (aA (pv 2) (aA (aT aB) (aA (aT aB) aB))))))))),?_⟩
 refine⟨_,rfl,t,rfl,t1,t99,λ H1 s1=>?_⟩
 refine⟨_,rfl,_,rfl,_,rfl,(by show 0<=1000;decide),λ p1 H2 s2 f2 e2=>⟨(by show 0<=1000;decide),λ p2 H3 s3 f3 e3=>?_⟩⟩
 have s13:=s1.trans (s2.trans s3)
 have ko:KeepOk ts.length []:=⟨.nil,λ k h=>by cases h⟩
 exact⟨n,ts,[],[],wv,v,p1,p2,t,d,rfl,wo.same s13,t1,t99,Is.same s13 _ hd,td,s3 _ _ e2,ko,e3,ko,λ H4 s4=>q H4 (s13.trans s4)⟩
def TL (H:Hp)(vs:List V)(kss:List (List Nat)):Prop:=vs.length=kss.length/\∀ (i:Nat)(ks:List Nat),kss[i]?=some ks->∃ a,vs[i]?=some (.ref a)/\H a=some (.tup (natV ks))
theorem TL.tk {H H':Hp}{vs:List V}{kss:List (List Nat)}(h:TL H vs kss)(s:TupKeep H H'):TL H' vs kss:=⟨h.1,λ i ks e=>let ⟨a,e1,e2⟩:=h.2 i ks e;⟨a,e1,s _ _ e2⟩⟩
theorem TL.at {H:Hp}{vs:List V}{kss:List (List Nat)}(h:TL H vs kss){i:Nat}{x:V}(e:vs[i]?=some x):∃ ks a,kss[i]?=some ks/\x=.ref a/\H a=some (.tup (natV ks)):=by
 have hi:=(i0.mp e).1
 have hi':i<kss.length:=by have:=h.1;left
 obtain⟨a,e1,e2⟩:=h.2 i kss[i] (c6 hi')
 rw[e] at e1
 cases e1
 exact⟨_,a,c6 hi',rfl,e2⟩
theorem TL.app {H:Hp}{vs ws:List V}{kss lss:List (List Nat)}(h:TL H vs kss)(k:TL H ws lss):TL H (vs++ws) (kss++lss):=by
 have h1:=h.1
 have k1:=k.1
 refine⟨by rw[g9,g9,h1,k1],λ i ks e=>?_⟩
 rcases ub2 i kss.length with z | z
 ·rw[uai z] at e
  rw[uai (by left)]
  exact h.2 i ks e
 ·rw[uaa z] at e
  rw[uaa (by left),h1]
  exact k.2 _ ks e
theorem zaq:∀ m,m<=10->∀ r,r<=11->(szN m r).length<=300:=by
 have:∀ m∈d7 11,∀ r∈d7 12,(szN m r).length<=300:=by symm
 exact λ m hm r hr=>this m (l9.mpr (by left)) r (l9.mpr (by left))
def exN (m:Nat)(ks:List Nat):List (List Nat):=((d7 m).filter (behB ks)).map λ k=>ks++[k]
theorem yJ {ws:List Nat}(h:ws≠[]):atI (natV ws) (-1)=some (.int ((ws.getLast h:Nat):Int)):=by
 have pos:=ucx.mpr h
 unfold atI ixN
 rw[ufp (by decide),ufo (by rw[aV];left),Option.bind_some,aV,show (-1+((ws.length:Nat):Int)).toNat=ws.length-1 by left]
 unfold natV
 rw[j5,c6 (by left),ufj];rfl
theorem yE {m:Nat}{ws:List Nat}(ko:KeepOk m ws)(h:ws≠[])(k:Nat):behB ws k=decide (ws.getLast h<k):=by
 rw[ub1,decide_eq_true_iff]
 unfold behB
 rw[uap]
 constructor
 ·exact λ z=>ufl (z _ (List.getLast_mem h))
 ·intro z j hj
  refine ufk ?_
  have:j<=ws.getLast h:=by
   obtain⟨i,hi,rfl⟩:=ucc hj
   rw[ufj]
   rcases ub2 i (ws.length-1) with y | y
   ·exact uc5 (uc6.mp ko.1 i (ws.length-1) hi (by left) y)
   ·exact udv (by congr 1;left)
  left
theorem zad (ws:List Nat):uc4 (keepD ws) (.tuple [])=decide (ws=[]):=by
 cases ws with
 | nil=>rfl
 | cons k r=>rfl
def spOtm (K:a8):Sp:=λ vs H Q _=>∃ (n:Int)(ts:List Tie)(kss:List (List Nat))(wv:V)(l:j4)(xs:List V),vs=[wv,.ref l]/\WO K H n ts wv/\H l=some (.lst xs)/\TL H xs kss/\(∀ ks∈kss,KeepOk ts.length ks)/\(kss.flatMap (exN ts.length)).length<=300/\ts.length<=10/\∀ l' ys H',Same H H'->H l'=none->H' l'=some (.lst ys)->TL H' ys (kss.flatMap (exN ts.length))->Q (.ref l') H'
theorem vY {m:Nat}{kss:List (List Nat)}{i:Nat}{ks:List Nat}(e:kss[i]?=some ks):(kss.take (i+1)).flatMap (exN m)=(kss.take i).flatMap (exN m)++exN m ks:=by
 rw[cR e,List.flatMap_append];simp
theorem jB {m i:Nat}{kss:List (List Nat)}:((kss.take i).flatMap (exN m)).length<=(kss.flatMap (exN m)).length:=by
 have:kss.flatMap (exN m)=(kss.take i).flatMap (exN m)++(kss.drop i).flatMap (exN m):=by rw[← List.flatMap_append,udq]
 rw[this,g9];left
theorem pP (T:Bi mg)(D:DefOk K mg "one_tie_more" s_one_tie_more ["web","keeps"])(O_whole:‹1› "whole" ["web"] (spWhole K)):‹2› "one_tie_more" ["web","keeps"] (spOtm K):=by
 exists 1,sc_one_tie_more
 obtain⟨n,ts,kss,wv,l,xs,rfl,wo,hl,tl,ko,l300,m10,q⟩:=h
 have units:∀ {x:Nat},x<=3->(A.deeper (envOfC "one_tie_more" (defScope s_one_tie_more) s.heap.objs.size f cdv)).units+x<cLine:=λ {x} hu=>by have:=hr.units;left
 have few60:=wo.2.few
 refine⟨_,(aD (aN (i:=2) nd rfl (j8 rfl) (bF aB)) (aD (bM PassesOwn.never rfl (bU (pv 1)) (aJ (i:=3) nd rfl (ue9 rfl)) (aD (fM (i:=4) (N:=["web","keeps","told","keep","behind"]) (sc0:=defScope s_one_tie_more) (own:=["tie"]) (fr:=["keep"]) (js:=[3]) rfl (cC (aF O_whole hr rfl (aA (pv 0) aB))) (λ _ _ _ _=>(aJ (i:=0) (by show List.Nodup [("tie":Str),("keep":Str)];decide +kernel) rfl (j8 rfl))) (λ _ _ _ _=>(cV (PW.pt (bW (aO zL (pv 1) (aT aB) (nomark _)) (bZ (aO cM (pv 0) (aG cX (pv 1) (gY gS aC) (λ _ _=>rfl)) (nomark _))))))) (λ _ _ _ _=>(pv 0)) nd rfl (j8 rfl)) (aE (bX (cP ual PySem.F.slot_list_extend PySem.F.type_list_extend uF (pv 2) (aA (bY (N:=["web","keeps","told","keep","behind"]) (sc0:=defScope s_one_tie_more) (own:=["tie"]) (fr:=["keep"]) (js:=[3]) rfl (bU (pv 4)) (λ _ _ _ _=>(aJ (i:=0) (by show List.Nodup [("tie":Str),("keep":Str)];decide +kernel) rfl (j8 rfl))) (λ _ _ _ _=>cO) (λ _ _ _ _=>(aI gI (pv 1) (aT (aA (pv 0) aB))))) aB)))))) (aE (aH (pv 2))))),?_⟩
 refine⟨(by show 0<=1000;decide),λ lt H0 S0 f0 e0=>?_⟩
 refine⟨_,rfl,l,rfl,⟨_,SqL.of (S0 _ _ hl)⟩,?_⟩
 refine dH (xs:=xs) (λ i σ J=>∃ (ys:List V)(y3 y4:Option V),σ=[some wv,some (.ref l),some (.ref lt),y3,y4]/\Same H J/\J lt=some (.lst ys)/\TL J ys ((kss.take i).flatMap (exN ts.length))) ⟨[],none,none,rfl,S0,e0,rfl,λ i ks e=>by simp at e⟩ (λ i σ J _ h=>?_) (λ i x σ J hx h=>?_) (λ σ J h=>?_)
 ·obtain⟨ys,y3,y4,rfl,sm,_⟩:=h
  exact SqL.of (sm _ _ hl)
 ·obtain⟨ys,y3,y4,rfl,sm,hlt,tly⟩:=h
  obtain⟨ks,a,eks,rfl,ha⟩:=tl.at hx
  have kok:=ko ks (i6 eks)
  have fl:=vY (m:=ts.length) eks
  have fle:=jB (m:=ts.length) (i:=i+1) (kss:=kss)
  rw[fl,g9] at fle
  refine⟨_,rfl,n,ts,wv,rfl,(wo.same sm).1,few60,λ l1 H1 S1 f1 e1=>?_⟩
  have sm1:=sm.trans S1
  refine⟨l1,rfl,⟨_,SqT.of e1⟩,?_⟩
  have len:(natV (d7 ts.length)).length=ts.length:=by rw[aV,j9]
  refine dU e1 (λ σ'=>∃ o,σ'=[o,some (.ref a)]) (λ i=>if behB ks i=true then some (V.int (i:Int)) else none) (by left) (by exact⟨none,rfl⟩) (λ i2 x2 σ' H' hx2 s2 sg C L hC hL=>?_) (λ L H2 hL S2 hH=>?_)
  ·obtain⟨o,rfl⟩:=sg
   obtain⟨k,hk,rfl⟩:=bP hx2
   have ek:k=i2:=by
    have hi:=(i0.mp hk).1
    rw[j9] at hi
    rw[ua2 hi] at hk
    cases hk;rfl
   subst ek
   have ha':=(sm1.trans s2) _ _ ha
   refine⟨_,rfl,(by show 0<=1000;decide),λ l3 H3 S3 f3 e3=>⟨keepD ks,.tuple [],dF (S3 _ _ ha'),⟨l3,_,rfl,e3,rfl⟩,eW _,rfl,units (r8 (ubx _ _) (by decide)),_,rfl,?_⟩⟩
   rw[zad]
   by_cases c:ks=[]
   ·have b:behB ks k=true:=by rw[c];rfl
    exact iteTe (ufk c) (iteT ⟨_,rfl,hC _ _ _ ⟨_,rfl⟩ S3 (by rw[ufo b])⟩)
   ·refine iteFe (ufm c) ⟨_,rfl,_,rfl,_,rfl,a,_,_,_,rfl,rfl,SqT.of (S3 _ _ ha'),yJ c,_,_,rfl,rfl,_,rfl,?_⟩
    have b:=yE kok c k
    by_cases z:ks.getLast c<k
    ·exact iteTe (ufk (show (k:Int)>((ks.getLast c:Nat):Int) by left)) ⟨_,rfl,hC _ _ _ ⟨_,rfl⟩ S3 (by rw[ufo (by rw[b,ufk z])])⟩
    ·exact iteFe (ufm (show ¬ (k:Int)>((ks.getLast c:Nat):Int) by left)) (hL _ _ ⟨_,rfl⟩ S3 (by rw[ufp (by rw[b,ufm z];decide)]))
  rw[len,cS] at hH
  have sm2:=sm1.trans S2
  obtain⟨bs,ebs⟩:∃ bs,bs=(d7 ts.length).filter (behB ks):=⟨_,rfl⟩
  rw[← ebs] at hH
  have lbs:bs.length<=ts.length:=by rw[ebs];have:=ucn (behB ks) (d7 ts.length);rw[j9] at this;exact this
  have eex:exN ts.length ks=bs.map λ k=>ks++[k]:=by unfold exN;rw[ebs]
  have lks:=kok.len
  refine⟨_,rfl,.inl ⟨rfl,_,SqL.of ((S1.trans S2) _ _ hlt)⟩,?_⟩
  refine⟨_,rfl,L,rfl,⟨_,SqL.of hH⟩,?_⟩
  refine dY hH (λ σ'=>∃ o,σ'=[o,some (.ref a)]) (λ i v J=>∃ b,v=.ref b/\J b=some (.tup (natV (ks++[bs.getD i 0])))) (by rw[aV];left) (by exact⟨none,rfl⟩) (λ i v J J' tk ⟨b,e,h⟩=>⟨b,e,tk _ _ h⟩) (λ i2 x2 σ' H' hx2 s3 sg C hC=>?_) (λ L2 zs H3 hL2 S3 hH3 hlz hzs=>?_)
  ·obtain⟨o,rfl⟩:=sg
   obtain⟨k,hk,rfl⟩:=bP hx2
   have ek:bs.getD i2 0=k:=by rw[d3,hk];rfl
   rw[ek] at hC
   refine⟨_,rfl,_,rfl,(by show 1<=1000;decide),λ t4 H4 S4 f4 e4=>?_⟩
   refine⟨a,t4,_,_,rfl,rfl,S4 _ _ ((sm2.trans s3) _ _ ha),e4,r8 (show _<=1000 by rw[aV];show ks.length+1<=1000;left) (by decide),λ t5 H5 S5 e5=>hC _ _ _ ⟨_,rfl⟩ (S4.trans S5) ⟨t5,rfl,?_⟩⟩
   rw[e5];unfold natV;rw[uao];rfl
  rw[aV] at hlz
  have tlz:TL H3 zs (exN ts.length ks):=by
   refine⟨by rw[hlz,eex,c7],λ i2 ws e=>?_⟩
   rw[eex,j5] at e
   obtain⟨k,hk,rfl⟩:=ubv.mp e
   have hi2:=(i0.mp hk).1
   have ez:zs[i2]?=some zs[i2]:=c6 (by left)
   obtain⟨b,e1,e2⟩:=hzs i2 _ ez
   rw[show bs.getD i2 0=k by rw[d3,hk];rfl] at e2
   exact⟨b,by rw[ez,e1],e2⟩
  have S13:=S1.trans (S2.trans S3)
  have ly:ys.length=((kss.take i).flatMap (exN ts.length)).length:=tly.1
  have lz:=tlz.1
  refine⟨lt,L2,_,_,rfl,rfl,S13 _ _ hlt,hH3,by left,λ H4 b4 e4=>?_⟩
  have tk4:TupKeep H3 H4:=λ a ys e=>b4 _ _ (λ z=>by rw[z,S13 _ _ hlt] at e;cases e) e
  refine⟨ys++zs,_,_,rfl,λ b o e=>b4 _ _ (aY e f0) (S13 _ _ (sm _ _ e)),e4,?_⟩
  rw[fl]
  exact TL.app ((tly.tk λ a ys e=>S13 _ _ e).tk tk4) (tlz.tk tk4)
 ·obtain⟨ys,y3,y4,rfl,sm,hlt,tly⟩:=h
  rw[tl.1,ubw] at tly
  exact⟨_,rfl,q lt ys J sm f0 hlt tly⟩
def spFf (K:a8):Sp:=λ vs H Q _=>∃ (n:Int)(ts:List Tie)(wv:V)(t:Int),vs=[wv,.int t]/\WO K H n ts wv/\1<=t/\t<=99/\ts.length<=10/\∀ a ks H',Same H H'->H' a=some (.tup (natV ks))->IsFst ts t ks->Q (.ref a) H'
theorem iO {n:Int}{ts:List Tie}{ks:List Nat}{t:Int}{d:r6}{K:a8}{H:Hp}{v:V}(h:TdD n ts ks t d)(isd:Is K H d v):∃ (p:j4)(w:Str)(r:List V),v=.ref p/\H p=some (.tup (.str w::r))/\((w="keeps"/\allIn ts ks t)\/(w="far"/\¬ allIn ts ks t)):=by
 cases h with
 | keeps a =>
  obtain⟨p,vs,rfl,hp,v1,r1,rfl,h1,_⟩:=isd
  obtain rfl:v1=.str "keeps":=h1
  exact⟨p,_,r1,rfl,hp,.inl ⟨rfl,a⟩⟩
 | far f =>
  obtain⟨p,vs,rfl,hp,v1,r1,rfl,h1,_⟩:=isd
  obtain rfl:v1=.str "far":=h1
  exact⟨p,_,r1,rfl,hp,.inr ⟨rfl,f.not⟩⟩
theorem pV (T:Bi mg)(D:DefOk K mg "first_fewest" s_first_fewest ["web","t"])(O_times_told:‹7› "times_told" ["web","keep","t"] (spTold19 K))(O_one_tie_more:‹7› "one_tie_more" ["web","keeps"] (spOtm K)):‹8› "first_fewest" ["web","t"] (spFf K):=by
 exists 7,sc_first_fewest
 obtain⟨n,ts,wv,t,rfl,wo,t1,t99,m10,q⟩:=h
 have units:∀ {x:Nat},x<=3->(A.deeper (envOfC "first_fewest" (defScope s_first_fewest) s.heap.objs.size f cdv)).units+x<cLine:=λ {x} hu=>by have:=hr.units;left
 refine⟨_,(aD (aN (i:=2) nd rfl (j8 rfl) (bF (aA (aT aB) aB))) (aE (iG PassesOwn.never (bL cD) (aD (bM PassesOwn.never rfl (bU (pv 2)) (aJ (i:=3) nd rfl (j8 rfl)) (aE (aS (aO dM (aG aL (aF O_times_told hr rfl (aA (pv 0) (aA (pv 3) (aA (pv 1) aB)))) aC (λ _ _=>rfl)) bO (nomark _)) (aE (aH (pv 3))) aR))) (aE (aN (i:=2) nd rfl (j8 rfl) (aF O_one_tie_more hr rfl (aA (pv 0) (aA (pv 2) aB))))))))),?_⟩
 refine⟨(by show 0<=1000;decide),λ t0 H0 S0 f0 e0=>⟨(by show 1<=1000;decide),λ l0 H1 S1 f1 e1=>?_⟩⟩
 refine⟨λ k σ J=>∃ (r:Nat)(l:j4)(xs:List V)(y3:Option V),σ=[some wv,some (.int t),some (.ref l),y3]/\k=ts.length-r/\r<=ts.length/\Same H J/\J l=some (.lst xs)/\TL J xs (szN ts.length r)/\∀ (r':Nat)(ks':List Nat),r'<r->ks'∈szN ts.length r'->¬ allIn ts ks' t,⟨_,0,l0,_,none,rfl,rfl,uad _,S0.trans S1,e1,⟨rfl,λ i ks e=>?_⟩,λ r' ks' h=>by left⟩,?_⟩
 ·match i,e with
  | 0,e=>cases e;exact⟨t0,rfl,S1 _ _ e0⟩
 rintro k σ J ⟨r,l,xs,y3,rfl,rfl,rm,sm,hl,tl,no⟩
 refine⟨_,rfl,iteT ?_⟩
 refine⟨λ σ' J'=>∃ k',k'<ts.length-r/\∃ (r:Nat)(l:j4)(xs:List V)(y3:Option V),σ'=[some wv,some (.int t),some (.ref l),y3]/\k'=ts.length-r/\r<=ts.length/\Same H J'/\J' l=some (.lst xs)/\TL J' xs (szN ts.length r)/\∀ (r':Nat)(ks':List Nat),r'<r->ks'∈szN ts.length r'->¬ allIn ts ks' t,λ _ _ h=>h,?_⟩
 refine⟨_,rfl,l,rfl,⟨_,SqL.of hl⟩,?_⟩
 refine dH (xs:=xs) (λ i σ J'=>∃ y3:Option V,σ=[some wv,some (.int t),some (.ref l),y3]/\Same J J'/\∀ (j:Nat)(ks':List Nat),j<i->(szN ts.length r)[j]?=some ks'->¬ allIn ts ks' t) ⟨_,rfl,Same.refl _,λ j ks' h=>by left⟩ (λ i σ J' _ h=>?_) (λ i x σ J' hx h=>?_) (λ σ J' h=>?_)
 ·obtain⟨y3,rfl,sj,_⟩:=h
  exact SqL.of (sj _ _ hl)
 ·obtain⟨y3,rfl,sj,al⟩:=h
  obtain⟨ks,a,eks,rfl,ha⟩:=tl.at hx
  have kok:=(fH (i6 eks)).1
  have smj:=sm.trans sj
  refine⟨_,rfl,_,rfl,_,rfl,n,ts,ks,wv,.ref a,t,rfl,⟨(wo.same smj).1,wo.2,dF (sj _ _ ha),kok⟩,t1,t99,λ v d H2 S2 is2 td2=>?_⟩
  obtain⟨p,ww,rr,rfl,hp,cs⟩:=iO td2 is2
  have sw:uck ww=true:=by rcases cs with ⟨rfl,_⟩ | ⟨rfl,_⟩ <;> decide +kernel
  refine⟨p,_,_,_,rfl,rfl,SqT.of hp,aZ (uae 0) rfl,.str ww,.str "keeps",rfl,rfl,sw,by symm,units (r8 (ubx _ _) (by decide)),_,rfl,?_⟩
  rw[gM]
  rcases cs with ⟨rfl,al2⟩ | ⟨rfl,nal⟩
  ·exact iteTe (ufk rfl) ⟨_,rfl,q a ks H2 (smj.trans S2) (S2 _ _ (sj _ _ ha)) ⟨r,i,eks,al2,al,no⟩⟩
  ·refine iteFe (ufm (by decide)) ⟨_,rfl,sj.trans S2,λ j ks' hj e'=>?_⟩
   rcases ub2 j i with z | z
   ·exact al j ks' z e'
   ·have:j=i:=by left
    subst this
    rw[eks] at e';cases e';exact nal
 ·obtain⟨y3,rfl,sj,al⟩:=h
  rw[tl.1] at al
  have none_:∀ ks'∈szN ts.length r,¬ allIn ts ks' t:=λ ks' hk=>by
   obtain⟨j,hj,e⟩:=ucc hk
   exact al j ks' hj (by rw[c6 hj,e])
  have rlt:r<ts.length:=by
   rcases ub2 r ts.length with z | z
   ·exact z
   ·have:r=ts.length:=by left
    have mem:=oF (m:=ts.length) (d7 ts.length) (fW _)
    rw[j9,← this] at mem
    exact absurd (mP ts t) (none_ _ (by rw[← this];exact mem))
  have smj:=sm.trans sj
  have l3:=zaq ts.length m10 (r+1) (by left)
  refine⟨_,rfl,_,rfl,n,ts,szN ts.length r,wv,l,xs,rfl,wo.same smj,sj _ _ hl,tl.tk λ a ys e=>sj _ _ e,λ ks hk=>(fH hk).1,l3,m10,λ l' ys H2 S2 f2 e2 tl2=>?_⟩
  refine⟨ts.length-(r+1),by left,r+1,l',ys,_,rfl,rfl,rlt,smj.trans S2,e2,tl2,λ r' ks' h hk=>?_⟩
  rcases ub2 r' r with z | z
  ·exact no r' ks' z hk
  ·have:r'=r:=by left
   subst this;exact none_ ks' hk
def spTro (K:a8)(c:Nat):Sp:=λ vs H Q _=>∃ (n:Int)(ts:List Tie)(ks os:List Nat)(wv:V)(kp op:j4)(t:Int)(many:Nat),vs=[wv,.int t,.int (many:Int),.ref kp,.ref op]/\WO K H n ts wv/\1<=t/\t<=99/\(∀ S,KeepOk ts.length S->allIn ts S t->many<=S.length)/\H kp=some (.tup (natV ks))/\KeepOk ts.length ks/\H op=some (.tup (natV os))/\KeepOk ts.length os/\(∀ k∈ks,k∉os)/\ts.length+1<=ks.length+os.length+c/\∀ v H',Same H H'->Is K H' (trF n ts t many c ks os) v->Q v H'
theorem mF {c j:Nat}(T:Bi mg)(D:DefOk K mg "tree_of" s_tree_of ["web","t","many","kept","out"])(O_kept_show:Ok P w K mg base j "kept_show" ["web","kept"] (spKeptS K))(O_times_told:Ok P w K mg base j "times_told" ["web","keep","t"] (spTold19 K))(O_not_among:Ok P w K mg base j "not_among" ["web","out"] (spNotAm K))(O_with_tie:Ok P w K mg base j "with_tie" ["keep","tie"] (spWithT K)){sp:Sp}(O_tree_of:Ok P w K mg base j "tree_of" ["web","t","many","kept","out"] sp)(hsp:∀ c',c=c'+1->∀ vs H Q E,spTro K c' vs H Q E->sp vs H Q E):Ok P w K mg base (j+1) "tree_of" ["web","t","many","kept","out"] (spTro K c):=by
 refine dQ (k:=j) D sc_tree_of (λ vs H Q E h=>?_) (λ f cdv A outer s H vs Q E hr h=>?_)
 ·obtain⟨n,ts,ks,os,wv,kp,op,t,many,rfl,_⟩:=h
  rfl
 obtain⟨n,ts,ks,os,wv,kp,op,t,many,rfl,wo,t1,t99,least,hkp,ko,hop,oo,dj,le,q⟩:=h
 have nd:=sc_tree_of.nd
 have units:∀ {x:Nat},x<=3->(A.deeper (envOfC "tree_of" (defScope s_tree_of) s.heap.objs.size f cdv)).units+x<cLine:=λ {x} hu=>by have:=hr.units;left
 have few60:=wo.2.few
 have lks:=ko.len
 have los:=oo.len
 have ndk:(ks++os).Nodup:=uak.mpr ⟨ko.1.imp λ h=>j6 h,oo.1.imp λ h=>j6 h,λ a ha b hb e=>dj a ha (e ▸ hb)⟩
 have lko:=Peel.fU ts.length (ks++os) ndk λ k hk=>(m5.mp hk).elim (ko.2 k) (oo.2 k)
 rw[g9] at lko
 obtain⟨c',rfl⟩:∃ c',c=c'+1:=⟨c-1,by left⟩
 have eT:trF n ts t many (c'+1) ks os=@ite _ ((many:Int)<=keptF ts ks) (Classical.propDecidable _) keptD (@ite _ (allIn ts (outs ts.length os) t) (Classical.propDecidable _) (match outs ts.length (ks++os) with
  | []=>keptD
  | k::_=>.tuple [.str "tie",.int (k:Int),trF n ts t many c' (insN ks k) os,trF n ts t many c' ks (insN os k)]) (tdF n ts (outs ts.length os) t)):=rfl
 rw[eT] at q
 refine⟨_,(aD (aS (aO zbm (aF O_kept_show hr rfl (aA (pv 0) (aA (pv 3) aB))) (pv 2) (nomark _)) (aE (aH (aT (aA bO aB)))) aR) (aD (aN (i:=5) nd rfl (j8 rfl) (aF O_times_told hr rfl (aA (pv 0) (aA (aF O_not_among hr rfl (aA (pv 0) (aA (pv 4) aB))) (aA (pv 1) aB))))) (aD (aS (aO dM (aG aL (pv 5) aC (λ _ _=>rfl)) bO (nomark _)) (aE (aH (pv 5))) aR) (aD (aN (i:=6) nd rfl (j8 rfl) (aG aL (aF O_not_among hr rfl (aA (pv 0) (aA (aI gI (pv 3) (pv 4)) aB))) aC (λ _ _=>rfl))) (aD (aN (i:=7) nd rfl (j8 rfl) (aF O_tree_of hr rfl (aA (pv 0) (aA (pv 1) (aA (pv 2) (aA (aF O_with_tie hr rfl (aA (pv 3) (aA (pv 6) aB))) (aA (pv 4) aB))))))) (aE (aH (aT (aA bO (aA (pv 6) (aA (pv 7) (aA (aF O_tree_of hr rfl (aA (pv 0) (aA (pv 1) (aA (pv 2) (aA (pv 3) (aA (aF O_with_tie hr rfl (aA (pv 4) (aA (pv 6) aB))) aB)))))) aB)))))))))))),?_⟩
 refine⟨_,rfl,_,rfl,n,ts,ks,wv,kp,rfl,wo,hkp,ko,λ H1 S1=>⟨_,rfl,_,_,rfl,rfl,_,rfl,?_⟩⟩
 by_cases c1:(many:Int)<=keptF ts ks
 ·rw[ufo c1] at q
  refine iteTe (ufk (show keptF ts ks ≥ (many:Int) from c1)) ⟨(by show 1<=1000;decide),λ l2 H2 S2 f2 e2=>q _ H2 (S1.trans S2) ⟨l2,_,rfl,e2,_,_,rfl,rfl,rfl⟩⟩
 rw[ufp c1] at q
 refine iteFe (ufm (show ¬ keptF ts ks ≥ (many:Int) from c1)) ?_
 refine⟨_,rfl,_,rfl,_,rfl,n,ts,os,wv,op,rfl,wo.same S1,S1 _ _ hop,λ p2 H2 S2 e2=>?_⟩
 have S12:=S1.trans S2
 refine⟨_,rfl,n,ts,outs ts.length os,wv,.ref p2,t,rfl,⟨(wo.same S12).1,wo.2,dF e2,cW _ _⟩,t1,t99,λ v d H3 S3 is3 td3=>?_⟩
 have S13:=S12.trans S3
 obtain⟨p,ww,rr,rfl,hp,cs⟩:=iO td3 is3
 have sw:uck ww=true:=by rcases cs with ⟨rfl,_⟩ | ⟨rfl,_⟩ <;> decide +kernel
 refine⟨_,rfl,p,_,_,_,rfl,rfl,SqT.of hp,aZ (uae 0) rfl,.str ww,.str "far",rfl,rfl,sw,by symm,units (r8 (ubx _ _) (by decide)),_,rfl,?_⟩
 rw[gM]
 rcases cs with ⟨rfl,al⟩ | ⟨rfl,nal⟩
 case inr =>
  rw[ufp nal,← jR td3] at q
  exact iteTe (ufk rfl) ⟨_,rfl,q _ H3 S13 is3⟩
 rw[ufo al] at q
 refine iteFe (ufm (by decide)) ?_
 refine⟨_,rfl,_,rfl,_,rfl,kp,op,_,_,rfl,rfl,S13 _ _ hkp,S13 _ _ hop,r8 (show _<=1000 by rw[aV,aV];left) (by decide),λ p4 H4 S4 e4=>?_⟩
 have e4':H4 p4=some (.tup (natV (ks++os))):=by rw[e4];unfold natV;rw[uao]
 have S14:=S13.trans S4
 refine⟨n,ts,ks++os,wv,p4,rfl,wo.same S14,e4',λ p5 H5 S5 e5=>?_⟩
 have S15:=S14.trans S5
 cases eo:outs ts.length (ks++os) with
 | nil =>
  exfalso
  have sub:∀ k∈outs ts.length os,k∈ks:=λ k hk=>by
   have h:=outs_mem.mp hk
   by_cases z:k∈ks
   ·exact z
   ·have:k∈outs ts.length (ks++os):=outs_mem.mpr ⟨h.1,λ y=>(m5.mp y).elim z h.2⟩
    rw[eo] at this;cases this
  have a:=hW wo.2 (cW _ _) ko sub al
  have l:=least ks ko a
  rw[fS wo.2 ko a] at c1
  left
 | cons k r =>
  rw[eo] at q e5
  have hk:=outs_mem.mp (show k∈outs ts.length (ks++os) by rw[eo];exact i3)
  have nk:k∉ks:=λ z=>hk.2 (uab _ z)
  have no:k∉os:=λ z=>hk.2 (m9 _ z)
  have lk:(insN ks k).length=ks.length+1:=by rw[(fV ko nk).length_eq,g9];rfl
  have lo:(insN os k).length=os.length+1:=by rw[(fV oo no).length_eq,g9];rfl
  refine⟨p5,_,_,_,rfl,rfl,SqT.of e5,aZ (uae 0) rfl,?_⟩
  refine⟨_,rfl,_,rfl,_,rfl,_,rfl,_,rfl,ts.length,ks,kp,k,rfl,S15 _ _ hkp,ko,few60,nk,λ p6 H6 S6 e6=>?_⟩
  have S16:=S15.trans S6
  refine⟨_,rfl,hsp c' rfl _ _ _ _ ⟨n,ts,insN ks k,os,wv,p6,op,t,many,rfl,wo.same S16,t1,t99,least,e6,cK ko hk.1,S16 _ _ hop,oo,λ j hj=>(ins_mem.mp hj).elim (dj j) λ e=>e ▸ no,by left,λ v7 H7 S7 is7=>?_⟩⟩
  have S17:=S16.trans S7
  refine⟨_,rfl,_,rfl,_,rfl,_,rfl,_,rfl,_,rfl,_,rfl,_,rfl,ts.length,os,op,k,rfl,S17 _ _ hop,oo,few60,no,λ p8 H8 S8 e8=>?_⟩
  have S18:=S17.trans S8
  refine hsp c' rfl _ _ _ _ ⟨n,ts,ks,insN os k,wv,kp,p8,t,many,rfl,wo.same S18,t1,t99,least,S18 _ _ hkp,ko,e8,cK oo hk.1,λ j hj z=>(ins_mem.mp z).elim (dj j hj) λ e=>nk (e ▸ hj),by left,λ v9 H9 S9 is9=>⟨(by show 4<=1000;decide),λ l10 H10 S10 f10 e10=>?_⟩⟩
  exact q _ H10 (S18.trans (S9.trans S10)) ⟨l10,_,rfl,e10,_,_,rfl,rfl,_,_,rfl,rfl,_,_,rfl,Is.same (S8.trans (S9.trans S10)) _ is7,_,_,rfl,Is.same S10 _ is9,rfl⟩
theorem kN {j:Nat}(T:Bi mg)(D:DefOk K mg "tree_of" s_tree_of ["web","t","many","kept","out"])(O_kept_show:Ok P w K mg base j "kept_show" ["web","kept"] (spKeptS K))(O_times_told:Ok P w K mg base j "times_told" ["web","keep","t"] (spTold19 K))(O_not_among:Ok P w K mg base j "not_among" ["web","out"] (spNotAm K))(O_with_tie:Ok P w K mg base j "with_tie" ["keep","tie"] (spWithT K)):∀ c:Nat,Ok P w K mg base (j+c+1) "tree_of" ["web","t","many","kept","out"] (spTro K c)
 | 0=>by
  have O:Ok P w K mg base j "tree_of" ["web","t","many","kept","out"] (λ _ _ _ _=>False):=by
   obtain⟨f,fd,F,b,m⟩:=D
   exact⟨f,fd,⟨λ _ _ _ _ h=>h.elim,λ _ _ _ _ _ _ _ _ _ _ _ _ _ h=>h.elim⟩,b,F.kp,m⟩
  exact mF (P:=P) (w:=w) (base:=base) T D O_kept_show O_times_told O_not_among O_with_tie O λ m' e=>by cases e
 | c+1=>mF (P:=P) (w:=w) (base:=base) T D (O_kept_show.mono (by left)) (O_times_told.mono (by left)) (O_not_among.mono (by left)) (O_with_tie.mono (by left)) (kN T D O_kept_show O_times_told O_not_among O_with_tie c) λ m' e vs H Q E z=>by cases e;exact z
def spFew (K:a8):Sp:=λ vs H Q _=>∃ (n:Int)(ts:List Tie)(wv:V)(t:Int),vs=[wv,.int t]/\WO K H n ts wv/\1<=t/\t<=99/\ts.length<=10/\∀ p kp v ks H',Same H H'->H' p=some (.tup [.ref kp,v])->H' kp=some (.tup (natV ks))->IsFst ts t ks->Is K H' (trF n ts t ks.length 11 [] []) v->Q (.ref p) H'
theorem vK {j:Nat}(T:Bi mg)(D:DefOk K mg "fewest" s_fewest ["web","t"])(O_need_times:Ok P w K mg base j "need_times" ["t"] (spNeed K))(O_first_fewest:Ok P w K mg base j "first_fewest" ["web","t"] (spFf K))(O_tree_of:Ok P w K mg base j "tree_of" ["web","t","many","kept","out"] (spTro K 11)):Ok P w K mg base (j+1) "fewest" ["web","t"] (spFew K):=by
 refine dQ (k:=j) D sc_fewest (λ vs H Q E h=>?_) (λ f cdv A outer s H vs Q E hr h=>?_)
 ·obtain⟨n,ts,wv,t,rfl,_⟩:=h
  rfl
 obtain⟨n,ts,wv,t,rfl,wo,t1,t99,m10,q⟩:=h
 have nd:=sc_fewest.nd
 refine⟨_,(aD (bX (aF O_need_times hr rfl (aA (pv 1) aB))) (aD (aS (aO cM (aP bB rfl T.z_len (by symm) (aA (aG aL (pv 0) aC (λ _ _=>rfl)) aB)) aC (nomark _)) (aE mL) aR) (aD (aN (i:=2) nd rfl (j8 rfl) (aF O_first_fewest hr rfl (aA (pv 0) (aA (pv 1) aB)))) (aE (aH (aT (aA (pv 2) (aA (aF O_tree_of hr rfl (aA (pv 0) (aA (pv 1) (aA (aP bB rfl T.z_len (by symm) (aA (pv 2) aB)) (aA (aT aB) (aA (aT aB) aB)))))) aB)))))))),?_⟩
 refine⟨_,rfl,t,rfl,t1,t99,λ H1 s1=>?_⟩
 obtain⟨g0,g,ws,rfl,hg0,hg,hall,hlw⟩:=bC (wo.same s1).1
 refine⟨_,rfl,g0,_,_,_,rfl,rfl,SqT.of hg0,rfl,g,_,rfl,.inr (SqT.of hg),_,_,rfl,rfl,_,rfl,?_⟩
 refine iteFe (ufm (show ¬ ((ws.length:Nat):Int)>10 by left)) ?_
 refine⟨_,rfl,_,rfl,n,ts,_,t,rfl,wo.same s1,t1,t99,m10,λ a ks H2 S2 e2 fs=>?_⟩
 have S12:=s1.trans S2
 have ko0:KeepOk ts.length []:=⟨.nil,λ k h=>by cases h⟩
 refine⟨_,rfl,_,rfl,_,rfl,_,rfl,a,_,rfl,.inr (SqT.of e2),(by show 0<=1000;decide),λ l3 H3 S3 f3 e3=>⟨(by show 0<=1000;decide),λ l4 H4 S4 f4 e4=>?_⟩⟩
 have S14:=S12.trans (S3.trans S4)
 rw[aV]
 refine⟨n,ts,[],[],_,l3,l4,t,ks.length,rfl,wo.same S14,t1,t99,λ S so sa=>fs.least so sa,S4 _ _ e3,ko0,e4,ko0,(λ k h=>by cases h),by show ts.length+1<=0+0+11;left,λ v H5 S5 is5=>⟨(by show 2<=1000;decide),λ p H6 S6 f6 e6=>?_⟩⟩
 exact q p a v ks H6 (S14.trans (S5.trans S6)) e6 ((S3.trans (S4.trans (S5.trans S6))) _ _ e2) fs (Is.same S6 _ is5)
def spRest (K:a8):Sp:=λ vs H Q _=>∃ (n:Int)(ts:List Tie)(os:List Nat)(wv:V)(op:j4),vs=[wv,.ref op]/\WO K H n ts wv/\H op=some (.lst (natV os))/\∀ l H',Same H H'->H l=none->H' l=some (.lst (natV (outs ts.length os)))->Q (.ref l) H'
theorem sA (T:Bi mg)(D:DefOk K mg "_law_rest" s__law_rest ["web","left"]):‹1› "_law_rest" ["web","left"] (spRest K):=by
 exists 0,sc__law_rest
 obtain⟨n,ts,os,wv,op,rfl,⟨isw,ok⟩,hop,q⟩:=h
 have few60:=ok.few
 obtain⟨g0,g,ws,rfl,hg0,hg,hall,hlw⟩:=bC isw
 refine⟨_,(aE (aH (bY (N:=["web","left"]) (sc0:=defScope s__law_rest) (own:=["number"]) (fr:=["left"]) (js:=[1]) rfl (dR rfl T.z_range (aA (aP bB rfl T.z_len (by symm) (aA (aG aL (pv 0) aC (λ _ _=>rfl)) aB)) aB)) (λ _ _ _ _=>(aJ (i:=0) (by show List.Nodup [("number":Str),("left":Str)];decide +kernel) rfl (j8 rfl))) (λ _ _ _ _=>(cV (aO eG (pv 0) (pv 1) (by with_unfolding_all rfl)))) (λ _ _ _ _=>(pv 0))))),?_⟩
 refine⟨_,rfl,g0,_,_,_,rfl,rfl,SqT.of hg0,rfl,g,_,rfl,.inr (SqT.of hg),_,rfl,by left,by left,?_⟩
 rw[u4,hlw]
 refine wB (n:=ts.length) (λ σ'=>∃ o,σ'=[o,some (.ref op)]) (λ i=>if decide (i∉os)=true then some (V.int (i:Int)) else none) (by left) (by exact⟨none,rfl⟩) (λ i σ' J' hi s2 sg C L hC hL=>?_) (λ Lo J6 hLo S6 hH6=>?_)
 ·obtain⟨o,rfl⟩:=sg
  refine⟨_,rfl,_,rfl,op,_,rfl,.inl (SqL.of (s2 _ _ hop)),rfl,cU os,?_⟩
  rw[cZ (by left),show (0+(i:Int)).toNat=i by left]
  by_cases c:i∈os
  ·exact⟨_,rfl,iteFe (by rw[ufk c];rfl) (hL _ _ ⟨_,rfl⟩ (Same.refl _) (by simp [c]))⟩
  ·exact⟨_,rfl,iteTe (by rw[ufm c];rfl) ⟨_,rfl,hC _ _ _ ⟨_,rfl⟩ (Same.refl _) (by simp [c])⟩⟩
 ·rw[cS] at hH6
  exact q Lo J6 S6 hLo hH6
theorem rC (T:Bi mg)(D:DefOk K mg "_law_fars" s__law_fars ["web","keep","start"]):‹1› "_law_fars" ["web","keep","start"] (spFarsL K):=by
 exists 0,sc__law_fars
 obtain⟨n,ts,ks,wv,kp,r,rfl,isw,ok,hkp,ko,r0,r1,q⟩:=h
 have few60:=ok.few
 have n1:=ok.n1
 have n24:=ok.n24
 obtain⟨g0,g,ws,rfl,hg0,hg,hall,hlw⟩:=bC isw
 have P:=eB ok ko
 have inn:=oE ok ko
 obtain⟨δ,dd⟩:∃ δ:Nat->Option Int,∀ v,Far.Dst (arcs ts ks) r.toNat v (δ v):=⟨λ v=>Classical.choose (Far.fP P r.toNat v),λ v=>Classical.choose_spec (Far.fP P r.toNat v)⟩
 refine⟨_,(aD (aN (i:=3) nd rfl (j8 rfl) (aI iW (bF (aA bE aB)) (aG aL (pv 0) aC (λ _ _=>rfl)))) (aD (bK aC (dJ (pv 3) (pv 2) dG)) (aD (bM PassesOwn.never rfl (dR rfl T.z_range (aA (aG aL (pv 0) aC (λ _ _=>rfl)) aB)) (aJ (i:=4) nd rfl (j8 rfl)) (aE (bM PassesOwn.never rfl (bU (pv 1)) (aJ (i:=5) nd rfl (j8 rfl)) (aD (bK (aG aL (aG aL (pv 0) aC (λ _ _=>rfl)) (pv 5) (λ _ _=>rfl)) (bS (n:=3) rfl (aQ (aJ (i:=6) nd rfl (j8 rfl)) (aQ (aJ (i:=7) nd rfl (j8 rfl)) (aQ (aJ (i:=8) nd rfl (j8 rfl)) bQ))))) (aE (bM PassesOwn.never rfl (bU (bF (aA (aT (aA (pv 6) (aA (pv 7) aB))) (aA (aT (aA (pv 7) (aA (pv 6) aB))) aB)))) (bS (n:=2) rfl (aQ (aJ (i:=9) nd rfl (j8 rfl)) (aQ (aJ (i:=10) nd rfl (j8 rfl)) bQ))) (aE (aS (aO nR (aG aX (pv 3) (pv 9) (λ _ _=>rfl)) bE (nomark _)) (aD (aN (i:=11) nd rfl (j8 rfl) (aI bN (aG aX (pv 3) (pv 9) (λ _ _=>rfl)) (pv 8))) (aE (aS (PW.pt (bW (aO cL (aG aX (pv 3) (pv 10) (λ _ _=>rfl)) bE (nomark _)) (bZ (aO cM (aG aX (pv 3) (pv 10) (λ _ _=>rfl)) (pv 11) (nomark _))))) (aE (bK (pv 11) (dJ (pv 3) (pv 10) dG))) aR))) aR)))))))) (aE (aH (pv 3)))))),?_⟩
 refine⟨(by show 1<=1000;decide),λ t0 J1 S1 f1 e1=>⟨_,rfl,g0,_,_,_,rfl,rfl,SqT.of (S1 _ _ hg0),rfl,t0,n,_,rfl,rfl,e1,by left,by left,λ lf J2 S2 f2 e2=>?_⟩⟩
 have S12:=S1.trans S2
 have ff:H lf=none:=S1.free f2
 refine⟨_,rfl,_,rfl,lf,_,r,r.toNat,rfl,rfl,e2,cY r0 (by rw[v5];left),?_⟩
 have keepF:∀ {J:Hp}{o:HO},Same H J->Same H (upd J lf o):=λ {J o} s b o e=>by rw[aK (aY e ff)];exact s _ _ e
 have fst:(k9 n.toNat V.non).set r.toNat (.int 0)=(((k9 n.toNat (none:Option Int)).set r.toNat (some 0)).map ov):=by
  rw[List.map_set,List.map_replicate];rfl
 rw[fst]
 have S0:Far.Snd (arcs ts ks) n.toNat r.toNat ((k9 n.toNat none).set r.toNat (some 0)):=Far.Snd.first (by left)
 refine⟨_,rfl,g0,_,_,_,rfl,rfl,SqT.of (keepF S12 _ _ hg0),rfl,n,rfl,by left,by left,?_⟩
 refine eN (n:=n.toNat) (λ i σ J=>∃ (DD:List (Option Int))(y4 y5 y6 y7 y8 y9 y10 y11:Option V),σ=[some (.ref g0),some (.ref kp),some (.int r),some (.ref lf),y4,y5,y6,y7,y8,y9,y10,y11]/\Same H J/\J lf=some (.lst (DD.map ov))/\Far.Snd (arcs ts ks) n.toNat r.toNat DD/\Far.Done n.toNat δ DD i)
  ⟨_,none,none,none,none,none,none,none,none,rfl,keepF S12,aM,S0,Far.uB P (by left) dd S0⟩ (λ i σ J hi h=>?_) (λ σ J h=>?_)
 ·obtain⟨D0,y4,y5,y6,y7,y8,y9,y10,y11,rfl,sm,hf,sd,dn⟩:=h
  refine⟨_,rfl,kp,rfl,⟨_,SqL.of (sm _ _ hkp)⟩,?_⟩
  refine dH (xs:=(keepI ks).map V.int) (λ i' σ J=>∃ (DD:List (Option Int))(y4 y5 y6 y7 y8 y9 y10 y11:Option V),σ=[some (.ref g0),some (.ref kp),some (.int r),some (.ref lf),y4,y5,y6,y7,y8,y9,y10,y11]/\Same H J/\J lf=some (.lst (DD.map ov))/\Far.Rnd (arcs ts ks) n.toNat r.toNat δ D0 (λ z=>z∈arcs ts (ks.take i')) DD)
   ⟨D0,_,_,_,_,_,_,_,_,rfl,sm,hf,(Far.Rnd.start sd).less λ a z=>(by cases z)⟩ (λ i' σ J _ h=>?_) (λ i' x σ J hx h=>?_) (λ σ J h=>?_)
  ·obtain⟨DD,y4,y5,y6,y7,y8,y9,y10,y11,rfl,sm,_⟩:=h
   exact SqL.of (sm _ _ hkp)
  ·obtain⟨DD,y4,y5,y6,y7,y8,y9,y10,y11,rfl,sm,hf,rn⟩:=h
   obtain⟨k,hk,rfl⟩:=gK hx
   have hkl:k<ts.length:=ko.2 k (i6 hk)
   obtain⟨ta,hta,htie⟩:=bR hall hkl
   obtain⟨t,et⟩:∃ t,t=tieAt ts k:=⟨_,rfl⟩
   rw[← et] at htie
   have tk:=ok.tie _ (bG hkl).2
   rw[← et] at tk
   refine⟨_,rfl,g0,_,_,_,rfl,rfl,SqT.of (sm _ _ hg0),rfl,_,rfl,g,_,_,_,rfl,rfl,SqT.of (sm _ _ hg),aZ (o6 _) hta,ta,_,rfl,SqT.of (sm _ _ htie),rfl,_,_,rfl,_,_,rfl,_,_,rfl,rfl,?_⟩
   refine⟨_,rfl,_,rfl,(by show 2<=1000;decide),λ t1 K1 T1 u1 v1=>⟨_,rfl,_,rfl,(by show 2<=1000;decide),λ t2 K2 T2 u2 v2=>⟨(by show 2<=1000;decide),λ t3 K3 T3 u3 v3=>⟨t3,rfl,⟨_,SqL.of v3⟩,?_⟩⟩⟩⟩
   have T13:=T1.trans (T2.trans T3)
   have v1':=T3 _ _ (T2 _ _ v1)
   have v2':=T3 _ _ v2
   have n3:t3≠lf:=λ z=>by rw[z,T2 _ _ (T1 _ _ hf)] at u3;cases u3
   refine dH (xs:=[V.ref t1,.ref t2]) (λ j σ J=>∃ (DD:List (Option Int))(y9 y10 y11:Option V),σ=[some (.ref g0),some (.ref kp),some (.int r),some (.ref lf),y4,some (.int (k:Int)),some (.int t.1),some (.int t.2.1),some (.int t.2.2),y9,y10,y11]/\Same H J/\J lf=some (.lst (DD.map ov))/\Far.Rnd (arcs ts ks) n.toNat r.toNat δ D0 (λ z=>z∈arcs ts (ks.take i')\/z∈(arcs2 t).take j) DD/\But lf K3 J)
    ⟨DD,_,_,_,rfl,sm.trans T13,T13 _ _ hf,rn.less λ a z=>z.elim id λ z=>(by cases z),But.refl⟩ (λ j σ J _ h=>?_) (λ j x σ J hx h=>?_) (λ σ J h=>?_)
   ·obtain⟨DD,y9,y10,y11,rfl,_,_,_,b3⟩:=h
    exact SqL.of (b3 _ _ n3 v3)
   ·obtain⟨DD,y9,y10,y11,rfl,sm,hf,rn,b3⟩:=h
    have tkp:TupKeep K3 J:=λ a xs e=>b3 _ _ (λ z=>by rw[z,T13 _ _ ‹_›] at e;cases e) e
    obtain⟨p,u,v,rfl,hp,u0,un,v0,vn,arc,more⟩:∃ p u v,x=.ref p/\J p=some (.tup [.int u,.int v])/\0<=u/\u<n/\0<=v/\v<n/\(u.toNat,v.toNat,t.2.2)∈arcs ts ks/\∀ z,z∈(arcs2 t).take (j+1)->z∈(arcs2 t).take j\/z=(u.toNat,v.toNat,t.2.2):=by
     have mem:∀ z,z∈arcs2 t->z∈arcs ts ks:=λ z hz=>arcs_mem.mpr ⟨k,i6 hk,by rw[← et];exact hz⟩
     match j,hx with
     | 0,hx=>cases hx;exact⟨t1,t.1,t.2.1,rfl,tkp _ _ v1',by left,by left,by left,by left,mem _ (arcs2_mem.mpr (.inl rfl)),λ z hz=>by unfold arcs2 at *;simpa using hz⟩
     | 1,hx=>cases hx;exact⟨t2,t.2.1,t.1,rfl,tkp _ _ v2',by left,by left,by left,by left,mem _ (arcs2_mem.mpr (.inr rfl)),λ z hz=>by unfold arcs2 at *;simpa using hz⟩
    refine⟨p,_,rfl,SqT.of hp,rfl,_,_,rfl,_,_,rfl,rfl,?_⟩
    have lD:=rn.snd.len
    have next:∀ {D':List (Option Int)},Far.Rnd (arcs ts ks) n.toNat r.toNat δ D0 (Far.plus (λ z=>z∈arcs ts (ks.take i')\/z∈(arcs2 t).take j) (u.toNat,v.toNat,t.2.2)) D'->Far.Rnd (arcs ts ks) n.toNat r.toNat δ D0 (λ z=>z∈arcs ts (ks.take i')\/z∈(arcs2 t).take (j+1)) D':=λ h=>h.less λ z hz=>by
     rcases hz with hz | hz
     ·exact .inl (.inl hz)
     ·exact (more z hz).elim (λ y=>.inl (.inr y)) .inr
    have at1:=aZ u0 (fI (D:=DD) (i:=u.toNat) (by left))
    have at2:=aZ v0 (fI (D:=DD) (i:=v.toNat) (by left))
    refine⟨_,rfl,_,rfl,lf,_,_,_,rfl,rfl,SqL.of hf,at1,rfl,_,rfl,?_⟩
    cases gu:Far.get DD u.toNat with
    | none=>exact iteF ⟨DD,_,_,_,rfl,sm,hf,next (rn.no gu),b3⟩
    | some d =>
     rw[gu] at at1
     refine iteT ⟨_,rfl,_,rfl,lf,_,_,_,rfl,rfl,SqL.of hf,at1,_,rfl,_,_,rfl,rfl,?_⟩
     refine⟨_,rfl,_,rfl,lf,_,_,_,rfl,rfl,SqL.of hf,at2,rfl,_,rfl,?_⟩
     have put:∀ (hv:Far.get DD v.toNat=none\/∃ y,Far.get DD v.toNat=some y/\d+t.2.2<y),Far.Rnd (arcs ts ks) n.toNat r.toNat δ D0 (λ z=>z∈arcs ts (ks.take i')\/z∈(arcs2 t).take (j+1)) (DD.set v.toNat (some (d+t.2.2))):=λ hv=>next (rn.put dd arc (by left) gu hv P)
     have eset:(DD.map ov).set v.toNat (.int (d+t.2.2))=(DD.set v.toNat (some (d+t.2.2))).map ov:=by rw[List.map_set];rfl
     cases gv:Far.get DD v.toNat with
     | none =>
      refine iteT (iteT ?_)
      refine⟨_,rfl,_,rfl,_,rfl,lf,_,_,_,rfl,rfl,hf,cY v0 (by rw[c7];left),?_⟩
      exact⟨_,_,_,_,rfl,keepF sm,(by rw[aM,eset]),put (.inl gv),b3.trans But.upd⟩
     | some y =>
      rw[gv] at at2
      refine iteF ⟨_,rfl,_,rfl,lf,_,_,_,rfl,rfl,SqL.of hf,at2,_,rfl,_,_,rfl,rfl,_,rfl,ite2 (λ c=>?_) (λ c=>?_)⟩
      ·refine⟨_,rfl,_,rfl,_,rfl,lf,_,_,_,rfl,rfl,hf,cY v0 (by rw[c7];left),?_⟩
       exact⟨_,_,_,_,rfl,keepF sm,(by rw[aM,eset]),put (.inr ⟨y,gv,ufl c⟩),b3.trans But.upd⟩
      ·have hy:y<=d+t.2.2:=by
        have:=ufn (uda.mpr c);left
       exact⟨DD,_,_,_,rfl,sm,hf,next (rn.old gu gv hy),b3⟩
   ·obtain⟨DD,y9,y10,y11,rfl,sm,hf,rn,_⟩:=h
    refine⟨DD,_,_,_,_,_,_,_,_,rfl,sm,hf,rn.less λ z hz=>?_⟩
    exact (wL hk hz).elim .inl λ y=>.inr (by rw[← et] at y;exact y)
  ·obtain⟨DD,y4,y5,y6,y7,y8,y9,y10,y11,rfl,sm',hf',rn⟩:=h
   have lk:((keepI ks).map V.int).length=ks.length:=by unfold keepI;rw[c7,c7]
   rw[lk,ubw] at rn
   exact⟨DD,_,_,_,_,_,_,_,_,rfl,sm',hf',rn.snd,Far.Done.round dd P inn sd rn (λ a h=>h) dn⟩
 ·obtain⟨DD,y4,y5,y6,y7,y8,y9,y10,y11,rfl,sm,hf,sd,dn⟩:=h
  have all:=dn.all
  exact⟨_,rfl,q lf DD J sm ff hf sd.len λ v hv=>by rw[all v hv];exact dd v⟩
def spTimes:Sp:=λ vs H Q _=>∃ p,vs=[.ref p]/\Pot H p/\∀ t H',1<=t->t<=99->But p H H'->Pot H' p->Q (.int t) H'
theorem brT40 {A T:Hp->Prop}{B:Prop}(main:(∀ J,A J->T J)->B)(tail:∀ J,A J->T J):B:=main tail
def spFlf (K:a8):Sp:=λ vs H Q _=>∃ (n:Int)(ts:List Tie)(os:List Nat)(wv:V)(op:j4)(t:Int)(k:Nat),vs=[wv,.int t,.ref op,.int (k:Int)]/\WO K H n ts wv/\1<=t/\t<=99/\H op=some (.lst (natV os))/\k<ts.length/\k∈os/\∀ d v H',Same H H'->Is K H' d v->TD 2 d->(∀ ks,∃ x,shF n ts t 1 d ks os=some x)->Q v H'
theorem yV (hs:List Int):(hs.map udm).map toI=hs:=by
 rw[uam]
 conv=>rhs;rw[← ud1 hs]
 rfl
theorem lJ {n:Int}{ts:List Tie}{t:Int}{ks os:List Nat}:shF n ts t 1 (.tuple [.str "kept"]) ks os=some (keptF ts ks):=by
 show shB n ts t (shF n ts t 0) (.tuple [.str "kept"]) ks os=_
 unfold shB;exact ufo rfl
theorem nK (m:Nat):TD (m+1) (.tuple [.str "kept"]):=.inr (.inr ⟨_,rfl,by decide,λ x hx=>by rw[i5.mp hx];exact TD.str _ (by symm)⟩)
theorem pI (T:Bi mg)(D:DefOk K mg "_law_far_leaf" s__law_far_leaf ["web","t","left","tie"])(O__law_rest:‹1› "_law_rest" ["web","left"] (spRest K))(O__law_fars:‹1› "_law_fars" ["web","keep","start"] (spFarsL K)):‹2› "_law_far_leaf" ["web","t","left","tie"] (spFlf K):=by
 exists 1,sc__law_far_leaf
 obtain⟨n,ts,os,wv,op,t,k,rfl,⟨isw,ok⟩,t1,t99,hop,hkl,hko,q⟩:=h
 have n1:=ok.n1
 have n24:=ok.n24
 obtain⟨g0,g,ws,rfl,hg0,hg,hall,hlw⟩:=bC isw
 obtain⟨ta,hta,htie⟩:=bR hall hkl
 have tk:=ok.tie _ (bG hkl).2
 refine⟨_,(aD (bK (aG aL (aG aL (pv 0) aC (λ _ _=>rfl)) (pv 3) (λ _ _=>rfl)) (bS (n:=3) rfl (aQ (aJ (i:=4) nd rfl (j8 rfl)) (aQ (aJ (i:=5) nd rfl (j8 rfl)) (aQ (aJ (i:=6) nd rfl (j8 rfl)) bQ))))) (aD (aN (i:=7) nd rfl (ue9 rfl) (aI bN (aI dA (pv 1) (pv 6)) aC)) (aD (fM (i:=8) (N:=["web","t","left","tie","a","b","length","roof","heights"]) (sc0:=defScope s__law_far_leaf) (own:=["way"]) (fr:=["roof"]) (js:=[7]) rfl (bU (aF O__law_fars hr rfl (aA (pv 0) (aA (aF O__law_rest hr rfl (aA (pv 0) (aA (pv 2) aB))) (aA (pv 4) aB))))) (λ _ _ _ _=>(aJ (i:=0) (by show List.Nodup [("way":Str),("roof":Str)];decide +kernel) rfl (j8 rfl))) (λ _ _ _ _=>cO) (λ _ _ _ _=>(dX (aO cL (pv 0) bE (nomark _)) (pv 1) (aP (dW rfl) rfl T.z_min (by symm) (aA (pv 0) (aA (pv 1) aB))))) nd rfl (j8 rfl)) (aE (aH (dX (aO bH (aG aX (pv 8) (pv 5) (λ _ _=>rfl)) (pv 7) (nomark _)) (aT (aA bO (aA (pv 3) (aA (bI cF rfl T.z_tuple (by symm) (aA (pv 8) aB)) aB)))) (aT (aA bO aB)))))))),?_⟩
 refine⟨_,rfl,g0,_,_,_,rfl,rfl,SqT.of hg0,rfl,_,rfl,g,_,_,_,rfl,rfl,SqT.of hg,aZ (o6 _) hta,ta,_,rfl,SqT.of htie,rfl,_,_,rfl,_,_,rfl,_,_,rfl,rfl,?_⟩
 refine⟨_,rfl,_,rfl,_,_,rfl,rfl,.inl ⟨by left,by left⟩,_,_,rfl,rfl,?_⟩
 have tl0:0<=t*(tieAt ts k).2.2:=uff (by left) (by left)
 generalize etl:t*(tieAt ts k).2.2=tl at tl0
 refine⟨_,rfl,_,rfl,_,rfl,n,ts,os,_,op,rfl,⟨isw,ok⟩,hop,λ l1 H1 S1 f1 e1=>?_⟩
 rw[bT] at e1
 refine⟨_,rfl,n,ts,outs ts.length os,_,l1,(tieAt ts k).1,rfl,Is.same S1 _ isw,ok,e1,gH os,by left,by left,λ l2 DD H2 S2 f2 e2 lD hD=>?_⟩
 have S12:=S1.trans S2
 refine⟨l2,rfl,⟨_,SqL.of e2⟩,?_⟩
 have lm:(DD.map ov).length=DD.length:=c7 _
 refine dY e2 (λ σ'=>∃ o,σ'=[o,some (.int (tl+1))]) (λ i v _=>v=.int (capO (tl+1) (Far.get DD i))) (by left) (by exact⟨none,rfl⟩) (λ _ _ _ _ _ h=>h) (λ i x σ' H' hx s3 sg C hC=>?_) (λ L ys H3 hL S3 hH hly hys=>?_)
 ·obtain⟨o,rfl⟩:=sg
  have hi:i<DD.length:=by have:=(i0.mp hx).1;left
  rw[fI hi] at hx
  cases hx
  refine⟨_,rfl,rfl,_,rfl,?_⟩
  cases e:Far.get DD i with
  | none=>rw[e] at hC;exact iteT ⟨_,rfl,hC _ _ _ ⟨_,rfl⟩ (Same.refl _) rfl⟩
  | some x=>rw[e] at hC;exact iteF ⟨_,rfl,_,rfl,_,_,rfl,hC _ _ _ ⟨_,rfl⟩ (Same.refl _) rfl⟩
 have ey:ys=(DD.map (capO (tl+1))).map V.int:=by
  refine uca (by rw[c7,c7];left) λ j h1 h2=>?_
  have:=hys j _ (c6 h1)
  rw[this,List.getElem_map,List.getElem_map]
  unfold Far.get
  rw[d3,c6 (by left)];rfl
 rw[ey] at hH
 obtain⟨hs,ehs⟩:∃ hs,hs=DD.map (capO (tl+1)):=⟨_,rfl⟩
 rw[← ehs] at hH
 have lh:hs.length=n.toNat:=by rw[ehs,c7];exact lD
 have hold:holdB n ts (outs ts.length os) hs=true:=by rw[ehs];exact nB ok (gH os) lD hD
 have hA:hAt hs (tieAt ts k).1=0:=by
  have ha:(tieAt ts k).1.toNat<n.toNat:=by left
  have d:=hD _ ha
  obtain⟨y,e,le⟩:=d.2 _ .nil
  have ge:=(d.1 y e).nonneg (eB ok (gH os))
  have y0:y=0:=by left
  subst y0
  unfold hAt
  rw[ehs,d3,j5,c6 (by left)]
  unfold Far.get at e
  rw[d3,c6 (by left)] at e
  have e':DD[(tieAt ts k).1.toNat]=some 0:=e
  show capO (tl+1) DD[(tieAt ts k).1.toNat]=0
  rw[e']
  show (if tl+1<0 then tl+1 else 0)=0
  rw[ufp (by left)]
 have S13:=S12.trans S3
 refine⟨_,rfl,_,rfl,L,_,_,_,rfl,rfl,SqL.of hH,jI (by left) (by left),_,rfl,rfl,_,rfl,?_⟩
 by_cases c:hAt hs (tieAt ts k).2.1=tl+1
 ·refine iteTe (ufk (by rw[c])) ?_
  refine⟨_,rfl,_,rfl,L,_,rfl,hH,λ lt H4 S4 f4 e4=>⟨(by show 3<=1000;decide),λ lp H5 S5 f5 e5=>?_⟩⟩
  have is5:Is K H5 (.tuple [.str "far",.int (k:Int),.tuple (hs.map .int)]) (.ref lp):=⟨lp,_,rfl,e5,_,_,rfl,rfl,_,_,rfl,rfl,_,_,rfl,⟨lt,_,rfl,S5 _ _ e4,IsAll.ints _⟩,rfl⟩
  refine q _ _ H5 (S13.trans (S4.trans S5)) is5 (.inr (.inr ⟨_,rfl,(by show 3<=100;decide),λ x hx=>?_⟩)) λ ks=>⟨(ts.length:Int)+1,?_⟩
  ·simp only [k8,w6,or_false] at hx
   rcases hx with rfl | rfl | rfl
   ·exact TD.str _ (by symm)
   ·exact TD.int _ _
   ·exact TD.ints 0 (by left)
  ·show shB n ts t (shF n ts t 0) (.tuple [.str "far",.int (k:Int),.tuple (hs.map .int)]) ks os=_
   unfold shB
   show (if _ then _ else _)=_
   have b:farD n ts t os (.int (k:Int)) (.tuple (hs.map .int))=true:=by
    show (((decide (0<=(k:Int))&&decide ((k:Int)<(ts.length:Int)))&&decide ((k:Int).toNat∈os))&&(wholesB (.tuple (hs.map .int))&&beyondI n ts (outs ts.length os) t (k:Int).toNat ((hs.map udm).map toI)))=true
    rw[ufk (show 0<=(k:Int) by left),ufk (show (k:Int)<(ts.length:Int) by left),u4,ufk hko,kE,yV]
    unfold beyondI
    rw[hold]
    show decide (acrossI ts hs k>t*(tieAt ts k).2.2)=true
    refine ufk ?_
    unfold acrossI absI
    rw[hA,c,etl]
    split <;> left
   rw[ufo rfl,ufo b]
 ·refine iteFe (ufm λ z=>c (by injection z)) ?_
  refine⟨(by show 1<=1000;decide),λ lp H5 S5 f5 e5=>?_⟩
  exact q (.tuple [.str "kept"]) _ H5 (S13.trans S5) ⟨lp,_,rfl,e5,_,_,rfl,rfl,rfl⟩ (nK 1) λ ks=>⟨_,lJ⟩
theorem pW (T:Bi mg)(D:DefOk K mg "_law_times" s__law_times ["pot"])(O__law_take:‹1› "_law_take" ["pot","many"] spTake):‹2› "_law_times" ["pot"] spTimes:=by
 exists 1,sc__law_times
 obtain⟨p,rfl,hp,q⟩:=h
 refine⟨_,(aE (aH (aG aX (bF (aA aC (aA aC (aA aC (aA (aI bN aC (aF O__law_take hr rfl (aA (pv 0) (aA aC aB)))) (aA aC aB)))))) (aF O__law_take hr rfl (aA (pv 0) (aA aC aB))) (λ _ _=>rfl)))),?_⟩
 refine⟨_,rfl,p,9,rfl,hp,by decide,by decide,λ ra J0 ra0 ra1 b0 p0=>⟨_,_,rfl,rfl,(by show 5<=1000;decide),λ l J1 S1 f1 e1=>?_⟩⟩
 have nl:l≠p:=λ z=>by
  obtain⟨a',b',e',_⟩:=p0
  rw[z,e'] at f1;cases f1
 refine⟨_,rfl,p,5,rfl,p0.same S1,by decide,by decide,λ r J2 r0 r1 b2 p2=>?_⟩
 obtain⟨mm,m1,m99,hat⟩:∃ m:Int,1<=m/\m<=99/\atI [V.int 1,V.int 2,V.int 3,V.int (1+ra),V.int 99] r=some (.int m):=by
  have:r=0\/r=1\/r=2\/r=3\/r=4:=by left
  rcases this with rfl | rfl | rfl | rfl | rfl
  ·exact⟨1,by decide,by decide,rfl⟩
  ·exact⟨2,by decide,by decide,rfl⟩
  ·exact⟨3,by decide,by decide,rfl⟩
  ·exact⟨1+ra,by left,by left,rfl⟩
  ·exact⟨99,by decide,by decide,rfl⟩
 exact⟨l,_,_,_,rfl,rfl,SqL.of (b2 _ _ nl e1),hat,q _ J2 m1 m99 (b0.trans ((Same.but S1).trans b2)) p2⟩
theorem zao {m k:Nat}{a b:r6}(ha:TD (m+1) a)(hb:TD (m+1) b):TD (m+2) (.tuple [.str "tie",.int (k:Int),a,b]):=.inr (.inr ⟨_,rfl,(by show 4<=100;decide),λ x hx=>by
 simp only [k8,w6,or_false] at hx
 rcases hx with rfl | rfl | rfl | rfl
 ·exact TD.str _ (by symm)
 ·exact TD.int _ _
 ·exact ha
 ·exact hb⟩)
theorem zas {n:Int}{ts:List Tie}{t:Int}{m k:Nat}{a b:r6}{ks os:List Nat}{x y:Int}(kl:k<ts.length)(nk:k∉ks)(no:k∉os)(ha:shF n ts t m a (ks++[k]) os=some x)(hb:shF n ts t m b ks (os++[k])=some y):∃ z,shF n ts t (m+1) (.tuple [.str "tie",.int (k:Int),a,b]) ks os=some z:=by
 refine⟨if y<x then y else x,?_⟩
 show shB n ts t (shF n ts t m) (.tuple [.str "tie",.int (k:Int),a,b]) ks os=_
 unfold shB
 show (if _ then _ else _)=_
 have u:undD ts.length ks os (.int (k:Int))=true:=by
  show ((decide (0<=(k:Int))&&decide ((k:Int)<(ts.length:Int)))&&(!decide ((k:Int).toNat∈ks)&&!decide ((k:Int).toNat∈os)))=true
  rw[u4,ufk (show 0<=(k:Int) by left),ufk (show (k:Int)<(ts.length:Int) by left),ufm nk,ufm no];rfl
 rw[ufo rfl,ufo u,show (toI (.int (k:Int))).toNat=k from u4 k,ha,hb];rfl
def spTre (K:a8)(m:Nat):Sp:=λ vs H Q _=>∃ (n:Int)(ts:List Tie)(ks os:List Nat)(wv:V)(p kp op:j4)(t dp:Int)(e:Nat),vs=[.ref p,wv,.int t,.ref kp,.ref op,.int dp]/\dp=(e:Int)/\e<=m/\WO K H n ts wv/\1<=t/\t<=99/\Pot H p/\kp≠p/\op≠p/\H kp=some (.lst (natV ks))/\(∀ k∈ks,k<ts.length)/\ks.Nodup/\H op=some (.lst (natV os))/\(∀ k∈os,k<ts.length)/\os.Nodup/\∀ d v H',But p H H'->Pot H' p->Is K H' d v->tupD d=true->TD (m+2) d->(∃ x,shF n ts t (m+1) d ks os=some x)->Q v H'
theorem kW {m j:Nat}(T:Bi mg)(D:DefOk K mg "_law_tree" s__law_tree ["pot","web","t","kept","left","deep"])(O__law_take:Ok P w K mg base j "_law_take" ["pot","many"] spTake)(O__law_rest:Ok P w K mg base j "_law_rest" ["web","left"] (spRest K))(O__law_far_leaf:Ok P w K mg base j "_law_far_leaf" ["web","t","left","tie"] (spFlf K)){sp:Sp}(O__law_tree:Ok P w K mg base j "_law_tree" ["pot","web","t","kept","left","deep"] sp)(hsp:∀ m',m=m'+1->∀ vs H Q E,spTre K m' vs H Q E->sp vs H Q E):Ok P w K mg base (j+1) "_law_tree" ["pot","web","t","kept","left","deep"] (spTre K m):=by
 refine dQ (k:=j) D sc__law_tree (λ vs H Q E h=>?_) (λ f cdv A outer s H vs Q E hr h=>?_)
 ·obtain⟨n,ts,ks,os,wv,p,kp,op,t,dp,e,rfl,_⟩:=h
  rfl
 obtain⟨n,ts,ks,os,wv,p,kp,op,t,dp,e,rfl,edp,hem,wo,t1,t99,hp,nkp,nop,hkp,ko,kd,hop,oo,od,q⟩:=h
 have nd:=sc__law_tree.nd
 have units:∀ {x:Nat},x<=3->(A.deeper (envOfC "_law_tree" (defScope s__law_tree) s.heap.objs.size f cdv)).units+x<cLine:=λ {x} hu=>by have:=hr.units;left
 have few60:=wo.2.few
 have lks:=oI ko kd
 have los:=oI oo od
 refine⟨_,(aD (fM (i:=6) (N:=["pot","web","t","kept","left","deep","some","tie","one"]) (sc0:=defScope s__law_tree) (own:=["number"]) (fr:=["kept"]) (js:=[3]) rfl (bU (aF O__law_rest hr rfl (aA (pv 1) (aA (pv 4) aB)))) (λ _ _ _ _=>(aJ (i:=0) (by show List.Nodup [("number":Str),("kept":Str)];decide +kernel) rfl (j8 rfl))) (λ _ _ _ _=>(cV (aO eG (pv 0) (pv 1) (by with_unfolding_all rfl)))) (λ _ _ _ _=>(pv 0)) nd rfl (j8 rfl)) (aD (aS (PW.pt (bW (aO bH (pv 5) aC (nomark _)) (bW (aO dM (pv 6) (bF aB) (nomark _)) (bZ (aO bH (aF O__law_take hr rfl (aA (pv 0) (aA aC aB))) aC (nomark _)))))) (aE (aH (dX (aO cM (aP bB rfl T.z_len (by symm) (aA (pv 4) aB)) aC (nomark _)) (aF O__law_far_leaf hr rfl (aA (pv 1) (aA (pv 2) (aA (pv 4) (aA (aG aX (pv 4) (aF O__law_take hr rfl (aA (pv 0) (aA (aP bB rfl T.z_len (by symm) (aA (pv 4) aB)) aB))) (λ _ _=>rfl)) aB))))) (aT (aA bO aB))))) aR) (aD (aN (i:=7) nd rfl (j8 rfl) (aG aX (pv 6) (aF O__law_take hr rfl (aA (pv 0) (aA (aP bB rfl T.z_len (by symm) (aA (pv 6) aB)) aB))) (λ _ _=>rfl))) (aD (aN (i:=8) nd rfl (j8 rfl) (aF O__law_tree hr rfl (aA (pv 0) (aA (pv 1) (aA (pv 2) (aA (aI iX (pv 3) (bF (aA (pv 7) aB))) (aA (pv 4) (aA (aI cH (pv 5) aC) aB)))))))) (aE (aH (aT (aA bO (aA (pv 7) (aA (pv 8) (aA (aF O__law_tree hr rfl (aA (pv 0) (aA (pv 1) (aA (pv 2) (aA (pv 3) (aA (aI iX (pv 4) (bF (aA (pv 7) aB))) (aA (aI cH (pv 5) aC) aB))))))) aB))))))))))),?_⟩
 refine⟨_,rfl,_,rfl,n,ts,os,wv,op,rfl,wo,hop,λ l1 H1 S1 f1 e1=>?_⟩
 refine⟨l1,rfl,⟨_,SqL.of e1⟩,?_⟩
 have lo:=mM ts.length os
 refine wC e1 (λ σ'=>∃ o,σ'=[o,some (.ref kp)]) (λ i=>if decide ((outs ts.length os).getD i 0∉ks)=true then some (V.int (((outs ts.length os).getD i 0:Nat):Int)) else none) (by rw[aV];left) (by exact⟨none,rfl⟩) (λ i x σ' H' hx s2 sg C L hC hL=>?_) (λ L H2 hL S2 hH=>?_)
 ·obtain⟨o,rfl⟩:=sg
  obtain⟨k,hk,rfl⟩:=bP hx
  have ek:(outs ts.length os).getD i 0=k:=by rw[d3,hk];rfl
  rw[ek] at hC hL
  refine⟨_,rfl,_,rfl,kp,_,rfl,.inl (SqL.of ((S1.trans s2) _ _ hkp)),rfl,cU ks,_,rfl,?_⟩
  show if (!inV (V.int (k:Int)) (natV ks))=true then _ else _
  rw[cZ (o6 _),u4]
  refine iteB2 (λ c=>?_) (λ c=>?_)
  ·refine hL _ _ ⟨_,rfl⟩ (Same.refl _) ?_
   rw[ufp]
   exact λ z=>ufl z (ufl c)
  ·refine⟨_,rfl,hC _ _ _ ⟨_,rfl⟩ (Same.refl _) ?_⟩
   rw[ufo (ufk (ufn c))]
 obtain⟨ss,ess⟩:∃ ss,ss=(outs ts.length os).filter λ k=>decide (k∉ks):=⟨_,rfl⟩
 have eL:H2 L=some (.lst (natV ss)):=by
  rw[hH,aV,ess]
  have:=congrArg (List.filterMap λ k:Nat=>if decide (k∉ks)=true then some (V.int (k:Int)) else none) (L3.dD (outs ts.length os) 0)
  rw[ud7] at this
  rw[show (d7 (outs ts.length os).length).filterMap (λ i=>if decide ((outs ts.length os).getD i 0∉ks)=true then some (V.int (((outs ts.length os).getD i 0:Nat):Int)) else none)=(outs ts.length os).filterMap (λ k:Nat=>if decide (k∉ks)=true then some (V.int (k:Int)) else none) from this,cS]
 have smem:∀ k∈ss,k<ts.length/\k∉os/\k∉ks:=λ k hk=>by
  rw[ess] at hk
  have h1:=z0.mp hk
  have h2:=outs_mem.mp h1.1
  exact⟨h2.1,h2.2,ufl h1.2⟩
 have lss:ss.length<=60:=by
  have:ss.length<=(outs ts.length os).length:=by rw[ess];exact ucn _ _
  left
 have S12:=S1.trans S2
 have nLp:L≠p:=λ z=>by
  obtain⟨a',b',e',_⟩:=hp
  rw[z,S1 _ _ e'] at hL;cases hL
 have p2:=hp.same S12
 clear hH
 apply brT40 (A:=λ J=>But p H J/\Pot J p)
 case main =>
  intro tail
  refine⟨_,rfl,rfl,_,rfl,?_⟩
  by_cases m0:e=0
  case neg =>
   refine iteFe (ufm λ z=>m0 (by injection z with z;left)) ?_
   refine⟨_,rfl,(by show 0<=1000;decide),λ l3 H3 S3 f3 e3=>⟨.list ((keepI ss).map .int),.list [],⟨L,_,rfl,S3 _ _ eL,by rw[bT];exact IsAll.ints _⟩,⟨l3,_,rfl,e3,rfl⟩,eW _,rfl,units (r8 (ubx _ _) (by decide)),_,rfl,?_⟩⟩
   have p3:=p2.same S3
   have b3:But p H H3:=Same.but (S12.trans S3)
   by_cases s0:ss=[]
   case neg =>
    have es:uc4 (.list ((keepI ss).map .int)) (.list [])=false:=by
     cases hss:ss with
     | nil=>exact absurd hss s0
     | cons k r=>rfl
    refine iteFe es ⟨_,rfl,p,7,rfl,p3,by decide,by decide,λ r J r0 r1 bJ pJ=>⟨rfl,_,rfl,?_⟩⟩
    have bJ':=b3.trans bJ
    by_cases cr:r=0
    ·exact iteTe (ufk (by rw[cr])) (tail J ⟨bJ',pJ⟩)
    refine iteFe (ufm λ z=>cr (by injection z)) ?_
    have eLJ:J L=some (.lst (natV ss)):=bJ _ _ nLp (S3 _ _ eL)
    have sp0:0<ss.length:=ucx.mpr s0
    refine⟨_,rfl,_,rfl,_,rfl,L,_,rfl,.inl (SqL.of eLJ),p,_,rfl,pJ,by rw[aV];left,by rw[aV];left,λ r2 J2 r20 r21 b2 p2'=>?_⟩
    rw[aV] at r21
    have eL2:=b2 _ _ nLp eLJ
    obtain⟨k,hk⟩:∃ k,ss[r2.toNat]?=some k:=⟨_,c6 (by left)⟩
    have km:=smem k (i6 hk)
    refine⟨L,_,_,_,rfl,rfl,SqL.of eL2,aZ r20 (by unfold natV;rw[j5,hk];rfl),?_⟩
    have bH2:=bJ'.trans b2
    have wo2:=wo.but bH2 hp
    have kp2:J2 kp=some (.lst (natV ks)):=bH2 _ _ nkp hkp
    have op2:J2 op=some (.lst (natV os)):=bH2 _ _ nop hop
    obtain⟨m',em⟩:∃ m',m=m'+1:=⟨m-1,by left⟩
    have cat:∀ ms:List Nat,natV ms++[V.int (k:Int)]=natV (ms++[k]):=λ ms=>by unfold natV;rw[uao];rfl
    have inn:∀ {ms:List Nat},(∀ k∈ms,k<ts.length)->∀ j∈ms++[k],j<ts.length:=λ h j hj=>by
     rcases m5.mp hj with z | z
     ·exact h j z
     ·rw[i5.mp z];exact km.1
    have ndn:∀ {ms:List Nat},ms.Nodup->k∉ms->(ms++[k]).Nodup:=λ h1 h2=>uak.mpr ⟨h1,by simp,λ x hx y hy z=>h2 (by rw[← i5.mp hy,← z];exact hx)⟩
    have fresh:∀ {J:Hp}{a:j4},Pot J p->J a=none->a≠p:=λ pt h z=>by
     obtain⟨ys,ee⟩:=pt.lst
     rw[z,ee] at h;cases h
    refine⟨_,rfl,_,rfl,_,rfl,_,rfl,_,rfl,(by show 1<=1000;decide),λ l4 H4 S4 f4 e4=>?_⟩
    refine⟨kp,l4,_,_,rfl,rfl,S4 _ _ kp2,e4,(by rw[aV];show ks.length+1<=1000;left),λ l5 H5 S5 f5 e5=>?_⟩
    rw[cat] at e5
    have S45:=S4.trans S5
    have p5:=p2'.same S45
    refine⟨_,rfl,_,rfl,_,_,rfl,rfl,hsp m' em _ _ _ _ ⟨n,ts,ks++[k],os,wv,p,l5,op,t,dp-1,e-1,rfl,by left,by left,wo2.same S45,t1,t99,p5,fresh (p2'.same S4) f5,nop,e5,inn ko,ndn kd km.2.2,S45 _ _ op2,oo,od,λ d1 v1 H6 b6 p6 is6 td6 tD6 sh6=>?_⟩⟩
    obtain⟨x6,sh6⟩:=sh6
    have bH6:=bH2.trans ((Same.but S45).trans b6)
    refine⟨_,rfl,_,rfl,_,rfl,_,rfl,_,rfl,_,rfl,_,rfl,_,rfl,(by show 1<=1000;decide),λ l7 H7 S7 f7 e7=>?_⟩
    refine⟨op,l7,_,_,rfl,rfl,S7 _ _ (bH6 _ _ nop hop),e7,(by rw[aV];show os.length+1<=1000;left),λ l8 H8 S8 f8 e8=>?_⟩
    rw[cat] at e8
    have S78:=S7.trans S8
    have p8:=p6.same S78
    have wo8:=(wo.but bH6 hp).same S78
    refine⟨_,rfl,_,_,rfl,rfl,hsp m' em _ _ _ _ ⟨n,ts,ks,os++[k],wv,p,kp,l8,t,dp-1,e-1,rfl,by left,by left,wo8,t1,t99,p8,nkp,fresh (p6.same S7) f8,S78 _ _ (bH6 _ _ nkp hkp),ko,kd,e8,inn oo,ndn od km.2.1,λ d2 v2 H9 b9 p9 is9 td9 tD9 sh9=>?_⟩⟩
    obtain⟨x9,sh9⟩:=sh9
    refine⟨(by show 4<=1000;decide),λ l10 H10 S10 f10 e10=>?_⟩
    obtain⟨xs8,el8⟩:=p8.lst
    have is61:Is K H9 d1 v1:=Is.but b9 el8 _ td6 (Is.same S78 _ is6)
    refine q (.tuple [.str "tie",.int (k:Int),d1,d2]) _ H10 ((bH6.trans ((Same.but S78).trans b9)).trans (Same.but S10)) (p9.same S10) ⟨l10,_,rfl,e10,_,_,rfl,rfl,_,_,rfl,rfl,_,_,rfl,Is.same S10 _ is61,_,_,rfl,Is.same S10 _ is9,rfl⟩ ?_ ?_ ?_
    ·show (true&&(true&&(tupD d1&&(tupD d2&&true))))=true
     rw[td6,td9];rfl
    ·rw[em];exact zao tD6 tD9
    ·rw[em];exact zas km.1 km.2.2 km.2.1 sh6 sh9
   ·exact iteTe (by rw[s0];rfl) (iteT (tail H3 ⟨b3,p3⟩))
  ·exact iteTe (ufk (by rw[edp,m0];rfl)) (iteT (tail H2 ⟨Same.but S12,p2⟩))
 case tail =>
 rintro J ⟨bJ,pJ⟩
 have woJ:=wo.but bJ hp
 have opJ:=bJ _ _ nop hop
 refine⟨_,rfl,op,_,rfl,.inl (SqL.of opJ),_,_,rfl,rfl,_,rfl,?_⟩
 rw[aV]
 by_cases o0:0<os.length
 ·refine iteTe (ufk (show ((os.length:Nat):Int)>0 by left)) ?_
  refine⟨_,rfl,_,rfl,_,rfl,_,rfl,_,rfl,_,rfl,op,_,rfl,.inl (SqL.of opJ),p,_,rfl,pJ,by rw[aV];left,by rw[aV];left,λ r2 J2 r20 r21 b2 p2'=>?_⟩
  rw[aV] at r21
  obtain⟨k,hk⟩:∃ k,os[r2.toNat]?=some k:=⟨_,c6 (by left)⟩
  have km:=i6 hk
  have op2:=b2 _ _ nop opJ
  refine⟨op,_,_,_,rfl,rfl,SqL.of op2,aZ r20 (by unfold natV;rw[j5,hk];rfl),?_⟩
  refine⟨n,ts,os,wv,op,t,k,rfl,wo.but (bJ.trans b2) hp,t1,t99,op2,oo k km,km,λ d v H4 S4 is4 td4 sh4=>?_⟩
  refine q d v H4 ((bJ.trans b2).trans (Same.but S4)) (p2'.same S4) is4 ?_ (td4.mono (by left)) ?_
  ·exact td4.tup
  ·obtain⟨x,hx⟩:=sh4 ks
   exact⟨x,gE hx (by left)⟩
 ·refine iteFe (ufm (show ¬ ((os.length:Nat):Int)>0 by left)) ?_
  refine⟨(by show 1<=1000;decide),λ lp H5 S5 f5 e5=>?_⟩
  exact q (.tuple [.str "kept"]) _ H5 (bJ.trans (Same.but S5)) (pJ.same S5) ⟨lp,_,rfl,e5,_,_,rfl,rfl,rfl⟩ rfl ((nK 0).mono (by left)) ⟨_,gE lJ (by left)⟩
theorem jY {j:Nat}(T:Bi mg)(D:DefOk K mg "_law_tree" s__law_tree ["pot","web","t","kept","left","deep"])(O__law_take:Ok P w K mg base j "_law_take" ["pot","many"] spTake)(O__law_rest:Ok P w K mg base j "_law_rest" ["web","left"] (spRest K))(O__law_far_leaf:Ok P w K mg base j "_law_far_leaf" ["web","t","left","tie"] (spFlf K)):∀ m:Nat,Ok P w K mg base (j+m+1) "_law_tree" ["pot","web","t","kept","left","deep"] (spTre K m)
 | 0=>by
  have O:Ok P w K mg base j "_law_tree" ["pot","web","t","kept","left","deep"] (λ _ _ _ _=>False):=by
   obtain⟨f,fd,F,b,m⟩:=D
   exact⟨f,fd,⟨λ _ _ _ _ h=>h.elim,λ _ _ _ _ _ _ _ _ _ _ _ _ _ h=>h.elim⟩,b,F.kp,m⟩
  exact kW (P:=P) (w:=w) (base:=base) T D O__law_take O__law_rest O__law_far_leaf O λ m' e=>by cases e
 | m+1=>kW (P:=P) (w:=w) (base:=base) T D (O__law_take.mono (by left)) (O__law_rest.mono (by left)) (O__law_far_leaf.mono (by left)) (jY T D O__law_take O__law_rest O__law_far_leaf m) λ m' e vs H Q E z=>by cases e;exact z
theorem wS {K:a8}(vs:List V)(H:Hp)(Q:VK)(E:XK)(h:spWayOf K vs H Q E):spWayO19 K vs H Q E:=by
 obtain⟨n,ts,ks,wv,kv,k,e,wk,kl,q⟩:=h
 exact⟨n,ts,ks,wv,kv,k,e,wk,kl,λ v H' S hv=>q v H' S hv.v⟩
theorem zbd {K:a8}(vs:List V)(H:Hp)(Q:VK)(E:XK)(h:spHOf K vs H Q E):spHO19 K vs H Q E:=by
 obtain⟨n,ts,ks,wv,kv,k,t,e,wk,kl,t1,t99,q⟩:=h
 exact⟨n,ts,ks,wv,kv,k,t,e,wk,kl,t1,t99,λ p H' S hp=>q p _ H' S hp⟩
def spNr44 (K:a8):Sp:=λ vs H Q _=>∃ (n:Int)(ts:List Tie)(ks:List Nat)(wv kv:V)(t:Int),vs=[wv,kv,.int t]/\WK K H n ts ks wv kv/\1<=t/\t<=99/\∀ b H',Same H H'->(b=true↔allIn ts ks t)->Q (.bl b) H'
theorem pX (T:Bi mg)(D:DefOk K mg "_law_is_near" s__law_is_near ["web","keep","t"])(O_times_told:‹6› "times_told" ["web","keep","t"] (spTold19 K)):‹7› "_law_is_near" ["web","keep","t"] (spNr44 K):=by
 exists 6,sc__law_is_near
 obtain⟨n,ts,ks,wv,kv,t,rfl,wk,t1,t99,q⟩:=h
 have units:∀ {x:Nat},x<=3->(A.deeper (envOfC "_law_is_near" (defScope s__law_is_near) s.heap.objs.size f cdv)).units+x<cLine:=λ {x} hu=>by have:=hr.units;left
 refine⟨_,(aE (aH (bD dM (aG aL (aF O_times_told hr rfl (aA (pv 0) (aA (pv 1) (aA (pv 2) aB)))) aC (λ _ _=>rfl)) bO (nomark _)))),?_⟩
 refine⟨_,rfl,_,rfl,_,rfl,n,ts,ks,wv,kv,t,rfl,wk,t1,t99,λ v d H2 S2 is2 td2=>?_⟩
 obtain⟨p,ww,rr,rfl,hp,cs⟩:=iO td2 is2
 have sw:uck ww=true:=by rcases cs with ⟨rfl,_⟩ | ⟨rfl,_⟩ <;> decide +kernel
 refine⟨p,_,_,_,rfl,rfl,SqT.of hp,aZ (uae 0) rfl,.str ww,.str "keeps",rfl,rfl,sw,by symm,units (r8 (ubx _ _) (by decide)),?_⟩
 rw[gM]
 refine q _ H2 S2 ?_
 rcases cs with ⟨rfl,al⟩ | ⟨rfl,nal⟩
 ·exact⟨λ _=>al,λ _=>ufk rfl⟩
 ·exact⟨λ z=>absurd (ufl z) (by decide),λ z=>absurd z nal⟩
def spGrw (K:a8):Sp:=λ vs H Q _=>∃ (n:Int)(ts:List Tie)(wv:V)(p:j4)(t:Int),vs=[.ref p,wv,.int t]/\WO K H n ts wv/\Pot H p/\1<=t/\t<=99/\∀ a ks H',But p H H'->Pot H' p->H' a=some (.tup (natV ks))->KeepOk ts.length ks->allIn ts ks t->Q (.ref a) H'
theorem vI {m:Nat}{ms:List Int}(pm:ms.Perm ((d7 m).map λ i:Nat=>(i:Int))):∃ ns:List Nat,ms.map V.int=natV ns/\ns.Nodup/\(∀ k∈ns,k<m)/\∀ k,k<m->k∈ns:=by
 have rng:∀ x∈ms,0<=x/\x<m:=λ x hx=>by
  obtain⟨i,hi,rfl⟩:=o7.mp (pm.mem_iff.mp hx)
  have:=l9.mp hi
  left
 have ndm:ms.Nodup:=pm.nodup_iff.mpr (by
  rw[List.Nodup,uar]
  exact udg.imp λ h z=>h (by left))
 refine⟨ms.map Int.toNat,?_,?_,λ k hk=>?_,λ k hk=>?_⟩
 ·unfold natV
  rw[uam]
  refine ubt λ x hx=>?_
  show V.int x=V.int ((x.toNat:Nat):Int)
  rw[uan (rng x hx).1]
 ·rw[List.Nodup,uar]
  refine ud8 ?_ ndm
  intro a b ha hb ne z
  have:=(rng a ha).1
  have:=(rng b hb).1
  left
 ·obtain⟨x,hx,rfl⟩:=o7.mp hk
  have:=rng x hx
  left
 ·exact o7.mpr ⟨(k:Int),pm.mem_iff.mpr (o7.mpr ⟨k,l9.mpr hk,rfl⟩),u4 k⟩
theorem pY (T:Bi mg)(D:DefOk K mg "_law_grown" s__law_grown ["pot","web","t"])(O__law_order:‹7› "_law_order" ["pot","many"] spOrder)(O__law_is_near:‹7› "_law_is_near" ["web","keep","t"] (spNr44 K)):‹8› "_law_grown" ["pot","web","t"] (spGrw K):=by
 exists 7,sc__law_grown
 obtain⟨n,ts,wv,p,t,rfl,wo,hp,t1,t99,q⟩:=h
 have few60:=wo.2.few
 refine⟨_,(aD (aN (i:=3) nd rfl (j8 rfl) (aT aB)) (aD (bM PassesOwn.never rfl (bU (aF O__law_order hr rfl (aA (pv 0) (aA (aP bB rfl T.z_len (by symm) (aA (aG aL (pv 1) aC (λ _ _=>rfl)) aB)) aB)))) (aJ (i:=4) nd rfl (j8 rfl)) (aE (aS (cA (bL (aF O__law_is_near hr rfl (aA (pv 1) (aA (pv 3) (aA (pv 2) aB)))))) (aE (aN (i:=3) nd rfl (j8 rfl) (bI cF rfl T.z_tuple (by symm) (aA (aP kC rfl T.z_sorted (by symm) (aA (aI gI (pv 3) (aT (aA (pv 4) aB))) aB)) aB)))) aR))) (aE (aH (pv 3))))),?_⟩
 refine⟨(by show 0<=1000;decide),λ k0 H0 S0 f0 e0=>?_⟩
 have p0:=hp.same S0
 obtain⟨g0,g,ws,rfl,hg0,hg,hall,hlw⟩:=bC (wo.same S0).1
 refine⟨_,rfl,_,rfl,g0,_,_,_,rfl,rfl,SqT.of hg0,rfl,g,_,rfl,.inr (SqT.of hg),p,_,rfl,p0,by left,by left,λ l1 H1 ms b1 p1 f1 nl1 e1 pm=>?_⟩
 rw[u4,hlw] at pm
 obtain⟨ns,ens,ndn,inn,alln⟩:=vI pm
 rw[ens] at e1
 obtain⟨y0,ey0⟩:=p0.lst
 have n0:k0≠p:=λ z=>by rw[z,ey0] at e0;cases e0
 have b01:But p H H1:=(Same.but S0).trans b1
 have wo1:=wo.but b01 hp
 refine⟨l1,rfl,⟨_,SqL.of e1⟩,?_⟩
 refine dH (xs:=natV ns) (λ i σ J=>∃ (kp:j4)(ks:List Nat)(y4:Option V),σ=[some (.ref p),some (.ref g0),some (.int t),some (.ref kp),y4]/\Same H1 J/\J kp=some (.tup (natV ks))/\KeepOk ts.length ks/\(∀ k∈ks,k∈ns.take i)/\(allIn ts ks t\/∀ k∈ns.take i,k∈ks)) ⟨k0,[],none,rfl,Same.refl _,b1 _ _ n0 e0,⟨.nil,λ k h=>by cases h⟩,(λ k h=>by cases h),.inr λ k h=>by simp at h⟩ (λ i σ J _ h=>?_) (λ i x σ J hx h=>?_) (λ σ J h=>?_)
 ·obtain⟨kp,ks,y4,rfl,sm,_⟩:=h
  exact SqL.of (sm _ _ e1)
 ·obtain⟨kp,ks,y4,rfl,sm,hkp,ko,sub,al⟩:=h
  obtain⟨k,hk,rfl⟩:=bP hx
  have tn:=cR hk
  refine⟨_,rfl,_,rfl,_,rfl,n,ts,ks,_,.ref kp,t,rfl,⟨(wo1.same sm).1,wo.2,dF hkp,ko⟩,t1,t99,λ b H2 S2 hb=>⟨_,rfl,?_⟩⟩
  have sm2:=sm.trans S2
  cases b with
  | true=>exact iteF ⟨kp,ks,_,rfl,sm2,S2 _ _ hkp,ko,λ j hj=>by rw[tn];exact uab _ (sub j hj),.inl (hb.mp rfl)⟩
  | false =>
   refine iteT ?_
   have nal:¬ allIn ts ks t:=λ z=>by have:=hb.mpr z;cases this
   have all:=al.resolve_left nal
   have nk:k∉ks:=λ z=>by
    have h1:=sub k z
    have:(ns.take (i+1)).Nodup:=ndn.sublist (ueg _ _)
    rw[tn] at this
    exact (uak.mp this).2.2 k h1 k i3 rfl
   have lks:=ko.len
   refine⟨_,rfl,_,rfl,(by show 1<=1000;decide),λ t3 H3 S3 f3 e3=>?_⟩
   refine⟨kp,t3,_,_,rfl,rfl,S3 _ _ (S2 _ _ hkp),e3,r8 (show _<=1000 by rw[aV];show ks.length+1<=1000;left) (by decide),λ t4 H4 S4 e4=>?_⟩
   have e4':H4 t4=some (.tup ((keepI ks++[(k:Int)]).map V.int)):=by rw[e4,uao,← bT];rfl
   refine⟨t4,_,rfl,e4',by rw[g9];unfold keepI;rw[c7];show ks.length+1<64;left,λ ms' pm' pw' ls H5 S5 f5 e5=>?_⟩
   rw[kQ ko.1 nk pm' pw',← bT] at e5
   refine⟨ls,_,rfl,e5,λ t6 H6 S6 f6 e6=>⟨t6,insN ks k,_,rfl,sm2.trans (S3.trans (S4.trans (S5.trans S6))),e6,cK ko (inn k (i6 hk)),λ j hj=>?_,.inr λ j hj=>?_⟩⟩
   ·rw[tn]
    exact (ins_mem.mp hj).elim (λ z=>uab _ (sub j z)) λ z=>m9 _ (by rw[z];exact i3)
   ·rw[tn] at hj
    exact ins_mem.mpr ((m5.mp hj).imp (all j) λ z=>i5.mp z)
 ·obtain⟨kp,ks,y4,rfl,sm,hkp,ko,sub,al⟩:=h
  rw[aV,ubw] at al
  refine⟨_,rfl,q kp ks J (b01.trans (Same.but sm)) (p1.same sm) hkp ko ?_⟩
  rcases al with z | z
  ·exact z
  ·exact λ k hk=>absurd (z k (alln k (outs_mem.mp hk).1)) (outs_mem.mp hk).2
def spNone (K:a8):Sp:=λ vs H Q _=>∃ (n:Int)(ts:List Tie)(wv:V)(t x:Int)(l mp:j4)(xs:List V)(kss:List (List Nat))(ms:List Nat),vs=[wv,.int t,.ref l,.int x,.ref mp]/\WO K H n ts wv/\1<=t/\t<=99/\H l=some (.lst xs)/\TL H xs kss/\(∀ ks∈kss,KeepOk ts.length ks/\allIn ts ks t/\x<=(ks.length:Int)/\∀ k∈ms,k∈ks)/\H mp=some (.tup (natV ms))/\ms.length<=60/\∀ H',Same H H'->Q (.bl true) H'
theorem pA (T:Bi mg)(D:DefOk K mg "_law_none_fewer" s__law_none_fewer ["web","t","keeps","shown_v","must"])(O__law_is_near:‹7› "_law_is_near" ["web","keep","t"] (spNr44 K)):‹8› "_law_none_fewer" ["web","t","keeps","shown_v","must"] (spNone K):=by
 exists 7,sc__law_none_fewer
 obtain⟨n,ts,wv,t,x,l,mp,xs,kss,ms,rfl,wo,t1,t99,hl,tl,good,hmp,lms,q⟩:=h
 have units:∀ {x:Nat},x<=3->(A.deeper (envOfC "_law_none_fewer" (defScope s__law_none_fewer) s.heap.objs.size f cdv)).units+x<cLine:=λ {x} hu=>by have:=hr.units;left
 refine⟨_,(aD (bM PassesOwn.never rfl (bU (pv 2)) (aJ (i:=5) nd rfl (ue9 rfl)) (aD (aS (PW.pt (bW (cA (bL (aF O__law_is_near hr rfl (aA (pv 0) (aA (pv 5) (aA (pv 1) aB)))))) (bZ (aO cQ (aP bB rfl T.z_len (by symm) (aA (pv 5) aB)) (pv 3) (nomark _))))) (aE (aH cD)) aR) (aE (aS (aO za5 (bY (N:=["web","t","keeps","shown_v","must","keep"]) (sc0:=defScope s__law_none_fewer) (own:=["number"]) (fr:=["keep"]) (js:=[5]) rfl (cC (pv 4)) (λ _ _ _ _=>(aJ (i:=0) (by show List.Nodup [("number":Str),("keep":Str)];decide +kernel) rfl (j8 rfl))) (λ _ _ _ _=>(cV (aO eG (pv 0) (pv 1) (by with_unfolding_all rfl)))) (λ _ _ _ _=>(pv 0))) (bF aB) (nomark _)) (aE (aH cD)) aR)))) (aE (aH cD))),?_⟩
 refine⟨_,rfl,l,rfl,⟨_,SqL.of hl⟩,?_⟩
 refine dH (xs:=xs) (λ i σ J=>∃ y5:Option V,σ=[some wv,some (.int t),some (.ref l),some (.int x),some (.ref mp),y5]/\Same H J) ⟨none,rfl,Same.refl H⟩ (λ i σ J _ h=>?_) (λ i x' σ J hx h=>?_) (λ σ J h=>?_)
 ·obtain⟨y5,rfl,sm⟩:=h
  exact SqL.of (sm _ _ hl)
 ·obtain⟨y5,rfl,sm⟩:=h
  obtain⟨ks,a,eks,rfl,ha⟩:=tl.at hx
  obtain⟨ko,al,le,mi⟩:=good ks (i6 eks)
  refine⟨_,rfl,_,rfl,_,rfl,n,ts,ks,wv,.ref a,t,rfl,⟨(wo.same sm).1,wo.2,dF (sm _ _ ha),ko⟩,t1,t99,λ b H2 S2 hb=>⟨_,rfl,?_⟩⟩
  have sm2:=sm.trans S2
  have bt:=hb.mpr al
  subst bt
  refine iteF ⟨_,rfl,a,_,rfl,.inr (SqT.of (sm2 _ _ ha)),_,rfl,_,_,rfl,rfl,_,rfl,?_⟩
  rw[aV]
  refine iteFe (ufm (show ¬ ((ks.length:Nat):Int)<x by left)) ?_
  refine⟨_,rfl,mp,rfl,⟨_,SqT.of (sm2 _ _ hmp)⟩,?_⟩
  refine dU (sm2 _ _ hmp) (λ σ'=>∃ o,σ'=[o,some (.ref a)]) (λ _=>none) (by rw[aV];left) (by exact⟨none,rfl⟩) (λ i2 x2 σ' H' hx2 s3 sg C L hC hL=>?_) (λ L H3 hL S3 hH=>?_)
  ·obtain⟨o,rfl⟩:=sg
   obtain⟨k,hk,rfl⟩:=bP hx2
   refine⟨_,rfl,_,rfl,a,_,rfl,.inr (SqT.of ((sm2.trans s3) _ _ ha)),rfl,cU ks,_,rfl,?_⟩
   show if (!inV (V.int (k:Int)) (natV ks))=true then _ else _
   rw[cZ (o6 _),u4]
   exact iteFe (by rw[ufk (mi k (i6 hk))];rfl) (hL _ _ ⟨_,rfl⟩ (Same.refl _) rfl)
  have e0:(d7 (natV ms).length).filterMap (λ _=>(none:Option V))=[]:=by simp
  rw[e0] at hH
  refine⟨(by show 0<=1000;decide),λ l4 H4 S4 f4 e4=>⟨.list [],.list [],⟨L,_,rfl,S4 _ _ hH,rfl⟩,⟨l4,_,rfl,e4,rfl⟩,rfl,rfl,units (r8 (ubx _ _) (by decide)),_,rfl,iteFe rfl ⟨_,rfl,sm2.trans (S3.trans S4)⟩⟩⟩
 ·obtain⟨y5,rfl,sm⟩:=h
  exact q J sm
theorem yQ {K:a8}(vs:List V)(H:Hp)(Q:VK)(E:XK)(h:spWay K vs H Q E):spWayM K vs H Q E:=by
 obtain⟨n,ts,ks,wv,kv,a,b,e,wk,a0,a1,b0,b1,q⟩:=h
 exact⟨n,ts,ks,wv,kv,a,b,e,wk,a0,a1,b0,b1,λ v H' S hv=>q v H' S hv.v⟩
def spLaw (K:a8)(Pt Pq:j4):Sp:=λ vs H Q _=>∃ (a:j4)(ns:List Int),vs=[.ref a]/\SqL K H a (ns.map V.int)/\ns.length<=63/\Pq≠Pt/\Tb Pt (lamPosOf s_order_of) lamQ H/\Tb Pq (lam4Of s_ruled_behind).2.2.2 lamQB H/\∀ H',Q (.bl true) H'
theorem yD {p q l:j4}{J J':Hp}{lp lq:Pos}{qn qm:Str}(b:Bt2 p q J J')(h:Tb p lp qn J')(g:Tb q lq qm J')(e:J' l=none):J l=none:=by
 cases e4:J l with
 | none=>rfl
 | some o =>
  by_cases z:l=p
  ·obtain⟨ps,e5,_⟩:=h
   rw[z,e5] at e;cases e
  ·by_cases z2:l=q
   ·obtain⟨ps,e5,_⟩:=g
    rw[z2,e5] at e;cases e
   ·rw[b _ _ z z2 e4] at e;cases e
theorem zA {p q a:j4}{J J':Hp}{lp lq:Pos}{qn qm:Str}{xs:List V}(b:Bt2 p q J J')(t:Tb p lp qn J)(t':Tb q lq qm J)(h:SqL K J a xs):SqL K J' a xs:=by
 obtain⟨_,e',_⟩:=t
 obtain⟨_,e2,_⟩:=t'
 rcases h with (h | ⟨o,h⟩) | h
 ·exact .inl (.inl (b _ _ (λ z=>by rw[z,e'] at h;cases h) (λ z=>by rw[z,e2] at h;cases h) h))
 ·exact .inl (.inr ⟨o,b _ _ (λ z=>by rw[z,e'] at h;cases h) (λ z=>by rw[z,e2] at h;cases h) h⟩)
 ·exact .inr h
theorem zak {p q:j4}{J J':Hp}(b:Bt2 p q J J'):∃ J1,But p J J1/\But q J1 J'/\(∀ b,b≠p->J1 b=J b)/\J1 p=J' p:=by
 refine⟨λ b=>if b=p then J' p else J b,λ b' o z e=>?_,λ b' o z e=>?_,λ b' z=>ufp z,ufo rfl⟩
 ·show (if b'=p then J' p else J b')=some o
  rw[ufp z];exact e
 ·have e:(if b'=p then J' p else J b')=some o:=e
  by_cases x:b'=p
  ·rw[ufo x] at e;rw[x];exact e
  ·rw[ufp x] at e;exact b _ _ x z e
theorem iD (m:Nat):TD (m+1) keptD:=.inr (.inr ⟨_,rfl,(by show 1<=100;decide),λ x hx=>by rw[i5.mp hx];exact TD.str _ (by symm)⟩)
theorem jQ {n:Int}{ts:List Tie}{t:Int}{many:Nat}(ok:WebOk n ts)(t1:1<=t):∀ (c:Nat)(ks os:List Nat),TD (c+2) (trF n ts t many c ks os)
 | 0,ks,os=>iD 1
 | c+1,ks,os=>by
  show TD (c+3) (@ite _ ((many:Int)<=keptF ts ks) (Classical.propDecidable _) keptD _)
  have n24:=ok.n24
  by_cases c1:(many:Int)<=keptF ts ks
  ·rw[ufo c1];exact iD _
  rw[ufp c1]
  by_cases c2:allIn ts (outs ts.length os) t
  ·rw[ufo c2]
   cases eo:outs ts.length (ks++os) with
   | nil=>exact iD _
   | cons k r =>
    refine .inr (.inr ⟨_,rfl,(by show 4<=100;decide),λ x hx=>?_⟩)
    simp only [k8,w6,or_false] at hx
    rcases hx with rfl | rfl | rfl | rfl
    ·exact TD.str _ (by symm)
    ·exact TD.int _ _
    ·exact jQ ok t1 c _ _
    ·exact jQ ok t1 c _ _
  ·rw[ufp c2]
   obtain⟨d,hd⟩:=oS (n:=n) (cW ts.length os) c2
   obtain⟨k,hs,e,lh,fd⟩:=mU ok t1 hd c2
   rw[← jR hd,e]
   refine TD.mono (m:=2) (.inr (.inr ⟨_,rfl,(by show 3<=100;decide),λ x hx=>?_⟩)) (by left)
   simp only [k8,w6,or_false] at hx
   rcases hx with rfl | rfl | rfl
   ·exact TD.str _ (by symm)
   ·exact TD.int _ _
   ·exact TD.ints 0 (by left)
theorem wR {n:Int}{ts:List Tie}(ok:WebOk n ts)(m:Nat):WebOk n (ts.take m):=⟨ok.n1,ok.n24,ok.rise.sublist (ueg _ _),r8 (by rw[uco];left) ok.few,λ t h=>ok.tie t (udy h)⟩
theorem kP {K:a8}{H:Hp}:∀ {m:Nat}{ds:List r6}{vs:List V},IsAll K H ds vs->IsAll K H (ds.take m) (vs.take m)
 | 0,ds,vs,_=>rfl
 | m+1,[],vs,h=>by rw[show vs=[] from h];rfl
 | m+1,d::ds,vs,⟨v,r,e,h1,h2⟩=>by subst e;exact⟨v,r.take m,rfl,h1,kP h2⟩
theorem za7 {f Pt Pq:j4}{fd:ubf}(T:Bi mg)(F:Fun K "law" "law" s_law f fd)(O__law_pot:‹49› "_law_pot" ["script","k"] (spPot K))(O__law_web:‹49› "_law_web" ["pot","most"] (spWeb K))(O__law_take:‹49› "_law_take" ["pot","many"] spTake)(O__law_times:‹49› "_law_times" ["pot"] spTimes)(O__law_tree:‹49› "_law_tree" ["pot","web","t","kept","left","deep"] (spTre K 5))(O_cases_show:‹49› "cases_show" ["web","t","tree"] (spCases K 40))(O_whole:‹49› "whole" ["web"] (spWhole K))(O_needed:‹49› "needed" ["web","keep","t"] (spNeeded K))(O__law_grown:‹49› "_law_grown" ["pot","web","t"] (spGrw K))(O_ring_rule:‹49› "ring_rule" ["web","t"] (spRing K Pt Pq (lamPosOf s_order_of) (lam4Of s_ruled_behind).2.2.2))(O__law_none_fewer:‹49› "_law_none_fewer" ["web","t","keeps","shown_v","must"] (spNone K))(O_fewest:‹49› "fewest" ["web","t"] (spFew K)):FnOk P w K mg base CX0 50 f fd ["script"] (spLaw K Pt Pq):=by
 refine F.ok (k:=49) sc_law (λ vs H Q E h=>?_) (λ cdv A outer s H vs Q E hr h=>?_)
 ·obtain⟨a,ns,rfl,_⟩:=h
  rfl
 obtain⟨a,ns,rfl,hS,h63,npq,tb,tg,q⟩:=h
 have nd:=sc_law.nd
 have hl:(ns.map V.int).length=ns.length:=c7 _
 refine⟨_,(aD (bM PassesOwn.never rfl (dR rfl T.z_range (aA (aP (iA rfl) rfl T.z_max (by symm) (aA aC (aA (aP (dW rfl) rfl T.z_min (by symm) (aA aC (aA (aP bB rfl T.z_len (by symm) (aA (pv 0) aB)) aB))) aB))) aB)) (aJ (i:=1) nd rfl (j8 rfl)) (aD (aN (i:=2) nd rfl (j8 rfl) (aF O__law_pot hr rfl (aA (pv 0) (aA (pv 1) aB)))) (aD (aN (i:=3) nd rfl (j8 rfl) (aF O__law_web hr rfl (aA (pv 2) (aA aC aB)))) (aD (aN (i:=3) nd rfl (j8 rfl) (aT (aA (aG aL (pv 3) aC (λ _ _=>rfl)) (aA (iI iQ (aG aL (pv 3) aC (λ _ _=>rfl)) iV (iU (aG aX (bF (aA aC (aA aC (aA aC aB)))) (pv 1) (λ _ _=>rfl)))) aB)))) (aD (aN (i:=4) nd rfl (j8 rfl) (aF O__law_times hr rfl (aA (pv 2) aB))) (aD (aN (i:=5) nd rfl (j8 rfl) (aF O__law_tree hr rfl (aA (pv 2) (aA (pv 3) (aA (pv 4) (aA (bF aB) (aA (bF aB) (aA (aI bN aC (aF O__law_take hr rfl (aA (pv 2) (aA aC aB)))) aB)))))))) (aD (aN (i:=6) nd rfl (j8 rfl) (aF O_cases_show hr rfl (aA (pv 3) (aA (pv 4) (aA (pv 5) aB))))) (aD (aN (i:=7) nd rfl (j8 rfl) (aF O_needed hr rfl (aA (pv 3) (aA (aF O_whole hr rfl (aA (pv 3) aB)) (aA (pv 4) aB))))) (aD (aN (i:=8) nd rfl (j8 rfl) (bF (aA (aF O__law_grown hr rfl (aA (pv 2) (aA (pv 3) (aA (pv 4) aB)))) (aA (aF O__law_grown hr rfl (aA (pv 2) (aA (pv 3) (aA (pv 4) aB)))) (aA (aF O_whole hr rfl (aA (pv 3) aB)) (aA (aG aL (aF O_ring_rule hr rfl (aA (pv 3) (aA (pv 4) aB))) aC (λ _ _=>rfl)) aB)))))) (aD (aS (PW.pt (bW (aO cL (pv 6) bE (nomark _)) (bZ (cA (bL (aF O__law_none_fewer hr rfl (aA (pv 3) (aA (pv 4) (aA (pv 8) (aA (pv 6) (aA (pv 7) aB))))))))))) (aE (aH cD)) aR) (aE (aS (aO eE (aP bB rfl T.z_len (by symm) (aA (aG aL (pv 3) aC (λ _ _=>rfl)) aB)) aC (nomark _)) (aD (bK (aF O_fewest hr rfl (aA (pv 3) (aA (pv 4) aB))) (bS (n:=2) rfl (aQ (aJ (i:=9) nd rfl (j8 rfl)) (aQ (aJ (i:=10) nd rfl (j8 rfl)) bQ)))) (aD (aN (i:=11) nd rfl (j8 rfl) (aP bB rfl T.z_len (by symm) (aA (aG aL (aF O_fewest hr rfl (aA (pv 3) (aA (aP (dW rfl) rfl T.z_min (by symm) (aA aC (aA (aI bN (pv 4) aC) aB))) aB))) aC (λ _ _=>rfl)) aB))) (aD (aS (PW.pt (bW (cA (bL (aF O__law_none_fewer hr rfl (aA (pv 3) (aA (pv 4) (aA (aI iX (pv 8) (bF (aA (pv 9) aB))) (aA (aP bB rfl T.z_len (by symm) (aA (pv 9) aB)) (aA (pv 7) aB)))))))) (bZ (aO fJ (aF O_cases_show hr rfl (aA (pv 3) (aA (pv 4) (aA (pv 10) aB)))) (aP bB rfl T.z_len (by symm) (aA (pv 9) aB)) (nomark _))))) (aE (aH cD)) aR) (aE (aS (PW.pt (bW (aO cQ (aP bB rfl T.z_len (by symm) (aA (pv 9) aB)) (pv 6) (nomark _)) (bZ (aO cM (pv 11) (aP bB rfl T.z_len (by symm) (aA (pv 9) aB)) (nomark _))))) (aE (aH cD)) aR))))) aR)))))))))))) (aE (aH cD))),?_⟩
 refine⟨_,rfl,a,_,rfl,.inl hS,_,_,rfl,_,_,rfl,_,rfl,?_,?_,?_⟩
 ·split <;> split <;> left
 ·rw[hl];split <;> split <;> left
 generalize hj:(if (if (((ns.map V.int).length:Nat):Int)<3 then (((ns.map V.int).length:Nat):Int) else 3)>1 then (if (((ns.map V.int).length:Nat):Int)<3 then (((ns.map V.int).length:Nat):Int) else 3) else 1)=j
 have j3:j<=3:=by rw[← hj];split <;> split <;> left
 refine eN (n:=j.toNat) (λ i σ J=>∃ x1 x2 x3 x4 x5 x6 x7 x8 x9 x10 x11:Option V,σ=[some (.ref a),x1,x2,x3,x4,x5,x6,x7,x8,x9,x10,x11]/\Bt2 Pt Pq H J/\Tb Pt (lamPosOf s_order_of) lamQ J/\Tb Pq (lam4Of s_ruled_behind).2.2.2 lamQB J) ⟨none,none,none,none,none,none,none,none,none,none,none,rfl,λ _ _ _ _ e=>e,tb,tg⟩ ?turn (λ σ H' _=>q H')
 rintro i σ J0 hi ⟨x1,x2,x3,x4,x5,x6,x7,x8,x9,x10,x11,rfl,b0,t0,g0'⟩
 refine⟨_,rfl,_,rfl,a,_,ns,rfl,zA b0 tb tg hS,by left,by left,λ l H1 s1 fl p1=>?_⟩
 have fl0:H l=none:=yD b0 t0 g0' fl
 obtain⟨ys1,ep1⟩:=p1.lst
 have fresh:∀ {J:Hp}{a:j4},Pot J l->J a=none->a≠l:=λ pt h z=>by
  obtain⟨ys,e⟩:=pt.lst
  rw[z,e] at h;cases h
 refine⟨_,rfl,l,9,rfl,p1,by decide,by decide,λ wv0 H6 n ts0 b6 p6 ok0 _ isw0=>?_⟩
 obtain⟨gg,g,ws,rfl,hg0,hg,hall,hlw⟩:=bC isw0
 refine⟨_,rfl,gg,_,_,_,rfl,rfl,SqT.of hg0,rfl,_,rfl,gg,_,_,_,rfl,rfl,SqT.of hg0,rfl,(by show 3<=1000;decide),λ l7 H7 S7 f7 e7=>?_⟩
 obtain⟨most,m12,hat⟩:∃ m:Nat,m<=12/\atI [V.int 8,V.int 12,V.int 12] (0+(i:Int))=some (.int (m:Int)):=by
  have:i=0\/i=1\/i=2:=by left
  rcases this with rfl | rfl | rfl
  ·exact⟨8,by decide,rfl⟩
  ·exact⟨12,by decide,rfl⟩
  ·exact⟨12,by decide,rfl⟩
 refine⟨_,rfl,l7,_,_,_,rfl,rfl,SqL.of e7,hat,_,rfl,g,_,rfl,S7 _ _ hg,λ c8 H8 S8 e8=>⟨(by show 2<=1000;decide),λ w9 H9 S9 f9 e9=>?_⟩⟩
 rw[zag] at e8
 obtain⟨ts,ets⟩:∃ ts,ts=ts0.take most:=⟨_,rfl⟩
 have ok:WebOk n ts:=by rw[ets];exact wR ok0 most
 have S69:=S7.trans (S8.trans S9)
 have isw9:Is K H9 (webD n ts) (.ref w9):=⟨w9,_,rfl,e9,_,_,rfl,rfl,_,_,rfl,⟨c8,_,rfl,S9 _ _ e8,by rw[ets,List.map_take];exact IsAll.same S69 _ (kP hall)⟩,rfl⟩
 have wo9:WO K H9 n ts (.ref w9):=⟨isw9,ok⟩
 have p9:=p6.same S69
 refine⟨_,rfl,l,rfl,p9,λ t Ha t1 t99 ba pa=>?_⟩
 have woa:=wo9.but ba p9
 refine⟨_,rfl,_,rfl,_,rfl,(by show 0<=1000;decide),λ l5 Hb Sb fb eb=>⟨(by show 0<=1000;decide),λ l6 Hc Sc fc ec=>?_⟩⟩
 have Sac:=Sb.trans Sc
 have pc:=pa.same Sac
 have n5:=fresh pa fb
 have n6:=fresh (pa.same Sb) fc
 refine⟨_,rfl,l,3,rfl,pc,by decide,by decide,λ r Hd r0 r1 bd pd=>⟨_,_,rfl,rfl,?_⟩⟩
 have wod:=(woa.same Sac).but bd pc
 refine⟨n,ts,[],[],_,l,l5,l6,t,_,(3+r).toNat,rfl,by left,by left,wod,t1,t99,pd,n5,n6,bd _ _ n5 (Sc _ _ eb),(λ k h=>by cases h),.nil,bd _ _ n6 ec,(λ k h=>by cases h),.nil,λ d v He be pe ise tue tde she=>?_⟩
 obtain⟨x,she⟩:=she
 have sh41:=gE (m':=41) she (by left)
 have woe:=wod.but be pd
 refine⟨_,rfl,_,rfl,_,rfl,n,ts,_,v,t,d,rfl,woe,t1,t99,ise,tde.mono (by decide),λ Hf Sf=>?_⟩
 rw[sh41]
 have wof:=woe.same Sf
 have few60:=ok.few
 refine⟨_,rfl,_,rfl,n,ts,_,rfl,wof.1,few60,λ wl Hg Sg fg eg=>?_⟩
 refine⟨_,rfl,n,ts,d7 ts.length,_,.ref wl,t,rfl,⟨(wof.same Sg).1,ok,dF eg,fW _⟩,t1,t99,λ mp Hh Sh eh=>?_⟩
 have woh:=wof.same (Sg.trans Sh)
 have ph:=pe.same (Sf.trans (Sg.trans Sh))
 obtain⟨ms,ems⟩:∃ ms,ms=neededN ts (d7 ts.length) t:=⟨_,rfl⟩
 rw[← ems] at eh
 have lms:ms.length<=60:=by
  rw[ems]
  have:(neededN ts (d7 ts.length) t).length<=(d7 ts.length).length:=ucn _ _
  rw[j9] at this
  left
 have ntp:∀ {J:Hp}{a:j4}{xs:List V},Pot J l->J a=some (.tup xs)->a≠l:=λ pt h z=>by
  obtain⟨ys,e⟩:=pt.lst
  rw[z,e] at h;cases h
 refine⟨_,rfl,_,rfl,_,rfl,n,ts,_,l,t,rfl,woh,ph,t1,t99,λ k1 ks1 Hi bi pi e1 ko1 al1=>?_⟩
 have woi:=woh.but bi ph
 refine⟨_,rfl,_,rfl,_,rfl,n,ts,_,l,t,rfl,woi,pi,t1,t99,λ k2 ks2 Hj bj pj e2 ko2 al2=>?_⟩
 have woj:=woi.but bj pi
 have e1j:=bj _ _ (ntp pi e1) e1
 have ehj:=bj _ _ (ntp pi (bi _ _ (ntp ph eh) eh)) (bi _ _ (ntp ph eh) eh)
 refine⟨_,rfl,n,ts,_,rfl,woj.1,few60,λ wl2 Hk Sk fk ek=>?_⟩
 have wok:=woj.same Sk
 have B:But l H1 Hk:=b6.trans ((Same.but S69).trans (ba.trans ((Same.but Sac).trans (bd.trans (be.trans ((Same.but (Sf.trans (Sg.trans Sh))).trans (bi.trans (bj.trans (Same.but Sk)))))))))
 have tbk:Tb Pt (lamPosOf s_order_of) lamQ Hk:=(t0.same s1).but B ep1
 have tgk:Tb Pq (lam4Of s_ruled_behind).2.2.2 lamQB Hk:=(g0'.same s1).but B ep1
 have bHk:Bt2 Pt Pq H Hk:=λ b o z y e=>B _ _ (λ x=>by rw[x,fl0] at e;cases e) (s1 _ _ (b0 _ _ z y e))
 refine⟨_,rfl,_,rfl,n,ts,_,t,rfl,wok.1,ok,t1,t99,npq,tbk,tgk,λ p kp rp xs os Hm ord bm tbm tgm hp hkp hrp _ _=>?_⟩
 have wom:WO K Hm n ts (.ref w9):=by
  obtain⟨J1,c1,c2,e1',e2'⟩:=zak bm
  refine⟨fX c2 (lp:=(lam4Of s_ruled_behind).2.2.2) (qn:=lamQB) ?_ _ (eZ n ts) (fX c1 tbk _ (eZ n ts) wok.1),ok⟩
  exact jF tgk c1 tbk npq
 have tupm:∀ {a:j4}{xs:List V},Hk a=some (.tup xs)->Hm a=some (.tup xs):=λ {a xs} h=>bm _ _ (λ z=>by obtain⟨_,e,_⟩:=tbk;rw[z,e] at h;cases h) (λ z=>by obtain⟨_,e,_⟩:=tgk;rw[z,e] at h;cases h) h
 refine⟨p,_,_,_,rfl,rfl,SqT.of hp,rfl,(by show 4<=1000;decide),λ ll Hn Sn fn en=>?_⟩
 have kor:KeepOk ts.length (ruleN ts t [] os):=fA ⟨ucb,λ _ h=>(by cases h)⟩ λ k hk=>l9.mp (ord.1.mem_iff.mp hk)
 have alr:allIn ts (ruleN ts t [] os) t:=zD ok ord.1
 obtain⟨kss,ekss⟩:∃ kss,kss=[ks1,ks2,d7 ts.length,ruleN ts t [] os]:=⟨_,rfl⟩
 have tl:TL Hn [.ref k1,.ref k2,.ref wl2,.ref kp] kss:=by
  rw[ekss]
  refine⟨rfl,λ i' ks e=>?_⟩
  match i',e with
  | 0,e=>cases e;exact⟨k1,rfl,Sn _ _ (tupm (Sk _ _ e1j))⟩
  | 1,e=>cases e;exact⟨k2,rfl,Sn _ _ (tupm (Sk _ _ e2))⟩
  | 2,e=>cases e;exact⟨wl2,rfl,Sn _ _ (tupm ek)⟩
  | 3,e=>cases e;exact⟨kp,rfl,Sn _ _ hkp⟩
 have good:∀ ks∈kss,KeepOk ts.length ks/\allIn ts ks t:=λ ks hk=>by
  rw[ekss] at hk
  simp only [k8,w6,or_false] at hk
  rcases hk with rfl | rfl | rfl | rfl
  ·exact⟨ko1,al1⟩
  ·exact⟨ko2,al2⟩
  ·exact⟨fW _,mP ts t⟩
  ·exact⟨kor,alr⟩
 have mus:∀ ks,KeepOk ts.length ks->allIn ts ks t->∀ k∈ms,k∈ks:=λ ks ko al k hk=>zS ok ko al (by rw[ems] at hk;exact hk)
 have shx:∀ ks,KeepOk ts.length ks->allIn ts ks t->x<=(ks.length:Int):=λ ks ko al=>iR ok ko al 41 sh41 .nil (λ k h=>by cases h) (λ k h=>by cases h)
 have won:=wom.same Sn
 have emn:Hn mp=some (.tup (natV ms)):=Sn _ _ (tupm (Sk _ _ ehj))
 have fin:∀ {J},Same Hm J->Bt2 Pt Pq H J/\Tb Pt (lamPosOf s_order_of) lamQ J/\Tb Pq (lam4Of s_ruled_behind).2.2.2 lamQB J:=λ sJ=>⟨λ b o z y e=>sJ _ _ (bm _ _ z y (bHk _ _ z y e)),tbm.same sJ,tgm.same sJ⟩
 refine⟨_,rfl,rfl,_,rfl,iteF ?_⟩
 refine⟨_,rfl,_,rfl,_,rfl,_,rfl,_,rfl,n,ts,_,t,x,ll,mp,_,kss,ms,rfl,won,t1,t99,en,tl,λ ks hk=>⟨(good ks hk).1,(good ks hk).2,shx ks (good ks hk).1 (good ks hk).2,mus ks (good ks hk).1 (good ks hk).2⟩,emn,lms,λ Ho So=>⟨_,rfl,iteF ?_⟩⟩
 have woo:=won.same So
 have Smo:=Sn.trans So
 obtain⟨h0,h1,ws',ew,hh0,hh1,hall',hlw'⟩:=bC woo.1
 cases ew
 refine⟨_,rfl,w9,_,_,_,rfl,rfl,SqT.of hh0,rfl,h1,_,rfl,.inr (SqT.of hh1),_,_,rfl,rfl,_,rfl,?_⟩
 by_cases c8:ts.length<=8
 case neg=>exact iteFe (ufm (show ¬ ((ws'.length:Nat):Int)<=8 by left)) ⟨_,_,_,_,_,_,_,_,_,_,_,rfl,fin Smo⟩
 refine iteTe (ufk (show ((ws'.length:Nat):Int)<=8 by left)) ?_
 refine⟨_,rfl,_,rfl,n,ts,_,t,rfl,woo,t1,t99,by left,λ fp fk fv ks Hp' Sp ep ek' fs isv=>?_⟩
 have wop:=woo.same Sp
 have Smp:=Smo.trans Sp
 refine⟨fp,_,rfl,SqT.of ep,rfl,_,_,rfl,_,_,rfl,rfl,?_⟩
 obtain⟨t',et',t'1,t'9,tt⟩:∃ t',t'=(if t+1<99 then t+1 else 99)/\1<=t'/\t'<=99/\t<=t':=⟨_,rfl,by split <;> left,by split <;> left,by split <;> left⟩
 refine⟨_,rfl,_,rfl,_,_,rfl,rfl,_,_,rfl,?_⟩
 refine⟨n,ts,_,t',by rw[et'];rfl,wop,t'1,t'9,by left,λ fp2 fk2 fv2 ks' Hq Sq ep2 ek2 fs2 isv2=>?_⟩
 have woq:=wop.same Sq
 have Smq:=Smp.trans Sq
 refine⟨fp2,_,_,_,rfl,rfl,SqT.of ep2,rfl,fk2,_,rfl,.inr (SqT.of ek2),?_⟩
 rw[aV]
 have few:=fs2.least fs.ok.1 (zO ok tt fs.ok.2)
 have ekq:=Sq _ _ ek'
 have enq:Hq ll=some (.lst [.ref k1,.ref k2,.ref wl2,.ref kp]):=(So.trans (Sp.trans Sq)) _ _ en
 refine⟨_,rfl,_,rfl,_,rfl,_,rfl,(by show 1<=1000;decide),λ l9' Hr Sr fr er=>?_⟩
 refine⟨ll,l9',_,_,rfl,rfl,Sr _ _ enq,er,(by show 4+1<=1000;decide),λ lz Hs Ss fs' es=>?_⟩
 have Sqs:=Sr.trans Ss
 refine⟨_,rfl,fk,_,rfl,.inr (SqT.of (Sqs _ _ ekq)),_,rfl,?_⟩
 rw[aV]
 have tl2:TL Hs ([.ref k1,.ref k2,.ref wl2,.ref kp]++[.ref fk]) (kss++[ks]):=by
  refine TL.app (tl.tk λ a ys e=>(So.trans (Sp.trans (Sq.trans Sqs))) _ _ e) ⟨rfl,λ i' ws e=>?_⟩
  match i',e with
  | 0,e=>cases e;exact⟨fk,rfl,Sqs _ _ ekq⟩
 have good2:∀ ks'∈kss++[ks],KeepOk ts.length ks'/\allIn ts ks' t:=λ ks' hk=>by
  rcases m5.mp hk with z | z
  ·exact good ks' z
  ·rw[i5.mp z];exact fs.ok
 have Sns:=So.trans (Sp.trans (Sq.trans Sqs))
 refine⟨n,ts,_,t,(ks.length:Int),lz,mp,_,kss++[ks],ms,rfl,won.same Sns,t1,t99,es,tl2,λ ks' hk=>⟨(good2 ks' hk).1,(good2 ks' hk).2,by have:=fs.least (good2 ks' hk).1 (good2 ks' hk).2;left,mus ks' (good2 ks' hk).1 (good2 ks' hk).2⟩,Sns _ _ emn,lms,λ Ht St=>⟨_,rfl,iteF ?_⟩⟩
 have Snt:=Sns.trans St
 have ko0:KeepOk ts.length []:=⟨.nil,λ k h=>by cases h⟩
 obtain⟨y,ey,my,sy⟩:=iC ok t1 (many:=ks.length) (λ S so sa=>fs.least so sa) fs.ok.1.len 11 [] [] ko0 ko0 (λ k h=>by cases h) (by show ts.length+1<=0+0+11;left)
 have ye:=sy ks fs.ok.1 fs.ok.2 rfl (λ k h=>by cases h) (λ k h=>by cases h)
 have shy:=gE (m':=41) ey (by left)
 rw[ye] at shy
 refine⟨_,rfl,_,rfl,_,rfl,n,ts,_,fv,t,_,rfl,won.same Snt,t1,t99,Is.same (Sq.trans (Sqs.trans St)) _ isv,(jQ (many:=ks.length) ok t1 11 [] []).mono (by decide),λ Hu Su=>?_⟩
 rw[shy]
 have Squ:=Sqs.trans (St.trans Su)
 refine⟨_,rfl,fk,_,rfl,.inr (SqT.of (Squ _ _ ekq)),rfl,_,rfl,?_⟩
 rw[aV]
 refine iteFe (by rw[show decide (ov (some (ks.length:Int))=V.int ((ks.length:Nat):Int))=true from ufk rfl];rfl) ?_
 refine⟨_,rfl,fk,_,rfl,.inr (SqT.of (Squ _ _ ekq)),_,rfl,_,_,rfl,rfl,_,rfl,?_⟩
 rw[aV]
 have lx:=shx ks fs.ok.1 fs.ok.2
 refine iteFe (ufm (show ¬ ((ks.length:Nat):Int)<x by left)) ?_
 refine⟨_,rfl,_,rfl,fk,_,rfl,.inr (SqT.of (Squ _ _ ekq)),_,_,rfl,rfl,_,rfl,?_⟩
 rw[aV]
 refine iteFe (ufm (show ¬ ((ks'.length:Nat):Int)>((ks.length:Nat):Int) by left)) ⟨_,_,_,_,_,_,_,_,_,_,_,rfl,fin (Smq.trans Squ)⟩
end
end Me
namespace Me
open PySem PySem.Spec PyProof.Rows L2 L3
abbrev Bdq (x:Str)(st:ubm)(ps:List Str):Prop:=∀ (kV doc pm:c9)(an:Option j4)(cdv ct:c9)(us:List c9),us.length=ps.length->bindArgs (uau x x (defArgs st) (defBody st) (defScope st) .none kV doc pm an cdv ct) ⟨us,[]⟩=pure (ps.zip us)
theorem zbf {K:a8}{h:Heap}{mg:Str->Option c9}{x:Str}{st:ubm}{ps:List Str}{f:j4}{od an:Option j4}{sl:Array (Option c9)}{oc kV dc pm cd ct:c9}(X:K.In h)(G:h.Ns m7 mg)
  (b:∀ (kV doc pm:c9)(an:Option j4)(cdv ct:c9)(us:List c9),us.length=ps.length->bindArgs (uau x x (defArgs st) (defBody st) (defScope st) .none kV doc pm an cdv ct) ⟨us,[]⟩=pure (ps.zip us))
  (a:u7 K m7 x=some (some (.ref f))) (l:K.lookup f=some ⟨oc,od,.func (uau x x (defArgs st) (defBody st) (defScope st) .none kV dc pm an cd ct),sl⟩) (c:ubq K cd x=true) (k:ua3 K (.ref f)=true):DefOk K mg x st ps:=by
 have F:=jK (st:=st) l c k
 exact⟨f,_,F,F.binds b,ue3 X G a⟩
theorem dq {p:m3}{K:a8}{h:Heap}{mg:Str->Option c9}{x:Str}{st:ubm}{ps:List Str}(f c j u:Nat)(X:K.In h)(G:h.Ns m7 mg)
  (b:∀ (kV doc pm:c9)(an:Option j4)(cdv ct:c9)(us:List c9),us.length=ps.length->bindArgs (uau x x (defArgs st) (defBody st) (defScope st) .none kV doc pm an cdv ct) ⟨us,[]⟩=pure (ps.zip us))
  (a:u7 K m7 x=some (some (.ref f)):=by kernel_rfl) (l:K.lookup f=some ⟨.type "function",none,.func (uau x x (defArgs st) (defBody st) (defScope st) .none .none .none (Hx.mdV p ⟨0,0,0,j,u,0⟩) none (.ref c) .none),#[]⟩:=by kernel_rfl) (cc:ubq K (.ref c) x=true:=by kernel_rfl) (k:ua3 K (.ref f)=true:=by kernel_rfl):DefOk K mg x st ps:=zbf X G b a l cc k
theorem tT:Bdq "is_whole" s_is_whole ["thing"]:=by ac_rfl
theorem sL:Bdq "is_wholes" s_is_wholes ["thing"]:=by ac_rfl
theorem qS:Bdq "is_tuple_of" s_is_tuple_of ["thing","many"]:=by ac_rfl
theorem uV:Bdq "is_told" s_is_told ["thing","word","many"]:=by ac_rfl
theorem pL:Bdq "is_tie_number" s_is_tie_number ["web","thing"]:=by ac_rfl
theorem yF:Bdq "whole" s_whole ["web"]:=by ac_rfl
theorem qR:Bdq "tie_between" s_tie_between ["web","a","b"]:=by ac_rfl
theorem tR:Bdq "order_of" s_order_of ["web"]:=by ac_rfl
theorem rG:Bdq "ties_along" s_ties_along ["web","places"]:=by ac_rfl
theorem rE:Bdq "way_length" s_way_length ["web","way"]:=by ac_rfl
theorem qQ:Bdq "tie_weights" s_tie_weights ["web"]:=by ac_rfl
theorem sN:Bdq "cost_with" s_cost_with ["cost","length","weight"]:=by ac_rfl
theorem qB:Bdq "reached_from" s_reached_from ["web","keep","root"]:=by ac_rfl
theorem sM:Bdq "fars_from" s_fars_from ["web","keep","root"]:=by ac_rfl
theorem sD:Bdq "tree_from" s_tree_from ["web","keep","root"]:=by ac_rfl
theorem uU:Bdq "the_way" s_the_way ["web","keep","a","b"]:=by ac_rfl
theorem wK:Bdq "across" s_across ["web","tie","heights"]:=by ac_rfl
theorem qE:Bdq "heights_hold" s_heights_hold ["web","keep","heights"]:=by ac_rfl
theorem qF:Bdq "heights_from" s_heights_from ["web","keep","a","roof"]:=by ac_rfl
theorem rH:Bdq "need_times" s_need_times ["t"]:=by ac_rfl
theorem tS:Bdq "not_kept" s_not_kept ["web","keep"]:=by ac_rfl
theorem wH:Bdq "way_of" s_way_of ["web","keep","tie"]:=by ac_rfl
theorem sK:Bdq "is_within" s_is_within ["web","tie","t","way"]:=by ac_rfl
theorem rJ:Bdq "heights_of" s_heights_of ["web","keep","tie","t"]:=by ac_rfl
theorem pE:Bdq "heights_beyond" s_heights_beyond ["web","keep","tie","t","heights"]:=by ac_rfl
theorem rF:Bdq "times_told" s_times_told ["web","keep","t"]:=by ac_rfl
theorem tQ:Bdq "ringless" s_ringless ["web","ties"]:=by ac_rfl
theorem uS:Bdq "without" s_without ["keep","tie"]:=by ac_rfl
theorem yG:Bdq "spare" s_spare ["web","keep","tie"]:=by ac_rfl
theorem tP:Bdq "with_tie" s_with_tie ["keep","tie"]:=by ac_rfl
theorem sF:Bdq "reason_of" s_reason_of ["web","keep","tie","t"]:=by ac_rfl
theorem yI:Bdq "ruled" s_ruled ["keep","ties","word","reason_for"]:=by ac_rfl
theorem qA:Bdq "ruled_behind" s_ruled_behind ["web","keep","ties","t"]:=by ac_rfl
theorem sE:Bdq "ring_rule" s_ring_rule ["web","t"]:=by ac_rfl
theorem wI:Bdq "needed" s_needed ["web","keep","t"]:=by ac_rfl
theorem sI:Bdq "kept_show" s_kept_show ["web","kept"]:=by ac_rfl
theorem sG:Bdq "not_among" s_not_among ["web","out"]:=by ac_rfl
theorem tU:Bdq "far_show" s_far_show ["web","t","out","tie","heights"]:=by ac_rfl
theorem qD:Bdq "is_undecided" s_is_undecided ["web","kept","out","tie"]:=by ac_rfl
theorem yH:Bdq "shown" s_shown ["web","t","tree","kept","out"]:=by ac_rfl
theorem rK:Bdq "cases_show" s_cases_show ["web","t","tree"]:=by ac_rfl
theorem qC:Bdq "one_tie_more" s_one_tie_more ["web","keeps"]:=by ac_rfl
theorem qG:Bdq "first_fewest" s_first_fewest ["web","t"]:=by ac_rfl
theorem uT:Bdq "tree_of" s_tree_of ["web","t","many","kept","out"]:=by ac_rfl
theorem wJ:Bdq "fewest" s_fewest ["web","t"]:=by ac_rfl
theorem tW:Bdq "_law_pot" s__law_pot ["script","k"]:=by ac_rfl
theorem sQ:Bdq "_law_take" s__law_take ["pot","many"]:=by ac_rfl
theorem qT:Bdq "_law_length" s__law_length ["pot","way"]:=by ac_rfl
theorem sP:Bdq "_law_tied" s__law_tied ["pot","n","style","a","b"]:=by ac_rfl
theorem rM:Bdq "_law_order" s__law_order ["pot","many"]:=by ac_rfl
theorem tV:Bdq "_law_web" s__law_web ["pot","most"]:=by ac_rfl
theorem sS:Bdq "_law_fars" s__law_fars ["web","keep","start"]:=by ac_rfl
theorem sR:Bdq "_law_rest" s__law_rest ["web","left"]:=by ac_rfl
theorem pM:Bdq "_law_far_leaf" s__law_far_leaf ["web","t","left","tie"]:=by ac_rfl
theorem sO:Bdq "_law_tree" s__law_tree ["pot","web","t","kept","left","deep"]:=by ac_rfl
theorem rL:Bdq "_law_times" s__law_times ["pot"]:=by ac_rfl
theorem qH:Bdq "_law_is_near" s__law_is_near ["web","keep","t"]:=by ac_rfl
theorem rO:Bdq "_law_grown" s__law_grown ["pot","web","t"]:=by ac_rfl
theorem pC:Bdq "_law_none_fewer" s__law_none_fewer ["web","t","keeps","shown_v","must"]:=by ac_rfl
theorem zW {P:m3}{w:uac}{K:a8}{mg:Str->Option c9}{base:Heap}{f:j4}{fd:ubf}{cT pT cB pB:j4}(T:Bi mg)(D_order_of:DefOkC K mg "order_of" s_order_of ["web"] cT)(lT:LamHd mg base cT pT)(D_ruled_behind:DefOkC K mg "ruled_behind" s_ruled_behind ["web","keep","ties","t"] cB)(lB:LamHd mg base cB pB)
  (D_is_whole:DefOk K mg "is_whole" s_is_whole ["thing"])
  (D_is_wholes:DefOk K mg "is_wholes" s_is_wholes ["thing"])
  (D_is_tuple_of:DefOk K mg "is_tuple_of" s_is_tuple_of ["thing","many"])
  (D_is_told:DefOk K mg "is_told" s_is_told ["thing","word","many"])
  (D_is_tie_number:DefOk K mg "is_tie_number" s_is_tie_number ["web","thing"])
  (D_whole:DefOk K mg "whole" s_whole ["web"])
  (D_tie_between:DefOk K mg "tie_between" s_tie_between ["web","a","b"])
  (D_ties_along:DefOk K mg "ties_along" s_ties_along ["web","places"])
  (D_way_length:DefOk K mg "way_length" s_way_length ["web","way"])
  (D_tie_weights:DefOk K mg "tie_weights" s_tie_weights ["web"])
  (D_cost_with:DefOk K mg "cost_with" s_cost_with ["cost","length","weight"])
  (D_reached_from:DefOk K mg "reached_from" s_reached_from ["web","keep","root"])
  (D_fars_from:DefOk K mg "fars_from" s_fars_from ["web","keep","root"])
  (D_tree_from:DefOk K mg "tree_from" s_tree_from ["web","keep","root"])
  (D_the_way:DefOk K mg "the_way" s_the_way ["web","keep","a","b"])
  (D_across:DefOk K mg "across" s_across ["web","tie","heights"])
  (D_heights_hold:DefOk K mg "heights_hold" s_heights_hold ["web","keep","heights"])
  (D_heights_from:DefOk K mg "heights_from" s_heights_from ["web","keep","a","roof"])
  (D_need_times:DefOk K mg "need_times" s_need_times ["t"])
  (D_not_kept:DefOk K mg "not_kept" s_not_kept ["web","keep"])
  (D_way_of:DefOk K mg "way_of" s_way_of ["web","keep","tie"])
  (D_is_within:DefOk K mg "is_within" s_is_within ["web","tie","t","way"])
  (D_heights_of:DefOk K mg "heights_of" s_heights_of ["web","keep","tie","t"])
  (D_heights_beyond:DefOk K mg "heights_beyond" s_heights_beyond ["web","keep","tie","t","heights"])
  (D_times_told:DefOk K mg "times_told" s_times_told ["web","keep","t"])
  (D_ringless:DefOk K mg "ringless" s_ringless ["web","ties"])
  (D_without:DefOk K mg "without" s_without ["keep","tie"])
  (D_spare:DefOk K mg "spare" s_spare ["web","keep","tie"])
  (D_with_tie:DefOk K mg "with_tie" s_with_tie ["keep","tie"])
  (D_reason_of:DefOk K mg "reason_of" s_reason_of ["web","keep","tie","t"])
  (D_ruled:DefOk K mg "ruled" s_ruled ["keep","ties","word","reason_for"])
  (D_ring_rule:DefOk K mg "ring_rule" s_ring_rule ["web","t"])
  (D_needed:DefOk K mg "needed" s_needed ["web","keep","t"])
  (D_kept_show:DefOk K mg "kept_show" s_kept_show ["web","kept"])
  (D_not_among:DefOk K mg "not_among" s_not_among ["web","out"])
  (D_far_show:DefOk K mg "far_show" s_far_show ["web","t","out","tie","heights"])
  (D_is_undecided:DefOk K mg "is_undecided" s_is_undecided ["web","kept","out","tie"])
  (D_shown:DefOk K mg "shown" s_shown ["web","t","tree","kept","out"])
  (D_cases_show:DefOk K mg "cases_show" s_cases_show ["web","t","tree"])
  (D_one_tie_more:DefOk K mg "one_tie_more" s_one_tie_more ["web","keeps"])
  (D_first_fewest:DefOk K mg "first_fewest" s_first_fewest ["web","t"])
  (D_tree_of:DefOk K mg "tree_of" s_tree_of ["web","t","many","kept","out"])
  (D_fewest:DefOk K mg "fewest" s_fewest ["web","t"])
  (D__law_pot:DefOk K mg "_law_pot" s__law_pot ["script","k"])
  (D__law_take:DefOk K mg "_law_take" s__law_take ["pot","many"])
  (D__law_length:DefOk K mg "_law_length" s__law_length ["pot","way"])
  (D__law_tied:DefOk K mg "_law_tied" s__law_tied ["pot","n","style","a","b"])
  (D__law_order:DefOk K mg "_law_order" s__law_order ["pot","many"])
  (D__law_web:DefOk K mg "_law_web" s__law_web ["pot","most"])
  (D__law_fars:DefOk K mg "_law_fars" s__law_fars ["web","keep","start"])
  (D__law_rest:DefOk K mg "_law_rest" s__law_rest ["web","left"])
  (D__law_far_leaf:DefOk K mg "_law_far_leaf" s__law_far_leaf ["web","t","left","tie"])
  (D__law_tree:DefOk K mg "_law_tree" s__law_tree ["pot","web","t","kept","left","deep"])
  (D__law_times:DefOk K mg "_law_times" s__law_times ["pot"])
  (D__law_is_near:DefOk K mg "_law_is_near" s__law_is_near ["web","keep","t"])
  (D__law_grown:DefOk K mg "_law_grown" s__law_grown ["pot","web","t"])
  (D__law_none_fewer:DefOk K mg "_law_none_fewer" s__law_none_fewer ["web","t","keeps","shown_v","must"])
  (F:Fun K "law" "law" s_law f fd):FnOk P w K mg base CX0 50 f fd ["script"] (spLaw K pT pB):=by
 have O__law_take:=rZ (P:=P) (w:=w) (base:=base) T D__law_take
 have O__law_pot:=tL (P:=P) (w:=w) (base:=base) T D__law_pot
 have O__law_length:=qK T D__law_length O__law_take
 have O__law_tied:=rY T D__law_tied O__law_take
 have O__law_order:=rA T D__law_order O__law_take
 have O__law_web:=tK T D__law_web (O__law_take.mono (by decide)) O__law_order O__law_tied O__law_length
 have O_tie_weights:=qI (P:=P) (w:=w) (base:=base) T D_tie_weights
 have O_cost_with:=rX (P:=P) (w:=w) (base:=base) T D_cost_with
 have O_reached_fromC:=pF T D_reached_from O_tie_weights O_cost_with
 have O_reached_from:‹2› "reached_from" ["web","keep","root"] (spReached K):=O_reached_fromC.imp vE
 have O_reached_fromB:‹2› "reached_from" ["web","keep","root"] (spReachedB K):=O_reached_fromC.imp vF
 have O_fars_from:=rW T D_fars_from O_reached_from
 have O_heights_from:=pU T D_heights_from O_fars_from
 have O_tree_from:=qW T D_tree_from O_reached_fromB
 have O_the_wayB:=tD T D_the_way O_tree_from
 have O_the_way:‹4› "the_way" ["web","keep","a","b"] (spWayM K):=O_the_wayB.imp zbk
 have O_tie_between:=qJ (P:=P) (w:=w) (base:=base) T D_tie_between
 have O_ties_along:=qX T D_ties_along O_tie_between
 have O_way_length:=qV T D_way_length O_ties_along
 have O_is_whole:=tH (P:=P) (w:=w) (base:=base) T D_is_whole
 have O_need_times:=qY T D_need_times O_is_whole
 have O_is_within:=rT T D_is_within O_way_length
 have O_whole:=xJ (P:=P) (w:=w) (base:=base) T D_whole
 have O_not_kept:=tG T D_not_kept O_whole
 have O_way_of:=sZ T D_way_of O_the_way
 have O_heights_of:=pS T D_heights_of O_heights_from
 have O_times_told:=pN T D_times_told (O_need_times.mono (by decide)) (O_not_kept.mono (by decide)) O_way_of (O_is_within.mono (by decide)) O_heights_of
 have O_ringless:=tE (P:=P) (w:=w) (base:=base) T D_ringless
 have O_with_tie:=sY (P:=P) (w:=w) (base:=base) T D_with_tie
 have O_kept_show:=rS T D_kept_show O_whole O_ringless
 have O_not_among:=rR T D_not_among O_whole
 have O_one_tie_more:=pP T D_one_tie_more O_whole
 have O_first_fewest:=pV T D_first_fewest (O_times_told.mono (by decide)) (O_one_tie_more.mono (by decide))
 have O_tree_of:=kN (j:=7) T D_tree_of (O_kept_show.mono (by decide)) (O_times_told.mono (by decide)) (O_not_among.mono (by decide)) (O_with_tie.mono (by decide)) 11
 have O_fewest:=vK (j:=19) T D_fewest (O_need_times.mono (by decide)) (O_first_fewest.mono (by decide)) O_tree_of
 have O_is_wholes:=rV T D_is_wholes O_is_whole
 have O_is_tuple_of:=pR (P:=P) (w:=w) (base:=base) T D_is_tuple_of
 have O_is_told:=tI T D_is_told O_is_tuple_of
 have O_is_tie_number:=pG T D_is_tie_number O_is_whole
 have O_across:=vL (P:=P) (w:=w) (base:=base) T D_across
 have O_heights_hold:=pH T D_heights_hold O_is_wholes (O_across.mono (by decide))
 have O_heights_beyond:=oZ T D_heights_beyond O_heights_hold (O_across.mono (by decide))
 have O_far_show:=tJ T D_far_show (O_is_tie_number.mono (by decide)) (O_not_among.mono (by decide)) O_heights_beyond
 have O_is_undecided:=pQ T D_is_undecided O_is_tie_number
 have O_shown:=mN (j:=5) T D_shown (O_is_told.mono (by decide)) (O_kept_show.mono (by decide)) O_far_show (O_is_undecided.mono (by decide)) (O_with_tie.mono (by decide)) 40
 have O_cases_show:=qZ (j:=46) T D_cases_show (O_need_times.mono (by decide)) O_shown
 have O_order_of:=tF T D_order_of lT (O_whole.mono (by decide))
 have O_reason_of:=rQ T D_reason_of (O_way_of.imp wS) (O_is_within.mono (by decide)) (O_heights_of.imp zbd)
 have O_ruled_behind:=pO T D_ruled_behind lB D_ruled (O_with_tie.mono (by decide)) O_reason_of
 have O_ring_rule:=rP T D_ring_rule (O_need_times.mono (by decide)) (O_order_of.mono (by decide)) O_ruled_behind
 have O_without:=uE (P:=P) (w:=w) (base:=base) T D_without
 have O_spare:=xK T D_spare (O_without.mono (by decide)) (O_the_way.imp yQ)
 have O_needed:=vJ T D_needed (O_need_times.mono (by decide)) (O_is_within.mono (by decide)) O_spare
 have O__law_rest:=sA (P:=P) (w:=w) (base:=base) T D__law_rest
 have O__law_fars:=rC (P:=P) (w:=w) (base:=base) T D__law_fars
 have O__law_far_leaf:=pI T D__law_far_leaf O__law_rest O__law_fars
 have O__law_tree:=jY (j:=2) T D__law_tree (O__law_take.mono (by decide)) (O__law_rest.mono (by decide)) O__law_far_leaf 5
 have O__law_times:=pW T D__law_times O__law_take
 have O__law_is_near:=pX T D__law_is_near O_times_told
 have O__law_grown:=pY T D__law_grown (O__law_order.mono (by decide)) O__law_is_near
 have O__law_none_fewer:=pA T D__law_none_fewer O__law_is_near
 exact za7 T F (O__law_pot.mono (by decide)) (O__law_web.mono (by decide)) (O__law_take.mono (by decide)) (O__law_times.mono (by decide)) (O__law_tree.mono (by decide)) (O_cases_show.mono (by decide)) (O_whole.mono (by decide)) (O_needed.mono (by decide)) (O__law_grown.mono (by decide)) (O_ring_rule.mono (by decide)) (O__law_none_fewer.mono (by decide)) (O_fewest.mono (by decide))
theorem dqC {p:m3}{K:a8}{h:Heap}{mg:Str->Option c9}{x:Str}{st:ubm}{ps:List Str}{cT pT:j4}(f c j u:Nat)(X:K.In h)(G:h.Ns m7 mg)
  (b:∀ (kV doc pm:c9)(an:Option j4)(cdv ct:c9)(us:List c9),us.length=ps.length->bindArgs (uau x x (defArgs st) (defBody st) (defScope st) .none kV doc pm an cdv ct) ⟨us,[]⟩=pure (ps.zip us))
  (a:u7 K m7 x=some (some (.ref f))) (l:K.lookup f=some ⟨.type "function",none,.func (uau x x (defArgs st) (defBody st) (defScope st) .none .none .none (Hx.mdV p ⟨0,0,0,j,u,0⟩) none (.ref c) .none),#[]⟩) (cc:ubq K (.ref c) x=true) (k:ua3 K (.ref f)=true) (t:uaz K x=some (cT,pT)):DefOkC K mg x st ps cT:=zae X G b a l cc k t
theorem walk {l:PySem.W.OpenLaw}{q:m3}{loose:List Str}{XP:(Str->Option c9)->Heap->Prop}{YP:uac->Heap->Prop}{d dT dB:DefRec}{K:Params->a8}(hn:l.most=some 63)(hdf:d.params.defaults=[])
  (hY:∀ (w:uac)(h:Heap),YP w h->(K w.params).In h) (hrec1:(recsOf q).find? (λ e=>e.name==u5 "order_of")=some dT) (hrec2:(recsOf q).find? (λ e=>e.name==u5 "ruled_behind")=some dB)
  (htab:∀ w:uac,∃ c1 p1 c2 p2,uaz (K w.params) "order_of"=some (c1,p1)/\uaz (K w.params) "ruled_behind"=some (c2,p2)/\p2≠p1) (hnt:∀ w:uac,ueu (K w.params)=true)
  (F:∀ (w:uac)(mg:Str->Option c9)(fa:j4)(h:Heap)(c1 p1 c2 p2:j4),(K w.params).In h->h.Ns m7 mg->mg d.name=some (.ref fa)->uaz (K w.params) "order_of"=some (c1,p1)->uaz (K w.params) "ruled_behind"=some (c2,p2) ->
   ∃ fd:ubf,(∀ (s:d6)(u:c9),BindsTo s fd ⟨[u],[]⟩ [("script",u)])/\∀ base:Heap,(K w.params).In base->base.Ns m7 mg->LamHd mg base c1 p1->LamHd mg base c2 p2->FnOk l.prog w (K w.params) mg base CX0 50 fa fd ["script"] (spLaw (K w.params) p1 p2)) :
  PySem.W.WalkO q loose XP YP l.row.toRowW d [] (λ f vs=>PySem.call f vs) :=
 wT (n:=63) (k:=50) (x:="script") (x1:="order_of") (x2:="ruled_behind") (sp:=λ w p1 p2=>spLaw (K w.params) p1 p2) hn (by decide) hdf ⟨rfl,by decide,by decide,rfl⟩ hY hrec1 hrec2 htab hnt F λ _ _ _ _ a ns ne hl hS hP hR=>⟨a,ns,rfl,hS,hl,ne,⟨#[],hP,.inl rfl⟩,⟨#[],hR,.inl rfl⟩,λ _=>rfl⟩
end Me
namespace Hy
open PySem PySem.W Hx
def cs:List Ch:=[⟨0,15,187,0,187,0⟩,⟨1,15,189,0,187,0⟩,⟨2,22,196,0,187,0⟩,⟨3,27,202,0,187,0⟩,⟨4,34,210,0,187,0⟩,⟨5,41,219,5,219,0⟩,⟨6,41,221,5,219,0⟩,⟨7,54,239,5,219,50⟩,⟨8,66,255,5,219,50⟩,⟨9,78,271,9,271,0⟩,⟨10,78,273,9,271,0⟩,⟨11,85,281,9,271,0⟩,⟨12,92,288,9,271,0⟩,⟨13,99,300,9,271,0⟩,⟨14,106,308,14,308,0⟩,⟨15,106,310,14,308,0⟩,⟨16,111,316,14,308,0⟩,⟨17,116,322,14,308,0⟩,⟨18,123,332,14,308,0⟩,⟨19,130,341,14,308,0⟩,⟨20,137,361,14,308,0⟩,⟨21,142,367,14,308,0⟩,⟨22,149,378,14,308,0⟩,⟨23,156,390,23,390,0⟩,⟨24,156,392,23,390,0⟩,⟨25,163,404,23,390,0⟩,⟨26,168,410,23,390,0⟩,⟨27,173,416,27,416,0⟩,⟨28,173,418,27,416,0⟩,⟨29,180,425,27,416,0⟩,⟨30,185,431,27,416,0⟩,⟨31,192,443,27,416,0⟩,⟨32,199,453,27,416,0⟩,⟨33,206,466,27,416,0⟩,⟨34,213,477,27,416,0⟩,⟨35,220,489,35,489,0⟩,⟨36,220,491,35,489,0⟩,⟨37,225,497,37,497,0⟩,⟨38,225,499,37,497,0⟩,⟨39,230,505,37,497,0⟩,⟨40,237,517,40,517,0⟩,⟨41,237,519,40,517,0⟩,⟨42,244,527,40,517,0⟩,⟨43,251,538,40,517,0⟩,⟨44,258,551,40,517,0⟩,⟨45,265,563,40,517,0⟩,⟨46,272,571,40,517,0⟩,⟨47,277,577,47,577,0⟩,⟨48,277,579,47,577,0⟩,⟨49,284,587,47,577,0⟩,⟨50,289,593,47,577,0⟩,⟨51,296,604,47,577,0⟩,⟨52,303,614,47,577,0⟩,⟨53,310,627,47,577,0⟩,⟨54,317,636,54,636,0⟩,⟨55,317,638,54,636,0⟩,⟨56,322,644,54,636,0⟩,⟨57,329,654,54,636,0⟩,⟨58,336,668,54,636,0⟩,⟨59,343,677,59,677,0⟩,⟨60,343,679,59,677,0⟩,⟨61,350,689,59,677,0⟩,⟨62,357,698,59,677,0⟩,⟨63,364,706,59,677,0⟩,⟨64,371,718,59,677,0⟩,⟨65,378,729,59,677,0⟩,⟨66,385,746,59,677,0⟩,⟨67,392,764,59,677,0⟩,⟨68,397,770,59,677,0⟩,⟨69,402,776,59,677,0⟩,⟨70,407,782,59,677,0⟩,⟨71,414,789,59,677,0⟩,⟨72,421,798,59,677,0⟩,⟨73,428,809,59,677,0⟩,⟨74,433,815,59,677,0⟩]
end Hy
lay_quick Hx.PieceT Hx.PreT Hx.BlockT Hx.LookA Hx.LookB Hx.LookC PySem.Challenge.pw_thinways_k44_whole_none_has_fewer
namespace Hy
open PySem PySem.W Hx
theorem pre:PreT a7 boots boot_drawn boot_heap boot_toks cs ⟨0,15,187⟩:=by
 rw[PySem.W.Fast.te16428918119715843241,PySem.W.Fast.te13209437331581618598];delta PySem.W.Fast.tw16428918119715843241;intro w;kernel_rfl
theorem pc0:PieceT a7 boots boot_drawn cs ⟨0,15,187⟩ ⟨7,54,239⟩ 321:=by
 rw[PySem.W.Fast.te4643275101561185336,PySem.W.Fast.te13209437331581618598];delta PySem.W.Fast.tw4643275101561185336;intro w;kernel_rfl
theorem pc1:PieceT a7 boots boot_drawn cs ⟨7,54,239⟩ ⟨8,66,255⟩ 214:=by
 rw[PySem.W.Fast.te4643275101561185336,PySem.W.Fast.te13209437331581618598];delta PySem.W.Fast.tw4643275101561185336;intro w;kernel_rfl
theorem pc2:PieceT a7 boots boot_drawn cs ⟨8,66,255⟩ ⟨16,111,316⟩ 381:=by
 rw[PySem.W.Fast.te4643275101561185336,PySem.W.Fast.te13209437331581618598];delta PySem.W.Fast.tw4643275101561185336;intro w;kernel_rfl
theorem pc3:PieceT a7 boots boot_drawn cs ⟨16,111,316⟩ ⟨30,185,431⟩ 384:=by
 rw[PySem.W.Fast.te4643275101561185336,PySem.W.Fast.te13209437331581618598];delta PySem.W.Fast.tw4643275101561185336;intro w;kernel_rfl
theorem pc4:PieceT a7 boots boot_drawn cs ⟨30,185,431⟩ ⟨44,258,551⟩ 380:=by
 rw[PySem.W.Fast.te4643275101561185336,PySem.W.Fast.te13209437331581618598];delta PySem.W.Fast.tw4643275101561185336;intro w;kernel_rfl
theorem pc5:PieceT a7 boots boot_drawn cs ⟨44,258,551⟩ ⟨58,336,668⟩ 390:=by
 rw[PySem.W.Fast.te4643275101561185336,PySem.W.Fast.te13209437331581618598];delta PySem.W.Fast.tw4643275101561185336;intro w;kernel_rfl
theorem pc6:PieceT a7 boots boot_drawn cs ⟨58,336,668⟩ ⟨71,414,789⟩ 387:=by
 rw[PySem.W.Fast.te4643275101561185336,PySem.W.Fast.te13209437331581618598];delta PySem.W.Fast.tw4643275101561185336;intro w;kernel_rfl
theorem pc7:PieceT a7 boots boot_drawn cs ⟨71,414,789⟩ ⟨75,440,833⟩ 131:=by
 rw[PySem.W.Fast.te4643275101561185336,PySem.W.Fast.te13209437331581618598];delta PySem.W.Fast.tw4643275101561185336;intro w;kernel_rfl
theorem blk:BlockT a7 :=by
 rw[PySem.W.Fast.te421534021395069552,PySem.W.Fast.te13209437331581618598];delta PySem.W.Fast.tw421534021395069552;intro w s;kernel_rfl
theorem run (w:uac)(os:OsState):topRun treeTable a7 w 11 ann0 (12+(1+(321+(214+(381+(384+(380+(390+(387+(131+2)))))))))) ⟨boot_heap w.params,ude [],boot_drawn,boot_toks,os⟩ (topStub a7)=some (stT a7 boots boot_drawn cs ⟨75,440,833⟩ w os).abs:=zC pre blk (chain pc0 (by decide) (chain pc1 (by decide) (chain pc2 (by decide) (chain pc3 (by decide) (chain pc4 (by decide) (chain pc5 (by decide) (chain pc6 (by decide) (chain pc7 (by decide) (wD (by kernel_rfl))))))))))
theorem size (w:uac):((boot_heap w.params).isNs m7&&(ude []:Array GenState).size==0,(boot_heap w.params).objs.size,(boot_heap w.params).nsMap m7 "__annotations__")=(true,11,ann0):=by kernel_rfl
theorem lkA:LookA a7 boots boot_drawn boot_heap cs ⟨75,440,833⟩:=by
 rw[PySem.W.Fast.te7818774390570169022,PySem.W.Fast.te13209437331581618598];delta PySem.W.Fast.tw7818774390570169022;intro w;kernel_rfl
theorem lkB:LookB a7 boots boot_drawn cs ⟨75,440,833⟩ [13,44,74] (OpenRow.toRowW (m8).row).records:=by
 rw[PySem.W.Fast.te13889730532244352606,PySem.W.Fast.te13209437331581618598];delta PySem.W.Fast.tw13889730532244352606;intro w;kernel_rfl
theorem lkC:LookC a7 boots cs ⟨75,440,833⟩ [3,20,21,25,26,32,33,39,40,49,50,62,63,74,75,83,84,90,91,97,98,104,105,109,110,114,115,121,122,128,129,135,136,140,141,147,148,154,155,161,162,166,167,171,172,178,179,183,184,190,191,197,198,204,205,211,212,218,219,223,224,228,229,235,236,242,243,249,250,256,257,263,264,270,271,275,276,282,283,287,288,294,295,301,302,308,309,315,316,320,321,327,328,334,335,341,342,348,349,355,356,362,363,369,370,376,377,383,384,390,391,395,396,400,401,405,406,412,413,419,420,426,427,431,432,438,439]:=by
 rw[PySem.W.Fast.te6241646928739474683,PySem.W.Fast.te13209437331581618598];delta PySem.W.Fast.tw6241646928739474683;intro w;kernel_rfl
noncomputable abbrev K:=Kf a7 boots cs
theorem Kas (P:Params):[3,20,21,25,26,32,33,39,40,49,50,62,63,74,75,83,84,90,91,97,98,104,105,109,110,114,115,121,122,128,129,135,136,140,141,147,148,154,155,161,162,166,167,171,172,178,179,183,184,190,191,197,198,204,205,211,212,218,219,223,224,228,229,235,236,242,243,249,250,256,257,263,264,270,271,275,276,282,283,287,288,294,295,301,302,308,309,315,316,320,321,327,328,334,335,341,342,348,349,355,356,362,363,369,370,376,377,383,384,390,391,395,396,400,401,405,406,412,413,419,420,426,427,431,432,438,439]=(K P).map (·.1):=by kernel_rfl
noncomputable abbrev H:Hook:=kHook K [3,20,21,25,26,32,33,39,40,49,50,62,63,74,75,83,84,90,91,97,98,104,105,109,110,114,115,121,122,128,129,135,136,140,141,147,148,154,155,161,162,166,167,171,172,178,179,183,184,190,191,197,198,204,205,211,212,218,219,223,224,228,229,235,236,242,243,249,250,256,257,263,264,270,271,275,276,282,283,287,288,294,295,301,302,308,309,315,316,320,321,327,328,334,335,341,342,348,349,355,356,362,363,369,370,376,377,383,384,390,391,395,396,400,401,405,406,412,413,419,420,426,427,431,432,438,439] Kas
theorem opn:opening a7=plainProg (a7).main.scope.names:=by kernel_rfl
theorem fnc (s:d6):fenceModules? a7 s=some s:=by kernel_rfl
theorem left:LeftO a7 (qv a7 [13,44,74]) (lz a7 [13,44,74] 75) (λ s=>xlAt (qv a7 [13,44,74]) [] s&&recOk (OpenRow.toRowW (m8).row).records s) (Hook.obs H) (Hook.val H) 5806 :=
 zV (p:=a7) (cs:=cs) (is:=[13,44,74]) (as:=[3,20,21,25,26,32,33,39,40,49,50,62,63,74,75,83,84,90,91,97,98,104,105,109,110,114,115,121,122,128,129,135,136,140,141,147,148,154,155,161,162,166,167,171,172,178,179,183,184,190,191,197,198,204,205,211,212,218,219,223,224,228,229,235,236,242,243,249,250,256,257,263,264,270,271,275,276,282,283,287,288,294,295,301,302,308,309,315,316,320,321,327,328,334,335,341,342,348,349,355,356,362,363,369,370,376,377,383,384,390,391,395,396,400,401,405,406,412,413,419,420,426,427,431,432,438,439]) (rc:=(OpenRow.toRowW (m8).row).records) (c:=⟨75,440,833⟩) (M:=12+(1+(321+(214+(381+(384+(380+(390+(387+(131+2)))))))))) (N:=5806) (e:=Kas) opn (by decide) fnc size run (by decide) lkA lkB lkC
end Hy
namespace Hy
open PySem PySem.W PyProof.Rows L2 L3 Hx Me
theorem all {w:uac}{h:Heap}{mg:Str->Option c9}{fa:j4}{c0 p0:j4}{c1 p1:j4}(X:(K w.params).In h)(G:h.Ns m7 mg)(hfa:mg "law"=some (.ref fa))(t0:uaz (K w.params) "order_of"=some (c0,p0))(t1:uaz (K w.params) "ruled_behind"=some (c1,p1)) :
  ∃ fd:ubf,(∀ (s:d6)(v:c9),BindsTo s fd ⟨[v],[]⟩ [("script",v)])/\∀ base:Heap,(K w.params).In base->base.Ns m7 mg->LamHd mg base c0 p0->LamHd mg base c1 p1->FnOk (m8).prog w (K w.params) mg base CX0 50 fa fd ["script"] (spLaw (K w.params) p0 p1):=by
 have T:Bi mg:=⟨p7 X G (show u7 (K w.params) m7 "len"=some none by kernel_rfl),p7 X G (show u7 (K w.params) m7 "range"=some none by kernel_rfl),p7 X G (show u7 (K w.params) m7 "zip"=some none by kernel_rfl),p7 X G (show u7 (K w.params) m7 "all"=some none by kernel_rfl),p7 X G (show u7 (K w.params) m7 "sorted"=some none by kernel_rfl),p7 X G (show u7 (K w.params) m7 "isinstance"=some none by kernel_rfl),p7 X G (show u7 (K w.params) m7 "min"=some none by kernel_rfl),p7 X G (show u7 (K w.params) m7 "max"=some none by kernel_rfl),p7 X G (show u7 (K w.params) m7 "tuple"=some none by kernel_rfl),p7 X G (show u7 (K w.params) m7 "list"=some none by kernel_rfl),p7 X G (show u7 (K w.params) m7 "int"=some none by kernel_rfl),p7 X G (show u7 (K w.params) m7 "bool"=some none by kernel_rfl),p7 X G (show u7 (K w.params) m7 "str"=some none by kernel_rfl),p7 X G (show u7 (K w.params) m7 "enumerate"=some none by kernel_rfl),p7 X G (show u7 (K w.params) m7 "sum"=some none by kernel_rfl),p7 X G (show u7 (K w.params) m7 "abs"=some none by kernel_rfl),p7 X G (show u7 (K w.params) m7 "set"=some none by kernel_rfl),p7 X G (show u7 (K w.params) m7 "reversed"=some none by kernel_rfl),p7 X G (show u7 (K w.params) m7 "any"=some none by kernel_rfl),p7 X G (show u7 (K w.params) m7 "repr"=some none by kernel_rfl),p7 X G (show u7 (K w.params) m7 "dict"=some none by kernel_rfl)⟩
 have D_is_whole:=dq (p:=a7) (ps:=["thing"]) 21 20 0 187 X G tT
 have D_is_wholes:=dq (p:=a7) (ps:=["thing"]) 26 25 0 187 X G sL
 have D_is_tuple_of:=dq (p:=a7) (ps:=["thing","many"]) 33 32 0 187 X G qS
 have D_is_told:=dq (p:=a7) (ps:=["thing","word","many"]) 40 39 0 187 X G uV
 have D_is_tie_number:=dq (p:=a7) (ps:=["web","thing"]) 84 83 9 271 X G pL
 have D_whole:=dq (p:=a7) (ps:=["web"]) 91 90 9 271 X G yF
 have D_tie_between:=dq (p:=a7) (ps:=["web","a","b"]) 98 97 9 271 X G qR
 have D_order_of:=dqC (p:=a7) (ps:=["web"]) 105 104 9 271 X G tR (by kernel_rfl) (by kernel_rfl) (by kernel_rfl) (by kernel_rfl) t0
 have D_ties_along:=dq (p:=a7) (ps:=["web","places"]) 110 109 14 308 X G rG
 have D_way_length:=dq (p:=a7) (ps:=["web","way"]) 115 114 14 308 X G rE
 have D_tie_weights:=dq (p:=a7) (ps:=["web"]) 122 121 14 308 X G qQ
 have D_cost_with:=dq (p:=a7) (ps:=["cost","length","weight"]) 129 128 14 308 X G sN
 have D_reached_from:=dq (p:=a7) (ps:=["web","keep","root"]) 136 135 14 308 X G qB
 have D_fars_from:=dq (p:=a7) (ps:=["web","keep","root"]) 141 140 14 308 X G sM
 have D_tree_from:=dq (p:=a7) (ps:=["web","keep","root"]) 148 147 14 308 X G sD
 have D_the_way:=dq (p:=a7) (ps:=["web","keep","a","b"]) 155 154 14 308 X G uU
 have D_across:=dq (p:=a7) (ps:=["web","tie","heights"]) 162 161 23 390 X G wK
 have D_heights_hold:=dq (p:=a7) (ps:=["web","keep","heights"]) 167 166 23 390 X G qE
 have D_heights_from:=dq (p:=a7) (ps:=["web","keep","a","roof"]) 172 171 23 390 X G qF
 have D_need_times:=dq (p:=a7) (ps:=["t"]) 179 178 27 416 X G rH
 have D_not_kept:=dq (p:=a7) (ps:=["web","keep"]) 184 183 27 416 X G tS
 have D_way_of:=dq (p:=a7) (ps:=["web","keep","tie"]) 191 190 27 416 X G wH
 have D_is_within:=dq (p:=a7) (ps:=["web","tie","t","way"]) 198 197 27 416 X G sK
 have D_heights_of:=dq (p:=a7) (ps:=["web","keep","tie","t"]) 205 204 27 416 X G rJ
 have D_heights_beyond:=dq (p:=a7) (ps:=["web","keep","tie","t","heights"]) 212 211 27 416 X G pE
 have D_times_told:=dq (p:=a7) (ps:=["web","keep","t"]) 219 218 27 416 X G rF
 have D_ringless:=dq (p:=a7) (ps:=["web","ties"]) 224 223 35 489 X G tQ
 have D_without:=dq (p:=a7) (ps:=["keep","tie"]) 229 228 37 497 X G uS
 have D_spare:=dq (p:=a7) (ps:=["web","keep","tie"]) 236 235 37 497 X G yG
 have D_with_tie:=dq (p:=a7) (ps:=["keep","tie"]) 243 242 40 517 X G tP
 have D_reason_of:=dq (p:=a7) (ps:=["web","keep","tie","t"]) 250 249 40 517 X G sF
 have D_ruled:=dq (p:=a7) (ps:=["keep","ties","word","reason_for"]) 257 256 40 517 X G yI
 have D_ruled_behind:=dqC (p:=a7) (ps:=["web","keep","ties","t"]) 264 263 40 517 X G qA (by kernel_rfl) (by kernel_rfl) (by kernel_rfl) (by kernel_rfl) t1
 have D_ring_rule:=dq (p:=a7) (ps:=["web","t"]) 271 270 40 517 X G sE
 have D_needed:=dq (p:=a7) (ps:=["web","keep","t"]) 276 275 40 517 X G wI
 have D_kept_show:=dq (p:=a7) (ps:=["web","kept"]) 283 282 47 577 X G sI
 have D_not_among:=dq (p:=a7) (ps:=["web","out"]) 288 287 47 577 X G sG
 have D_far_show:=dq (p:=a7) (ps:=["web","t","out","tie","heights"]) 295 294 47 577 X G tU
 have D_is_undecided:=dq (p:=a7) (ps:=["web","kept","out","tie"]) 302 301 47 577 X G qD
 have D_shown:=dq (p:=a7) (ps:=["web","t","tree","kept","out"]) 309 308 47 577 X G yH
 have D_cases_show:=dq (p:=a7) (ps:=["web","t","tree"]) 316 315 47 577 X G rK
 have D_one_tie_more:=dq (p:=a7) (ps:=["web","keeps"]) 321 320 54 636 X G qC
 have D_first_fewest:=dq (p:=a7) (ps:=["web","t"]) 328 327 54 636 X G qG
 have D_tree_of:=dq (p:=a7) (ps:=["web","t","many","kept","out"]) 335 334 54 636 X G uT
 have D_fewest:=dq (p:=a7) (ps:=["web","t"]) 342 341 54 636 X G wJ
 have D__law_pot:=dq (p:=a7) (ps:=["script","k"]) 349 348 59 677 X G tW
 have D__law_take:=dq (p:=a7) (ps:=["pot","many"]) 356 355 59 677 X G sQ
 have D__law_length:=dq (p:=a7) (ps:=["pot","way"]) 363 362 59 677 X G qT
 have D__law_tied:=dq (p:=a7) (ps:=["pot","n","style","a","b"]) 370 369 59 677 X G sP
 have D__law_order:=dq (p:=a7) (ps:=["pot","many"]) 377 376 59 677 X G rM
 have D__law_web:=dq (p:=a7) (ps:=["pot","most"]) 384 383 59 677 X G tV
 have D__law_fars:=dq (p:=a7) (ps:=["web","keep","start"]) 391 390 59 677 X G sS
 have D__law_rest:=dq (p:=a7) (ps:=["web","left"]) 396 395 59 677 X G sR
 have D__law_far_leaf:=dq (p:=a7) (ps:=["web","t","left","tie"]) 401 400 59 677 X G pM
 have D__law_tree:=dq (p:=a7) (ps:=["pot","web","t","kept","left","deep"]) 406 405 59 677 X G sO
 have D__law_times:=dq (p:=a7) (ps:=["pot"]) 413 412 59 677 X G rL
 have D__law_is_near:=dq (p:=a7) (ps:=["web","keep","t"]) 420 419 59 677 X G qH
 have D__law_grown:=dq (p:=a7) (ps:=["pot","web","t"]) 427 426 59 677 X G rO
 have D__law_none_fewer:=dq (p:=a7) (ps:=["web","t","keeps","shown_v","must"]) 432 431 59 677 X G pC
 have e:=hfa.symm.trans (ue3 X G (show u7 (K w.params) m7 "law"=some (some (.ref 439)) by kernel_rfl))
 cases e
 have F:=jK (x:="law") (qual:="law") (st:=s_law) (K:=K w.params) (f:=439) (oc:=.type "function") (od:=none) (an:=none) (osl:=#[]) (kV:=.none) (doc:=.none) (pm:=Hx.mdV a7 ⟨0,0,0,59,677,0⟩) (cdv:=.ref 438) (ct:=.none) (by kernel_rfl) (by kernel_rfl) (by kernel_rfl)
 exact⟨_,λ s v=>.of_eq rfl,λ base _ _ l0 l1=>zW (P:=(m8).prog) (w:=w) (base:=base) T D_order_of l0 D_ruled_behind l1 D_is_whole D_is_wholes D_is_tuple_of D_is_told D_is_tie_number D_whole D_tie_between D_ties_along D_way_length D_tie_weights D_cost_with D_reached_from D_fars_from D_tree_from D_the_way D_across D_heights_hold D_heights_from D_need_times D_not_kept D_way_of D_is_within D_heights_of D_heights_beyond D_times_told D_ringless D_without D_spare D_with_tie D_reason_of D_ruled D_ring_rule D_needed D_kept_show D_not_among D_far_show D_is_undecided D_shown D_cases_show D_one_tie_more D_first_fewest D_tree_of D_fewest D__law_pot D__law_take D__law_length D__law_tied D__law_order D__law_web D__law_fars D__law_rest D__law_far_leaf D__law_tree D__law_times D__law_is_near D__law_grown D__law_none_fewer F⟩
end Hy
open PySem PySem.W PyProof.Rows
set_option maxRecDepth 100000 in
set_option maxHeartbeats 0 in
theorem PySem.Challenge.cw_thinways_k44_whole_none_has_fewer_holds : PySem.Challenge.rw_thinways_k44_whole_none_has_fewer.Holds := by
 w_on;o_law
 refine holds_open (q:=(Hx.qv PySem.Challenge.pw_thinways_k44_whole_none_has_fewer [13,44,74])) (loose:=Hx.lz PySem.Challenge.pw_thinways_k44_whole_none_has_fewer [13,44,74] 75) (Xt:=λ s=>xlAt (Hx.qv PySem.Challenge.pw_thinways_k44_whole_none_has_fewer [13,44,74]) [] s&&recOk (OpenRow.toRowW (PySem.Challenge.rw_thinways_k44_whole_none_has_fewer).row).records s) (XP:=XL (Hx.qv PySem.Challenge.pw_thinways_k44_whole_none_has_fewer [13,44,74]) []) (Yf:=Hook.obs Hy.H) (Ya:=Hook.val Hy.H) (YP:=Hook.says Hy.H) (N:=5806) Hy.left (Hook.of Hy.H) (Hook.keeps Hy.H) (λ s e=>xl_of s (Bool.and_eq_true_iff.mp e).1) XL.keeps (by rfl) (by rfl) (by rfl) (λ s e=>recFacts_of (Bool.and_eq_true_iff.mp e).2) (by rfl) (by first | assumption | decide +kernel) (by symm) ⟨rfl,rfl,rfl,rfl,rfl,by symm⟩ ?hw ?hc
 case hw=>w_witness2
 case hc =>
  refine' Me.walk (l:=PySem.Challenge.rw_thinways_k44_whole_none_has_fewer) (dT:=?dT) (dB:=?dB) rfl rfl (λ w h Y=>PySem.W.kIn_of Y) ?rc7 ?rc8 (λ w=>⟨104,100,263,259,by kernel_rfl,by kernel_rfl,by decide⟩) (λ w=>by kernel_rfl) λ w mg fa h c1 p1 c2 p2 KX G hmg t1 t2=>Hy.all KX G hmg t1 t2
  case rc7=>exact rfl
  case rc8=>exact rfl
