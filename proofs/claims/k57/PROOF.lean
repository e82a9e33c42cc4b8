import PyProof.Rows.All
import Wide.All
import OpenK.AllK
import Wide.FinOn
import Lean
import PyProof.EqAt
import PyProof.EqKinds
import PyProof.TupleCall
import KE.KSortTup
import PyProof.ZipIter
import PyProof.TupleIter
import PyProof.WalksMore
import PyProof.Rows.TupIter
import PyProof.EnumIter
import PyProof.EnumFor
import PyProof.EnumStmt
import PyProof.ReprRoads
import PyProof.Rows.SeqMore
import PyProof.ListMulRoad
import PyProof.FactsAll.tuple_2
import PyProof.FactsAll.tuple_3
import PyProof.Rows.Tup
import PyProof.ListRange
import PyProof.TupleOfSeq
import PyProof.SumAny
import PyProof.ConsumeS
import PyProof.Rows.CallKwBuiltin
import KE.KLam
import KE.KSortKey
import PyProof.AutoSeq1
import KE.KListMore
import PyProof.FactsAll.subtypes_4
import PyProof.SetRoads
import PyProof.Rows.SetFrom
import PyProof.WalkInts
import PyProof.DictDisplay
import PyProof.DictWalks
import PySem.SetTable
import PyProof.FactsAll.set_2
import PySem.Challenge.RW_thinways_k57_whole_guards_keep_two_more
set_option Elab.async false
set_option linter.all false
set_option maxRecDepth 100000
open PySem.Challenge renaming pw_thinways_k57_whole_guards_keep_two_more→uaa, rw_thinways_k57_whole_guards_keep_two_more→uax
open PySem renaming wpAny_bind→uab, wpAny_pure→uag, wpAny_setState_of→ubh, wpAny_ite_split→ubi, wpAny_callSpecial?_slot→ubp, wpAny_call_entry→ubs, wpAny_newObj_type→uby, wpAny_holding→ubz, wpAny_field→ub6, wpAny_setField_rec→ub8, wpAny_askSetting→ucm, sizeLine_eq→ucr, codeAny_builtin→ucu, mem_of_lookup→ucy, wpAny_seqItems→uc1, wpAny_setEntries_of→uc3, wpAny_truthy_bool→udk, wpAny_storeSet_of→udl, wpAny_mono→udm, fits_of_scanBound→udn, codeAny_mono→udr, wpAny_isInstance→udt, wpAny_setField→udu, wpAny_passesOwn→udz, wpAny_loadPart'→ud0, wpAny_rule→ud2, wpAny_pyIter_list→ud3, wpAny_attempt→ud4, wpAny_pyIter_tuple→ueg, weight_type_call_type→ueq, wpAny_typeOf→ufa, wpAny_runValue→ufd, isSubtype_type→ufe, check_set_init_1→uff, plainId_quiet→ufn, SetOf_store→ufo, wpAny_execs_nil→ufv, codeAny_of_tree→ufw, call_meets→ufz, wpAny_updateSeq_pair→uf3, codeAny_call_builtin→uf4, wpAny_fieldsOf→uga, isSubtype_stop→ugb, wpAny_standAt→ugq, wpAny_onRaise→ugr, wpAny_newList→ugs, wpAny_Call_Name_kw→ugt, wpAny_setEpoch_of→ug0
open List renaming range→uac, length_map→uae, getElem?_eq_getElem→uaf, getD_eq_getElem?_getD→uah, mem_range→uaj, getElem?_map→uak, getElem?_eq_some_iff→ual, mem_cons_of_mem→uam, mem_cons_self→uan, size_toArray→uao, length_append→uaq, mem_cons→uar, mem_of_getElem?→uat, mem_singleton→uav, replicate→uay, mem_filter→uaz, Nodup→ua0, not_mem_nil→ua1, length_cons→ua5, mem_append→ua6, length_range→ua8, getElem?_eq_none→uba, map_append→ubc, mem_map→ube, length_replicate→ubg, pairwise_lt_range→ubk, mem_append_right→ubm, length_singleton→ubn, all_eq_true→ubo, nodup_cons→ubw, pairwise_map→ubx, mem_filterMap→ub3, any_eq_true→ub4, getElem?_append_right→ub9, contains_eq_mem→uca, pairwise_iff_getElem→ucd, length_set→uce, filterMap_cons→ucf, nodup_append→uch, map_map→uci, mem_flatMap→uck, lookup_cons→ucl, flatMap_append→ucn, filter_sublist→uco, length_filter_le→ucp, mem_append_left→ucv, ext_getElem?→ucx, range_succ→ucz, take_length→uc4, getD→uc6, filterMap_append→uc7, getElem?_append_left→uc9, length_filterMap_le→udc, all_map→udf, replicate_succ→udg, pairwise_filterMap→udh, map_congr_left→udi, eq_nil_of_length_eq_zero→udp, take_add_one→udv, map_cons→udw, perm_cons_erase→udy, nodup_nil→ud1, length_take→ud5, pairwise_cons→ud9, getElem?_replicate→uea, forIn_cons→ueb, find?_some→uec, reverse_cons→uee, flatten_cons→uef, take_append_drop→ueh, countP_mono_left→uei, contains_iff_mem→uej, nodup_range→uek, getElem_mem→uel, mem_erase_of_ne→uen, sum_cons→ueo, countP_eq_length_filter→uep, getElem_of_mem→ues, length_eraseIdx_of_lt→uev, zip_cons_cons→uew, map_filterMap→uex, mem_of_find?_eq_some→uez, forIn_nil→ue0, length_erase_of_mem→ue5, range'→ufb, length_eq_zero_iff→ufc, length_drop→ufg, ext_getElem→ufh, countP_cons→ufi, getElem?_set_self→ufk, mem_of_mem_erase→ufl, length_nil→ufm, getElem?_set_ne→ufr, filterMap→uft, getElem?_range→ufu, map_replicate→uf0, find?_eq_none→uf1, filterMap_map→uf2, mem_range'_1→ugc, flatMap_cons→ugd, filter_congr→uge, append_assoc→ugf, toArray→ugk, map_set→ugl, range'_succ→ugn, of_mem_zip→ugw, map_id→ugx, append_nil→ugy, perm_ext_iff_of_nodup→ug2, nodup_iff_pairwise_ne→ug3, drop_eq_getElem_cons→ug7, foldl→uhe
open PySem.W renaming Frag→uad, mg_none_of→ubb, nsIn→ubq, kia_one→ucj, fnOf→uc2, keepIn→ued, codeIn→uet, methodObj→ufx, instObj→ugg, lookIn→ugu, findIn→ugv, cellsFrom_some→ug6
open Nat renaming le_refl→uai, ne_of_lt→uau, lt_of_lt_of_le→ua4, zero_le→ubj, le_trans→ubr, lt_succ_of_lt→ub1, lt_of_le_of_lt→ucb, lt_irrefl→ucw, lt_succ_self→uc5, le_succ→udo, lt_trichotomy→udx, ne_of_gt→ud8, le_add_right→uem, not_lt_zero→ueu, le_of_eq→uey, succ_le_succ→ufj, strongRecOn→ufp, le_of_lt→ufq, lt_or_eq_of_le→uf5, eq_zero_or_pos→uf6, mod_lt→uhf
open Or renaming inl→uap, inr→ufy
open Bool renaming false_ne_true→uas, and_eq_true→ubd, eq_iff_iff→ucq, false_eq_true→ucs, or_eq_true→uc0, eq_false_iff→udd, not_eq_true'→ue6, false_and→ug8, true_and→uhg, and_true→uhh
open Int renaming natCast_nonneg→uaw, toNat_of_nonneg→ua9, toNat_natCast→ubf, le_refl→ub2, emod_lt_of_pos→uc8, emod_nonneg→ude, le_of_lt→udj, zero_add→ue1, toNat→uf7, lt_irrefl→uf8, add_right_comm→uf9, ne_of_lt→ugo, le_trans→ugp
open PySem.F renaming called_set→ua2, plainAttrs_list→ua7, type_list_append→ubu, slot_list_append→ubv, type_list_extend→uda, slot_list_extend→udb, plain_list_iadd→ud6, entry_type_call→ue2, typeCall_set_1→ue7, entry_set_init→ue8, sub_tuple_frozenset→ugh, plain_proto_collect→ugi, entry_proto_collect→ugj, entry_list_iadd→ug1, type_list_pop→ug9, sub_tuple_set→uha, slot_set_iter→uhb, slot_list_pop→uhc, plain_set_new→uhd
open Option.some renaming inj→ua3
open Array renaming length_toList→ubl, getD_eq_getD_getElem?→ubt, getElem?_eq_getElem→ucc, getElem?_toList→ucg, getD→ue4, mk→ue9, size_map→ufs, getElem?_eq_some_iff→ugz
open Option renaming map_eq_some_iff→ub0, bind_eq_some_iff→ud7
open List.Pairwise renaming imp_of_mem→ub5, filter→udq, sublist→ugm, nil→ug5
open PyProof.Rows renaming slot_tuple_getitem→ub7, callWith_type1→uct
open PyProof.Rows.F renaming plain_set_update_loop→uds, entry_set_update_loop→ue3
open List.Perm renaming refl→uer, append_left→ug4
local macro_rules | `(tactic| ac_rfl) => `(tactic| first | exact (fun _ _ _ _ _ _ us hl => match us, hl with | [_], _ => rfl) | exact (fun _ _ _ _ _ _ us hl => match us, hl with | [_, _], _ => rfl) | exact (fun _ _ _ _ _ _ us hl => match us, hl with | [_, _, _], _ => rfl) | exact (fun _ _ _ _ _ _ us hl => match us, hl with | [_, _, _, _], _ => rfl) | exact (fun _ _ _ _ _ _ us hl => match us, hl with | [_, _, _, _, _], _ => rfl) | exact (fun _ _ _ _ _ _ us hl => match us, hl with | [_, _, _, _, _, _], _ => rfl) | exact (fun _ _ _ _ _ _ us hl => match us, hl with | [_, _, _, _, _, _, _], _ => rfl))
local macro_rules | `(tactic| left) => `(tactic| first | lia | omega)
local macro_rules | `(tactic| symm) => `(tactic| decide +kernel)
local macro_rules | `(tactic| right) => `(tactic| exact ⟨rfl, rfl, rfl, by decide +kernel, rfl, by decide +kernel, by decide +kernel⟩)
namespace L2
open PySem PySem.Spec PyProof.Rows
abbrev Key:=Sum Int Str
def keyIs:Key->Value->Bool
 | .inl k,v=>Value.isInt k v
 | .inr x,v=>Value.isStrOf x v
def keyH (w:World):Key->Int
 | .inl k=>hashInt k
 | .inr x=>hashStr w x
theorem zbi:∀ {k:Key}{v:Value},keyIs k v=true->(∃ i t,k=Sum.inl i/\v=Value.int i t)\/(∃ x t,k=Sum.inr x/\v=Value.str x t)
 | .inl i,v,h=>by
  obtain⟨t,e⟩:=Value.isInt_shape (k:=i) (v:=v) h
  exact .inl ⟨i,t,rfl,e⟩
 | .inr x,v,h=>by
  obtain⟨t,e⟩:=Value.isStrOf_shape (x:=x) (v:=v) h
  exact .inr ⟨x,t,rfl,e⟩
theorem zui (a b:Int):decide ((Sum.inl a:Key)=Sum.inl b)=(a==b):=by
 by_cases e:a=b
 ·subst e;simp
 ·have h:¬ (Sum.inl a:Key)=Sum.inl b:=λ q=>e (Sum.inl.inj q)
  rw[decide_eq_false h]
  exact (beq_eq_false_iff_ne.mpr e).symm
theorem zuf (a b:Str):decide ((Sum.inr a:Key)=Sum.inr b)=decide (a=b):=by
 by_cases e:a=b
 ·subst e;simp
 ·have h:¬ (Sum.inr a:Key)=Sum.inr b:=λ q=>e (Sum.inr.inj q)
  rw[decide_eq_false h,decide_eq_false e]
theorem zuh (a:Int)(b:Str):decide ((Sum.inl a:Key)=Sum.inr b)=false:=decide_eq_false (λ q=>nomatch q)
theorem zug (a:Str)(b:Int):decide ((Sum.inr a:Key)=Sum.inl b)=false:=decide_eq_false (λ q=>nomatch q)
def mixKind (prog:Program)(w:World):PySem.KeyKind prog w Key where
 is:=keyIs
 hash:=keyH w
 inj:=λ v a b ha hb=>by
  rcases zbi ha with ⟨i,t,rfl,rfl⟩ | ⟨x,t,rfl,rfl⟩
  ·rcases zbi hb with ⟨j,u,rfl,e⟩ | ⟨y,u,rfl,e⟩
   ·injection e with e1 _;rw[e1]
   ·exact nomatch e
  ·rcases zbi hb with ⟨j,u,rfl,e⟩ | ⟨y,u,rfl,e⟩
   ·exact nomatch e
   ·injection e with e1 _;rw[e1]
 byValue:=λ k v h=>by
  rcases zbi h with ⟨i,t,rfl,rfl⟩ | ⟨x,t,rfl,rfl⟩ <;> rfl
 pyHash:=λ hv h=>by
  rcases zbi hv with ⟨i,t,rfl,rfl⟩ | ⟨x,t,rfl,rfl⟩
  ·exact wpAny_pyHash_int h
  ·exact wpAny_pyHash_str h
 eqBool:=λ hu hv h=>by
  rcases zbi hu with ⟨i,t,rfl,rfl⟩ | ⟨x,t,rfl,rfl⟩
  ·rcases zbi hv with ⟨j,u,rfl,rfl⟩ | ⟨y,u,rfl,rfl⟩
   ·rw[zui] at h;exact wpAny_eqBool_int h
   ·rw[zuh] at h;exact SeqAt.EqAt.int_str i t y u _ _ _ _ h
  ·rcases zbi hv with ⟨j,u,rfl,rfl⟩ | ⟨y,u,rfl,rfl⟩
   ·rw[zug] at h;exact SeqAt.EqAt.str_int x t j u _ _ _ _ h
   ·rw[zuf] at h;exact wpAny_eqBool_str h
 «strs»:=λ k x t v h=>by
  rcases zbi h with ⟨i,u,rfl,e⟩ | ⟨y,u,rfl,e⟩
  ·exact nomatch e
  ·injection e with e1 _
   subst e1
   cases v <;> rfl
end L2
namespace L2
open PySem PySem.Spec PyProof.Rows
inductive V where
 | non | bl (b:Bool) | int (i:Int) | str (x:Str) | byt (b:Array UInt8) | flt (b:UInt64) | ref (a:Addr) | ty (n:String)
 deriving DecidableEq
def RelV:V->Value->Prop
 | .non,u=>u=Value.none
 | .bl b,u=>u=Value.bool b
 | .int i,u=>∃ t,u=Value.int i t
 | .str x,u=>∃ t,u=Value.str x t
 | .byt b,u=>∃ t,u=Value.bytes b t
 | .flt b,u=>∃ t,u=Value.float b t
 | .ref a,u=>u=Value.ref a
 | .ty n,u=>u=Value.type n
abbrev Vals:List V->List Value->Prop:=Paired RelV
theorem Vals.length {xs:List V}{us:List Value}(r:Vals xs us):xs.length=us.length:=Paired.length r
theorem Vals.get:∀ {xs:List V}{us:List Value}{i:Nat}{x:V},Vals xs us->xs[i]?=some x->∃ u,us[i]?=some u/\RelV x u
 | _,_,_,_,.nil,e=>by simp at e
 | _,_,0,_,.cons r _,e=>by simp at e;subst e;exact⟨_,rfl,r⟩
 | _,_,i+1,x,.cons _ t,e=>by
  obtain⟨u,h1,h2⟩:=Vals.get (i:=i) (x:=x) t (by simpa using e)
  exact⟨u,by simpa using h1,h2⟩
theorem Vals.set {x:V}{u:Value}(r:RelV x u):∀ {xs:List V}{us:List Value}(i:Nat),Vals xs us->Vals (xs.set i x) (us.set i u)
 | _,_,_,.nil=>.nil
 | _,_,0,.cons _ t=>.cons r t
 | _,_,i+1,.cons q t=>.cons q (Vals.set r i t)
theorem Vals.append:∀ {xs ys:List V}{us ws:List Value},Vals xs us->Vals ys ws->Vals (xs++ys) (us++ws)
 | _,_,_,_,.nil,s=>s
 | _,_,_,_,.cons r t,s=>.cons r (Vals.append t s)
theorem Vals.take:∀ {xs:List V}{us:List Value}(n:Nat),Vals xs us->Vals (xs.take n) (us.take n)
 | _,_,0,_=>.nil
 | _,_,_+1,.nil=>.nil
 | _,_,n+1,.cons r t=>.cons r (Vals.take n t)
theorem Vals.drop:∀ {xs:List V}{us:List Value}(n:Nat),Vals xs us->Vals (xs.drop n) (us.drop n)
 | _,_,0,r=>r
 | _,_,_+1,.nil=>.nil
 | _,_,n+1,.cons _ t=>Vals.drop n t
def RelO:Option V->Option Value->Prop
 | some v,some u=>RelV v u
 | none,none=>True
 | _,_=>False
def KV {κ:Type}:List (κ × V)->List (κ × Value)->Prop:=Paired λ (p:κ × V) (q:κ × Value)=>p.1=q.1/\RelV p.2 q.2
def kV:Key->V
 | .inl i=>.int i
 | .inr x=>.str x
inductive HO where
  | lst (xs:List V)
  | tup (xs:List V)
  | dK (kvs:List (Key × V)) | dT (kvs:List (List Key × V))
  | set (S:Int->Bool) (n:Nat)
  | ins (C dx:Addr) (fs:List (Str × V))
  | own (x:Addr)
  | xd (fs:List (Str × V))
  | met (f x:Addr)
  | rng (lo hi:Int)
  | frz (o:Obj) (u:HO)
  | tbl (ps:Array Value)
  | ext (φ:Heap->Prop)
abbrev Hp:=Addr->Option HO
def upd (H:Hp)(a:Addr)(o:HO):Hp:=λ b=>if b=a then some o else H b
theorem zaj {H:Hp}{a:Addr}{o:HO}:upd H a o a=some o:=by unfold upd;rw[if_pos rfl]
theorem zas {H:Hp}{a b:Addr}{o:HO}(h:b≠a):upd H a o b=H b:=by unfold upd;rw[if_neg h]
theorem zal {H:Hp}{a b:Addr}{o:HO}(h:H a=some o)(h':H b=none):a≠b:=by
 intro e;subst e;rw[h] at h';cases h'
section
variable (P:Program)(w:World)
def TupN (h:Heap)(a:Addr)(items:Array Value):Prop:=∃ o,h.get? a=some o/\o.cls=.type "tuple"/\(∃ n,o.data=.seq items n)/\o.dict=none
theorem TupN.tup {h:Heap}{a:Addr}{items:Array Value}(x:TupN h a items):IsTup h a items:=let ⟨o,e,c,d,_⟩:=x;⟨o,e,c,d⟩
theorem TupN.new (h:Heap)(items:Array Value):TupN (h.push { cls:=.type "tuple",data:=.seq items }) h.objs.size items:=⟨_,Heap.get?_push_size _ rfl,rfl,⟨_,rfl⟩,rfl⟩
def ObjOk (H:Hp)(h:Heap)(a:Addr):HO->Prop
 | .lst xs=>xs.length<=sizeLine/\∃ (its:List Value)(n:Nat),Vals xs its/\h.get? a=some { cls:=.type "list",data:=.seq its.toArray n }
 | .tup xs=>xs.length<=sizeLine/\∃ its:List Value,Vals xs its/\TupN h a its.toArray
 | .dK kvs=>kvs.length<=sizeLine/\(a==sysModules)=false/\∃ vs,KV kvs vs/\h.DictOf (mixKind P w) a vs
 | .dT kvs => kvs.length <= sizeLine /\ (a==sysModules) = false /\ ∃ xs : List (List Key × Addr × Value),
     Paired (λ (p:List Key × V) (q:List Key × Addr × Value)=>p.1=q.1/\H q.2.1=some (.tup (p.1.map kV))/\RelV p.2 q.2.2) kvs xs /\
     ∃ o es ep,h.get? a=some o/\o.ExactDict/\o.data=.dict es ep/\es.toList=xs.map (entryOfKey (tupleKind (mixKind P w)))/\(xs.map (·.1)).Nodup
 | .set S n=>h.SetOf (intKind P w) a S n
 | .ins C dx fs => H dx = some (.own a) /\ fs.length <= 1000 /\ dx ≠ a /\ h.get? a = some (ugg C dx) /\
     ∃ mA,h.Ns1 dx mA/\(∀ f,RelO (fs.lookup f) (mA f))/\PySem.Within mA (fs.map (·.1))
 | .own _=>∃ o,h.get? a=some o
 | .xd fs=>∃ mA,h.Ns1 a mA/\∀ f,RelO (fs.lookup f) (mA f)
 | .rng lo hi=>∃ t u v,h.get? a=some { cls:=.type "range",data:=.fields #[.int lo t,.int hi u,.int 1 v] }
 | .frz o u=>h.get? a=some o/\ObjOk H h a u
 | .tbl ps=>h.get? a=some { cls:=.none,data:=.fields ps }
 | .met f x=>h.get? a=some (ufx (.ref f) (.ref x))
 | .ext φ=>φ h/\(∃ o,h.get? a=some o)/\∀ h1 h2:Heap,φ h1->(∀ o,h1.get? a=some o->h2.get? a=some o)->φ h2
def HOk (H:Hp)(h:Heap):Prop:=∀ a o,H a=some o->ObjOk P w H h a o
end
section
variable {P:Program}{w:World}{H H':Hp}{h h':Heap}{a:Addr}{o:HO}
theorem ObjOk.lt (x:ObjOk P w H h a o):a<h.objs.size:=by
 cases o with
 | lst xs=>obtain⟨_,_,_,_,e⟩:=x;exact Heap.lt_size e
 | tup xs=>obtain⟨_,_,_,p⟩:=x;exact p.tup.lt
 | dK kvs=>obtain⟨_,_,_,_,o,_,_,e,_⟩:=x;exact Heap.lt_size e
 | dT kvs=>obtain⟨_,_,_,_,o,_,_,e,_⟩:=x;exact Heap.lt_size e
 | set S n=>obtain⟨o,_,_,_,e,_⟩:=x;exact Heap.lt_size e
 | ins C dx fs=>obtain⟨_,_,_,e,_⟩:=x;exact Heap.lt_size e
 | own y=>obtain⟨_,e⟩:=x;exact Heap.lt_size e
 | xd fs=>obtain⟨_,⟨_,_,_,e,_⟩,_⟩:=x;exact Heap.lt_size e
 | rng lo hi=>obtain⟨_,_,_,e⟩:=x;exact Heap.lt_size e
 | frz ob u=>obtain⟨e,_⟩:=x;exact Heap.lt_size e
 | tbl ps=>exact Heap.lt_size (show h.get? a=some _ from x)
 | met f y=>exact Heap.lt_size (show h.get? a=some _ from x)
 | ext φ=>obtain⟨_,⟨_,e⟩,_⟩:=x;exact Heap.lt_size e
theorem Paired.mapP {α β:Type}{F G:α->β->Prop}:∀ {l₁:List α}{l₂:List β},Paired F l₁ l₂->(∀ a b,F a b->G a b)->Paired G l₁ l₂
 | _,_,.nil,_=>.nil
 | _,_,.cons r t,f=>.cons (f _ _ r) (Paired.mapP t f)
theorem ObjOk.stay (x:ObjOk P w H h a o)(k:∀ b u,(b=a\/H b=some (.own a))->h.get? b=some u->h'.get? b=some u)
  (ho:∀ b,H b=some (.own a)->H' b=some (.own a)) (ht:∀ b xs,H b=some (.tup xs)->H' b=some (.tup xs)):ObjOk P w H' h' a o:=by
 induction o with
 | lst xs=>obtain⟨z,its,n,r,e⟩:=x;exact⟨z,its,n,r,k _ _ (.inl rfl) e⟩
 | tup xs=>obtain⟨z,its,r,ob,e,c⟩:=x;exact⟨z,its,r,ob,k _ _ (.inl rfl) e,c⟩
 | dK kvs=>obtain⟨z,y,vs,r,ob,es,ep,e,c⟩:=x;exact⟨z,y,vs,r,ob,es,ep,k _ _ (.inl rfl) e,c⟩
 | dT kvs =>
  obtain⟨z,y,xs,r,ob,es,ep,e,c⟩:=x
  exact⟨z,y,xs,Paired.mapP r λ p q z=>⟨z.1,ht _ _ z.2.1,z.2.2⟩,ob,es,ep,k _ _ (.inl rfl) e,c⟩
 | set S n=>obtain⟨ob,es,ep,t,e,c⟩:=x;exact⟨ob,es,ep,t,k _ _ (.inl rfl) e,c⟩
 | ins C dx fs =>
  obtain⟨d,z,ne,e,mA,⟨od,es,ep,e2,c⟩,r⟩:=x
  exact⟨ho _ d,z,ne,k _ _ (.inl rfl) e,mA,⟨od,es,ep,k _ _ (.inr d) e2,c⟩,r⟩
 | own y=>obtain⟨ob,e⟩:=x;exact⟨ob,k _ _ (.inl rfl) e⟩
 | xd fs=>obtain⟨mA,⟨od,es,ep,e,c⟩,r⟩:=x;exact⟨mA,⟨od,es,ep,k _ _ (.inl rfl) e,c⟩,r⟩
 | rng lo hi=>obtain⟨t,u,v,e⟩:=x;exact⟨t,u,v,k _ _ (.inl rfl) e⟩
 | frz ob u ih=>obtain⟨e,q⟩:=x;exact⟨k _ _ (.inl rfl) e,ih q⟩
 | tbl ps =>
  have e:h.get? a=some { cls:=.none,data:=.fields ps }:=x
  show h'.get? a=some { cls:=.none,data:=.fields ps }
  exact k a _ (.inl rfl) e
 | met f y =>
  have e:h.get? a=some (ufx (.ref f) (.ref y)):=x
  show h'.get? a=some (ufx (.ref f) (.ref y))
  exact k a _ (.inl rfl) e
 | ext φ=>obtain⟨p,⟨o,e⟩,st⟩:=x;exact⟨st _ _ p λ o q=>k _ _ (.inl rfl) q,⟨o,k _ _ (.inl rfl) e⟩,st⟩
theorem HOk.lt (x:HOk P w H h)(e:H a=some o):a<h.objs.size:=(x a o e).lt
theorem HOk.fresh (x:HOk P w H h)(e:h.objs.size<=a):H a=none:=by
 cases q:H a with
 | none=>rfl
 | some u=>exact absurd (ua4 (x.lt q) e) (ucw _)
theorem HOk.kept (x:HOk P w H h)(k:∀ b u,h.get? b=some u->h'.get? b=some u):HOk P w H h':=λ a o e =>
 (x a o e).stay (λ b u _ q=>k b u q) (λ _ q=>q) λ _ _ q=>q
theorem HOk.laid (x:HOk P w H h)(k:∀ b u,h.get? b=some u->h'.get? b=some u)(hp:h.objs.size<=a)(new:ObjOk P w (upd H a o) h' a o):HOk P w (upd H a o) h':=λ b u e=>by
 have hn:=x.fresh hp
 by_cases hb:b=a
 ·subst hb;rw[zaj] at e;cases e;exact new
 ·rw[zas hb] at e
  exact (x b u e).stay (λ c v _ q=>k c v q) (λ c q=>by rw[zas (zal q hn)];exact q) λ c xs q=>by rw[zas (zal q hn)];exact q
end
def Rd (H:Hp)(a:Addr)(u:HO):Prop:=H a=some u\/∃ o,H a=some (.frz o u)
theorem Rd.ok {P:Program}{w:World}{H:Hp}{h:Heap}{a:Addr}{u:HO}(r:Rd H a u)(x:HOk P w H h):ObjOk P w H h a u:=by
 rcases r with r | ⟨o,r⟩
 ·exact x a u r
 ·obtain⟨_,q⟩:=x a _ r
  exact q
def Mut:Option HO->Prop
 | some (.lst _)=>True
 | some (.dK _)=>True
 | some (.dT _)=>True
 | some (.set _ _)=>True
 | some (.ins _ _ _)=>True
 | some (.ext _)=>True
 | _=>False
section
variable {P:Program}{w:World}{H:Hp}{h h':Heap}{x e:Addr}{o':HO}
theorem HOk.write (ok:HOk P w H h)(mu:Mut (H x))(he:e=x\/H e=some (.own x))(k:∀ b u,b≠e->h.get? b=some u->h'.get? b=some u)(heo:∃ u,h'.get? e=some u)
  (new:ObjOk P w (upd H x o') h' x o'):HOk P w (upd H x o') h':=λ b u q=>by
 have nown:∀ c y,H c=some (.own y)->c≠x:=λ c y r z=>by subst z;rw[r] at mu;exact mu
 have ntup:∀ c xs,H c=some (.tup xs)->c≠x:=λ c xs r z=>by subst z;rw[r] at mu;exact mu
 by_cases hb:b=x
 ·subst hb;rw[zaj] at q;cases q;exact new
 ·rw[zas hb] at q
  by_cases hbe:b=e
  ·have q':H b=some (.own x):=by
    rcases he with z | z
    ·exact absurd (hbe.trans z) hb
    ·rw[hbe];exact z
   rw[q] at q';cases q'
   obtain⟨v,hv⟩:=heo
   exact⟨v,by rw[hbe];exact hv⟩
  ·refine (ok b u q).stay (λ c v hc r=>k c v ?_ r) (λ c r=>by rw[zas (nown c b r)];exact r) λ c xs r=>by rw[zas (ntup c xs r)];exact r
   rcases hc with rfl | hc
   ·exact hbe
   ·rintro rfl
    rcases he with z | z
    ·exact nown c b hc z
    ·rw[hc] at z;cases z;exact hb rfl
end
structure Un (fs ex:List Addr)(H H':Hp)(h h':Heap):Prop where
 keep:∀ b o,h.get? b=some o->H b=none->b∉fs->b∉ex->h'.get? b=some o
 slot:∀ b o,h.get? b=some o->H b=none->b∈fs->b∉ex->∃ sl,h'.get? b=some { o with slots:=sl }
 free:∀ b o,h.get? b=some o->H b=none->b∉ex->H' b=none
 there:∀ b o,h.get? b=some o->b∉ex->∃ o',h'.get? b=some o'
 tups:∀ b xs,H b=some (.tup xs)->H' b=some (.tup xs)
 frzs:∀ b o u,H b=some (.frz o u)->H' b=some (.frz o u)
 tbls:∀ b ps,H b=some (.tbl ps)->∃ more,H' b=some (.tbl (ps++more))
section
variable {fs fs' ex ex':List Addr}{H H1 H2:Hp}{h h1 h2 h':Heap}{a x e:Addr}{o:HO}
theorem Un.any (u:Un fs ex H H1 h h1){b:Addr}{ob:Obj}(q:h.get? b=some ob)(n:H b=none)(hx:b∉ex):∃ sl,h1.get? b=some { ob with slots:=sl }:=by
 by_cases hb:b∈fs
 ·exact u.slot b ob q n hb hx
 ·exact⟨ob.slots,u.keep b ob q n hb hx⟩
theorem Un.trans (a:Un fs ex H H1 h h1)(b:Un fs ex H1 H2 h1 h2):Un fs ex H H2 h h2 where
 keep:=λ c ob q n hc hx=>b.keep c ob (a.keep c ob q n hc hx) (a.free c ob q n hx) hc hx
 slot:=λ c ob q n hc hx=>by
  obtain⟨sl,e1⟩:=a.slot c ob q n hc hx
  obtain⟨sl',e2⟩:=b.slot c _ e1 (a.free c ob q n hx) hc hx
  exact⟨sl',e2⟩
 free:=λ c ob q n hx=>by
  obtain⟨o',e1⟩:=a.there c ob q hx
  exact b.free c o' e1 (a.free c ob q n hx) hx
 there:=λ c ob q hx=>by
  obtain⟨o',e1⟩:=a.there c ob q hx
  exact b.there c o' e1 hx
 tups:=λ c xs q=>b.tups c xs (a.tups c xs q)
 frzs:=λ c ob xs q=>b.frzs c ob xs (a.frzs c ob xs q)
 tbls:=λ c ps q=>by
  obtain⟨m1,e1⟩:=a.tbls c ps q
  obtain⟨m2,e2⟩:=b.tbls c _ e1
  exact⟨m1++m2,by rw[e2,Array.append_assoc]⟩
theorem Un.kept (k:∀ b u,h.get? b=some u->h'.get? b=some u):Un fs ex H H h h' :=
 ⟨λ b ob q _ _ _=>k b ob q,λ b ob q _ _ _=>⟨ob.slots,k b ob q⟩,λ _ _ _ n _=>n,λ b ob q _=>⟨ob,k b ob q⟩,λ _ _ q=>q,λ _ _ _ q=>q,λ _ ps q=>⟨#[],by rw[q];simp⟩⟩
theorem Un.refl:Un fs ex H H h h:=Un.kept λ _ _ q=>q
theorem Un.laid (k:∀ b u,h.get? b=some u->h'.get? b=some u)(hp:h.objs.size<=a)(hn:H a=none):Un fs ex H (upd H a o) h h' where
 keep:=λ b u q _ _ _=>k b u q
 slot:=λ b u q _ _ _=>⟨u.slots,k b u q⟩
 free:=λ b u q n _=>by rw[zas (uau (ua4 (Heap.lt_size q) hp))];exact n
 there:=λ b u q _=>⟨u,k b u q⟩
 tups:=λ b xs q=>by rw[zas (zal q hn)];exact q
 frzs:=λ b u xs q=>by rw[zas (zal q hn)];exact q
 tbls:=λ b ps q=>⟨#[],by rw[zas (zal q hn),q];simp⟩
theorem Un.write (mu:Mut (H x))(he:e=x\/H e=some (.own x))(k:∀ b u,b≠e->h.get? b=some u->h'.get? b=some u)(heo:∃ u,h'.get? e=some u):Un fs ex H (upd H x o) h h':=by
 have hx:∀ b,H b=none->b≠x:=λ b n z=>by subst z;rw[n] at mu;exact mu
 have hb:∀ b,H b=none->b≠e:=λ b n z=>by
  subst z
  rcases he with r | r
  ·exact hx b n r
  ·rw[n] at r;cases r
 have hm:∀ b u,H b=some u->¬ Mut (some u)->b≠x:=λ b u q nm z=>by subst z;rw[q] at mu;exact nm mu
 refine⟨λ b u q n _ _=>k b u (hb b n) q,λ b u q n _ _=>⟨u.slots,k b u (hb b n) q⟩,λ b u q n _=>by rw[zas (hx b n)];exact n,λ b u q _=>?_,
  λ b xs q=>by rw[zas (hm b _ q λ z=>z)];exact q,λ b u xs q=>by rw[zas (hm b _ q λ z=>z)];exact q,λ b ps q=>⟨#[],by rw[zas (hm b _ q λ z=>z),q];simp⟩⟩
 by_cases hbe:b=e
 ·subst hbe;exact heo
 ·exact⟨u,k b u hbe q⟩
end
def trk (h:Heap)(H:Hp):List Addr:=(uac h.objs.size).filter λ a=>(H a).isSome
def hidT (h:Heap)(H:Hp):Heap:=PySem.W.hideAll h (trk h H)
theorem zo2 (h:Heap)(H:Hp):(hidT h H).objs.size=h.objs.size:=PySem.W.hideAll_size _ _
theorem zrd {h:Heap}{H:Hp}{b:Addr}{o:Obj}(e:h.get? b=some o)(n:H b=none):(hidT h H).get? b=some o :=
 PySem.W.hideAll_get _ e λ hm=>by
  have q:(H b).isSome=true:=(uaz.mp hm).2
  rw[n] at q;simp at q
theorem zs5 {h:Heap}{H:Hp}{b:Addr}{o:Obj}(e:(hidT h H).get? b=some o):h.get? b=some o/\H b=none:=by
 have e':h.get? b=some o:=PySem.W.of_hideAll (trk h H) e
 refine⟨e',?_⟩
 cases q:H b with
 | none=>rfl
 | some x =>
  have hm:b∈trk h H:=uaz.mpr ⟨uaj.mpr (Heap.lt_size e'),by simp [q]⟩
  have z:(hidT h H).get? b=none:=PySem.W.hideAll_none (trk h H) hm
  rw[z] at e;cases e
def allNews (g h:Heap)(L:Addr):List (Addr × Obj):=(uac h.objs.size).filterMap λ a=>if a=L\/(g.get? a).isSome=true then none else (h.get? a).map λ o=>(a,o)
def rest (g h:Heap)(L d:Addr):List (Addr × Obj):=(allNews g h L).filter λ p=>decide (p.1≠d)
end L2
namespace L2
open PySem PySem.Spec PyProof.Rows
structure Mod (K:uad)(mg:Str->Option Value)(base:Heap):Prop where
 kin:K.In base
 glob:base.Ns mainGlobals mg
 blt:∃ mb,base.Ns builtinsNs mb/\∀ x:Str,x≠"__name__"->mb x=bootBuiltins x
 nolimit:base.NoLimit
structure Cx where
 prog:Program
 w:World
 K:uad
 mg:Str->Option Value
 base:Heap
 A:Around
 N:List Str
 s₀:Shared
 H₀:Hp
 env:Env
 outer:List Env
 stack:List Env
 ex:List Addr
 fn:Str->Bool
 calm:Bool
 pn:List (Addr × Obj)
 xe:Value->Shared->Prop
def frs (l:List Env):List Addr:=l.filterMap (·.frame)
abbrev Cx.fs (X:Cx):List Addr:=frs X.outer
def Vis (sc:Scope)(x:Str):Prop:=sc.names.lookup x=some .local\/sc.names.lookup x=some .cell\/sc.names.lookup x=some .free
def Loc (sc:Scope)(x:Str):Prop:=sc.names.lookup x=some .local\/sc.names.lookup x=some .cell
def Look (env:Env)(h:Heap)(m:Str->Option Value)(x:Str)(u:Value):Prop :=
 (env.kindOf x=some .local/\m x=some u)\/((env.kindOf x=some .cell\/env.kindOf x=some .free)/\∃ c,env.cells.lookup x=some c/\h.IsCell c (some u))
structure Cx.Ok (X:Cx):Prop where
 mod:Mod X.K X.mg X.base
 kind:X.env.scope.kind=.function
 glob:X.env.globals=mainGlobals
 blt:X.env.builtins=builtinsNs
 above:X.s₀.heap.objs.size<=X.env.locals
 inj:∀ x y c,X.env.cells.lookup x=some c->X.env.cells.lookup y=some c->x=y
 has:∀ x,(X.env.kindOf x=some .cell\/X.env.kindOf x=some .free)->∃ c,X.env.cells.lookup x=some c
 cab:∀ x c,X.fn x=true->X.env.cells.lookup x=some c->X.s₀.heap.objs.size<=c
 hd:X.calm=true->X.A.handled=none
 frames:X.A.frames=some X.stack
 stk:X.stack=X.outer\/(X.stack=X.env::X.outer/\X.env.frame=some X.env.locals)
 exf:∀ b∈X.ex,b≠X.env.locals/\∀ x c,X.env.cells.lookup x=some c->c≠b
 bs:∀ b o,X.base.get? b=some o->X.s₀.heap.get? b=some o/\X.H₀ b=none
 bsz:X.base.objs.size<=X.s₀.heap.objs.size
 noex:∀ b o,X.base.get? b=some o->b∉X.ex
 exfs:∀ b∈X.ex,b∉X.fs
 funs:X.s₀.heap.FunFrames X.base X.outer
 frf:∀ b∈X.fs,X.H₀ b=none
structure Inv (X:Cx)(pins:List (Addr × Obj))(σ:List (Option V))(H:Hp)(s:Shared):Prop where
 ok:X.Ok
 os:s.os=X.s₀.os
 bare:AllBare s.gens
 base:Un X.fs X.ex X.H₀ H X.s₀.heap s.heap
 loc:∃ m,s.heap.Ns X.env.locals m/\∀ (i:Nat)(x:Str)(v:V),X.N[i]?=some x->σ[i]?=some (some v)->Vis X.env.scope x->∃ u,RelV v u/\Look X.env s.heap m x u
 cell:∀ x c,X.env.cells.lookup x=some c->∃ v,s.heap.IsCell c v
 free:H X.env.locals=none
 freeC:∀ x c,X.env.cells.lookup x=some c->H c=none
 pin:∀ p∈X.pn++pins,s.heap.get? p.1=some p.2/\H p.1=none/\p.1≠X.env.locals/\p.1∉X.fs/\∀ v,p.2.data≠.cell v
 hok:HOk X.prog X.w H s.heap
 len:σ.length=X.N.length
section
variable {X:Cx}{pins:List (Addr × Obj)}{σ:List (Option V)}{H H':Hp}{s:Shared}{h':Heap}
theorem Cx.Ok.nofr (ok:X.Ok){b:Addr}{o:Obj}(e:X.base.get? b=some o):b∉X.fs:=λ hb=>by
 have:=(ok.funs.mem hb).1
 rw[e] at this;cases this
theorem Inv.bs (I:Inv X pins σ H s):∀ b o,X.base.get? b=some o->s.heap.get? b=some o/\H b=none:=λ b o e =>
 ⟨I.base.keep b o (I.ok.bs b o e).1 (I.ok.bs b o e).2 (I.ok.nofr e) (I.ok.noex b o e),I.base.free b o (I.ok.bs b o e).1 (I.ok.bs b o e).2 (I.ok.noex b o e)⟩
theorem Inv.bk (I:Inv X pins σ H s):∀ b o,X.base.get? b=some o->s.heap.get? b=some o:=λ b o e=>(I.bs b o e).1
theorem Inv.mod (I:Inv X pins σ H s):Mod X.K X.mg X.base:=I.ok.mod
theorem Inv.kIn (I:Inv X pins σ H s):X.K.In s.heap:=I.ok.mod.kin.keeps I.bk
theorem Inv.lt (I:Inv X pins σ H s):X.env.locals<s.heap.objs.size:=let ⟨_,hn,_⟩:=I.loc;hn.lt
theorem Inv.sz (I:Inv X pins σ H s):X.s₀.heap.objs.size<=s.heap.objs.size:=ubr I.ok.above (ufq I.lt)
theorem Inv.nofs (I:Inv X pins σ H s){a:Addr}(h:s.heap.objs.size<=a):a∉X.fs:=λ hb=>by
 obtain⟨_,o,ho,_⟩:=I.ok.funs.mem hb
 exact absurd (ua4 (Heap.lt_size ho) (ubr I.sz h)) (ucw _)
theorem Inv.cne (I:Inv X pins σ H s):∀ x c,X.env.cells.lookup x=some c->c≠X.env.locals:=λ x c e z=>by
 obtain⟨v,o,ho,hd⟩:=I.cell x c e
 obtain⟨m,⟨o',es,ep,ho',hd',_⟩,_⟩:=I.loc
 rw[z,ho'] at ho;cases ho;rw[hd'] at hd;cases hd
theorem Inv.funs (I:Inv X pins σ H s):s.heap.FunFrames X.base X.outer:=by
 have all:∀ (l:List Env),(∀ b∈frs l,b∈X.fs)->X.s₀.heap.FunFrames X.base l->s.heap.FunFrames X.base l:=by
  intro l
  induction l with
  | nil=>intro _ _;trivial
  | cons env r ih =>
   intro hs hl
   obtain⟨hk,⟨L,o,hf,hn,ho,hd⟩,hr⟩:=hl
   have hL:L∈X.fs:=hs L (by unfold frs;rw[ucf,hf];exact uan)
   obtain⟨sl,e⟩:=I.base.slot L o ho (I.ok.frf L hL) hL λ z=>I.ok.exfs L z hL
   exact⟨hk,⟨L,_,hf,hn,e,hd⟩,ih (λ b hb=>hs b (by unfold frs;rw[ucf,hf];exact uam _ hb)) hr⟩
 exact all X.outer (λ _ hb=>hb) I.ok.funs
theorem Inv.stack (I:Inv X pins σ H s):s.heap.FunFrames X.base X.stack:=by
 rcases I.ok.stk with e | ⟨e,hf⟩
 ·rw[e];exact I.funs
 ·rw[e]
  obtain⟨m,hn,_⟩:=I.loc
  refine .cons (by rw[I.ok.kind];decide) hf hn ?_ I.funs
  exact Heap.get?_none_of_le (ubr I.ok.bsz I.ok.above)
theorem Inv.stkSub (I:Inv X pins σ H s):∀ b∈frs X.stack,b∈X.env.locals::X.fs:=λ b hb=>by
 rcases I.ok.stk with e | ⟨e,hf⟩
 ·rw[e] at hb;exact uam _ hb
 ·rw[e] at hb
  unfold frs at hb
  rw[ucf,hf] at hb
  exact hb
theorem Inv.stkFree (I:Inv X pins σ H s):∀ b∈frs X.stack,H b=none:=λ b hb=>by
 rcases uar.mp (I.stkSub b hb) with e | hb
 ·rw[e];exact I.free
 ·obtain⟨_,o,ho,_⟩:=I.ok.funs.mem hb
  exact I.base.free b o ho (I.ok.frf b hb) λ z=>I.ok.exfs b z hb
theorem Inv.step {g':Array GenState}{t':Nat}{d':Drawn}{ch:List Addr}(I:Inv X pins σ H s)
  (hch:∀ b∈ch,(b∈X.ex\/X.s₀.heap.objs.size<=b)/\b≠X.env.locals/\(∀ x c,X.env.cells.lookup x=some c->c≠b)/\∀ p∈X.pn++pins,p.1≠b)
  (keep:∀ b o,b≠X.env.locals->b∉X.fs->b∉ch->s.heap.get? b=some o->H b=none->h'.get? b=some o)
  (slot:∀ b o,b≠X.env.locals->b∈X.fs->b∉ch->s.heap.get? b=some o->H b=none->∃ sl,h'.get? b=some { o with slots:=sl }) (free:∀ b o,b∉ch->s.heap.get? b=some o->H b=none->H' b=none)
  (there:∀ b o,b∉ch->s.heap.get? b=some o->∃ o',h'.get? b=some o')
  (tups:∀ b xs,H b=some (.tup xs)->H' b=some (.tup xs)) (frzs:∀ b o u,H b=some (.frz o u)->H' b=some (.frz o u)) (tbls:∀ b ps,H b=some (.tbl ps)->∃ more,H' b=some (.tbl (ps++more)))
  (ns:∀ m,s.heap.Ns X.env.locals m->h'.Ns X.env.locals m) (hok:HOk X.prog X.w H' h') (hg:AllBare g') :
  Inv X pins σ H' { s with heap:=h',gens:=g',drawn:=d',toks:=t' }:=by
 have neL:∀ b o,X.s₀.heap.get? b=some o->b≠X.env.locals:=λ b o e=>uau (ua4 (Heap.lt_size e) I.ok.above)
 have neC:∀ b o,X.s₀.heap.get? b=some o->b∉X.ex->b∉ch:=λ b o e hx hb=>by
  rcases (hch b hb).1 with z | z
  ·exact hx z
  ·exact absurd (ua4 (Heap.lt_size e) z) (ucw _)
 have cellK:∀ x c,X.env.cells.lookup x=some c->∀ v,s.heap.IsCell c v->h'.IsCell c v:=λ x c e v ⟨o,ho,hd⟩=>by
  have nch:c∉ch:=λ z=>(hch c z).2.2.1 x c e rfl
  by_cases hc:c∈X.fs
  ·obtain⟨sl,q⟩:=slot c o (I.cne x c e) hc nch ho (I.freeC x c e)
   exact⟨_,q,hd⟩
  ·exact⟨o,keep c o (I.cne x c e) hc nch ho (I.freeC x c e),hd⟩
 refine⟨I.ok,I.os,hg,⟨λ b o e n hb hx=>?_,λ b o e n hb hx=>?_,λ b o e n hx=>?_,λ b o e hx=>?_,λ b xs e=>tups b xs (I.base.tups b xs e),λ b o xs e=>frzs b o xs (I.base.frzs b o xs e),λ b ps e=>?_⟩,?_,λ x c e=>?_,?_,λ x c e=>?_,λ p hp=>?_,hok,I.len⟩
 ·exact keep b o (neL b o e) hb (neC b o e hx) (I.base.keep b o e n hb hx) (I.base.free b o e n hx)
 ·obtain⟨sl,e1⟩:=I.base.slot b o e n hb hx
  obtain⟨sl',e2⟩:=slot b _ (neL b o e) hb (neC b o e hx) e1 (I.base.free b o e n hx)
  exact⟨sl',e2⟩
 ·obtain⟨o',e1⟩:=I.base.there b o e hx
  exact free b o' (neC b o e hx) e1 (I.base.free b o e n hx)
 ·obtain⟨o',e1⟩:=I.base.there b o e hx
  exact there b o' (neC b o e hx) e1
 ·obtain⟨m1,e1⟩:=I.base.tbls b ps e
  obtain⟨m2,e2⟩:=tbls b _ e1
  exact⟨m1++m2,by rw[e2,Array.append_assoc]⟩
 ·obtain⟨m,hn,hl⟩:=I.loc
  refine⟨m,ns m hn,λ i x v e1 e2 e3=>?_⟩
  obtain⟨u,r,l⟩:=hl i x v e1 e2 e3
  refine⟨u,r,?_⟩
  rcases l with l | ⟨k,c,e,z⟩
  ·exact .inl l
  ·exact .inr ⟨k,c,e,cellK x c e _ z⟩
 ·obtain⟨v,z⟩:=I.cell x c e
  exact⟨v,cellK x c e v z⟩
 ·obtain⟨m,⟨o,_,_,ho,_⟩,_⟩:=I.loc
  exact free _ o (λ z=>(hch _ z).2.1 rfl) ho I.free
 ·obtain⟨v,o,ho,hd⟩:=I.cell x c e
  exact free c o (λ z=>(hch c z).2.2.1 x c e rfl) ho (I.freeC x c e)
 ·obtain⟨e,n,ne,nf,d⟩:=I.pin p hp
  have nch:p.1∉ch:=λ z=>(hch p.1 z).2.2.2 p hp rfl
  exact⟨keep p.1 p.2 ne nf nch e n,free p.1 p.2 nch e n,ne,nf,d⟩
theorem Inv.un {t':Nat}(I:Inv X pins σ H s)(u:Un X.fs [] H H' s.heap h')(hok:HOk X.prog X.w H' h'):Inv X pins σ H' { s with heap:=h',toks:=t' }:=by
 obtain⟨m,⟨o,es,ep,ho,r⟩,_⟩:=id I.loc
 obtain⟨sl,hL⟩:=u.any ho I.free (by simp)
 exact I.step (g':=s.gens) (d':=s.drawn) (ch:=[]) (λ _ z=>nomatch z) (λ b o _ hb _ e n=>u.keep b o e n hb (by simp)) (λ b o _ hb _ e n=>u.slot b o e n hb (by simp)) (λ b o _ e n=>u.free b o e n (by simp)) (λ b o _ e=>u.there b o e (by simp)) u.tups u.frzs u.tbls (λ m' hm=>by
  obtain⟨o',es',ep',ho',r'⟩:=hm
  rw[ho] at ho';cases ho'
  exact⟨_,es',ep',hL,r'⟩) hok I.bare
theorem Inv.call {g':Array GenState}{t':Nat}{d':Drawn}{ch:List Addr}(I:Inv X pins σ H s)(u:Un (frs X.stack) ch H H' s.heap h')(hok:HOk X.prog X.w H' h')(hg:AllBare g')
  (hch:∀ b∈ch,(b∈X.ex\/X.s₀.heap.objs.size<=b)/\b≠X.env.locals/\(∀ x c,X.env.cells.lookup x=some c->c≠b)/\∀ p∈X.pn++pins,p.1≠b) :
  Inv X pins σ H' { s with heap:=h',gens:=g',drawn:=d',toks:=t' }:=by
 obtain⟨m,⟨o,es,ep,ho,r⟩,_⟩:=id I.loc
 obtain⟨sl,hL⟩:=u.any ho I.free λ z=>(hch _ z).2.1 rfl
 exact I.step (ch:=ch) hch (λ b o hL hb hc e n=>u.keep b o e n (λ z=>(uar.mp (I.stkSub b z)).elim hL hb) hc) (λ b o _ _ hc e n=>u.any e n hc) (λ b o hc e n=>u.free b o e n hc) (λ b o hc e=>u.there b o e hc) u.tups u.frzs u.tbls (λ m' hm=>by
  obtain⟨o',es',ep',ho',r'⟩:=hm
  rw[ho] at ho';cases ho'
  exact⟨_,es',ep',hL,r'⟩) hok hg
theorem Inv.turned {t':Nat}{it:Addr}(I:Inv X pins σ H s)(k:∀ b o,b≠it->s.heap.get? b=some o->h'.get? b=some o)(hn:H it=none)(hL:it≠X.env.locals)
  (h1:it∈X.ex\/X.s₀.heap.objs.size<=it) (h2:∀ x c,X.env.cells.lookup x=some c->c≠it) (h3:∀ p∈X.pn++pins,p.1≠it):Inv X pins σ H { s with heap:=h',toks:=t' }:=by
 have nit:∀ b u,H b=some u->b≠it:=λ b u e z=>by rw[z,hn] at e;cases e
 refine I.step (g':=s.gens) (d':=s.drawn) (ch:=[it]) (λ b hb=>?_) (λ b o _ _ hc e _=>k b o (λ z=>hc (by simp [z])) e) (λ b o _ _ hc e _=>⟨o.slots,k b o (λ z=>hc (by simp [z])) e⟩) (λ _ _ _ _ n=>n)
  (λ b o hc e=>⟨o,k b o (λ z=>hc (by simp [z])) e⟩) (λ _ _ e=>e) (λ _ _ _ e=>e) (λ b ps e=>⟨#[],by rw[e];simp⟩) (λ m hm=>?_) (λ b u e=>?_) I.bare
 ·have e:b=it:=by simpa using hb
  subst e
  exact⟨h1,hL,h2,h3⟩
 ·obtain⟨o,es,ep,ho,r⟩:=hm
  exact⟨o,es,ep,k _ o (Ne.symm hL) ho,r⟩
 ·refine (I.hok b u e).stay (λ c v hc q=>k c v ?_ q) (λ _ q=>q) λ _ _ q=>q
  rcases hc with z | z
  ·rw[z];exact nit b u e
  ·exact nit c _ z
theorem Inv.tok (I:Inv X pins σ H s)(t:Nat):Inv X pins σ H { s with toks:=t }:=I.un (h':=s.heap) (t':=t) Un.refl I.hok
theorem Inv.kept {t':Nat}(I:Inv X pins σ H s)(k:∀ b u,s.heap.get? b=some u->h'.get? b=some u):Inv X pins σ H { s with heap:=h',toks:=t' }:=I.un (Un.kept k) (I.hok.kept k)
theorem Inv.laid {a:Addr}{o:HO}{t':Nat}(I:Inv X pins σ H s)(k:∀ b u,s.heap.get? b=some u->h'.get? b=some u)(hp:s.heap.objs.size<=a)(new:ObjOk X.prog X.w (upd H a o) h' a o) :
  Inv X pins σ (upd H a o) { s with heap:=h',toks:=t' }:=I.un (Un.laid k hp (I.hok.fresh hp)) (I.hok.laid k hp new)
theorem Inv.write {x e:Addr}{o:HO}{t':Nat}(I:Inv X pins σ H s)(mu:Mut (H x))(he:e=x\/H e=some (.own x))(k:∀ b u,b≠e->s.heap.get? b=some u->h'.get? b=some u)(heo:∃ u,h'.get? e=some u)
  (new:ObjOk X.prog X.w (upd H x o) h' x o):Inv X pins σ (upd H x o) { s with heap:=h',toks:=t' }:=I.un (Un.write mu he k heo) (I.hok.write mu he k heo new)
theorem Inv.pins_of {pins':List (Addr × Obj)}(I:Inv X pins σ H s)(h:∀ p∈pins',s.heap.get? p.1=some p.2/\H p.1=none/\p.1≠X.env.locals/\p.1∉X.fs/\∀ v,p.2.data≠.cell v):Inv X pins' σ H s :=
 ⟨I.ok,I.os,I.bare,I.base,I.loc,I.cell,I.free,I.freeC,λ p hp=>(ua6.mp hp).elim (λ z=>I.pin p (ucv _ z)) (h p),I.hok,I.len⟩
theorem zlw {N:List Str}(hN:N.Nodup){i j:Nat}{x:Str}(a:N[i]?=some x)(b:N[j]?=some x):i=j:=by
 obtain⟨h1,e1⟩:=ual.mp a
 obtain⟨h2,e2⟩:=ual.mp b
 exact (List.getElem_inj hN).mp (e1.trans e2.symm)
theorem zir {M:Model}{A:Around}{E:Value->Shared->Prop}{i:Nat}{x:Str}{v:V}{u:Value}{Q:Unit->Shared->Prop}(I:Inv X pins σ H s)(hN:X.N.Nodup)(hi:X.N[i]?=some x)(hx:Loc X.env.scope x)(r:RelV v u)
  (h:∀ s',Inv X pins (σ.set i (some v)) H s'->(∃ a,Heap.SameBut a s.heap s'.heap/\(a=X.env.locals\/X.env.cells.lookup x=some a))->Q () s') (hf:X.fn x=true\/X.env.scope.names.lookup x=some .local:=by first | exact .inl rfl | exact .inr rfl | assumption):wpAny M A (storeName X.env x u) Q E s:=by
 obtain⟨m,hn,hl⟩:=id I.loc
 have hcls:(X.env.scope.kind==.class||(X.env.scope.kind==.module&&X.env.locals != X.env.globals))=false:=by rw[I.ok.kind];rfl
 have hiσ:i<σ.length:=by rw[I.len];exact (ual.mp hi).1
 have cne:=I.cne
 have tracked:∀ {a:Addr}{h':Heap},(∃ o,s.heap.get? a=some o/\H a=none)->Heap.SameBut a s.heap h'->HOk X.prog X.w H h':=λ {a h'} ha hs b ob e=>by
  obtain⟨_,_,hfree⟩:=ha
  refine (I.hok b ob e).stay (λ c w' hc q=>(hs.2 c ?_).trans q) (λ _ q=>q) λ _ _ q=>q
  rintro rfl
  rcases hc with rfl | hc
  ·rw[hfree] at e;cases e
  ·rw[hfree] at hc;cases hc
 rcases hx with hk | hk
 ·refine wpAny_storeName_local hk hn (λ h' hn' hs=>?_) hcls
  obtain⟨oL,_,_,hoL,_⟩:=id hn
  refine h _ ⟨I.ok,I.os,I.bare,⟨λ b o e n hb hx=>?_,λ b o e n hb hx=>?_,I.base.free,λ b o e hx=>?_,I.base.tups,I.base.frzs,I.base.tbls⟩,⟨_,hn',λ j y v' e1 e2 e3=>?_⟩,λ y c e=>?_,I.free,I.freeC,λ p hp=>?_,tracked ⟨oL,hoL,I.free⟩ hs,by simpa using I.len⟩ ⟨_,hs,.inl rfl⟩
  ·exact (hs.2 b (uau (ua4 (Heap.lt_size e) I.ok.above))).trans (I.base.keep b o e n hb hx)
  ·obtain⟨sl,e1⟩:=I.base.slot b o e n hb hx
   exact⟨sl,(hs.2 b (uau (ua4 (Heap.lt_size e) I.ok.above))).trans e1⟩
  ·obtain⟨o',e1⟩:=I.base.there b o e hx
   exact⟨o',(hs.2 b (uau (ua4 (Heap.lt_size e) I.ok.above))).trans e1⟩
  ·by_cases hj:j=i
   ·subst hj
    rw[hi] at e1;cases e1
    rw[ufk hiσ] at e2
    cases e2
    exact⟨u,r,.inl ⟨hk,by simp⟩⟩
   ·rw[ufr (Ne.symm hj)] at e2
    obtain⟨u',r',q⟩:=hl j y v' e1 e2 e3
    refine⟨u',r',?_⟩
    rcases q with ⟨k,e⟩ | ⟨k,c,e,z⟩
    ·refine .inl ⟨k,?_⟩
     have:y≠x:=λ e=>hj (zlw hN e1 (e ▸ hi))
     simp [this,e]
    ·exact .inr ⟨k,c,e,z.sameBut hs (cne y c e)⟩
  ·obtain⟨w',z⟩:=I.cell y c e
   exact⟨w',z.sameBut hs (cne y c e)⟩
  ·obtain⟨e,n,ne,nf,d⟩:=I.pin p hp
   exact⟨(hs.2 p.1 ne).trans e,n,ne,nf,d⟩
 ·have hfn:X.fn x=true:=by
   rcases hf with z | z
   ·exact z
   ·rw[z] at hk;cases hk
  obtain⟨c,hc⟩:=I.ok.has x (.inl hk)
  obtain⟨w',z⟩:=I.cell x c hc
  refine wpAny_storeName_cell I.ok.kind hk hc z (λ h' hc' hs=>?_)
  obtain⟨oc,hoc,hocd⟩:=id z
  refine h { s with heap:=h' } ⟨I.ok,I.os,I.bare,⟨λ b o e n hb hx=>?_,λ b o e n hb hx=>?_,I.base.free,λ b o e hx=>?_,I.base.tups,I.base.frzs,I.base.tbls⟩,⟨m,hn.sameBut hs (Ne.symm (cne x c hc)),λ j y v' e1 e2 e3=>?_⟩,λ y c' e=>?_,I.free,I.freeC,λ p hp=>?_,tracked ⟨oc,hoc,I.freeC x c hc⟩ hs,by simpa using I.len⟩ ⟨c,hs,.inr hc⟩
  ·exact (hs.2 b (uau (ua4 (Heap.lt_size e) (I.ok.cab x c hfn hc)))).trans (I.base.keep b o e n hb hx)
  ·obtain⟨sl,e1⟩:=I.base.slot b o e n hb hx
   exact⟨sl,(hs.2 b (uau (ua4 (Heap.lt_size e) (I.ok.cab x c hfn hc)))).trans e1⟩
  ·obtain⟨o',e1⟩:=I.base.there b o e hx
   exact⟨o',(hs.2 b (uau (ua4 (Heap.lt_size e) (I.ok.cab x c hfn hc)))).trans e1⟩
  ·by_cases hj:j=i
   ·subst hj
    rw[hi] at e1;cases e1
    rw[ufk hiσ] at e2
    cases e2
    exact⟨u,r,.inr ⟨.inl hk,c,hc,hc'⟩⟩
   ·rw[ufr (Ne.symm hj)] at e2
    obtain⟨u',r',q⟩:=hl j y v' e1 e2 e3
    refine⟨u',r',?_⟩
    rcases q with q | ⟨k,c',e,z'⟩
    ·exact .inl q
    ·refine .inr ⟨k,c',e,z'.sameBut hs ?_⟩
     rintro rfl
     exact hj (zlw hN e1 (I.ok.inj _ _ _ e hc ▸ hi))
  ·by_cases hcc:c'=c
   ·subst hcc;exact⟨_,hc'⟩
   ·obtain⟨w2,z2⟩:=I.cell y c' e
    exact⟨w2,z2.sameBut hs hcc⟩
  ·obtain⟨e,n,ne,nf,d⟩:=I.pin p hp
   refine⟨(hs.2 p.1 ?_).trans e,n,ne,nf,d⟩
   intro q
   rw[q,hoc] at e
   have q':oc=p.2:=ua3 e
   exact d w' (by rw[← q'];exact hocd)
theorem zlk {M:Model}{A:Around}{E:Value->Shared->Prop}{i:Nat}{x:Str}{v:V}{u:Value}{Q:Unit->Shared->Prop}(I:Inv X pins σ H s)(hN:X.N.Nodup)(hi:X.N[i]?=some x)(hx:Loc X.env.scope x)(r:RelV v u)
  (h:∀ s',Inv X pins (σ.set i (some v)) H s'->Q () s') (hf:X.fn x=true\/X.env.scope.names.lookup x=some .local:=by first | exact .inl rfl | exact .inr rfl | assumption):wpAny M A (storeName X.env x u) Q E s :=
 zir I hN hi hx r (λ s' I' _=>h s' I') hf
theorem Inv.call' {s':Shared}{ch:List Addr}(I:Inv X pins σ H s)(ho:s'.os=s.os)(u:Un (frs X.stack) ch H H' s.heap s'.heap)(hok:HOk X.prog X.w H' s'.heap)(hg:AllBare s'.gens)
  (hch:∀ b∈ch,(b∈X.ex\/X.s₀.heap.objs.size<=b)/\b≠X.env.locals/\(∀ x c,X.env.cells.lookup x=some c->c≠b)/\∀ p∈X.pn++pins,p.1≠b):Inv X pins σ H' s':=by
 obtain⟨h',g',d',t',o'⟩:=s'
 have e:o'=s.os:=ho
 subst e
 exact I.call (g':=g') (t':=t') (d':=d') u hok hg hch
end
abbrev XK:=Value->Option Addr->Hp->Prop
abbrev St:=List (Option V)
abbrev VK:=V->Hp->Prop
abbrev TE:=St->Hp->VK->Prop
abbrev TT:=St->Hp->(Bool->Hp->Prop)->Prop
abbrev TA:=St->Hp->(List V->Hp->Prop)->Prop
structure Ends where
 nx:St->Hp->Prop
 rt:VK
 bk:St->Hp->Prop:=λ _ _=>False
 ct:St->Hp->Prop:=λ _ _=>False
abbrev TS:=Ends->St->Hp->Prop
def EP (X:Cx)(pins:List (Addr × Obj))(σ:St)(Q:VK)(u:Value)(s':Shared):Prop:=∃ v H',Inv X pins σ H' s'/\RelV v u/\Q v H'
def TP (X:Cx)(pins:List (Addr × Obj))(σ:St)(Q:Bool->Hp->Prop)(b:Bool)(s':Shared):Prop:=∃ H',Inv X pins σ H' s'/\Q b H'
def AP (X:Cx)(pins:List (Addr × Obj))(σ:St)(Q:List V->Hp->Prop)(us:List Value)(s':Shared):Prop:=∃ vs H',Inv X pins σ H' s'/\Vals vs us/\Q vs H'
def SP (X:Cx)(pins:List (Addr × Obj))(D:Ends)(f:Flow)(s':Shared):Prop :=
 match f with
 | .next=>∃ σ' H',Inv X pins σ' H' s'/\D.nx σ' H'
 | .brk=>∃ σ' H',Inv X pins σ' H' s'/\D.bk σ' H'
 | .cont=>∃ σ' H',Inv X pins σ' H' s'/\D.ct σ' H'
 | .ret u=>∃ v σ' H',Inv X pins σ' H' s'/\RelV v u/\D.rt v H'
def PE (X:Cx)(e:Expr)(t:TE):Prop :=
 ∀ (pins:List (Addr × Obj))(s:Shared)(σ:St)(H:Hp)(Q:VK),Inv X pins σ H s->t σ H Q->wpAny (model X.prog X.w) X.A (eval e X.env) (EP X pins σ Q) X.xe s
def PT (X:Cx)(e:Expr)(t:TT):Prop :=
 ∀ (pins:List (Addr × Obj))(s:Shared)(σ:St)(H:Hp)(Q:Bool->Hp->Prop),Inv X pins σ H s->t σ H Q->wpAny (model X.prog X.w) X.A (isTrue e X.env (eval e X.env)) (TP X pins σ Q) X.xe s
def PW (X:Cx)(e:Expr)(t:TT):Prop :=
 ∀ (whole:Sem Value)(pins:List (Addr × Obj))(s:Shared)(σ:St)(H:Hp)(Q:Bool->Hp->Prop),Inv X pins σ H s->t σ H Q->wpAny (model X.prog X.w) X.A (isTrue e X.env whole) (TP X pins σ Q) X.xe s
theorem PW.pt {X:Cx}{e:Expr}{t:TT}(h:PW X e t):PT X e t:=h _
def PA (X:Cx)(es:List Expr)(t:TA):Prop :=
 ∀ (pos:Pos)(pins:List (Addr × Obj))(s:Shared)(σ:St)(H:Hp)(Q:List V->Hp->Prop),Inv X pins σ H s->t σ H Q->wpAny (model X.prog X.w) X.A (spliced (backTo pos (starEach es X.env))) (AP X pins σ Q) X.xe s
def PS (X:Cx)(st:Stmt)(t:TS):Prop :=
 ∀ (pins:List (Addr × Obj))(s:Shared)(σ:St)(H:Hp)(D:Ends),Inv X pins σ H s->t D σ H->wpAny (model X.prog X.w) X.A (exec st X.env) (SP X pins D) X.xe s
def PSs (X:Cx)(st:List Stmt)(t:TS):Prop :=
 ∀ (pins:List (Addr × Obj))(s:Shared)(σ:St)(H:Hp)(D:Ends),Inv X pins σ H s->t D σ H->wpAny (model X.prog X.w) X.A (execs st X.env) (SP X pins D) X.xe s
theorem thn {α:Type}{t:Sem α}{Q Q':α->Shared->Prop}{M:Model}{A:Around}{E:Value->Shared->Prop}{s:Shared}(h:wpAny M A t Q E s)(hQ:∀ a s,Q a s->Q' a s):wpAny M A t Q' E s:=udm h hQ λ _ _ x=>x
end L2
namespace L2
open PySem PySem.Spec PyProof.Rows
section
variable {X:Cx}
inductive EVar (σ:L2.St)(i:Nat)(Q:V->Prop):Prop
 | mk:∀ v,(σ[i]?=some (some v))->Q v->EVar σ i Q
inductive EBl (x:V)(Q:Bool->Prop):Prop
 | mk:∀ c,(x=.bl c)->Q c->EBl x Q
inductive EInt (x:V)(Q:Int->Prop):Prop
 | mk:∀ i,(x=.int i)->Q i->EInt x Q
inductive ERef (x:V)(Q:Addr->Prop):Prop
 | mk:∀ a,(x=.ref a)->Q a->ERef x Q
inductive EOne (vs:List V)(Q:Int->Prop):Prop
 | mk:∀ j,(vs=[.int j])->Q j->EOne vs Q
inductive ETwo (vs:List V)(Q:V->V->Prop):Prop
 | mk:∀ v w,(vs=[v,w])->Q v w->ETwo vs Q
def tVar (i:Nat):TE:=λ σ H Q=>EVar σ i λ v=>Q v H
def tC (v:V):TE:=λ _ H Q=>Q v H
theorem zt4 {i:Nat}{x:Str}{pos:Pos}(hN:X.N[i]?=some x)(hv:Vis X.env.scope x)(hd:(x==("__debug__":Str))=false:=by decide)(hcd:(x==("__classdict__":Str))=false:=by decide):PE X (.Name x pos) (tVar i):=by
 intro pins s σ H Q I h
 obtain⟨v,e,h⟩:=h
 obtain⟨m,hn,hl⟩:=I.loc
 obtain⟨u,r,l⟩:=hl i x v hN e hv
 have fin:EP X pins σ Q u s:=⟨v,H,I,r,h⟩
 rcases l with ⟨hk,hm⟩ | ⟨hk,c,hc,hcell⟩
 ·exact wpAny_Name (wpAny_loadName_local I.ok.kind hk hn hm fin) hd
 ·rcases hk with hk | hk
  ·exact wpAny_Name (wpAny_loadName_cell I.ok.kind hk hc hcell fin) hd
  ·exact wpAny_Name (wpAny_loadName_free I.ok.kind hk hc hcell fin hcd) hd
theorem zad {i j pos}:PE X (.Constant (.int i) j pos) (tC (.int i)):=λ _ _ _ H _ I h=>wpAny_Constant_int ⟨.int i,H,I.tok _,⟨_,rfl⟩,h⟩
theorem zck {b j pos}:PE X (.Constant (.bool b) j pos) (tC (.bl b)):=λ _ _ _ H _ I h=>Constant_bool ⟨.bl b,H,I,rfl,h⟩
theorem zbn {j pos}:PE X (.Constant .none j pos) (tC .non):=λ _ _ _ H _ I h=>Constant_none ⟨.non,H,I,rfl,h⟩
def Gl (X:Cx)(x:Str):Prop:=X.env.kindOf x=some .globalImplicit
theorem ztb {E:Value->Shared->Prop}{pins:List (Addr × Obj)}{s:Shared}{σ:St}{H:Hp}{x:Str}{u:Value}{pos:Pos}{Q:Value->Shared->Prop}(I:Inv X pins σ H s)(hg:Gl X x)(hm:X.mg x=some u)(h:Q u s)
  (hd:(x==("__debug__":Str))=false:=by decide):wpAny (model X.prog X.w) X.A (eval (.Name x pos) X.env) Q E s :=
 Calls.Name_function_global I.ok.kind hg (Calls.loadGlobal_global (by rw[I.ok.glob];exact I.mod.glob.keeps I.bk) hm h) hd
theorem zfc {E:Value->Shared->Prop}{pins:List (Addr × Obj)}{s:Shared}{σ:St}{H:Hp}{x:Str}{u:Value}{pos:Pos}{Q:Value->Shared->Prop}(I:Inv X pins σ H s)(hg:Gl X x)(hm:X.mg x=none)(hv:bootBuiltins x=some u)(h:Q u s)
  (hn:x≠"__name__":=by decide) (hd:(x==("__debug__":Str))=false:=by decide):wpAny (model X.prog X.w) X.A (eval (.Name x pos) X.env) Q E s:=by
 obtain⟨mb,h1,h2⟩:=I.mod.blt
 exact Calls.Name_function_global I.ok.kind hg (Calls.loadGlobal_builtin (by rw[I.ok.glob];exact I.mod.glob.keeps I.bk) hm (by rw[I.ok.blt];exact h1.keeps I.bk) ((h2 x hn).trans hv) h) hd
theorem zb7 {x:Str}{v:V}{u:Value}{pos:Pos}(hg:Gl X x)(hm:X.mg x=none)(hv:bootBuiltins x=some u)(r:RelV v u)(hn:x≠"__name__":=by decide)(hd:(x==("__debug__":Str))=false:=by decide):PE X (.Name x pos) (tC v) :=
 λ _ _ _ H _ I h=>zfc I hg hm hv ⟨v,H,I,r,h⟩ hn hd
variable {a b:Expr}{ta tb:TE}{pos:Pos}
def tB (t:TE):TT:=λ σ H Q=>t σ H λ x H1=>EBl x λ c=>Q c H1
theorem zbl {e:Expr}{t:TE}(h:PE X e t)(he:∀ whole,isTrue e X.env whole=(do let v ← whole;standAt e.pos;holding [v] (truthy v)):=by intro _;rfl):PT X e (tB t):=by
 intro pins s σ H Q I hw
 refine isTrue_plain (thn (h pins s σ H _ I hw) λ v s1 ⟨x,H1,I1,r1,q1⟩=>?_) (he _)
 obtain⟨d,rfl,q⟩:=q1
 cases r1
 exact udk ⟨H1,I1,q⟩
variable {tA tB':TT}{rest:List Expr}
def tAnd (t u:TT):TT:=λ σ H Q=>t σ H λ c H1=>if c=true then u σ H1 Q else Q false H1
def tOr (t u:TT):TT:=λ σ H Q=>t σ H λ c H1=>if c=true then Q true H1 else u σ H1 Q
def tNot (t:TT):TT:=λ σ H Q=>t σ H λ c H1=>Q (!c) H1
theorem zg4 (ha:PT X a tA):PW X (.BoolOp .And [a] pos) tA:=by
 intro wh pins s σ H Q I h
 refine isTrue_and (thn (ha pins s σ H Q I h) λ c s1 e=>?_)
 cases c with
 | true=>exact isTrue_and_nil e
 | false=>exact e
theorem zbz (ha:PT X a tA):PW X (.BoolOp .Or [a] pos) tA:=by
 intro wh pins s σ H Q I h
 refine isTrue_or (thn (ha pins s σ H Q I h) λ c s1 e=>?_)
 cases c with
 | false=>exact isTrue_or_nil e
 | true=>exact e
theorem zlq (ha:PT X a tA)(hb:PW X (.BoolOp .And (b::rest) pos) tB'):PW X (.BoolOp .And (a::b::rest) pos) (tAnd tA tB'):=by
 intro wh pins s σ H Q I h
 refine isTrue_and (thn (ha pins s σ H _ I h) λ c s1 ⟨H1,I1,q1⟩=>?_)
 cases c with
 | true=>exact hb wh pins s1 σ H1 Q I1 q1
 | false=>exact⟨H1,I1,q1⟩
theorem zcd (ha:PT X a tA)(hb:PW X (.BoolOp .Or (b::rest) pos) tB'):PW X (.BoolOp .Or (a::b::rest) pos) (tOr tA tB'):=by
 intro wh pins s σ H Q I h
 refine isTrue_or (thn (ha pins s σ H _ I h) λ c s1 ⟨H1,I1,q1⟩=>?_)
 cases c with
 | true=>exact⟨H1,I1,q1⟩
 | false=>exact hb wh pins s1 σ H1 Q I1 q1
theorem zbx (ha:PT X a tA):PT X (.UnaryOp .Not a pos) (tNot tA):=by
 intro pins s σ H Q I h
 exact isTrue_not (ha pins s σ H (λ c H1=>Q (!c) H1) I h)
def tAndV (ta tb:TE):TE:=λ σ H Q=>ta σ H λ x H1=>EBl x λ c=>if c=true then tb σ H1 Q else Q (.bl false) H1
def tOrV (ta tb:TE):TE:=λ σ H Q=>ta σ H λ x H1=>EBl x λ c=>if c=true then Q (.bl true) H1 else tb σ H1 Q
def tNotV (ta:TE):TE:=λ σ H Q=>ta σ H λ x H1=>EBl x λ c=>Q (.bl (!c)) H1
theorem zcg {op} {t:TE} (h:PE X a t):PE X (.BoolOp op [a] pos) t:=λ pins s σ H Q I hw=>BoolOp_one (h pins s σ H Q I hw)
theorem zcv (ha:PE X a ta)(hb:PE X (.BoolOp .And (b::rest) pos) tb):PE X (.BoolOp .And (a::b::rest) pos) (tAndV ta tb):=by
 intro pins s σ H Q I h
 refine BoolOp_and (thn (ha pins s σ H _ I h) λ v s1 ⟨x,H1,I1,r1,q1⟩=>?_)
 obtain⟨c,rfl,q1⟩:=q1
 cases r1
 refine udk ?_
 cases c with
 | true=>exact hb pins s1 σ H1 Q I1 q1
 | false=>exact⟨.bl false,H1,I1,rfl,q1⟩
theorem zs2 (ha:PE X a ta)(hb:PE X (.BoolOp .Or (b::rest) pos) tb):PE X (.BoolOp .Or (a::b::rest) pos) (tOrV ta tb):=by
 intro pins s σ H Q I h
 refine BoolOp_or (thn (ha pins s σ H _ I h) λ v s1 ⟨x,H1,I1,r1,q1⟩=>?_)
 obtain⟨c,rfl,q1⟩:=q1
 cases r1
 refine udk ?_
 cases c with
 | false=>exact hb pins s1 σ H1 Q I1 q1
 | true=>exact⟨.bl true,H1,I1,rfl,q1⟩
theorem zn8 (ha:PE X a ta):PE X (.UnaryOp .Not a pos) (tNotV ta):=by
 intro pins s σ H Q I h
 refine UnaryOp_ (thn (ha pins s σ H _ I h) λ v s1 ⟨x,H1,I1,r1,q1⟩=>?_)
 obtain⟨c,rfl,q1⟩:=q1
 cases r1
 exact not_of (udk ⟨.bl (!c),H1,I1,rfl,q1⟩)
def tIf (t:TT)(ta tb:TE):TE:=λ σ H Q=>t σ H λ c H1=>if c=true then ta σ H1 Q else tb σ H1 Q
theorem zlu {c:Expr}(hc:PT X c tA)(ha:PE X a ta)(hb:PE X b tb):PE X (.IfExp c a b pos) (tIf tA ta tb):=by
 intro pins s σ H Q I h
 refine wpAny_IfExp (thn (hc pins s σ H _ I h) λ d s1 ⟨H1,I1,q1⟩=>?_)
 cases d with
 | true=>exact ha pins s1 σ H1 Q I1 q1
 | false=>exact hb pins s1 σ H1 Q I1 q1
end
end L2
namespace L2
open PySem PySem.Spec PyProof.Rows
def SqL (K:uad)(H:Hp)(a:Addr)(xs:List V):Prop :=
 Rd H a (.lst xs) \/
  ∃ (o:Obj)(its:Array Value)(n:Nat),K.lookup a=some o/\o.cls=.type "list"/\o.dict=none/\o.data=.seq its n/\its.size<=sizeLine/\Vals xs its.toList
def SqT (K:uad)(H:Hp)(a:Addr)(xs:List V):Prop :=
 Rd H a (.tup xs) \/
  ∃ (o:Obj)(its:Array Value)(n:Nat),K.lookup a=some o/\o.cls=.type "tuple"/\o.data=.seq its n/\its.size<=sizeLine/\Vals xs its.toList
def absV:Value->Option V
 | .none=>some .non
 | .bool b=>some (.bl b)
 | .int i _=>some (.int i)
 | .str x _=>some (.str x)
 | .bytes b _=>some (.byt b)
 | .float b _=>some (.flt b)
 | .ref a=>some (.ref a)
 | .type n=>some (.ty n)
 | _=>none
theorem RelV.abs {x:V}{u:Value}(r:RelV x u):absV u=some x:=by
 cases x with
 | non=>cases r;rfl
 | bl _=>cases r;rfl
 | int _=>obtain⟨t,rfl⟩:=r;rfl
 | str _=>obtain⟨t,rfl⟩:=r;rfl
 | byt _=>obtain⟨t,rfl⟩:=r;rfl
 | flt _=>obtain⟨t,rfl⟩:=r;rfl
 | ref _=>cases r;rfl
 | ty _=>cases r;rfl
theorem RelV.inj {x y:V}{u:Value}(r:RelV x u)(q:RelV y u):x=y:=ua3 (r.abs.symm.trans q.abs)
theorem Vals.inj:∀ {xs ys:List V}{us:List Value},Vals xs us->Vals ys us->xs=ys
 | _,_,_,.nil,.nil=>rfl
 | _,_,_,.cons r t,.cons r' t'=>by rw[r.inj r',Vals.inj t t']
section
variable {X:Cx}{pins:List (Addr × Obj)}{σ:St}{H:Hp}{s:Shared}{a:Addr}{xs ys:List V}
theorem SqL.of {K:uad}(h:H a=some (.lst xs)):SqL K H a xs:=.inl (.inl h)
theorem SqT.of {K:uad}(h:H a=some (.tup xs)):SqT K H a xs:=.inl (.inl h)
theorem Inv.list (I:Inv X pins σ H s)(h:SqL X.K H a xs):∃ its:List Value,Vals xs its/\PlainL s.heap a its.toArray/\xs.length<=sizeLine:=by
 rcases h with h | ⟨o,its,n,hk,hc,hd,hs,hz,r⟩
 ·obtain⟨z,its,n,r,e⟩:=h.ok I.hok
  exact⟨its,r,⟨_,n,e,rfl,rfl,rfl⟩,z⟩
 ·refine⟨its.toList,r,⟨o,n,I.kIn a o hk,hc,hd,by simpa using hs⟩,?_⟩
  have e:=r.length
  simp only [ubl] at e
  left
theorem Inv.tuple (I:Inv X pins σ H s)(h:SqT X.K H a xs):∃ its:List Value,Vals xs its/\IsTup s.heap a its.toArray/\xs.length<=sizeLine:=by
 rcases h with h | ⟨o,its,n,hk,hc,hs,hz,r⟩
 ·obtain⟨z,its,r,p⟩:=h.ok I.hok
  exact⟨its,r,p.tup,z⟩
 ·refine⟨its.toList,r,⟨o,I.kIn a o hk,hc,n,by simpa using hs⟩,?_⟩
  have e:=r.length
  simp only [ubl] at e
  left
theorem Inv.list_inj (I:Inv X pins σ H s)(h:SqL X.K H a xs)(h':SqL X.K H a ys):xs=ys:=by
 obtain⟨its,r,⟨o,n,e,_,_,d⟩,_⟩:=I.list h
 obtain⟨its',r',⟨o',n',e',_,_,d'⟩,_⟩:=I.list h'
 rw[e] at e';cases e'
 rw[d] at d'
 injection d' with d1 _
 have:its=its':=by simpa using congrArg Array.toList d1
 subst this
 exact r.inj r'
theorem Inv.tuple_inj (I:Inv X pins σ H s)(h:SqT X.K H a xs)(h':SqT X.K H a ys):xs=ys:=by
 obtain⟨its,r,⟨o,e,_,n,d⟩,_⟩:=I.tuple h
 obtain⟨its',r',⟨o',e',_,n',d'⟩,_⟩:=I.tuple h'
 rw[e] at e';cases e'
 rw[d] at d'
 injection d' with d1 _
 have:its=its':=by simpa using congrArg Array.toList d1
 subst this
 exact r.inj r'
end
abbrev Cx.wish (X:Cx)(E:Value->Shared->Prop):Cx:={ X with xe:=E }
abbrev Cx.nox (X:Cx):Cx:=X.wish λ _ _=>False
theorem Cx.Ok.wish {X:Cx}(ok:X.Ok)(E:Value->Shared->Prop):(X.wish E).Ok :=
 ⟨ok.mod,ok.kind,ok.glob,ok.blt,ok.above,ok.inj,ok.has,ok.cab,ok.hd,ok.frames,ok.stk,ok.exf,ok.bs,ok.bsz,ok.noex,ok.exfs,ok.funs,ok.frf⟩
theorem Cx.Ok.unwish {X:Cx}{E:Value->Shared->Prop}(ok:(X.wish E).Ok):X.Ok :=
 ⟨ok.mod,ok.kind,ok.glob,ok.blt,ok.above,ok.inj,ok.has,ok.cab,ok.hd,ok.frames,ok.stk,ok.exf,ok.bs,ok.bsz,ok.noex,ok.exfs,ok.funs,ok.frf⟩
section
variable {X:Cx}{pins:List (Addr × Obj)}{σ:St}{H:Hp}{s:Shared}{E:Value->Shared->Prop}
theorem Inv.wish (I:Inv X pins σ H s)(E:Value->Shared->Prop):Inv (X.wish E) pins σ H s:=⟨I.ok.wish E,I.os,I.bare,I.base,I.loc,I.cell,I.free,I.freeC,I.pin,I.hok,I.len⟩
theorem Inv.unwish (I:Inv (X.wish E) pins σ H s):Inv X pins σ H s:=⟨I.ok.unwish,I.os,I.bare,I.base,I.loc,I.cell,I.free,I.freeC,I.pin,I.hok,I.len⟩
theorem SP.unwish {D:Ends}{f:Flow}{s':Shared}(h:SP (X.wish E) pins D f s'):SP X pins D f s':=by
 cases f with
 | next=>obtain⟨σ',H',I,q⟩:=h;exact⟨σ',H',I.unwish,q⟩
 | brk=>obtain⟨σ',H',I,q⟩:=h;exact⟨σ',H',I.unwish,q⟩
 | cont=>obtain⟨σ',H',I,q⟩:=h;exact⟨σ',H',I.unwish,q⟩
 | ret u=>obtain⟨v,σ',H',I,r,q⟩:=h;exact⟨v,σ',H',I.unwish,r,q⟩
theorem PSs.nox {st:List Stmt}{t:TS}(h:PSs X.nox st t):PSs X st t:=λ pins s σ H D I hw =>
 udm (h pins s σ H D (I.wish _) hw) (λ _ _ q=>q.unwish) λ _ _ z=>False.elim z
end
section
variable {X:Cx}{st:Stmt}{rest:List Stmt}{t u:TS}{e:Expr}{te:TE}{pos:Pos}
def tNext:TS:=λ D σ H=>D.nx σ H
def tSeq (t u:TS):TS:=λ D σ H=>t { D with nx:=u D } σ H
theorem zay:PSs X [] tNext:=λ _ _ σ H _ I h=>ufv ⟨σ,H,I,h⟩
theorem zac (h1:PS X st t)(h2:PSs X rest u):PSs X (st::rest) (tSeq t u):=by
 intro pins s σ H D I h
 refine wpAny_execs_cons (thn (h1 pins s σ H { D with nx:=u D } I h) λ f s1 q=>?_)
 cases f with
 | next =>
  obtain⟨σ',H',I',q⟩:=q
  exact h2 pins s1 σ' H' D I' q
 | ret v=>exact q
 | brk=>exact q
 | cont=>exact q
theorem zaf (h1:PS X st t):PSs X [st] t:=by
 intro pins s σ H D I h
 refine wpAny_execs_cons (thn (h1 pins s σ H D I h) λ f s1 q=>?_)
 cases f with
 | next=>exact ufv q
 | ret v=>exact q
 | brk=>exact q
 | cont=>exact q
def tCont:TS:=λ D σ H=>D.ct σ H
theorem zkk:PS X (.Continue pos) tCont:=λ _ _ σ H _ I h=>wpAny_Continue ⟨σ,H,I,h⟩
theorem Inv.quiet {pins:List (Addr × Obj)}{σ:St}{H:Hp}{s:Shared}(I:Inv X pins σ H s):interactive X.env=false:=by simp [interactive,I.ok.kind]
def tDrop (te:TE):TS:=λ D σ H=>te σ H λ _ H1=>D.nx σ H1
theorem zba (he:PE X e te)(hs:swapsWith e none pos.line X.env=pure false:=by rfl):PS X (.Expr e pos) (tDrop te):=by
 intro pins s σ H D I h
 exact wpAny_Expr_any (thn (he pins s σ H _ I h) λ v s1 ⟨x,H1,I1,r1,q1⟩=>⟨σ,H1,I1,q1⟩) I.quiet hs
def tRet (te:TE):TS:=λ D σ H=>te σ H D.rt
theorem zan (he:PE X e te):PS X (.Return (some e) pos) (tRet te):=by
 intro pins s σ H D I h
 exact wpAny_Return_some (thn (he pins s σ H _ I h) λ v s1 ⟨x,H1,I1,r1,q1⟩=>⟨x,σ,H1,I1,r1,q1⟩)
def tIfS (c:TT)(t u:TS):TS:=λ D σ H=>c σ H λ b H1=>if b=true then t D σ H1 else u D σ H1
theorem zbh {c:Expr}{a b:List Stmt}{tc:TT}(hc:PT X c tc)(ha:PSs X a t)(hb:PSs X b u):PS X (.If c a b pos) (tIfS tc t u):=by
 intro pins s σ H D I h
 refine wpAny_If (thn (hc pins s σ H _ I h) λ d s1 ⟨H1,I1,q1⟩=>?_)
 cases d with
 | true=>exact ha pins s1 σ H1 D I1 q1
 | false=>exact hb pins s1 σ H1 D I1 q1
def tNever:TS:=λ _ _ _=>False
theorem zls:PS X st tNever:=λ _ _ _ _ _ _ h=>h.elim
end
abbrev TG:=V->St->Hp->(St->Hp->Prop)->Prop
abbrev TGs:=List V->St->Hp->(St->Hp->Prop)->Prop
def PG (X:Cx)(target:Expr)(t:TG):Prop :=
 ∀ (pins:List (Addr × Obj))(s:Shared)(σ:St)(H:Hp)(v:V)(u:Value)(Q:St->Hp->Prop),Inv X pins σ H s->RelV v u->t v σ H Q ->
  wpAny (model X.prog X.w) X.A (assign target X.env u) (λ _ s'=>∃ σ' H',Inv X pins σ' H' s'/\Q σ' H') X.xe s
def PGs (X:Cx)(ts:List Expr)(t:TGs):Prop :=
 ∀ (pins:List (Addr × Obj))(s:Shared)(σ:St)(H:Hp)(vs:List V)(us:List Value)(Q:St->Hp->Prop),Inv X pins σ H s->Vals vs us->t vs σ H Q ->
  wpAny (model X.prog X.w) X.A (assignInOrder ((assignEach ts X.env).map (·.2)) us) (λ _ s'=>∃ σ' H',Inv X pins σ' H' s'/\Q σ' H') X.xe s
abbrev TSet:=V->V->V->Hp->(Hp->Prop)->Prop
def PSet (X:Cx)(t:TSet):Prop :=
 ∀ (pins:List (Addr × Obj))(s:Shared)(σ:St)(H:Hp)(o i v:V)(ov iv u:Value)(Q:Hp->Prop),Inv X pins σ H s->RelV o ov->RelV i iv->RelV v u->t o i v H Q ->
  wpAny (model X.prog X.w) X.A (setItem ov iv u) (λ _ s'=>∃ H',Inv X pins σ H' s'/\Q H') X.xe s
section
variable {X:Cx}{pos:Pos}
def gName (i:Nat):TG:=λ v σ H Q=>Q (σ.set i (some v)) H
theorem zag {i:Nat}{x:Str}(hN:X.N.Nodup)(hi:X.N[i]?=some x)(hx:Loc X.env.scope x)(hf:X.fn x=true\/X.env.scope.names.lookup x=some .local:=by first | exact .inl rfl | exact .inr rfl | assumption):PG X (.Name x pos) (gName i):=by
 intro pins s σ H v u Q I r h
 exact wpAny_assign_Name (zlk I hN hi hx r (λ s' I'=>⟨_,H,I',h⟩) hf)
def gNil:TGs:=λ vs σ H Q=>vs=[]/\Q σ H
inductive gCons_i (t:TG)(u:TGs)(vs:List V)(σ:L2.St)(H:Hp)(Q:L2.St->Hp->Prop):Prop
 | mk:∀ v r,(vs=v::r)->(t v σ H λ σ' H'=>u r σ' H' Q)->gCons_i t u vs σ H Q
def gCons (t:TG)(u:TGs):TGs:=λ vs σ H Q=>gCons_i t u vs σ H Q
theorem za3:PGs X [] gNil:=by
 intro pins s σ H vs us Q I r h
 obtain⟨e,h⟩:=h
 subst e
 cases r
 exact assignInOrder_nil ⟨σ,H,I,h⟩
theorem zai {e:Expr}{es:List Expr}{t:TG}{u:TGs}(h1:PG X e t)(h2:PGs X es u)
  (hs:(assignEach (e::es) X.env).map (·.2)=assign e X.env::(assignEach es X.env).map (·.2):=by rfl):PGs X (e::es) (gCons t u):=by
 intro pins s σ H vs us Q I r h
 obtain⟨v,vr,e1,h⟩:=h
 subst e1
 cases r with
 | cons r rr =>
  rw[hs]
  refine assignInOrder_cons (thn (h1 pins s σ H _ _ _ I r h) λ _ s1 ⟨σ1,H1,I1,q1⟩=>?_)
  exact h2 pins s1 σ1 H1 _ _ Q I1 rr q1
inductive gTup_i (K:uad)(n:Nat)(t:TGs)(v:V)(σ:L2.St)(H:Hp)(Q:L2.St->Hp->Prop):Prop
 | mk:∀ a xs,(v=.ref a)->(SqT K H a xs)->(xs.length=n)->(t xs σ H Q)->gTup_i K n t v σ H Q
def gTup (K:uad)(n:Nat)(t:TGs):TG:=λ v σ H Q=>gTup_i K n t v σ H Q
theorem zb3 {es:List Expr}{k:Nat}{t:TGs}{n:Nat}(hc:X.calm=true)(h:PGs X es t)
  (hn:(assignEach es X.env).length=n:=by rfl) (hst:(assignEach es X.env).findIdx? (·.1)=none:=by rfl):PG X (.Tuple es k pos) (gTup X.K n t):=by
 intro pins s σ H v u Q I r hw
 obtain⟨a,xs,e1,hq,hl,hw⟩:=hw
 subst e1
 cases r
 obtain⟨its,rv,ht,hz⟩:=I.tuple hq
 refine assign_Tuple_tuple (I.ok.hd hc) ht (by simp [hn,← hl,rv.length]) hst λ h' hx=>?_
 have I1:Inv X pins σ H { s with heap:=h' }:=I.kept (t':=s.toks) λ b o e=>hx b o (uau (Heap.lt_size e)) e
 exact h pins _ σ H xs _ Q I1 (by simpa using rv) hw
def gSub (to ti:TE)(t:TSet):TG:=λ v σ H Q=>to σ H λ o H1=>ti σ H1 λ i H2=>t o i v H2 λ H3=>Q σ H3
theorem zeq {o i:Expr}{to ti:TE}{t:TSet}(ho:PE X o to)(hi:PE X i ti)(hs:PSet X t)
  (ha:∀ v,assign (.Subscript o i pos) X.env v=(do
   let ov ← holding [v] (eval o X.env)
   let iv ← holding [v,ov] (eval i X.env)
   standAt pos
   holding [v,ov,iv] (setItem ov iv v)
   release [v,ov,iv] []):=by intro _;rfl):PG X (.Subscript o i pos) (gSub to ti t):=by
 intro pins s σ H v u Q I r h
 rw[ha]
 refine uab (ubz (thn (ho pins s σ H _ I h) λ ov s1 ⟨x,H1,I1,r1,q1⟩=>?_))
 refine uab (ubz (thn (hi pins s1 σ H1 _ I1 q1) λ iv s2 ⟨y,H2,I2,r2,q2⟩=>?_))
 refine uab (ugq (uab (ubz (thn (hs pins s2 σ H2 x y v ov iv u _ I2 r1 r2 r q2) λ _ s3 ⟨H3,I3,q3⟩=>?_))))
 exact wpAny_release ⟨σ,H3,I3,q3⟩
def tAsg (te:TE)(g:TG):TS:=λ D σ H=>te σ H λ x H1=>g x σ H1 D.nx
theorem zb0 {tg e:Expr}{te:TE}{g:TG}(he:PE X e te)(hg:PG X tg g)(hs:swapsWithSole [tg] e pos.line X.env=pure false:=by rfl)(hw:swappedStores [tg] e X.env=pure none:=by rfl)
  (h1:(assignEach [tg] X.env).map (·.2)=[assign tg X.env]:=by rfl):PS X (.Assign [tg] e pos) (tAsg te g):=by
 intro pins s σ H D I h
 refine wpAny_Assign_stores (thn (he pins s σ H _ I h) λ v s1 ⟨x,H1,I1,r1,q1⟩=>?_) hs hw
 rw[h1]
 exact thn (hg pins s1 σ H1 x v _ I1 r1 q1) λ _ s2 q=>q
theorem zat {i:Nat}{x:Str}{e:Expr}{te:TE}{pos':Pos}(hN:X.N.Nodup)(hi:X.N[i]?=some x)(hx:Loc X.env.scope x)(he:PE X e te)(hs:swapsWith e (some (.Name x pos')) pos.line X.env=pure false:=by rfl)(hf:X.fn x=true\/X.env.scope.names.lookup x=some .local:=by first | exact .inl rfl | exact .inr rfl | assumption) :
  PS X (.Assign [.Name x pos'] e pos) (tAsg te (gName i)):=by
 intro pins s σ H D I h
 refine wpAny_Assign_Name (thn (he pins s σ H _ I h) λ v s1 ⟨y,H1,I1,r1,q1⟩=>?_) hs
 exact zlk I1 hN hi hx r1 (λ s2 I2=>⟨_,H1,I2,q1⟩) hf
end
section
variable {X:Cx}{pos:Pos}
def tWhile (c:TT)(tb:TS):TS:=λ D σ H=>∃ W:Nat->St->Hp->Prop,(∃ m,W m σ H)/\∀ m σ H,W m σ H ->
 c σ H λ b H1=>if b=true then ∃ N:St->Hp->Prop,(∀ σ' H',N σ' H'->∃ m',m'<m/\W m' σ' H')/\tb { D with nx:=N,ct:=N,bk:=D.nx } σ H1 else D.nx σ H1
theorem zlr {c:Expr}{body:List Stmt}{tc:TT}{tb:TS}(hp:PassesOwn (model X.prog X.w) X.A X.env X.xe)(hc:PT X c tc)(hb:PSs X body tb):PS X (.While c body [] pos) (tWhile tc tb):=by
 intro pins s σ H D I h
 obtain⟨W,⟨m0,w0⟩,turn⟩:=h
 refine wpAny_While (codeAny_whileLoop (λ n s'=>∃ σ' H',Inv X pins σ' H' s'/\W n σ' H') ?_ m0 ⟨σ,H,I,w0⟩)
 rintro n s1 ⟨σ1,H1,I1,w1⟩
 refine udz hp (thn (hc pins s1 σ1 H1 _ I1 (turn n σ1 H1 w1)) λ b s2 ⟨H2,I2,q2⟩=>?_)
 cases b with
 | true =>
  obtain⟨N,hN,q2⟩:=q2
  rw[if_pos rfl]
  refine udz hp (thn (hb pins s2 σ1 H2 _ I2 q2) λ f s3 q3=>?_)
  cases f with
  | next =>
   obtain⟨σ3,H3,I3,n3⟩:=q3
   obtain⟨m',hm,w3⟩:=hN σ3 H3 n3
   exact⟨m',hm,σ3,H3,I3,w3⟩
  | cont =>
   obtain⟨σ3,H3,I3,n3⟩:=q3
   obtain⟨m',hm,w3⟩:=hN σ3 H3 n3
   exact⟨m',hm,σ3,H3,I3,w3⟩
  | brk=>exact q3
  | ret v=>exact q3
 | false =>
  rw[if_neg uas]
  exact ufv ⟨σ1,H2,I2,q2⟩
end
structure It where
 go:Nat->Hp->Prop
 yld:Nat->Hp->V->Hp->Prop
 stop:Nat->Hp->Prop
def FpOk (X:Cx)(pins:List (Addr × Obj))(H:Hp)(b:Addr):Prop :=
 H b=none/\b≠X.env.locals/\b∉X.fs/\(b∈X.ex\/X.s₀.heap.objs.size<=b)/\(∀ x c,X.env.cells.lookup x=some c->c≠b)/\∀ p∈X.pn++pins,p.1≠b
theorem Inv.fpOk {X:Cx}{pins:List (Addr × Obj)}{σ:St}{H H':Hp}{s:Shared}{b:Addr}(I:Inv X pins σ H s)(hb:s.heap.objs.size<=b)(hn:H' b=none):FpOk X pins H' b:=by
 refine⟨hn,ud8 (ua4 I.lt hb),I.nofs hb,.inr (ubr I.sz hb),λ x c e z=>?_,λ p hp z=>?_⟩
 ·obtain⟨v,q⟩:=I.cell x c e
  exact absurd (ua4 q.lt (by rw[z];exact hb)) (ucw _)
 ·exact absurd (ua4 (Heap.lt_size (I.pin p hp).1) (by rw[z];exact hb)) (ucw _)
structure Turn (P:Program)(w:World)(K:uad)(tg:Expr)(J:It)(fp:List Addr)(it:Addr)(tn:Nat->Heap->Prop):Prop where
 mem:it∈fp
 obj:∀ i h,tn i h->∀ b∈fp,∃ o,h.get? b=some o/\∀ v,o.data≠.cell v
 keep:∀ i h h',tn i h->(∀ b∈fp,∀ o,h.get? b=some o->h'.get? b=some o)->tn i h'
 item:∀ (X:Cx),X.prog=P->X.w=w->X.K=K->X.calm=true->∀ (i:Nat)(pins:List (Addr × Obj))(s:Shared)(σ:St)(H:Hp)(E:Value->Shared->Prop),Inv X pins σ H s->(∀ b∈fp,FpOk X pins H b)->tn i s.heap->J.go i H ->
  wpAny (model P w) X.A (pyNext (.ref it)) (λ r s1=>∃ u,r=some u /\
   wpAny (model P w) X.A (letOwnedTupleGo tg (.ref it) u) (λ _ s2=>∃ x H',Inv X pins σ H' s2/\RelV x u/\J.yld i H x H'/\tn (i+1) s2.heap/\∀ b∈fp,H' b=none) E s1) E s
 done:∀ (X:Cx),X.prog=P->X.w=w->X.K=K->X.calm=true->∀ (i:Nat)(pins:List (Addr × Obj))(s:Shared)(σ:St)(H:Hp)(E:Value->Shared->Prop),Inv X pins σ H s->(∀ b∈fp,FpOk X pins H b)->tn i s.heap->J.stop i H ->
  wpAny (model P w) X.A (pyNext (.ref it)) (λ r s1=>r=none/\Inv X pins σ H s1) E s
 self:∀ (A:Around)(i:Nat)(s:Shared)(Q:Value->Shared->Prop)(E:Value->Shared->Prop),tn i s.heap->Q (.ref it) s->wpAny (model P w) A (pyIter (.ref it)) Q E s
abbrev TI:=St->Hp->(It->Hp->Prop)->Prop
def PIE (X:Cx)(pins:List (Addr × Obj))(σ:St)(tg:Expr)(R:It->Hp->Prop)(itv:Value)(s2:Shared):Prop :=
 ∃ (it:Addr)(fp:List Addr)(tn:Nat->Heap->Prop)(J:It)(H':Hp),itv=.ref it/\Inv X pins σ H' s2/\Turn X.prog X.w X.K tg J fp it tn/\tn 0 s2.heap/\(∀ b∈fp,FpOk X pins H' b)/\R J H'
def PI (X:Cx)(tg iter:Expr)(wi:TI):Prop :=
 ∀ (pins:List (Addr × Obj))(s:Shared)(σ:St)(H:Hp)(R:It->Hp->Prop),Inv X pins σ H s->wi σ H R ->
  wpAny (model X.prog X.w) X.A (eval iter X.env) (λ v s1=>wpAny (model X.prog X.w) X.A (pyIter v) (PIE X pins σ tg R) X.xe s1) X.xe s
theorem ztg {M:Model}{A:Around}{E:Value->Shared->Prop}{s:Shared}{tg:Expr}{it:Addr}{u:Value}{o:Obj}{n:String}{vs:Array Value}{Q:Unit->Shared->Prop}(ho:s.heap.get? it=some o)(hc:o.cls=.type n)(hd:o.data=.fields vs)
  (hn:["enumerate","zip","dict_itemiterator","dict_reverseitemiterator","odict_iterator","itertools.zip_longest","itertools.pairwise"].contains n=false) (hQ:Q () s):wpAny M A (letOwnedTupleGo tg (.ref it) u) Q E s:=by
 unfold letOwnedTupleGo
 cases tg <;> first
  | exact uag hQ
  | (cases u <;> first
      | exact uag hQ
      | (refine uab (wpAny_load ho ?_)
         rw[hc,hd]
         show wpAny M A (if (["enumerate","zip","dict_itemiterator","dict_reverseitemiterator","odict_iterator","itertools.zip_longest","itertools.pairwise"].contains n&&vs[0]?==some (rawInt _))=true then _ else _) Q E s
         rw[if_neg (by intro h;rw[hn,ug8] at h;cases h)]
         exact uag hQ))
def Itl (K:uad)(a:Addr):It :=
 ⟨λ i H=>∃ xs x,SqL K H a xs/\xs[i]?=some x,λ i H x H'=>H'=H/\∀ xs,SqL K H a xs->xs[i]?=some x,λ i H=>∃ xs,SqL K H a xs/\xs.length<=i⟩
def Itt (K:uad)(a:Addr):It :=
 ⟨λ i H=>∃ xs x,SqT K H a xs/\xs[i]?=some x,λ i H x H'=>H'=H/\∀ xs,SqT K H a xs->xs[i]?=some x,λ i H=>∃ xs,SqT K H a xs/\xs.length<=i⟩
def Itr (lo:Int)(n:Nat):It:=⟨λ i _=>i<n,λ i H x H'=>H'=H/\x=.int (lo+i),λ i _=>n<=i⟩
theorem zin {P:Program}{w:World}{K:uad}{tg:Expr}(a it:Addr):Turn P w K tg (Itl K a) [it] it (λ i h=>h.IsListIter it a i) where
 mem:=by simp
 obj:=λ i h st b hb=>by
  have e:b=it:=by simpa using hb
  subst e
  obtain⟨o,e,c,d⟩:=st
  exact⟨o,e,λ v z=>by rw[d] at z;cases z⟩
 keep:=λ i h h' st k=>st.at λ o e=>k it (by simp) o e
 item:=by
  intro X hP hw hK hc i pins s σ H E I hf st hg
  subst hP hw hK
  obtain⟨xs,x,hq,hx⟩:=hg
  obtain⟨its,rv,p,hz⟩:=I.list hq
  obtain⟨u,hu,ru⟩:=rv.get hx
  obtain⟨f0,f1,f2,f3,f4,f5⟩:=hf it (by simp)
  refine wpAny_pyNext_list_item st p.isList (x:=u) (by simpa using hu) λ h' st' sb=>?_
  have I1:Inv X pins σ H { s with heap:=h' }:=I.turned (t':=s.toks) (λ b o hb e=>(sb.2 b hb).trans e) f0 f1 f3 f4 f5
  obtain⟨o,e,c,d⟩:=id st'
  exact⟨u,rfl,ztg (s:={ s with heap:=h' }) e c d (by decide) ⟨x,H,I1,ru,⟨rfl,λ ys hy=>by rw[I.list_inj hy hq];exact hx⟩,st',λ b hb=>(hf b hb).1⟩⟩
 done:=by
  intro X hP hw hK hc i pins s σ H E I hf st hg
  subst hP hw hK
  obtain⟨xs,hq,hx⟩:=hg
  obtain⟨its,rv,p,hz⟩:=I.list hq
  obtain⟨f0,f1,f2,f3,f4,f5⟩:=hf it (by simp)
  have hl:=rv.length
  exact wpAny_pyNext_list_end (I.ok.hd hc) st p.isList (by simp;left) λ h' eb=>⟨rfl,I.turned (t':=s.toks) (λ b o hb e=>eb b o hb e) f0 f1 f3 f4 f5⟩
 self:=λ _ _ _ _ _ st h=>wpAny_pyIter_listiter st h
theorem zgi {P:Program}{w:World}{K:uad}{tg:Expr}(a it:Addr):Turn P w K tg (Itt K a) [it] it (λ i h=>h.IsTupleIter it a i) where
 mem:=by simp
 obj:=λ i h st b hb=>by
  have e:b=it:=by simpa using hb
  subst e
  obtain⟨o,e,c,d⟩:=st
  exact⟨o,e,λ v z=>by rw[d] at z;cases z⟩
 keep:=λ i h h' st k=>st.at λ o e=>k it (by simp) o e
 item:=by
  intro X hP hw hK hc i pins s σ H E I hf st hg
  subst hP hw hK
  obtain⟨xs,x,hq,hx⟩:=hg
  obtain⟨its,rv,p,hz⟩:=I.tuple hq
  obtain⟨u,hu,ru⟩:=rv.get hx
  obtain⟨f0,f1,f2,f3,f4,f5⟩:=hf it (by simp)
  refine wpAny_pyNext_tuple_item st (show s.heap.IsTuple a its.toArray from p) (x:=u) (by simpa using hu) λ h' st' sb=>?_
  have I1:Inv X pins σ H { s with heap:=h' }:=I.turned (t':=s.toks) (λ b o hb e=>(sb.2 b hb).trans e) f0 f1 f3 f4 f5
  obtain⟨o,e,c,d⟩:=id st'
  exact⟨u,rfl,ztg (s:={ s with heap:=h' }) e c d (by decide) ⟨x,H,I1,ru,⟨rfl,λ ys hy=>by rw[I.tuple_inj hy hq];exact hx⟩,st',λ b hb=>(hf b hb).1⟩⟩
 done:=by
  intro X hP hw hK hc i pins s σ H E I hf st hg
  subst hP hw hK
  obtain⟨xs,hq,hx⟩:=hg
  obtain⟨its,rv,p,hz⟩:=I.tuple hq
  obtain⟨f0,f1,f2,f3,f4,f5⟩:=hf it (by simp)
  have hl:=rv.length
  exact wpAny_pyNext_tuple_end (I.ok.hd hc) st (show s.heap.IsTuple a its.toArray from p) (by simp;left) λ h' eb=>⟨rfl,I.turned (t':=s.toks) (λ b o hb e=>eb b o hb e) f0 f1 f3 f4 f5⟩
 self:=λ _ _ _ _ _ st h=>wpAny_pyIter_tupleiter st h
theorem zms {P:Program}{w:World}{K:uad}{tg:Expr}(it:Addr)(lo:Int)(n:Nat):Turn P w K tg (Itr lo n) [it] it (λ i h=>IsRangeIter h it (lo+(i:Nat)*1) ((n:Int)-(i:Nat)) 1) where
 mem:=by simp
 obj:=λ i h st b hb=>by
  have e:b=it:=by simpa using hb
  subst e
  exact⟨_,st,λ v z=>by
   have z':Data.fields _=Data.cell v:=z
   cases z'⟩
 keep:=λ i h h' st k=>k it (by simp) _ st
 item:=by
  intro X hP hw hK hc i pins s σ H E I hf st hg
  subst hP hw hK
  obtain⟨f0,f1,f2,f3,f4,f5⟩:=hf it (by simp)
  have W:=Walks.range (prog:=X.prog) (w:=X.w) (I.ok.hd hc) it lo 1 n
  refine W.item i s _ _ hg st λ v h' tk hv st' kk=>?_
  obtain⟨t,rfl⟩:=hv
  have I1:Inv X pins σ H { s with heap:=h',toks:=tk }:=I.turned (λ b o hb e=>kk b o (by simpa using hb) e) f0 f1 f3 f4 f5
  refine⟨_,rfl,ztg (s:={ s with heap:=h',toks:=tk }) (n:="range_iterator") st' rfl rfl (by decide) ⟨.int (lo+i),H,I1,⟨t,?_⟩,⟨rfl,rfl⟩,st',λ b hb=>(hf b hb).1⟩⟩
  rw[Int.mul_one]
 done:=by
  intro X hP hw hK hc i pins s σ H E I hf st hg
  subst hP hw hK
  obtain⟨f0,f1,f2,f3,f4,f5⟩:=hf it (by simp)
  exact wpAny_pyNext_range_end (I.ok.hd hc) st (by have:n<=i:=hg;left) λ h' eb=>⟨rfl,I.turned (t':=s.toks) (λ b o hb e=>eb b o hb e) f0 f1 f3 f4 f5⟩
 self:=λ _ _ _ _ _ st h=>wpAny_pyIter_rangeiter st h
end L2
namespace L2
open PySem PySem.Spec PyProof.Rows
section
variable {X:Cx}{tg:Expr}
def iList (K:uad)(tl:TE):TI:=λ σ H R=>tl σ H λ x H1=>ERef x λ a=>(∃ xs,SqL K H1 a xs)/\R (Itl K a) H1
def iTup (K:uad)(tl:TE):TI:=λ σ H R=>tl σ H λ x H1=>ERef x λ a=>(∃ xs,SqT K H1 a xs)/\R (Itt K a) H1
theorem zb6 {l:Expr}{tl:TE}(hl:PE X l tl):PI X tg l (iList X.K tl):=by
 intro pins s σ H R I h
 refine thn (hl pins s σ H _ I h) λ v s1 ⟨x,H1,I1,r1,q1⟩=>?_
 obtain⟨a,e,⟨xs,hq⟩,q⟩:=q1
 subst e
 cases r1
 obtain⟨its,rv,p,hz⟩:=I1.list hq
 refine ud3 p.isList ?_
 refine⟨s1.heap.objs.size,[s1.heap.objs.size],_,_,H1,rfl,I1.kept (t':=s1.toks) λ b o e=>Heap.get?_push_of_some _ e,zin a _,⟨_,Heap.get?_push_size _ rfl,rfl,rfl⟩,λ b hb=>?_,q⟩
 have e:b=s1.heap.objs.size:=by simpa using hb
 subst e
 exact I1.fpOk (uai _) (I1.hok.fresh (uai _))
theorem zbm {l:Expr}{tl:TE}(hl:PE X l tl):PI X tg l (iTup X.K tl):=by
 intro pins s σ H R I h
 refine thn (hl pins s σ H _ I h) λ v s1 ⟨x,H1,I1,r1,q1⟩=>?_
 obtain⟨a,e,⟨xs,hq⟩,q⟩:=q1
 subst e
 cases r1
 obtain⟨its,rv,p,hz⟩:=I1.tuple hq
 refine ueg (show s1.heap.IsTuple a its.toArray from p) ?_
 refine⟨s1.heap.objs.size,[s1.heap.objs.size],_,_,H1,rfl,I1.kept (t':=s1.toks) λ b o e=>Heap.get?_push_of_some _ e,zgi a _,⟨_,Heap.get?_push_size _ rfl,rfl,rfl⟩,λ b hb=>?_,q⟩
 have e:b=s1.heap.objs.size:=by simpa using hb
 subst e
 exact I1.fpOk (uai _) (I1.hok.fresh (uai _))
theorem zlp {pins:List (Addr × Obj)}{σ:St}{H:Hp}{s:Shared}{R:It->Hp->Prop}{E:Value->Shared->Prop}{lo hi:Int}{t u v:Tok}{tk:Nat}(I:Inv X pins σ H s)(h1:-(2^62)<=lo)(h2:lo<2^62)(h3:-(2^62)<=hi)(h4:hi<2^62)
  (q:R (Itr lo (hi-lo).toNat) H):wpAny (model X.prog X.w) X.A (pyIter (.ref s.heap.objs.size)) (PIE X pins σ tg R) E { s with heap:=s.heap.push { cls:=.type "range",data:=.fields #[.int lo t,.int hi u,.int 1 v] },toks:=tk }:=by
 refine wpAny_pyIter_range (IsRange.new ..) (small_one h1 h2 h3 h4) ?_
 have I1:Inv X pins σ H { s with heap:=s.heap.push { cls:=.type "range",data:=.fields #[.int lo t,.int hi u,.int 1 v] },toks:=tk }:=I.kept λ b o e=>Heap.get?_push_of_some _ e
 refine⟨(s.heap.push { cls:=.type "range",data:=.fields #[.int lo t,.int hi u,.int 1 v] }).objs.size,[(s.heap.push { cls:=.type "range",data:=.fields #[.int lo t,.int hi u,.int 1 v] }).objs.size],_,_,H,rfl,
  I1.kept (t':=tk) λ b o e=>Heap.get?_push_of_some _ e,zms _ lo (hi-lo).toNat,?_,λ b hb=>?_,q⟩
 ·have e1:lo+((0:Nat):Int)*1=lo:=by simp
  have e2:(((hi-lo).toNat:Nat):Int)-((0:Nat):Int)=Builtin.Range.rangeSize lo hi 1:=by rw[rangeSize_one];split <;> left
  show IsRangeIter _ _ (lo+((0:Nat):Int)*1) ((((hi-lo).toNat:Nat):Int)-((0:Nat):Int)) 1
  rw[e1,e2]
  exact Heap.get?_push_size _ rfl
 ·have e:b=(s.heap.push { cls:=.type "range",data:=.fields #[.int lo t,.int hi u,.int 1 v] }).objs.size:=by simpa using hb
  subst e
  exact I1.fpOk (uai _) (I1.hok.fresh (uai _))
def iRng1 (ta:TA):TI:=λ σ H R=>ta σ H λ vs H1=>EOne vs λ j=>-(2^62)<=j/\j<2^62/\R (Itr 0 j.toNat) H1
def iRng2 (ta:TA):TI:=λ σ H R=>ta σ H λ vs H1=>∃ i j:Int,vs=[.int i,.int j]/\(-(2^62)<=i/\i<2^62/\-(2^62)<=j/\j<2^62)/\R (Itr i (j-i).toNat) H1
theorem zbe {a:Expr}{ta:TA}{p pos:Pos}(hg:Gl X "range")(hm:X.mg "range"=none)(ha:PA X [a] ta)(hs:starEach [a] X.env=[(false,eval a X.env)]:=by rfl):PI X tg (.Call (.Name "range" p) [a] [] pos) (iRng1 ta):=by
 intro pins s σ H R I h
 refine Call_ (zfc I hg hm boot_range (uct (thn (ha pos pins s σ H _ I h) λ us s1 ⟨vs,H1,I1,r1,q1⟩=>?_) hs rfl))
 obtain⟨j,e,q1,q2,q⟩:=q1
 subst e
 cases r1 with
 | cons r rr =>
  cases rr
  obtain⟨t,rfl⟩:=r
  exact call_range_1 (zlp I1 (by left) (by left) q1 q2 (by simpa using q))
theorem zn7 {a b:Expr}{ta:TA}{p pos:Pos}(hg:Gl X "range")(hm:X.mg "range"=none)(ha:PA X [a,b] ta)(hs:starEach [a,b] X.env=[(false,eval a X.env),(false,eval b X.env)]:=by rfl)(hs2:starEach [b] X.env=[(false,eval b X.env)]:=by rfl) :
  PI X tg (.Call (.Name "range" p) [a,b] [] pos) (iRng2 ta):=by
 intro pins s σ H R I h
 refine Call_ (zfc I hg hm boot_range (uct (thn (ha pos pins s σ H _ I h) λ us s1 ⟨vs,H1,I1,r1,q1⟩=>?_) (by rw[hs,hs2]) (by rw[hs2];rfl)))
 obtain⟨i,j,e,⟨q1,q2,q3,q4⟩,q⟩:=q1
 subst e
 cases r1 with
 | cons r rr =>
  cases rr with
  | cons r' rr =>
   cases rr
   obtain⟨t,rfl⟩:=r
   obtain⟨t',rfl⟩:=r'
   exact call_range_2 (zlp I1 q1 q2 q3 q4 q)
def tFor (wi:TI)(g:TG)(tb:TS):TS:=λ D σ H=>wi σ H λ J H1=>∃ W:Nat->Nat->St->Hp->Prop,(∃ m,W 0 m σ H1)/\∀ i m σ H,W i m σ H ->
 (J.stop i H/\D.nx σ H)\/(J.go i H/\∃ N:St->Hp->Prop,(∀ σ' H',N σ' H'->∃ m',m'<m/\W (i+1) m' σ' H')/\∀ x H',J.yld i H x H'->g x σ H' λ σ2 H2=>tb { D with nx:=N,ct:=N,bk:=D.nx } σ2 H2)
def pinsAt (fp:List Addr)(h:Heap):List (Addr × Obj):=fp.filterMap λ b=>(h.get? b).map λ o=>(b,o)
theorem zda {fp:List Addr}{h:Heap}{b:Addr}{o:Obj}(hb:b∈fp)(e:h.get? b=some o):(b,o)∈pinsAt fp h:=ub3.mpr ⟨b,hb,by rw[e];rfl⟩
theorem zok {fp:List Addr}{h:Heap}{p:Addr × Obj}(hp:p∈pinsAt fp h):p.1∈fp/\h.get? p.1=some p.2:=by
 obtain⟨b,hb,e⟩:=ub3.mp hp
 cases q:h.get? b with
 | none=>rw[q] at e;cases e
 | some o =>
  rw[q] at e
  have e':(b,o)=p:=ua3 e
  subst e'
  exact⟨hb,q⟩
theorem Inv.pinned {pins:List (Addr × Obj)}{σ:St}{H:Hp}{s:Shared}{fp:List Addr}(I:Inv X pins σ H s)(hf:∀ b∈fp,FpOk X pins H b)(ho:∀ b∈fp,∃ o,s.heap.get? b=some o/\∀ v,o.data≠.cell v):Inv X (pins++pinsAt fp s.heap) σ H s :=
 I.pins_of λ p hp=>(ua6.mp hp).elim (λ z=>I.pin p (ubm _ z)) λ z=>by
  obtain⟨hb,e⟩:=zok z
  obtain⟨f0,f1,f2,_⟩:=hf p.1 hb
  obtain⟨o,e',d⟩:=ho p.1 hb
  rw[e] at e';cases e'
  exact⟨e,f0,f1,f2,d⟩
theorem Inv.unpinned {pins pl:List (Addr × Obj)}{σ:St}{H:Hp}{s:Shared}(I:Inv X (pins++pl) σ H s):Inv X pins σ H s:=I.pins_of λ p hp=>I.pin p (ubm _ (ucv _ hp))
theorem zbg {iter:Expr}{body:List Stmt}{wi:TI}{g:TG}{tb:TS}{pos:Pos}(hp:PassesOwn (model X.prog X.w) X.A X.env X.xe)(hc:X.calm=true)(hi:PI X tg iter wi)(hg:PG X tg g)(hb:PSs X body tb)
  (hs:∀ x,foldedSetIterable iter X.env x=pure x:=by intro _;rfl):PS X (.For tg iter body [] pos) (tFor wi g tb):=by
 intro pins s σ H D I h
 refine wpAny_For (thn (hi pins s σ H _ I h) λ v s1 h1=>thn h1 λ itv s2 h2=>?_) hs
 obtain⟨it,fp,tn,J,H2,e,I2,T,st2,f2,W,⟨m0,w0⟩,turn⟩:=h2
 subst e
  -- what stays true of the iterator's objects through the loop
 have stat:∀ {H':Hp},(∀ b∈fp,H' b=none)->∀ b∈fp,FpOk X pins H' b:=λ hn b hb=>⟨hn b hb,(f2 b hb).2⟩
 refine codeAny_forLoop_any (λ n s'=>∃ i σ' H',Inv X pins σ' H' s'/\tn i s'.heap/\(∀ b∈fp,H' b=none)/\W i n σ' H') ?_ m0 ⟨0,σ,H2,I2,st2,λ b hb=>(f2 b hb).1,w0⟩
 rintro n s3 ⟨i,σ3,H3,I3,st3,fr3,w3⟩
 rcases turn i n σ3 H3 w3 with ⟨stop,qn⟩ | ⟨go,N,hN,step⟩
 ·refine udz hp (thn (T.done X rfl rfl rfl hc i pins s3 σ3 H3 X.xe I3 (stat fr3) st3 stop) λ r s4 ⟨hr,I4⟩=>?_)
  subst hr
  exact ufv ⟨σ3,H3,I4,qn⟩
 ·refine udz hp (thn (T.item X rfl rfl rfl hc i pins s3 σ3 H3 X.xe I3 (stat fr3) st3 go) λ r s4 ⟨u,hr,h4⟩=>?_)
  subst hr
  refine udz hp (thn h4 λ _ s5 ⟨x,H5,I5,r5,y5,st5,fr5⟩=>?_)
  have I5':=I5.pinned (stat fr5) (T.obj _ _ st5)
  refine udz hp (thn (hg _ s5 σ3 H5 x u _ I5' r5 (step x H5 y5)) λ _ s6 ⟨σ6,H6,I6,q6⟩=>?_)
  refine udz hp (thn (hb _ s6 σ6 H6 _ I6 q6) λ f s7 q7=>?_)
  have again:∀ {σ7:St}{H7:Hp},Inv X (pins++pinsAt fp s5.heap) σ7 H7 s7->N σ7 H7->∃ m,m<n/\∃ i σ' H',Inv X pins σ' H' s7/\tn i s7.heap/\(∀ b∈fp,H' b=none)/\W i m σ' H':=λ {σ7 H7} I7 n7=>by
   obtain⟨m',hm,w7⟩:=hN σ7 H7 n7
   refine⟨m',hm,i+1,σ7,H7,I7.unpinned,T.keep _ _ _ st5 λ b hb o e=>(I7.pin (b,o) (ubm _ (ubm _ (zda hb e)))).1,λ b hb=>?_,w7⟩
   obtain⟨o,e,d⟩:=T.obj _ _ st5 b hb
   exact (I7.pin (b,o) (ubm _ (ubm _ (zda hb e)))).2.1
  cases f with
  | next=>obtain⟨σ7,H7,I7,n7⟩:=q7;exact again I7 n7
  | cont=>obtain⟨σ7,H7,I7,n7⟩:=q7;exact again I7 n7
  | brk=>obtain⟨σ7,H7,I7,q7⟩:=q7;exact⟨σ7,H7,I7.unpinned,q7⟩
  | ret v=>obtain⟨x7,σ7,H7,I7,r7,q7⟩:=q7;exact⟨x7,σ7,H7,I7.unpinned,r7,q7⟩
end
theorem zd4 {K:uad}{a:Addr}{xs:List V}{g:TG}{tb:TS}{D:Ends}{σ:St}{H:Hp}(Pv:Nat->St->Hp->Prop)(h0:Pv 0 σ H)(hl:∀ i σ H,i<=xs.length->Pv i σ H->SqL K H a xs)
  (hs:∀ i x σ H,xs[i]?=some x->Pv i σ H->g x σ H λ σ2 H2=>tb { D with nx:=Pv (i+1),ct:=Pv (i+1),bk:=D.nx } σ2 H2) (hd:∀ σ H,Pv xs.length σ H->D.nx σ H) :
  ∃ W:Nat->Nat->St->Hp->Prop,(∃ m,W 0 m σ H)/\∀ i m σ H,W i m σ H ->
   ((Itl K a).stop i H/\D.nx σ H)\/((Itl K a).go i H/\∃ N:St->Hp->Prop,(∀ σ' H',N σ' H'->∃ m',m'<m/\W (i+1) m' σ' H')/\∀ x H',(Itl K a).yld i H x H'->g x σ H' λ σ2 H2=>tb { D with nx:=N,ct:=N,bk:=D.nx } σ2 H2):=by
 refine⟨λ i m σ H=>m=xs.length-i/\i<=xs.length/\Pv i σ H,⟨xs.length,by simp,ubj _,h0⟩,?_⟩
 rintro i m σ H ⟨rfl,hi,p⟩
 have q:=hl i σ H hi p
 by_cases hlt:i<xs.length
 ·refine .inr ⟨⟨xs,xs[i],q,by simp [hlt]⟩,Pv (i+1),λ σ' H' p'=>⟨xs.length-(i+1),by left,rfl,hlt,p'⟩,λ x H' y=>?_⟩
  obtain⟨e,y⟩:=y
  subst e
  exact hs i x σ _ (y xs q) p
 ·have e:i=xs.length:=by left
  subst e
  exact .inl ⟨⟨xs,q,uai _⟩,hd σ H p⟩
theorem zc2 {K:uad}{a:Addr}{xs:List V}{g:TG}{tb:TS}{D:Ends}{σ:St}{H:Hp}(Pv:Nat->St->Hp->Prop)(h0:Pv 0 σ H)(hl:∀ i σ H,i<=xs.length->Pv i σ H->SqT K H a xs)
  (hs:∀ i x σ H,xs[i]?=some x->Pv i σ H->g x σ H λ σ2 H2=>tb { D with nx:=Pv (i+1),ct:=Pv (i+1),bk:=D.nx } σ2 H2) (hd:∀ σ H,Pv xs.length σ H->D.nx σ H) :
  ∃ W:Nat->Nat->St->Hp->Prop,(∃ m,W 0 m σ H)/\∀ i m σ H,W i m σ H ->
   ((Itt K a).stop i H/\D.nx σ H)\/((Itt K a).go i H/\∃ N:St->Hp->Prop,(∀ σ' H',N σ' H'->∃ m',m'<m/\W (i+1) m' σ' H')/\∀ x H',(Itt K a).yld i H x H'->g x σ H' λ σ2 H2=>tb { D with nx:=N,ct:=N,bk:=D.nx } σ2 H2):=by
 refine⟨λ i m σ H=>m=xs.length-i/\i<=xs.length/\Pv i σ H,⟨xs.length,by simp,ubj _,h0⟩,?_⟩
 rintro i m σ H ⟨rfl,hi,p⟩
 have q:=hl i σ H hi p
 by_cases hlt:i<xs.length
 ·refine .inr ⟨⟨xs,xs[i],q,by simp [hlt]⟩,Pv (i+1),λ σ' H' p'=>⟨xs.length-(i+1),by left,rfl,hlt,p'⟩,λ x H' y=>?_⟩
  obtain⟨e,y⟩:=y
  subst e
  exact hs i x σ _ (y xs q) p
 ·have e:i=xs.length:=by left
  subst e
  exact .inl ⟨⟨xs,q,uai _⟩,hd σ H p⟩
theorem zbo {lo:Int}{n:Nat}{g:TG}{tb:TS}{D:Ends}{σ:St}{H:Hp}(Pv:Nat->St->Hp->Prop)(h0:Pv 0 σ H)
  (hs:∀ i σ H,i<n->Pv i σ H->g (.int (lo+i)) σ H λ σ2 H2=>tb { D with nx:=Pv (i+1),ct:=Pv (i+1),bk:=D.nx } σ2 H2) (hd:∀ σ H,Pv n σ H->D.nx σ H) :
  ∃ W:Nat->Nat->St->Hp->Prop,(∃ m,W 0 m σ H)/\∀ i m σ H,W i m σ H ->
   ((Itr lo n).stop i H/\D.nx σ H)\/((Itr lo n).go i H/\∃ N:St->Hp->Prop,(∀ σ' H',N σ' H'->∃ m',m'<m/\W (i+1) m' σ' H')/\∀ x H',(Itr lo n).yld i H x H'->g x σ H' λ σ2 H2=>tb { D with nx:=N,ct:=N,bk:=D.nx } σ2 H2):=by
 refine⟨λ i m σ H=>m=n-i/\i<=n/\Pv i σ H,⟨n,by simp,ubj _,h0⟩,?_⟩
 rintro i m σ H ⟨rfl,hi,p⟩
 by_cases hlt:i<n
 ·refine .inr ⟨hlt,Pv (i+1),λ σ' H' p'=>⟨n-(i+1),by left,rfl,hlt,p'⟩,λ x H' y=>?_⟩
  obtain⟨e,y⟩:=y
  subst e y
  exact hs i σ _ hlt p
 ·have e:i=n:=by left
  subst e
  exact .inl ⟨uai _,hd σ H p⟩
end L2
namespace L2
open PySem PySem.Spec PyProof.Rows
abbrev R2:=V->V->Hp->VK->Prop
def OpR (X:Cx)(f:Value->Value->Sem Value)(r:R2):Prop :=
 ∀ (pins:List (Addr × Obj))(s:Shared)(σ:St)(H:Hp)(x y:V)(v u:Value)(Q:VK),Inv X pins σ H s->RelV x v->RelV y u->r x y H Q ->
  wpAny (model X.prog X.w) X.A (f v u) (EP X pins σ Q) X.xe s
def UnR (X:Cx)(f:Value->Sem Value)(r:V->Hp->VK->Prop):Prop :=
 ∀ (pins:List (Addr × Obj))(s:Shared)(σ:St)(H:Hp)(x:V)(v:Value)(Q:VK),Inv X pins σ H s->RelV x v->r x H Q ->
  wpAny (model X.prog X.w) X.A (f v) (EP X pins σ Q) X.xe s
def CallR (X:Cx)(f:Value)(r:List V->Hp->VK->Prop):Prop :=
 ∀ (pins:List (Addr × Obj))(s:Shared)(σ:St)(H:Hp)(xs:List V)(us:List Value)(Q:VK),Inv X pins σ H s->Vals xs us->r xs H Q ->
  wpAny (model X.prog X.w) X.A (call f us) (EP X pins σ Q) X.xe s
def tOp (r:R2)(ta tb:TE):TE:=λ σ H Q=>ta σ H λ x H1=>tb σ H1 λ y H2=>r x y H2 Q
def tUn (r:V->Hp->VK->Prop)(ta:TE):TE:=λ σ H Q=>ta σ H λ x H1=>r x H1 Q
inductive rI_i (C:Int->Int->Prop)(g:Int->Int->V)(x:V)(y:V)(H:Hp)(Q:VK):Prop
 | mk:∀ i j,(x=.int i)->(y=.int j)->(C i j)->(Q (g i j) H)->rI_i C g x y H Q
def rI (C:Int->Int->Prop)(g:Int->Int->V):R2:=λ x y H Q=>rI_i C g x y H Q
inductive rI0_i (g:Int->Int->V)(x:V)(y:V)(H:Hp)(Q:VK):Prop
 | mk:∀ i j,(x=.int i)->(y=.int j)->(Q (g i j) H)->rI0_i g x y H Q
def rI0 (g:Int->Int->V):R2:=λ x y H Q=>rI0_i g x y H Q
inductive rU_i (g:Int->V)(x:V)(H:Hp)(Q:VK):Prop
 | mk:∀ i,(x=.int i)->(Q (g i) H)->rU_i g x H Q
def rU (g:Int->V):V->Hp->VK->Prop:=λ x H Q=>rU_i g x H Q
section
variable {X:Cx}{a b c:Expr}{ta tb tc:TE}{pos:Pos}
theorem binT (ha:PE X a ta)(hb:PE X b tb){pins:List (Addr × Obj)}{s:Shared}{σ:St}{H:Hp}{R:V->V->Hp->Prop}(I:Inv X pins σ H s)
  (h:ta σ H λ x H1=>tb σ H1 λ y H2=>R x y H2) {Q:Value->Shared->Prop} {f:Value->Value->Sem Value}
  (hf:∀ v u s2 x y H2,Inv X pins σ H2 s2->RelV x v->RelV y u->R x y H2->wpAny (model X.prog X.w) X.A (f v u) Q X.xe s2) :
  wpAny (model X.prog X.w) X.A (eval a X.env) (λ v s₁=>wpAny (model X.prog X.w) X.A (eval b X.env) (λ u s₂=>wpAny (model X.prog X.w) X.A (f v u) Q X.xe s₂) X.xe s₁) X.xe s:=by
 refine thn (ha pins s σ H _ I h) λ v s1 ⟨x,H1,I1,r1,q1⟩=>?_
 refine thn (hb pins s1 σ H1 _ I1 q1) λ u s2 ⟨y,H2,I2,r2,q2⟩=>?_
 exact hf v u s2 x y H2 I2 r1 r2 q2
theorem za1 {op:Operator}{r:R2}(ho:OpR X (binaryOp op) r)(ha:PE X a ta)(hb:PE X b tb):PE X (.BinOp a op b pos) (tOp r ta tb):=by
 intro pins s σ H Q I h
 exact wpAny_BinOp (binT ha hb I h λ v u s2 x y H2 I2 rx ry q=>ho pins s2 σ H2 x y v u Q I2 rx ry q)
theorem zs1 {op:UnaryOp}{r:V->Hp->VK->Prop}(ho:UnR X (unaryOp op) r)(ha:PE X a ta):PE X (.UnaryOp op a pos) (tUn r ta):=by
 intro pins s σ H Q I h
 exact UnaryOp_ (thn (ha pins s σ H _ I h) λ v s1 ⟨x,H1,I1,r1,q1⟩=>ho pins s1 σ H1 x v Q I1 r1 q1)
theorem opI {f:Value->Value->Sem Value}{C:Int->Int->Prop}{g:Int->Int->Int}
  (rule:∀ (i j:Int)(t u:Tok)(s:Shared)(Q:Value->Shared->Prop)(E:Value->Shared->Prop),C i j->Q (.int (g i j) s.toks) { s with toks:=s.toks+1 }->wpAny (model X.prog X.w) X.A (f (.int i t) (.int j u)) Q E s) :
  OpR X f (rI C λ i j=>.int (g i j)):=by
 intro pins s σ H x y v u Q I rx ry h
 obtain⟨i,j,rfl,rfl,hc,q⟩:=h
 obtain⟨t,rfl⟩:=rx
 obtain⟨t',rfl⟩:=ry
 exact rule i j t t' s _ _ hc ⟨.int (g i j),H,I.tok _,⟨_,rfl⟩,q⟩
theorem opI0 {f:Value->Value->Sem Value}{g:Int->Int->Int}
  (rule:∀ (i j:Int)(t u:Tok)(s:Shared)(Q:Value->Shared->Prop)(E:Value->Shared->Prop),Q (.int (g i j) s.toks) { s with toks:=s.toks+1 }->wpAny (model X.prog X.w) X.A (f (.int i t) (.int j u)) Q E s) :
  OpR X f (rI0 λ i j=>.int (g i j)):=by
 intro pins s σ H x y v u Q I rx ry h
 obtain⟨i,j,rfl,rfl,q⟩:=h
 obtain⟨t,rfl⟩:=rx
 obtain⟨t',rfl⟩:=ry
 exact rule i j t t' s _ _ ⟨.int (g i j),H,I.tok _,⟨_,rfl⟩,q⟩
theorem opB0 {f:Value->Value->Sem Value}{g:Int->Int->Bool}
  (rule:∀ (i j:Int)(t u:Tok)(s:Shared)(Q:Value->Shared->Prop)(E:Value->Shared->Prop),Q (.bool (g i j)) s->wpAny (model X.prog X.w) X.A (f (.int i t) (.int j u)) Q E s) :
  OpR X f (rI0 λ i j=>.bl (g i j)):=by
 intro pins s σ H x y v u Q I rx ry h
 obtain⟨i,j,rfl,rfl,q⟩:=h
 obtain⟨t,rfl⟩:=rx
 obtain⟨t',rfl⟩:=ry
 exact rule i j t t' s _ _ ⟨.bl (g i j),H,I,rfl,q⟩
def CDiv (i j:Int):Prop:=0<j/\j<1073741824
def CPow (i j:Int):Prop:=0<=j/\j<=1000000/\i.natAbs<2^64
def CMul (i j:Int):Prop:=(-(2^64)<i/\i<2^64)\/(-(2^64)<j/\j<2^64)
theorem CMul.ok {i j:Int}(h:CMul i j):IntMulOk i j:=by
 rcases h with ⟨h1,h2⟩ | ⟨h1,h2⟩
 ·exact .of_left (intBits_le_64 h1 h2)
 ·exact .of_right (intBits_le_64 h1 h2)
theorem zb1:OpR X (binaryOp .Add) (rI0 λ i j=>.int (i+j)):=opI0 λ _ _ _ _ _ _ _ q=>add_int q
theorem zcl:OpR X (binaryOp .Sub) (rI0 λ i j=>.int (i-j)):=opI0 λ _ _ _ _ _ _ _ q=>sub_int q
theorem zgn:OpR X (binaryOp .Mult) (rI CMul λ i j=>.int (i*j)):=opI λ _ _ _ _ _ _ _ hc q=>mul_int q hc.ok
theorem zoh:OpR X (binaryOp .FloorDiv) (rI CDiv λ i j=>.int (i / j)):=opI λ i j _ _ _ _ _ hc q=>by
 have h1:(0:Int)<j:=hc.1
 have h2:j<1073741824:=hc.2
 exact floordiv_int (by left) (by rw[Int.fdiv_eq_ediv_of_nonneg i (by left)];exact q) (.inl (PyProof.noPylong_small (by left)))
theorem zcy:OpR X (binaryOp .Mod) (rI (λ _ j=>0<j) λ i j=>.int (i%j)):=opI λ i j _ _ _ _ _ hc q=>by
 have h1:(0:Int)<j:=hc
 exact mod_int' (by left) (by rw[Int.fmod_eq_emod_of_nonneg i (by left)];exact q)
theorem zct:OpR X (binaryOp .Pow) (rI CPow λ i j=>.int (i^j.toNat)):=opI λ _ _ _ _ _ _ _ hc q=>pow_int_small hc.1 hc.2.1 hc.2.2 q
theorem unI {f:Value->Sem Value}{g:Int->Int}
  (rule:∀ (i:Int)(t:Tok)(s:Shared)(Q:Value->Shared->Prop)(E:Value->Shared->Prop),Q (.int (g i) s.toks) { s with toks:=s.toks+1 }->wpAny (model X.prog X.w) X.A (f (.int i t)) Q E s) :
  UnR X f (rU λ i=>.int (g i)):=by
 intro pins s σ H x v Q I rx h
 obtain⟨i,rfl,q⟩:=h
 obtain⟨t,rfl⟩:=rx
 exact rule i t s _ _ ⟨.int (g i),H,I.tok _,⟨_,rfl⟩,q⟩
theorem znj:UnR X (unaryOp .USub) (rU λ i=>.int (-i)):=unI λ _ _ _ _ _ q=>neg_int q
end
def scal:V->V->Bool
 | .non,.non=>true | .non,.int _=>true | .int _,.non=>true | .non,.bl _=>true | .bl _,.non=>true | .non,.str _=>true | .str _,.non=>true
 | .int _,.int _=>true | .bl _,.bl _=>true | .str _,.str _=>true | .byt _,.byt _=>true
 | .int _,.str _=>true | .str _,.int _=>true | .bl _,.str _=>true | .str _,.bl _=>true
 | _,_=>false
def rEq:R2:=λ x y H Q=>scal x y=true/\Q (.bl (decide (x=y))) H
def rNe:R2:=λ x y H Q=>scal x y=true/\Q (.bl (!decide (x=y))) H
theorem zpd {i j:Int}:decide (V.int i=V.int j)=(i==j):=by
 rw[ucq]
 simp
theorem zsc {i j:Bool}:decide (V.bl i=V.bl j)=(i==j):=by
 rw[ucq]
 simp
theorem zpc {i j:Str}:decide (V.str i=V.str j)=(i==j):=by
 rw[ucq]
 simp
theorem zpe {i j:Array UInt8}:decide (V.byt i=V.byt j)=(i.toList==j.toList):=by
 rw[ucq]
 cases i
 cases j
 simp
section
variable {X:Cx}{a b c:Expr}{ta tb tc:TE}{pos:Pos}
theorem za9 {pins:List (Addr × Obj)}{σ:St}{H:Hp}{s:Shared}{Q:VK}{k k':Bool}(I:Inv X pins σ H s)(q:Q (.bl k) H)(e:k=k'):EP X pins σ Q (.bool k') s:=by
 subst e
 exact⟨.bl k,H,I,rfl,q⟩
theorem zce:OpR X (compareOp .Eq) rEq:=by
 intro pins s σ H x y v u Q I rx ry h
 obtain⟨hs,q⟩:=h
 cases x with
 | non =>
  cases rx
  cases y with
  | non=>cases ry;exact PySem.EqNone.eq_none_none (za9 I q (by simp))
  | bl j=>cases ry;exact PySem.EqNone.eq_none_bool (za9 I q (by simp))
  | int j=>obtain⟨t',rfl⟩:=ry;exact PySem.EqNone.eq_none_int (za9 I q (by simp))
  | str j=>obtain⟨t',rfl⟩:=ry;exact PySem.EqNone.eq_none_str (za9 I q (by simp))
  | _=>exact absurd (show false=true from hs) uas
 | bl i =>
  cases rx
  cases y with
  | non=>cases ry;exact PySem.EqNone.eq_bool_none (za9 I q (by simp))
  | bl j=>cases ry;exact eq_bool (za9 I q zsc)
  | str j=>obtain⟨t',rfl⟩:=ry;exact PySem.EqMixed.eq_bool_str (za9 I q (by simp))
  | _=>exact absurd (show false=true from hs) uas
 | int i =>
  obtain⟨t,rfl⟩:=rx
  cases y with
  | non=>cases ry;exact PySem.EqNone.eq_int_none (za9 I q (by simp))
  | int j=>obtain⟨t',rfl⟩:=ry;exact eq_int (za9 I q zpd)
  | str j=>obtain⟨t',rfl⟩:=ry;exact PySem.EqMixed.eq_int_str (za9 I q (by simp))
  | _=>exact absurd (show false=true from hs) uas
 | str i =>
  obtain⟨t,rfl⟩:=rx
  cases y with
  | non=>cases ry;exact PySem.EqNone.eq_str_none (za9 I q (by simp))
  | bl j=>cases ry;exact PySem.EqMixed.eq_str_bool (za9 I q (by simp))
  | int j=>obtain⟨t',rfl⟩:=ry;exact PySem.EqMixed.eq_str_int (za9 I q (by simp))
  | str j=>obtain⟨t',rfl⟩:=ry;exact eq_str (za9 I q zpc)
  | _=>exact absurd (show false=true from hs) uas
 | byt i =>
  obtain⟨t,rfl⟩:=rx
  cases y with
  | byt j=>obtain⟨t',rfl⟩:=ry;exact PySem.W.eq_bytes (za9 I q zpe)
  | _=>exact absurd (show false=true from hs) uas
 | _=>cases y <;> exact absurd (show false=true from hs) uas
theorem zoe:OpR X (compareOp .NotEq) rNe:=by
 intro pins s σ H x y v u Q I rx ry h
 obtain⟨hs,q⟩:=h
 cases x with
 | non =>
  cases rx
  cases y with
  | non=>cases ry;exact PySem.EqNone.ne_none_none (za9 I q (by simp))
  | bl j=>cases ry;exact PySem.EqNone.ne_none_bool (za9 I q (by simp))
  | int j=>obtain⟨t',rfl⟩:=ry;exact PySem.EqNone.ne_none_int (za9 I q (by simp))
  | str j=>obtain⟨t',rfl⟩:=ry;exact PySem.EqNone.ne_none_str (za9 I q (by simp))
  | _=>exact absurd (show false=true from hs) uas
 | bl i =>
  cases rx
  cases y with
  | non=>cases ry;exact PySem.EqNone.ne_bool_none (za9 I q (by simp))
  | bl j=>cases ry;exact ne_bool (za9 I q (congrArg not zsc))
  | str j=>obtain⟨t',rfl⟩:=ry;exact PySem.EqMixed.ne_bool_str (za9 I q (by simp))
  | _=>exact absurd (show false=true from hs) uas
 | int i =>
  obtain⟨t,rfl⟩:=rx
  cases y with
  | non=>cases ry;exact PySem.EqNone.ne_int_none (za9 I q (by simp))
  | int j=>obtain⟨t',rfl⟩:=ry;exact ne_int (za9 I q (congrArg not zpd))
  | str j=>obtain⟨t',rfl⟩:=ry;exact PySem.EqMixed.ne_int_str (za9 I q (by simp))
  | _=>exact absurd (show false=true from hs) uas
 | str i =>
  obtain⟨t,rfl⟩:=rx
  cases y with
  | non=>cases ry;exact PySem.EqNone.ne_str_none (za9 I q (by simp))
  | bl j=>cases ry;exact PySem.EqMixed.ne_str_bool (za9 I q (by simp))
  | int j=>obtain⟨t',rfl⟩:=ry;exact PySem.EqMixed.ne_str_int (za9 I q (by simp))
  | str j=>obtain⟨t',rfl⟩:=ry;exact ne_str (za9 I q (congrArg not zpc))
  | _=>exact absurd (show false=true from hs) uas
 | byt i =>
  obtain⟨t,rfl⟩:=rx
  cases y with
  | byt j=>obtain⟨t',rfl⟩:=ry;exact PySem.W.ne_bytes (za9 I q (congrArg not zpe))
  | _=>exact absurd (show false=true from hs) uas
 | _=>cases y <;> exact absurd (show false=true from hs) uas
theorem zdk:OpR X (compareOp .Lt) (rI0 λ i j=>.bl (decide (i<j))):=opB0 λ _ _ _ _ _ _ _ q=>lt_int q
theorem zq1:OpR X (compareOp .LtE) (rI0 λ i j=>.bl (decide (i<=j))):=opB0 λ _ _ _ _ _ _ _ q=>le_int q
theorem zfw:OpR X (compareOp .Gt) (rI0 λ i j=>.bl (decide (j<i))):=opB0 λ _ _ _ _ _ _ _ q=>gt_int q
theorem zt9:OpR X (compareOp .GtE) (rI0 λ i j=>.bl (decide (j<=i))):=opB0 λ _ _ _ _ _ _ _ q=>ge_int q
theorem ze2:OpR X (compareOp .Is) (λ x y H Q=>y=.non/\Q (.bl (decide (x=.non))) H):=by
 intro pins s σ H x y v u Q I rx ry h
 obtain⟨rfl,q⟩:=h
 cases ry
 refine is_none_gen (za9 I q ?_)
 cases x <;> first
  | (cases rx;rfl)
  | (obtain⟨t,rfl⟩:=rx;rfl)
theorem zcw:OpR X (compareOp .IsNot) (λ x y H Q=>y=.non/\Q (.bl (!decide (x=.non))) H):=by
 intro pins s σ H x y v u Q I rx ry h
 obtain⟨rfl,q⟩:=h
 cases ry
 refine isnot_none_gen (za9 I q ?_)
 cases x <;> first
  | (cases rx;rfl)
  | (obtain⟨t,rfl⟩:=rx;rfl)
theorem nomark (b:Expr){op:CmpOp}(h:op≠.In:=by decide)(h2:op≠.NotIn:=by decide):behindInMarks op b=false:=by
 have e1:(op==CmpOp.In)=false:=by cases op <;> first | rfl | exact absurd rfl h
 have e2:(op==CmpOp.NotIn)=false:=by cases op <;> first | rfl | exact absurd rfl h2
 cases b <;> simp [behindInMarks,e1,e2]
theorem za8 {op:CmpOp}{r:R2}(ho:OpR X (compareOp op) r)(ha:PE X a ta)(hb:PE X b tb)(hm:behindInMarks op b=false):PE X (.Compare a [op] [b] pos) (tOp r ta tb):=by
 intro pins s σ H Q I h
 exact wpAny_Compare1 (binT ha hb I h λ v u s2 x y H2 I2 rx ry q=>ho pins s2 σ H2 x y v u Q I2 rx ry q) hm
def tTest (t:TE):TT:=λ σ H Q=>t σ H λ x H'=>EBl x λ k=>Q k H'
theorem zap {op:CmpOp}{r:R2}(ho:OpR X (compareOp op) r)(ha:PE X a ta)(hb:PE X b tb)(hm:behindInMarks op b=false):PT X (.Compare a [op] [b] pos) (tTest (tOp r ta tb)):=by
 intro pins s σ H Q I h
 refine wpAny_isTrue_Compare1 (thn (ha pins s σ H _ I h) λ v s1 ⟨x,H1,I1,r1,q1⟩=>thn (hb pins s1 σ H1 _ I1 q1) λ u s2 ⟨y,H2,I2,r2,q2⟩ =>
  thn (ho pins s2 σ H2 x y v u _ I2 r1 r2 q2) λ c s3 ⟨z,H3,I3,r3,k,e,q3⟩=>?_) hm
 subst e
 cases r3
 exact udk ⟨H3,I3,q3⟩
def tChain (r r':R2)(ta tb tc:TE):TE:=λ σ H Q=>ta σ H λ x H1=>tb σ H1 λ y H2=>r x y H2 λ z H3=>EBl z λ k=>(if k=true then tc σ H3 λ w' H4=>r' y w' H4 Q else Q (.bl false) H3)
theorem zlv {op op':CmpOp}{r r':R2}(ho:OpR X (compareOp op) r)(ho':OpR X (compareOp op') r')(ha:PE X a ta)(hb:PE X b tb)(hc:PE X c tc)
  (hm:lastMarks [op,op'] [b,c]=false:=by with_unfolding_all rfl):PE X (.Compare a [op,op'] [b,c] pos) (tChain r r' ta tb tc):=by
 intro pins s σ H Q I h
 refine Compare_chain (thn (ha pins s σ H _ I h) λ v s1 ⟨x,H1,I1,r1,q1⟩=>chain_link (thn (hb pins s1 σ H1 _ I1 q1) λ u s2 ⟨y,H2,I2,r2,q2⟩ =>
  thn (ho pins s2 σ H2 x y v u _ I2 r1 r2 q2) λ d s3 ⟨z,H3,I3,r3,k,e,q3⟩=>?_)) hm
 subst e
 cases r3
 refine udk ?_
 cases k with
 | false=>exact ite_ff ⟨.bl false,H3,I3,rfl,q3⟩
 | true=>exact ite_tt (chain_last (thn (hc pins s3 σ H3 _ I3 q3) λ w' s4 ⟨z',H4,I4,r4,q4⟩=>ho' pins s4 σ H4 y z' u w' Q I4 r2 r4 q4))
theorem line63:(sizeLine:Nat)<2^63:=by rw[ucr];decide
theorem vals1 {x:V}{us:List Value}(r:Vals [x] us):∃ u,us=[u]/\RelV x u:=by
 cases r with
 | cons r1 r2=>cases r2;exact⟨_,rfl,r1⟩
theorem vals2 {x y:V}{us:List Value}(r:Vals [x,y] us):∃ u w',us=[u,w']/\RelV x u/\RelV y w':=by
 cases r with
 | cons r1 r2 =>
  cases r2 with
  | cons r3 r4=>cases r4;exact⟨_,_,rfl,r1,r3⟩
inductive call_abs_i  (xs:List V) (H:Hp) (Q:VK):Prop
 | mk:∀ i,(xs=[.int i])->(Q (.int (if i<0 then -i else i)) H)->call_abs_i xs H Q
theorem zrq:CallR X (.builtin "abs") (call_abs_i):=by
 intro pins s σ H xs us Q I r h
 obtain⟨i,rfl,q⟩:=h
 obtain⟨u,rfl,t,rfl⟩:=vals1 r
 exact call_abs_int λ u tk=>⟨.int (if i<0 then -i else i),H,I.tok _,⟨_,rfl⟩,q⟩
theorem zfm (hc:X.calm=true):CallR X (.builtin "max") (λ xs H Q=>∃ i j,xs=[.int i,.int j]/\Q (.int (if j>i then j else i)) H):=by
 intro pins s σ H xs us Q I r h
 obtain⟨i,j,rfl,q⟩:=h
 obtain⟨u,w',rfl,⟨t,rfl⟩,⟨t',rfl⟩⟩:=vals2 r
 refine max_two_ints (I.ok.hd hc) λ h' tk k=>⟨_,H,I.kept k,?_,q⟩
 by_cases hj:j>i
 ·rw[if_pos hj,if_pos hj];exact⟨_,rfl⟩
 ·rw[if_neg hj,if_neg hj];exact⟨_,rfl⟩
inductive call_min2_i  (xs:List V) (H:Hp) (Q:VK):Prop
 | mk:∀ i j,(xs=[.int i,.int j])->(Q (.int (if j<i then j else i)) H)->call_min2_i xs H Q
theorem zc5 (hc:X.calm=true):CallR X (.builtin "min") (call_min2_i):=by
 intro pins s σ H xs us Q I r h
 obtain⟨i,j,rfl,q⟩:=h
 obtain⟨u,w',rfl,⟨t,rfl⟩,⟨t',rfl⟩⟩:=vals2 r
 refine min_two_ints (I.ok.hd hc) λ h' tk k=>⟨_,H,I.kept k,?_,q⟩
 by_cases hj:j<i
 ·rw[if_pos hj,if_pos hj];exact⟨_,rfl⟩
 ·rw[if_neg hj,if_neg hj];exact⟨_,rfl⟩
theorem zpm:CallR X (.type "int") (λ xs H Q=>(∃ i,xs=[.int i]/\Q (.int i) H)\/∃ k,xs=[.bl k]/\Q (.int (if k then 1 else 0)) H):=by
 intro pins s σ H xs us Q I r h
 rcases h with ⟨i,rfl,q⟩ | ⟨k,rfl,q⟩
 ·obtain⟨u,rfl,t,rfl⟩:=vals1 r
  exact call_int_int ⟨.int i,H,I,⟨_,rfl⟩,q⟩
 ·obtain⟨u,rfl,r1⟩:=vals1 r
  cases r1
  exact call_int_bool ⟨.int (if k then 1 else 0),H,I.tok _,⟨_,rfl⟩,q⟩
end
end L2
namespace L2
open PySem PySem.Spec PyProof.Rows
structure ObjM (h:Heap)(x dx C:Addr)(mA:Str->Option Value):Prop where
 obj:h.get? x=some (ugg C dx)
 ns:h.Ns1 dx mA
 ne:dx≠x
theorem zoq {h:Heap}{dx:Addr}{mA:Str->Option Value}(n:h.Ns1 dx mA):∃ od,h.get? dx=some od/\∀ name,ugu name od=some (mA name):=by
 obtain⟨o,es,ep,ho,hd,hk,_,hm⟩:=n
 refine⟨o,ho,λ name=>?_⟩
 have e:=hm name
 unfold nsFind findBy at e
 rw[← Array.find?_toList] at e
 unfold ugu
 rw[hd]
 dsimp only
 split
 ·rename_i y q
  rw[q] at e
  exact congrArg some e
 ·rename_i q
  rw[q] at e
  have a:es.toList.any (·.refKey)=false:=by
   rw[List.any_eq_false]
   intro y hy
   obtain⟨z,t,hkey⟩:=hk y (Array.mem_toList_iff.mp hy)
   simp [DictEntry.refKey,hkey]
  have a':¬ es.toList.any (·.refKey)=true:=by rw[a];exact uas
  rw[if_neg a']
  exact congrArg some e
theorem ObjM.look {h:Heap}{x dx C:Addr}{mA:Str->Option Value}(I:ObjM h x dx C mA):∃ od,PySem.W.InstAt h x (ugg C dx) C (some od)/\∀ name,ugu name od=some (mA name) :=
 let ⟨od,ho,hl⟩:=zoq I.ns
 ⟨od,⟨I.obj,rfl,rfl,ho⟩,hl⟩
section
variable {prog:Program}{w:World}{A:Around}{E:Value->Shared->Prop}{s:Shared}{K:uad}{x dx C f:Addr}{mA:Str->Option Value}{name:Str}{v:Value}
end
section
variable {P:Program}{w:World}{H H':Hp}{h h':Heap}{a C dx:Addr}{fs fs':List (Str × V)}
theorem ztd (hok:HOk P w H h)(e:H a=some (.ins C dx fs)):∃ mA,ObjM h a dx C mA/\(∀ f,RelO (fs.lookup f) (mA f))/\PySem.Within mA (fs.map (·.1))/\fs.length<=1000/\H dx=some (.own a):=by
 obtain⟨d,z,ne,ob,mA,n,r,q⟩:=(show ObjOk P w H h a (.ins C dx fs) from hok a _ e)
 exact⟨mA,⟨ob,n,ne⟩,r,q,z,d⟩
end
structure Cls (K:uad)(C:Addr):Prop where
 pg:PySem.W.plainGet K C Str.empty=true
 hd:PySem.W.hasDictIn K C=true
 po:PySem.W.plainOver K C=true
 sa:ugv K (.ref C) "__setattr__"=some (some (.builtin "object.__setattr__"))
theorem Cls.get {K:uad}{C:Addr}(c:Cls K C)(f:Str):PySem.W.plainGet K C f=true:=c.pg
structure Con (K:uad)(C:Addr)(f:Str)(v:V)(u:Value):Prop where
 at_:ugv K (.ref C) f=some (some u)
 rel:RelV v u
 get:PySem.W.specialIn K u "__get__"=some none
 cp:PySem.W.copiedNames.contains f=false
section
variable {X:Cx}{pins:List (Addr × Obj)}{σ:St}{H:Hp}{s:Shared}{a C dx:Addr}{fs:List (Str × V)}{f:Str}{v:V}{A:Around}{E:Value->Shared->Prop}
end
section
variable {X:Cx}{o e value:Expr}{f:Str}{pos pos' tpos:Pos}{ta tv:TE}
end
section
variable {X:Cx}{pins:List (Addr × Obj)}{σ:St}{H:Hp}{s:Shared}{A:Around}{E:Value->Shared->Prop}{Q:Value->Shared->Prop}{c:Value}{b:Bool}
inductive TyOf (K:uad)(H:Hp):V->Value->Prop where
 | non:TyOf K H .non (.type "NoneType")
 | bl (x:Bool):TyOf K H (.bl x) (.type "bool")
 | int (i:Int):TyOf K H (.int i) (.type "int")
 | str (x:Str):TyOf K H (.str x) (.type "str")
 | flt (x:UInt64):TyOf K H (.flt x) (.type "float")
 | lst {a:Addr} {xs:List V} (e:H a=some (.lst xs)):TyOf K H (.ref a) (.type "list")
 | frz {a:Addr} {o:Obj} {xs:List V} (e:H a=some (.frz o (.lst xs))):TyOf K H (.ref a) (.type "list")
 | tup {a:Addr} {xs:List V} (e:H a=some (.tup xs)):TyOf K H (.ref a) (.type "tuple")
 | dK {a:Addr} {kvs:List (Key × V)} (e:H a=some (.dK kvs)):TyOf K H (.ref a) (.type "dict")
 | dT {a:Addr} {kvs:List (List Key × V)} (e:H a=some (.dT kvs)):TyOf K H (.ref a) (.type "dict")
 | ins {a C dx : Addr} {fs : List (Str × V)} (e : H a = some (.ins C dx fs)) (cl : Cls K C) (ha : ugv K (.ref C) "__class__" = some (some (.builtin "object.__class__")))
     (hn:PySem.W.specialIn K (.builtin "object.__class__") "__get__"=some (some (.builtin "getset_descriptor.__get__"))) (htk:PySem.W.takesIn K (.builtin "object.__class__")=some true)
     (hm:PySem.W.mroIn K C (.type "object")=some true):TyOf K H (.ref a) (.ref C)
theorem zow {x:V}{u t:Value}(I:Inv X pins σ H s)(rx:RelV x u)(ty:TyOf X.K H x t)(e:PySem.W.kitOne X.K t c=some b)(h:∀ tk,Q (.bool b) { s with toks:=tk }) :
  wpAny (model X.prog X.w) A (call (.builtin "isinstance") [u,c]) Q E s:=by
 cases ty with
 | non=>cases (show u=Value.none from rx);exact ucj PySem.W.kitx_none I.kIn True.intro e (λ z=>nomatch z) h
 | bl y=>cases (show u=Value.bool y from rx);exact ucj PySem.W.kitx_bool I.kIn True.intro e (λ z=>nomatch z) h
 | int i=>obtain⟨t,q⟩:=(show ∃ t,u=Value.int i t from rx);cases q;exact ucj PySem.W.kitx_int I.kIn True.intro e (λ z=>nomatch z) h
 | str y=>obtain⟨t,q⟩:=(show ∃ t,u=Value.str y t from rx);cases q;exact ucj PySem.W.kitx_str I.kIn True.intro e (λ z=>nomatch z) h
 | flt y=>obtain⟨t,q⟩:=(show ∃ t,u=Value.float y t from rx);cases q;exact ucj PySem.W.kitx_float I.kIn True.intro e (λ z=>nomatch z) h
 | @lst a xs ea =>
  cases (show u=Value.ref a from rx)
  obtain⟨_,_,n,_,h1⟩:=(show ObjOk X.prog X.w H s.heap a (.lst xs) from I.hok a _ ea)
  exact ucj PySem.W.kitx_list I.kIn ⟨_,h1,rfl⟩ e (λ z=>nomatch z) h
 | @frz a ob xs ea =>
  cases (show u=Value.ref a from rx)
  obtain⟨_,_,_,n,_,h1⟩:=(show ObjOk X.prog X.w H s.heap a (.frz ob (.lst xs)) from I.hok a _ ea)
  exact ucj PySem.W.kitx_list I.kIn ⟨_,h1,rfl⟩ e (λ z=>nomatch z) h
 | @tup a xs ea =>
  cases (show u=Value.ref a from rx)
  obtain⟨_,_,_,p⟩:=(show ObjOk X.prog X.w H s.heap a (.tup xs) from I.hok a _ ea)
  obtain⟨o,h1,h2,_⟩:=p
  exact ucj PySem.W.kitx_tuple I.kIn ⟨o,h1,h2⟩ e (λ z=>nomatch z) h
 | @dK a kvs ea =>
  cases (show u=Value.ref a from rx)
  obtain⟨_,_,vs,_,p⟩:=(show ObjOk X.prog X.w H s.heap a (.dK kvs) from I.hok a _ ea)
  obtain⟨o,es,ep,h1,h2,_⟩:=p
  exact ucj PySem.W.kitx_dict I.kIn ⟨o,h1,h2.1⟩ e (λ z=>nomatch z) h
 | @dT a kvs ea =>
  cases (show u=Value.ref a from rx)
  obtain⟨_,_,xs,_,o,es,ep,h1,h2,_⟩:=(show ObjOk X.prog X.w H s.heap a (.dT kvs) from I.hok a _ ea)
  exact ucj PySem.W.kitx_dict I.kIn ⟨o,h1,h2.1⟩ e (λ z=>nomatch z) h
 | @ins a C dx fs ea cl ha hn htk hm =>
  cases (show u=Value.ref a from rx)
  obtain⟨mA,O,_⟩:=ztd I.hok ea
  obtain⟨od,J,_⟩:=O.look
  exact ucj (PySem.W.kitx_own (cl.get _) cl.hd ha hn htk hm) I.kIn J e (λ z=>nomatch z) h
end
end L2
namespace L2
open PySem PySem.Spec PyProof.Rows
structure Room (k:Nat)(A:Around):Prop where
 hd:A.handled=none
 dp:A.depth+3*k+5<recursionLimit
 un:A.units+16*k+200<cLine
 gd:A.guards=some []
theorem Room.mono {j k:Nat}{A:Around}(r:Room k A)(h:j<=k):Room j A:=⟨r.hd,by have:=r.dp;left,by have:=r.un;left,r.gd⟩
theorem Room.deeper {k:Nat}{A:Around}(r:Room (k+1) A)(env:Env):Room k (A.deeper env) :=
 ⟨r.hd,by have:=r.dp;show A.depth+1+3*k+5<_;left,by have:=r.un;show A.units+3+16*k+200<_;left,r.gd⟩
theorem Room.depth {k:Nat}{A:Around}(r:Room k A):A.depth<recursionLimit:=by have:=r.dp;left
theorem Room.units {k:Nat}{A:Around}(r:Room k A):A.units+64<cLine:=by have:=r.un;left
theorem Room.units0 {k:Nat}{A:Around}(r:Room k A):A.units<cLine:=by have:=r.un;left
def tNil:TA:=λ _ H Q=>Q [] H
def tCons (ta:TE)(tr:TA):TA:=λ σ H Q=>ta σ H λ x H1=>tr σ H1 λ xs H2=>Q (x::xs) H2
section
variable {X:Cx}{e:Expr}{es:List Expr}{te:TE}{t:TA}{pos:Pos}
theorem zab:PA X [] tNil:=λ _ _ _ _ H Q I h=>Calls.spliced_nil ⟨[],H,I,.nil,h⟩
theorem zaa (ha:PE X e te)(hr:PA X es t)(hs:starEach (e::es) X.env=(false,eval e X.env)::starEach es X.env:=by rfl):PA X (e::es) (tCons te t):=by
 intro pos pins s σ H Q I h
 rw[hs]
 show wpAny _ _ (spliced ((false,eval e X.env)::backTo pos (starEach es X.env))) _ _ s
 refine Calls.spliced_cons (thn (ha pins s σ H _ I h) λ u s1 ⟨x,H1,I1,r1,q1⟩=>?_)
 exact thn (hr pos pins s1 σ H1 _ I1 q1) λ us s2 ⟨xs,H2,I2,r2,q2⟩=>⟨x::xs,H2,I2,.cons r1 r2,q2⟩
def tTup (t:TA):TE:=λ σ H Q=>t σ H λ xs H1=>xs.length<=sizeLine/\∀ p,H1 p=none->Q (.ref p) (upd H1 p (.tup xs))
def tLst (t:TA):TE:=λ σ H Q=>t σ H λ xs H1=>xs.length<=sizeLine/\∀ p,H1 p=none->Q (.ref p) (upd H1 p (.lst xs))
theorem zrx {x1} (h:PA X es t):PE X (.Tuple es x1 pos) (tTup t):=by
 intro pins s σ H Q I hq
 refine wpAny_Tuple_spliced (thn (h pos pins s σ H _ I hq) λ us s1 ⟨xs,H1,I1,r,z,q⟩=>⟨by rw[← r.length];exact z,?_⟩)
 have hf:H1 s1.heap.objs.size=none:=I1.hok.fresh (uai _)
 refine⟨.ref s1.heap.objs.size,upd H1 s1.heap.objs.size (.tup xs),I1.laid (t':=s1.toks) (λ b u e=>Heap.get?_push_of_some _ e) (uai _) ?_,rfl,q _ hf⟩
 exact⟨z,us,r,⟨_,Heap.get?_push_size _ rfl,rfl,⟨_,rfl⟩,rfl⟩⟩
theorem ze0 (h:PA X es t):PE X (.List es pos) (tLst t):=by
 intro pins s σ H Q I hq
 refine wpAny_List_spliced (thn (h pos pins s σ H _ I hq) λ us s1 ⟨xs,H1,I1,r,z,q⟩=>⟨by rw[← r.length];exact z,?_⟩)
 have hf:H1 s1.heap.objs.size=none:=I1.hok.fresh (uai _)
 refine⟨.ref s1.heap.objs.size,upd H1 s1.heap.objs.size (.lst xs),I1.laid (t':=s1.toks) (λ b u e=>Heap.get?_push_of_some _ e) (uai _) ?_,rfl,q _ hf⟩
 exact⟨z,us,0,r,Heap.get?_push_size _ rfl⟩
end
abbrev Sp:=List V->Hp->VK->XK->Prop
abbrev CXT:=List Env->Hp->Shared->XK->Value->Shared->Prop
structure Env0 (P:Program)(w:World)(K:uad)(mg:Str->Option Value)(base:Heap)(A:Around)(outer:List Env)(s:Shared)(H:Hp):Prop where
 frames:A.frames=some outer
 mod:Mod K mg base
 bs:∀ b o,base.get? b=some o->s.heap.get? b=some o/\H b=none
 bsz:base.objs.size<=s.heap.objs.size
 funs:s.heap.FunFrames base outer
 frf:∀ b∈frs outer,H b=none
 hok:HOk P w H s.heap
 bare:AllBare s.gens
def CE (outer:List Env)(P:Program)(w:World)(H:Hp)(s:Shared)(Q:VK)(u:Value)(s':Shared):Prop :=
 ∃ v H',s'.os=s.os/\AllBare s'.gens/\Un (frs outer) [] H H' s.heap s'.heap/\HOk P w H' s'.heap/\RelV v u/\Q v H'
def CR (CX:CXT)(outer:List Env)(P:Program)(w:World)(H:Hp)(s:Shared)(Q:VK)(E:XK)(r:Result)(s':Shared):Prop :=
 match r with
 | .ok (.ret u)=>CE outer P w H s Q u s'
 | .ok _=>False
 | .error e=>CX outer H s E e s'
structure FnOk (P:Program)(w:World)(K:uad)(mg:Str->Option Value)(base:Heap)(CX:CXT)(k:Nat)(f:Addr)(fd:FuncData)(ps:List Str)(sp:Sp):Prop where
 len:∀ vs H Q E,sp vs H Q E->vs.length=ps.length
 run:∀ (A:Around)(outer:List Env)(s:Shared)(H:Hp)(args:Args)(us:List Value)(vs:List V)(Q:VK)(E:XK),Room k A->Env0 P w K mg base A outer s H->BindsTo s fd args (ps.zip us)->Vals vs us->sp vs H Q E ->
  codeAny (model P w) A (.call (.ref f) args) (CR CX outer P w H s Q E) s
theorem FnOk.mono {P:Program}{w:World}{K:uad}{mg:Str->Option Value}{base:Heap}{CX:CXT}{j k:Nat}{f:Addr}{fd:FuncData}{ps:List Str}{sp:Sp}(F:FnOk P w K mg base CX j f fd ps sp)(h:j<=k) :
  FnOk P w K mg base CX k f fd ps sp:=⟨F.len,λ A outer s H args us vs Q E hr=>F.run A outer s H args us vs Q E (hr.mono h)⟩
theorem FnOk.imp {P:Program}{w:World}{K:uad}{mg:Str->Option Value}{base:Heap}{CX:CXT}{k:Nat}{f:Addr}{fd:FuncData}{ps:List Str}{sp sp':Sp}(F:FnOk P w K mg base CX k f fd ps sp)
  (h:∀ vs H Q E,sp' vs H Q E->sp vs H Q E):FnOk P w K mg base CX k f fd ps sp' :=
 ⟨λ vs H Q E q=>F.len vs H Q E (h _ _ _ _ q),λ A outer s H args us vs Q E hr he hb hv hs=>F.run A outer s H args us vs Q E hr he hb hv (h _ _ _ _ hs)⟩
section
variable {X:Cx}{pins:List (Addr × Obj)}{σ:St}{H:Hp}{s s':Shared}
theorem Inv.env0 (I:Inv X pins σ H s):Env0 X.prog X.w X.K X.mg X.base X.A X.stack s H :=
 ⟨I.ok.frames,I.ok.mod,I.bs,ubr I.ok.bsz I.sz,I.stack,I.stkFree,I.hok,I.bare⟩
theorem Inv.after {Q:VK}{u:Value}(I:Inv X pins σ H s)(h:CE X.stack X.prog X.w H s Q u s'):EP X pins σ Q u s':=by
 obtain⟨v,H',os,bare,un,hok,r,q⟩:=h
 obtain⟨hh,g,d,t,os'⟩:=s'
 obtain rfl:os'=s.os:=os
 exact⟨v,H',I.call (h':=hh) (g':=g) (d':=d) (t':=t) (ch:=[]) un hok bare (λ b z=>absurd z (by simp)),r,q⟩
end
def tCall (sp:Sp)(dvs:List V)(E:XK)(t:TA):TE:=λ σ H Q=>t σ H λ vs H1=>sp (vs++dvs) H1 Q E
def Binds (K:uad)(fd:FuncData)(ps:List Str)(ds:List Value):Prop :=
 ∀ (s:Shared)(us:List Value),K.In s.heap->(us++ds).length=ps.length->BindsTo s fd ⟨us,[]⟩ (ps.zip (us++ds))
theorem Binds.all {K:uad}{fd:FuncData}{ps:List Str}(h:∀ us:List Value,us.length=ps.length->bindArgs fd ⟨us,[]⟩=pure (ps.zip us)):Binds K fd ps []:=λ s us _ hl=>by
 rw[ugy] at hl ⊢
 exact .of_eq (h us hl)
def Passes (CX:CXT)(X:Cx)(E:XK):Prop:=∀ (pins:List (Addr × Obj))(σ:St)(H:Hp)(s:Shared)(e:Value)(s':Shared),Inv X pins σ H s->CX X.stack H s E e s'->X.xe e s'
section
variable {X:Cx}{CX:CXT}{k:Nat}{f C:Addr}{fd:FuncData}{ps:List Str}{sp:Sp}{dvs:List V}{ds:List Value}{E:XK}{x m:Str}{p pos apos:Pos}{e o:Expr}{es:List Expr}{ta:TE}{t:TA}
theorem zt0 {pins:List (Addr × Obj)}{σ:St}{H:Hp}{s:Shared}{Q:VK}{us:List Value}{vs:List V}(F:FnOk X.prog X.w X.K X.mg X.base CX k f fd ps sp)(hr:Room k X.A)(hb:Binds X.K fd ps ds)(hd:Vals dvs ds)(hx:Passes CX X E)
  (I:Inv X pins σ H s) (r:Vals vs us) (h:sp (vs++dvs) H Q E):wpAny (model X.prog X.w) X.A (call (.ref f) us) (EP X pins σ Q) X.xe s:=by
 have r2:Vals (vs++dvs) (us++ds):=r.append hd
 have hl:(us++ds).length=ps.length:=by rw[← r2.length];exact F.len _ _ _ _ h
 refine wpAny_call (udr (F.run X.A X.stack s H ⟨us,[]⟩ (us++ds) (vs++dvs) Q E hr I.env0 (hb s us I.kIn hl) r2 h) λ r s' hq=>?_)
 cases r with
 | error e=>exact hx pins σ H s e s' I hq
 | ok fl =>
  cases fl with
  | ret u=>exact I.after hq
  | next=>exact False.elim hq
  | brk=>exact False.elim hq
  | cont=>exact False.elim hq
theorem zs3 (F:FnOk X.prog X.w X.K X.mg X.base CX k f fd ps sp)(hr:Room k X.A)(hg:Gl X x)(hm:X.mg x=some (.ref f))(hk:ued X.K (.ref f)=true)(hb:Binds X.K fd ps ds)(hd:Vals dvs ds)(hx:Passes CX X E)
  (ha:PA X (e::es) t) (hdb:(x==("__debug__":Str))=false:=by decide) (he:starEach (e::es) X.env=(false,eval e X.env)::starEach es X.env:=by rfl) (hpl:(backTo pos (starEach es X.env)).any (·.1)=false:=by rfl) :
  PE X (.Call (.Name x p) (e::es) [] pos) (tCall sp dvs E t):=by
 intro pins s σ H Q I h
 refine ugt (ztb I hg hm ?_ hdb)
 refine PySem.W.callWith_K (h₀:=X.base) I.ok.mod.kin hk (thn (ha pos pins s σ H _ I h) λ us s1 ⟨vs,H1,I1,r,q⟩=>⟨I1.kIn,?_⟩) he hpl
 exact zt0 F hr hb hd hx I1 r q
end
section
variable {X:Cx}{CX:CXT}{k:Nat}{f C:Addr}{fd:FuncData}{ps ks:List Str}{sp:Sp}{E:XK}{x m:Str}{p pos apos kpos:Pos}{e o:Expr}{es:List Expr}{kws:List Keyword}{te ta:TE}{t tk:TA}{nm:Option Str}
variable {g:List Value->List Value->List Value}{gV:List V->List V->List V}
end
structure FnScope (N P:List Str)(sc:Scope):Prop where
 kind:sc.kind=.function
 co:sc.isCoroutine=false
 gen:sc.isGenerator=false
 nd:N.Nodup
 pre:N.take P.length=P
 par:∀ x∈P,sc.names.lookup x=some .local\/sc.names.lookup x=some .cell
 nofree:∀ y∈sc.names,y.2≠.free
theorem zjr {kindOf:Str->Option NameKind}{x:Str}:∀ {binds:List (Str × Value)}{m:Str->Option Value},(∀ v,(x,v)∉binds)->bindL kindOf binds m x=m x
 | [],_,_=>rfl
 | (n,v)::r,m,h=>by
  unfold bindL
  rw[zjr λ w hw=>h w (uam _ hw)]
  split
  ·have:x≠n:=by rintro rfl;exact h v uan
   simp [this]
  ·rfl
theorem zjt {kindOf:Str->Option NameKind}{x:Str}:∀ {binds:List (Str × Value)}{m:Str->Option Value},(∀ v,(x,v)∉binds)->bindC kindOf binds m x=m x
 | [],_,_=>rfl
 | (n,v)::r,m,h=>by
  unfold bindC
  rw[zjt λ w hw=>h w (uam _ hw)]
  split
  ·rfl
  ·have:x≠n:=by rintro rfl;exact h v uan
   simp [this]
theorem zjs {kindOf:Str->Option NameKind}{x:Str}{v:Value}:∀ {P:List Str}{vs:List Value}{i:Nat}{m:Str->Option Value},P.Nodup->P[i]?=some x->vs[i]?=some v->kindOf x=some .local ->
  bindL kindOf (P.zip vs) m x=some v
 | [],_,_,_,_,h,_,_=>by simp at h
 | _::_,[],_,_,_,_,h,_=>by simp at h
 | p::P,w::vs,0,m,nd,h1,h2,hk=>by
  simp at h1 h2;subst h1;subst h2
  show bindL kindOf ((p,w)::P.zip vs) m p=_
  unfold bindL
  rw[zjr λ v hv=>(ubw.mp nd).1 (ugw hv).1,if_pos hk]
  simp
 | p::P,w::vs,i+1,m,nd,h1,h2,hk=>by
  show bindL kindOf ((p,w)::P.zip vs) m x=_
  unfold bindL
  exact zjs (i:=i) (ubw.mp nd).2 (by simpa using h1) (by simpa using h2) hk
theorem zju {kindOf:Str->Option NameKind}{x:Str}{v:Value}:∀ {P:List Str}{vs:List Value}{i:Nat}{m:Str->Option Value},P.Nodup->P[i]?=some x->vs[i]?=some v->kindOf x≠some .local ->
  bindC kindOf (P.zip vs) m x=some v
 | [],_,_,_,_,h,_,_=>by simp at h
 | _::_,[],_,_,_,_,h,_=>by simp at h
 | p::P,w::vs,0,m,nd,h1,h2,hk=>by
  simp at h1 h2;subst h1;subst h2
  show bindC kindOf ((p,w)::P.zip vs) m p=_
  unfold bindC
  rw[zjt λ v hv=>(ubw.mp nd).1 (ugw hv).1,if_neg hk]
  simp
 | p::P,w::vs,i+1,m,nd,h1,h2,hk=>by
  show bindC kindOf ((p,w)::P.zip vs) m x=_
  unfold bindC
  exact zju (i:=i) (ubw.mp nd).2 (by simpa using h1) (by simpa using h2) hk
def start (N:List Str)(vs:List V):St:=vs.map some++uay (N.length-vs.length) none
def cxOf (CX:CXT)(P:Program)(w:World)(K:uad)(mg:Str->Option Value)(base:Heap)(N:List Str)(qual:Str)(scope:Scope)(f:Addr)(cd:Value)(A:Around)(outer:List Env)(s:Shared)(H:Hp)(E:XK):Cx where
 prog:=P
 w:=w
 K:=K
 mg:=mg
 base:=base
 A:=A.deeper (envOfC qual scope s.heap.objs.size f cd)
 N:=N
 s₀:=s
 H₀:=H
 env:=envOfC qual scope s.heap.objs.size f cd
 outer:=outer
 stack:=envOfC qual scope s.heap.objs.size f cd::outer
 ex:=[]
 calm:=true
 fn:=λ _=>true
 pn:=[]
 xe:=λ e s'=>wpAny (model P w) (A.deeper (envOfC qual scope s.heap.objs.size f cd)) (leaving (envOfC qual scope s.heap.objs.size f cd) e) (λ _ s''=>CX outer H s E e s'') (λ e' s''=>CX outer H s E e' s'') s'
theorem zml {sc:Scope}{n:Nat}{x:Str}(h:sc.names.lookup x=some .cell):∃ c,(cellsFrom n sc.names []).lookup x=some c:=by
 have q:=ug6 sc.names n [] (.inl h)
 exact Option.isSome_iff_exists.mp q
theorem zoz {CX:CXT}{P:Program}{w:World}{K:uad}{mg:Str->Option Value}{base:Heap}{N ps:List Str}{qual:Str}{scope:Scope}{f:Addr}{cd:Value}{A:Around}{outer:List Env}{s s1:Shared}{H:Hp}{E:XK}{us:List Value}{vs:List V}
  (S:FnScope N ps scope) (hd:A.handled=none) (e0:Env0 P w K mg base A outer s H) (hl:vs.length=ps.length) (r:Vals vs us)
  (x:InCallC s s.heap.objs.size (bindL (envOfC qual scope s.heap.objs.size f cd).kindOf (ps.zip us) λ _=>none) (cellsFrom (s.heap.objs.size+1) scope.names []) (bindC (envOfC qual scope s.heap.objs.size f cd).kindOf (ps.zip us) λ _=>none) s1) :
  Inv (cxOf CX P w K mg base N qual scope f cd A outer s H E) [] (start N vs) H s1:=by
 have hpl:ps.length<=N.length:=by have:=congrArg List.length S.pre;rw[ud5] at this;left
 obtain⟨h1,tk,rfl,hk⟩:=x.done
 have noA:∀ b:Addr,b∉(cxOf CX P w K mg base N qual scope f cd A outer s H E).ex:=λ b z=>absurd (show b∈([]:List Addr) from z) (by simp)
 refine⟨⟨e0.mod,S.kind,rfl,rfl,uai _,λ y z c h1 h2=>?_,λ y hy=>?_,λ y c _ h=>?_,λ _=>hd,Around.frames_deeper e0.frames,.inr ⟨rfl,rfl⟩,λ b z=>absurd z (noA b),e0.bs,e0.bsz,λ b _ _=>noA b,λ b z=>absurd z (noA b),e0.funs,e0.frf⟩,
  rfl,e0.bare,Un.kept hk,⟨_,x.toInCall.ns,λ i y v h1 h2 h3=>?_⟩,λ y c h=>⟨_,x.cell y c h⟩,e0.hok.fresh (uai _),λ y c h=>?_,λ p hp=>absurd (show p∈([]:List (Addr × Obj)) from hp) (by simp),e0.hok.kept hk,?_⟩
 ·exact name_of_addr x.apart (ucy h1) (ucy h2)
 ·have hy:scope.names.lookup y=some .cell\/scope.names.lookup y=some .free:=hy
  rcases hy with hy | hy
  ·exact zml hy
  ·exact absurd rfl (S.nofree _ (ucy hy))
 ·exact ufq (x.above y c (ucy h))
 ·have hi:i<vs.length:=by
   unfold start at h2
   by_cases hi:i<vs.length
   ·exact hi
   ·rw[ub9 (by simpa using hi)] at h2
    rw[uea] at h2
    split at h2 <;> cases h2
  have ha:vs[i]?=some v:=by
   unfold start at h2
   rw[uc9 (by simpa using hi),uak] at h2
   cases e:vs[i]? with
   | none=>rw[e] at h2;cases h2
   | some a=>rw[e] at h2;cases h2;rfl
  obtain⟨u,hu,rv⟩:=r.get ha
  have hp:ps[i]?=some y:=by
   rw[← S.pre,List.getElem?_take_of_lt (by left)];exact h1
  have ndP:ps.Nodup:=by rw[← S.pre];exact S.nd.sublist (List.take_sublist _ _)
  refine⟨u,rv,?_⟩
  rcases S.par y (uat hp) with k | k
  ·exact .inl ⟨k,zjs ndP hp hu k⟩
  ·obtain⟨c,e⟩:=zml (n:=s.heap.objs.size+1) k
   refine .inr ⟨.inl k,c,e,?_⟩
   have q:=x.cell y c e
   rw[zju ndP hp hu (by show scope.names.lookup y≠_;rw[k];decide)] at q
   exact q
 ·exact e0.hok.fresh (ufq (x.above y c (ucy h)))
 ·unfold start
  show _=N.length
  rw[uaq,uae,ubg]
  left
theorem zuu {CX:CXT}{P:Program}{w:World}{K:uad}{mg:Str->Option Value}{base:Heap}{k:Nat}{f:Addr}{name qual:Str}{params:Arguments}{body:List Stmt}{scope:Scope}{dV kV doc pm cdv ct oc:Value}{an od:Option Addr}
  {osl:Array (Option Value)} {N ps:List Str} {sp:Sp} (lk:K.lookup f=some ⟨oc,od,.func (uc2 name qual params body scope dV kV doc pm an cdv ct),osl⟩) (hcd:uet K cdv qual=true) (S:FnScope N ps scope)
  (len:∀ vs H Q E,sp vs H Q E->vs.length=ps.length)
  (hbody:∀ (A:Around)(outer:List Env)(s:Shared)(H:Hp)(vs:List V)(Q:VK)(E:XK),Room k (A.deeper (envOfC qual scope s.heap.objs.size f cdv))->sp vs H Q E ->
   ∃ t,PSs (cxOf CX P w K mg base N qual scope f cdv A outer s H E) body t/\t { nx:=λ _ H'=>Q .non H',rt:=Q } (start N vs) H) :
  FnOk P w K mg base CX (k+1) f (uc2 name qual params body scope dV kV doc pm an cdv ct) ps sp:=by
 refine⟨len,λ A outer s H args us vs Q E hr e0 hb r hsp=>?_⟩
 have hl:=len _ _ _ _ hsp
 have KX:K.In s.heap:=e0.mod.kin.keeps λ b o e=>(e0.bs b o e).1
 have lim:s.heap.NoLimit:=e0.mod.nolimit.keeps λ b o e=>(e0.bs b o e).1
 have hkind:∀ y∈ps.zip us,scope.names.lookup y.1=some .local\/(scope.names.lookup y.1=some .cell/\((cellsFrom (s.heap.objs.size+1) scope.names []).lookup y.1).isSome=true):=λ ⟨n,v⟩ hy=>by
  rcases S.par n (ugw hy).1 with q | q
  ·exact .inl q
  ·exact .inr ⟨q,ug6 _ _ _ (.inl q)⟩
 refine codeAny_call_function hr.depth (KX _ _ lk) rfl S.co S.gen rfl (PySem.W.codeRec_of KX hcd) (hb _ _ _ _ ?_)
 refine wpAny_newFunctionEnv_cells S.kind hkind λ env he s1 x=>?_
 subst he
 refine⟨lim.keeps x.toInCall.keep,codeAny_func ?_⟩
 obtain⟨t,ht,hq⟩:=hbody A outer s H vs Q E (hr.deeper _) hsp
 have I:Inv (cxOf CX P w K mg base N qual scope f cdv A outer s H E) [] (start N vs) H s1:=zoz S hr.hd e0 hl r x
 refine udm (ht [] s1 (start N vs) H _ I hq) (λ fl s' hs=>?_) λ e s' hs=>hs
 have fin:∀ {σ':St}{H':Hp}{v:V}{u:Value},Inv (cxOf CX P w K mg base N qual scope f cdv A outer s H E) [] σ' H' s'->RelV v u->Q v H'->CE outer P w H s Q u s' :=
  λ {σ' H' v u} J rv q=>⟨v,H',J.os,J.bare,J.base,J.hok,rv,q⟩
 cases fl with
 | ret u =>
  obtain⟨v,σ',H',J,rv,q⟩:=hs
  exact fin J rv q
 | next =>
  obtain⟨σ',H',J,q⟩:=hs
  exact fin (v:=V.non) (u:=Value.none) J rfl q
 | brk =>
  obtain⟨_,_,_,q⟩:=hs
  exact False.elim q
 | cont =>
  obtain⟨_,_,_,q⟩:=hs
  exact False.elim q
end L2
namespace L2
open PySem PySem.Spec PyProof.Rows
section
variable {X:Cx}{x:Str}{p pos:Pos}{e:Expr}{es:List Expr}{t:TA}{id T:String}{r:List V->Hp->VK->Prop}
def tCB (r:List V->Hp->VK->Prop)(t:TA):TE:=λ σ H Q=>t σ H λ vs H1=>r vs H1 Q
theorem zah (hc:CallR X (.builtin id) r)(hg:Gl X x)(hm:X.mg x=none)(hv:bootBuiltins x=some (.builtin id))(ha:PA X (e::es) t)(hn:x≠"__name__":=by decide)(hdb:(x==("__debug__":Str))=false:=by decide)
  (he:starEach (e::es) X.env=(false,eval e X.env)::starEach es X.env:=by rfl) (hpl:(backTo pos (starEach es X.env)).any (·.1)=false:=by rfl):PE X (.Call (.Name x p) (e::es) [] pos) (tCB r t):=by
 intro pins s σ H Q I h
 refine ugt (zfc I hg hm hv ?_ hn hdb)
 exact PyProof.Rows.callWith_builtin1 (thn (ha pos pins s σ H _ I h) λ us s1 ⟨vs,H1,I1,r1,q1⟩=>hc pins s1 σ H1 vs us Q I1 r1 q1) he hpl
theorem zar (hc:CallR X (.type T) r)(hg:Gl X x)(hm:X.mg x=none)(hv:bootBuiltins x=some (.type T))(ha:PA X (e::es) t)(hn:x≠"__name__":=by decide)(hdb:(x==("__debug__":Str))=false:=by decide)
  (he:starEach (e::es) X.env=(false,eval e X.env)::starEach es X.env:=by rfl) (hpl:(backTo pos (starEach es X.env)).any (·.1)=false:=by rfl):PE X (.Call (.Name x p) (e::es) [] pos) (tCB r t):=by
 intro pins s σ H Q I h
 refine ugt (zfc I hg hm hv ?_ hn hdb)
 exact uct (thn (ha pos pins s σ H _ I h) λ us s1 ⟨vs,H1,I1,r1,q1⟩=>hc pins s1 σ H1 vs us Q I1 r1 q1) he hpl
end
end L2
namespace HT
open PySem PyProof.Rows
def lexLt:List Int->List Int->Bool
 | [],[]=>false
 | [],_::_=>true
 | _::_,[]=>false
 | x::xs,y::ys=>if x=y then lexLt xs ys else decide (x<y)
theorem zm2 (x y:Int)(xs ys:List Int):lexLt (x::xs) (y::ys)=if x=y then lexLt xs ys else decide (x<y):=rfl
theorem zhp:lexLt [] []=false:=rfl
theorem zf5 (y:Int)(ys:List Int):lexLt [] (y::ys)=true:=rfl
theorem zf6 (x:Int)(xs:List Int):lexLt (x::xs) []=false:=rfl
theorem zrg (A:Around)(s:Shared)(a:Int)(t:Tok)(c:Int)(u:Tok):∃ e,SeqAt.EqAt A s (.int a t) (.int c u) e/\(e=true↔a=c) :=
 ⟨(a==c),SeqAt.EqAt.int_int a t c u,by simp⟩
theorem zqu (A:Around)(s:Shared)(a:Int)(t:Tok)(c:Int)(u:Tok)(prog:Program)(w:World)(E:Value->Shared->Prop)(Q:Value->Shared->Prop)(h:Q (.bool (decide (a<c))) s) :
  wpAny (model prog w) A (richCompare .Lt (.int a t) (.int c u)) Q E s :=
 (PyProof.Rows.lt_int h:wpAny (model prog w) A (compareOp .Lt (.int a t) (.int c u)) Q E s)
section
open PySem.SeqAt
open PySem.AutoSeq1 (wpAny_loadPart')
open PySem.MeetsSeq PySem.MeetsSeq2 PySem.MeetsSeq3
theorem zgx (l b:Addr)(items items2:Array Value)(n n2:Nat)(dd dd2:Option Addr)(sl sl2:Array (Option Value))(ns ms:List Int)(hi:IntsAre items.toList ns)(hj:IntsAre items2.toList ms) :
  Meets (Builtin.«tuple.__lt__» ⟨[.ref l,.ref b],[]⟩)
   (λ _ R s=>s.heap.get? l=some { cls:=.type "tuple",dict:=dd,data:=.seq items n,slots:=sl }/\s.heap.get? b=some { cls:=.type "tuple",dict:=dd2,data:=.seq items2 n2,slots:=sl2 } /\
    R (.ok (.ret (.bool (lexLt ns ms)))) s) :=
 .of_wp λ prog w A R s h=>by
  obtain⟨hp,g,d,tk,os⟩:=s;obtain⟨hl,hb,h⟩:=h
  have f2:=AutoSeq1.sub_tuple_tuple
  have z1:items.size=ns.length:=by rw[← hi.length];simp
  have z2:items2.size=ms.length:=by rw[← hj.length];simp
  wp_walk using ud0 hl,ud0 hb,wpAny_forIn_list _ (λ rest b s'=>b.1=none/\s'=⟨hp,g,d,tk,os⟩/\∃ (vs ws:List Value)(ns' ms':List Int),rest=vs.zip ws /\
   IntsAre vs ns'/\IntsAre ws ms'/\ns'.length+items2.size=ms'.length+items.size/\R (.ok (.ret (.bool (lexLt ns' ms')))) ⟨hp,g,d,tk,os⟩) _
  case turn =>
   rintro ⟨y,x⟩ rest b s' ⟨hb',rfl,vs,ws,ns',ms',hz,hvi,hwi,hlen,hR⟩
   cases hvi with
   | nil=>rw[List.zip_nil_left] at hz;cases hz
   | cons a t hvi' =>
    cases hwi with
    | nil=>rw[List.zip_nil_right] at hz;cases hz
    | cons c u hwi' =>
     rw[uew] at hz
     injection hz with hyx hrest
     injection hyx with hy hx
     subst hy hx
     rw[zm2] at hR
     simp only [ua5] at hlen
     obtain⟨e,he,hiff⟩:=zrg A.in1 ⟨hp,g,d,tk,os⟩ a t c u
     refine uab (he prog w _ _ ?_)
     cases e with
     | true =>
      rw[if_pos (hiff.mp rfl)] at hR
      wp_walk
      exact⟨rfl,rfl,_,_,_,_,hrest,hvi',hwi',by left,hR⟩
     | false =>
      rw[if_neg (λ q=>absurd (hiff.mpr q) uas)] at hR
      have hri:=zqu A.in1 ⟨hp,g,d,tk,os⟩ a t c u prog w
      wp_walk using hri
      exact⟨_,rfl,by simpa using hR⟩
  case fin =>
   rintro ⟨b1,b2⟩ s' ⟨hb',rfl,vs,ws,ns',ms',hz,hvi,hwi,hlen,hR⟩
   simp only at hb'
   subst hb'
   have hv:lexLt ns' ms'=decide (items.size<items2.size):=by
    cases hvi with
    | nil =>
     cases hwi with
     | nil =>
      simp only [ufm] at hlen
      rw[zhp]
      exact (decide_eq_false (by left)).symm
     | cons c u hw =>
      simp only [ufm,ua5] at hlen
      rw[zf5]
      exact (decide_eq_true (by left)).symm
    | cons a t hv =>
     cases hwi with
     | nil =>
      simp only [ufm,ua5] at hlen
      rw[zf6]
      exact (decide_eq_false (by left)).symm
     | cons c u hw =>
      rw[uew] at hz
      cases hz
   rw[hv] at hR
   wp_walk
   exact⟨_,rfl,by simpa [Builtin.Tuple.tupleCompareSizes] using hR⟩
  case h =>
   exact⟨rfl,rfl,items.toList,items2.toList,ns,ms,rfl,hi,hj,by left,h⟩
end
section
variable {prog:Program}{w:World}{A:Around}{E:Value->Shared->Prop}{s:Shared}
theorem zm1 {l b:Addr}{items items2:Array Value}{ns ms:List Int}{Q:Value->Shared->Prop}(hl:IsTup s.heap l items)(hb:IsTup s.heap b items2)(hi:IntsAre items.toList ns)(hj:IntsAre items2.toList ms)
  (hu:A.units<cLine) (h:Q (.bool (lexLt ns ms)) s):wpAny (model prog w) A (compareOp .Lt (.ref l) (.ref b)) Q E s:=by
 obtain⟨⟨cls,dd,data,sl⟩,ho,hc,n,hd⟩:=id hl
 obtain⟨⟨cls2,dd2,data2,sl2⟩,ho2,hc2,n2,hd2⟩:=id hb
 simp only at hc hd hc2 hd2
 subst hc hd hc2 hd2
 exact richCompare_meets_room (op:=.Lt) ⟨_,ho,rfl⟩ ⟨_,ho2,rfl⟩ PySem.F.slot_tuple_lt PySem.F.entry_tuple_lt (PySem.F.args_tuple_lt_2 _ _) (zgx l b items items2 n n2 dd dd2 sl sl2 ns ms hi hj)
  ⟨ho,ho2,show Value.bool (lexLt ns ms)≠Value.notImplemented/\Q (.bool (lexLt ns ms)) s from ⟨(λ x=>nomatch x),h⟩⟩ hu
def sIx (n d:Nat):Option Int->Nat
 | none=>d
 | some v=>if v<0 then (v+(n:Int)).toNat else min v.toNat n
theorem ztz (n d:Nat)(hd:d<=n)(o:Option Int):sIx n d o<=n:=by
 cases o with
 | none=>exact hd
 | some v =>
  show (if v<0 then (v+(n:Int)).toNat else min v.toNat n)<=n
  by_cases hv:v<0
  ·rw[if_pos hv];left
  ·rw[if_neg hv];exact Nat.min_le_right _ _
theorem zpi (v:Int)(n d:Nat):(if v<0 then max (v+(n:Int)) 0 else min v (n:Int))=((sIx n d (some v):Nat):Int):=by
 show (if v<0 then max (v+(n:Int)) 0 else min v (n:Int))=(((if v<0 then (v+(n:Int)).toNat else min v.toNat n):Nat):Int)
 by_cases hv:v<0
 ·simp only [if_pos hv];left
 ·simp only [if_neg hv];left
theorem znf (lo hi:Option Int)(n:Nat):Builtin.Slice.sliceAdjust lo hi 1 (n:Int)=(((sIx n 0 lo:Nat):Int),((sIx n n hi:Nat):Int)):=by
 have h1:¬ ((1:Int)<0):=by left
 unfold Builtin.Slice.sliceAdjust
 simp only [h1,if_false]
 refine Prod.ext ?_ ?_
 ·cases lo with
  | none=>rfl
  | some v=>exact zpi v n 0
 ·cases hi with
  | none=>rfl
  | some v=>exact zpi v n n
theorem zmx (i j:Nat):Builtin.Slice.slicePlaces (i:Int) (j:Int) 1=j-i:=by
 unfold Builtin.Slice.slicePlaces
 have h1:(1:Int)>0:=by left
 simp only [h1,if_true,Int.ediv_one]
 split <;> left
theorem zgj {v:Value}{o:Option Int}{Q:Option Int->Shared->Prop}(p:IsPart v o)(h:Q o s):wpAny (model prog w) A (Builtin.Slice.slicePartIndex v) Q E s:=by
 cases p with
 | none=>exact slicePart_none h
 | int i t=>exact slicePart_int h
theorem zcs {sl:Addr}{vl vu:Value}{lo hi:Option Int}{n:Nat}{Q:Int × Int × Nat->Shared->Prop}(hs:s.heap.IsSliceOf sl vl vu .none)(pl:IsPart vl lo)(pu:IsPart vu hi)
  (h:Q (((sIx n 0 lo:Nat):Int),1,sIx n n hi-sIx n 0 lo) s):wpAny (model prog w) A (Builtin.Slice.sliceApplied (.ref sl) (pure (n:Int))) Q E s:=by
 obtain⟨os,hos,hcs,hds⟩:=id hs
 unfold Builtin.Slice.sliceApplied Builtin.Slice.sliceFields
 refine uab (uab (ub6 hos hds (x:=vl) rfl (uab (ub6 hos hds (x:=vu) rfl (uab (ub6 hos hds (x:=.none) rfl (uag ?_)))))))
 refine uab (slicePart_none ?_)
 show wpAny _ _ (if ((1:Int)==0)=true then _ else _) _ _ s
 rw[if_neg (by decide)]
 refine uab (zgj pl (uab (zgj pu (uab (uag ?_)))))
 show wpAny _ _ (match Builtin.Slice.sliceAdjust lo hi 1 (n:Int) with | (lo,hi)=>pure (lo,(1:Int),Builtin.Slice.slicePlaces lo hi 1)) _ _ s
 rw[znf lo hi n]
 show wpAny _ _ (pure (((sIx n 0 lo:Nat):Int),(1:Int),Builtin.Slice.slicePlaces ((sIx n 0 lo:Nat):Int) ((sIx n n hi:Nat):Int) 1)) _ _ s
 rw[zmx]
 exact uag h
theorem zqw (xs:Array Value)(i k:Nat):((uac k).filterMap λ (m:Nat)=>xs[((i:Int)+(m:Int)*1).toNat]?).toArray=((xs.toList.drop i).take k).toArray:=by
 have e:(λ (m:Nat)=>xs[((i:Int)+(m:Int)*1).toNat]?)=λ m=>xs[i+m]?:=by
  funext m
  have:((i:Int)+(m:Int)*1).toNat=i+m:=by left
  rw[this]
 rw[e]
 have:=pick_run xs i k
 rw[uf2] at this
 have e2:((λ x=>xs[x]?) ∘ λ x=>i+x)=λ m=>xs[i+m]?:=rfl
 rw[e2] at this
 rw[this]
theorem zei {t sl:Addr}{items:Array Value}{vl vu:Value}{lo hi:Option Int}{Q:Value->Shared->Prop}(ht:IsTup s.heap t items)(hs:s.heap.IsSliceOf sl vl vu .none)(pl:IsPart vl lo)(pu:IsPart vu hi)
  (hw:¬ (sIx items.size 0 lo=0/\sIx items.size items.size hi=items.size))
  (h:Q (.ref s.heap.objs.size) { s with heap:=s.heap.push { cls:=.type "tuple",data:=.seq ((items.toList.drop (sIx items.size 0 lo)).take (sIx items.size items.size hi-sIx items.size 0 lo)).toArray } })
  (hsz:items.size<=sizeLine):wpAny (model prog w) A (getItem (.ref t) (.ref sl)) Q E s:=by
 have htake:sizeOk (.seq ((items.toList.drop (sIx items.size 0 lo)).take (sIx items.size items.size hi-sIx items.size 0 lo)).toArray):=by
  show ((items.toList.drop (sIx items.size 0 lo)).take (sIx items.size items.size hi-sIx items.size 0 lo)).toArray.size<=sizeLine
  rw[uao,ud5,ufg,ubl]
  left
 have hj:sIx items.size items.size hi<=items.size:=ztz _ _ (uai _) hi
 obtain⟨os,hos,hcs,hds⟩:=id hs
 have hTs:s.TypeIs (.ref sl) "slice":=⟨os,hos,hcs⟩
 unfold getItem
 try with_reducible refine ubz ?_
 first | refine uab (uag ?_) | skip
 refine uab (wpAny_sequenceKey ht.typeIs (by decide) ?_)
 refine uab (ubp (name:=Str.ofString "__getitem__") ht.typeIs ub7
  (ubs ub7 ht.typeIs entry_tuple_getitem ?_ (args_tuple_getitem _ _)))
 show wpAny _ _ (Builtin.Tuple.tupleItemsOf (.ref t) >>= _) _ _ s
 refine uab (tupleItemsOf_ ht ?_)
 refine uab (ufa hTs ?_)
 rw[if_pos (by decide)]
 refine uab (zcs hs pl pu ?_)
 have hno:¬ ((((sIx items.size 0 lo:Nat):Int)==0&&(1:Int)==1&&(sIx items.size items.size hi-sIx items.size 0 lo)==items.size)=true):=by
  intro q
  rw[ubd,ubd] at q
  have q1:((sIx items.size 0 lo:Nat):Int)=0:=eq_of_beq q.1.1
  have q2:sIx items.size items.size hi-sIx items.size 0 lo=items.size:=eq_of_beq q.2
  exact hw ⟨by left,by left⟩
 show wpAny _ _ (if (((sIx items.size 0 lo:Nat):Int)==0&&(1:Int)==1&&(sIx items.size items.size hi-sIx items.size 0 lo)==items.size)=true then _ else _) _ _ s
 rw[if_neg hno,zqw]
 first
  | exact uab (m:=Builtin.Tuple.tupleExact _) (uby (uag ⟨_,rfl,uag h⟩) htake)
  | exact uab (m:=Builtin.Tuple.tupleExact _) (uby (uab (uag (uag ⟨_,rfl,uag h⟩))) htake)
  | exact uab (uab (m:=Builtin.Tuple.tupleExact _) (uby (uag (uag ⟨_,rfl,uag h⟩)) htake))
  | exact uab (uab (m:=Builtin.Tuple.tupleExact _) (uby (uag ⟨_,rfl,uag h⟩) htake))
end
end HT
namespace L2
open PySem PySem.Spec PyProof.Rows
abbrev TO:=St->Hp->(Option Int->Hp->Prop)->Prop
def PO (X:Cx)(e:Option Expr)(t:TO):Prop :=
 ∀ (pins:List (Addr × Obj))(s:Shared)(σ:St)(H:Hp)(Q:Option Int->Hp->Prop),Inv X pins σ H s->t σ H Q ->
  wpAny (model X.prog X.w) X.A (evalPart e X.env) (λ u s'=>∃ o H',Inv X pins σ H' s'/\IsPart u o/\Q o H') X.xe s
def tNoPart:TO:=λ _ H Q=>Q none H
def tPart (t:TE):TO:=λ σ H Q=>t σ H λ x H1=>EInt x λ i=>Q (some i) H1
theorem zbw {ns:List Int}:∀ {us:List Value},Vals (ns.map V.int) us->IntsAre us ns:=by
 induction ns with
 | nil=>intro us r;rw[List.map_nil] at r;cases r;exact .nil
 | cons n ns ih =>
  intro us r
  rw[udw] at r
  cases r with
  | cons r1 r2 =>
   obtain⟨t,e⟩:=r1
   subst e
   exact .cons n t (ih r2)
section
variable {X:Cx}{e:Expr}{te:TE}{lo hi:Option Expr}{tl th:TO}{pos p2:Pos}
theorem zkm:PO X none tNoPart:=by
 intro pins s σ H Q I h
 rw[evalPart_none]
 exact uag ⟨none,H,I,.none,h⟩
theorem zkl (h:PE X e te):PO X (some e) (tPart te):=by
 intro pins s σ H Q I hw
 rw[evalPart_some]
 refine thn (h pins s σ H _ I hw) λ u s1 ⟨x,H1,I1,r1,q1⟩=>?_
 obtain⟨i,rfl,q⟩:=q1
 obtain⟨t,rfl⟩:=r1
 exact⟨some i,H1,I1,.int i t,q⟩
def SlR (X:Cx)(r:V->Option Int->Option Int->Hp->VK->Prop):Prop :=
 ∀ (pins:List (Addr × Obj))(s:Shared)(σ:St)(H:Hp)(x:V)(v vl vu:Value)(lo hi:Option Int)(sl:Addr)(Q:VK),Inv X pins σ H s->RelV x v->s.heap.IsSliceOf sl vl vu .none->IsPart vl lo->IsPart vu hi->r x lo hi H Q ->
  ∃ T id,typeLookup (.type T) "__getitem__"=pure (some (.builtin id))/\s.TypeIs v T/\wpAny (model X.prog X.w) X.A (getItem v (.ref sl)) (EP X pins σ Q) X.xe s
def tSl (r:V->Option Int->Option Int->Hp->VK->Prop)(te:TE)(tl th:TO):TE:=λ σ H Q=>te σ H λ x H1=>tl σ H1 λ l H2=>th σ H2 λ u H3=>r x l u H3 Q
theorem zg6 {r:V->Option Int->Option Int->Hp->VK->Prop}(hr:SlR X r)(he:PE X e te)(hl:PO X lo tl)(hu:PO X hi th):PE X (.Subscript e (.Slice lo hi none p2) pos) (tSl r te tl th):=by
 intro pins s σ H Q I h
 refine Subscript_ (thn (he pins s σ H _ I h) λ v s1 ⟨x,H1,I1,r1,q1⟩=>?_)
 refine wpAny_Slice (thn (hl pins s1 σ H1 _ I1 q1) λ vl s2 ⟨l,H2,I2,pl,q2⟩=>thn (hu pins s2 σ H2 _ I2 q2) λ vu s3 ⟨u,H3,I3,pu,q3⟩=>?_)
 rw[evalPart_none]
 refine uag ?_
 have I4:Inv X pins σ H3 { s3 with heap:=s3.heap.push { cls:=.type "slice",data:=.fields #[vl,vu,.none] } }:=I3.kept (t':=s3.toks) λ b ob q=>Heap.get?_push_of_some _ q
 obtain⟨T,id,hT,ht,hg⟩:=hr pins { s3 with heap:=s3.heap.push { cls:=.type "slice",data:=.fields #[vl,vu,.none] } } σ H3 x v vl vu l u s3.heap.objs.size Q I4 r1 (Heap.IsSliceOf.new ..) pl pu q3
 show wpAny (model X.prog X.w) X.A (subscriptTail e (.Slice lo hi none p2) v (.ref s3.heap.objs.size)) (EP X pins σ Q) X.xe { s3 with heap:=s3.heap.push { cls:=.type "slice",data:=.fields #[vl,vu,.none] } }
 exact tail_any (ops:=[.ref s3.heap.objs.size,v]) ht hT hg (by with_unfolding_all rfl)
def cutV (xs:List V)(lo hi:Option Int):List V:=(xs.drop (HT.sIx xs.length 0 lo)).take (HT.sIx xs.length xs.length hi-HT.sIx xs.length 0 lo)
theorem zk4 (xs:List V)(lo hi:Option Int):(cutV xs lo hi).length<=xs.length:=by
 unfold cutV
 rw[ud5,ufg]
 left
inductive rSlT_i (K:uad)(x:V)(lo:Option Int)(hi:Option Int)(H:Hp)(Q:VK):Prop
 | mk:∀ a xs,(x=.ref a)->(SqT K H a xs)->(¬ (HT.sIx xs.length 0 lo=0/\HT.sIx xs.length xs.length hi=xs.length))->(∀ p,H p=none->Q (.ref p) (upd H p (.tup (cutV xs lo hi))))->rSlT_i K x lo hi H Q
def rSlT (K:uad):V->Option Int->Option Int->Hp->VK->Prop:=λ x lo hi H Q=>rSlT_i K x lo hi H Q
theorem ztx:SlR X (rSlT X.K):=by
 intro pins s σ H x v vl vu lo hi sl Q I rx hs pl pu h
 obtain⟨a,xs,rfl,hx,hw,q⟩:=h
 cases rx
 obtain⟨its,r,ht,hz⟩:=I.tuple hx
 have hlen:its.toArray.size=xs.length:=by rw[uao];exact r.length.symm
 refine⟨"tuple",_,ub7.lookup,ht.typeIs,?_⟩
 refine HT.zei ht hs pl pu (by rw[hlen];exact hw) ?_ (by rw[hlen];exact hz)
 rw[hlen]
 refine⟨.ref s.heap.objs.size,_,I.laid (t':=s.toks) (o:=.tup (cutV xs lo hi)) (λ b ob q=>Heap.get?_push_of_some _ q) (uai _) ?_,rfl,q _ (I.hok.fresh (uai _))⟩
 exact⟨ubr (zk4 xs lo hi) hz,_,(r.drop (HT.sIx xs.length 0 lo)).take (HT.sIx xs.length xs.length hi-HT.sIx xs.length 0 lo),TupN.new _ _⟩
inductive rLtT_i (K:uad)(x:V)(y:V)(H:Hp)(Q:VK):Prop
 | mk:∀ a b ns ms,(x=.ref a)->(y=.ref b)->(SqT K H a (ns.map V.int))->(SqT K H b (ms.map V.int))->(Q (.bl (HT.lexLt ns ms)) H)->rLtT_i K x y H Q
def rLtT (K:uad):R2:=λ x y H Q=>rLtT_i K x y H Q
theorem zt7 (hu:X.A.units<cLine):OpR X (compareOp .Lt) (rLtT X.K):=by
 intro pins s σ H x y v u Q I rx ry h
 obtain⟨a,b,ns,ms,rfl,rfl,ha,hb,q⟩:=h
 cases rx
 cases ry
 obtain⟨its,r1,p1,_⟩:=I.tuple ha
 obtain⟨its2,r2,p2,_⟩:=I.tuple hb
 have i1:IntsAre its.toArray.toList ns:=zbw r1
 have i2:IntsAre its2.toArray.toList ms:=zbw r2
 exact HT.zm1 p1 p2 i1 i2 hu ⟨.bl (HT.lexLt ns ms),H,I,rfl,q⟩
end
end L2
namespace L2
open PySem PySem.Spec PyProof.Rows
def ixN (n:Nat)(i:Int):Option Nat:=if 0<=i then (if i<n then some i.toNat else none) else if -(n:Int)<=i then some (i+n).toNat else none
def atI {α:Type}(xs:List α)(i:Int):Option α:=(ixN xs.length i).bind λ j=>xs[j]?
theorem zhu {n:Nat}{i:Int}{j:Nat}(h:ixN n i=some j):seqIndex? i n=some j/\j<n/\-(n:Int)<=i/\i<n:=by
 unfold ixN at h
 by_cases h0:0<=i
 ·rw[if_pos h0] at h
  by_cases h1:i<n
  ·rw[if_pos h1] at h
   have e:i.toNat=j:=ua3 h
   exact⟨by rw[seqIndex_of h0 h1,e],by left,by left,h1⟩
  ·rw[if_neg h1] at h;cases h
 ·rw[if_neg h0] at h
  by_cases h1:-(n:Int)<=i
  ·rw[if_pos h1] at h
   have e:(i+n).toNat=j:=ua3 h
   exact⟨by rw[seqIndex_neg (by left) h1,e],by left,h1,by left⟩
  ·rw[if_neg h1] at h;cases h
theorem zpt {α:Type}{xs:List α}{i:Int}{v:α}(h:atI xs i=some v):∃ j,seqIndex? i xs.length=some j/\xs[j]?=some v/\j<xs.length/\-(xs.length:Int)<=i/\i<xs.length:=by
 unfold atI at h
 cases e:ixN xs.length i with
 | none=>rw[e] at h;cases h
 | some j =>
  rw[e] at h
  obtain⟨h1,h2,h3,h4⟩:=zhu e
  exact⟨j,h1,h,h2,h3,h4⟩
theorem zpr {α:Type}{xs:List α}{j:Nat}{v:α}(h:xs[j]?=some v):atI xs (j:Int)=some v:=by
 have hj:j<xs.length:=(ual.mp h).1
 have e:ixN xs.length (j:Int)=some j:=by
  unfold ixN
  rw[if_pos (by left),if_pos (by left)];simp
 unfold atI;rw[e];exact h
def PlainIx (b:Expr):Prop:=∀ o i,subscripted b false o i=operate [o,i] (getItem o i)
def IxR (X:Cx)(r:R2):Prop :=
 ∀ (value slice:Expr)(pins:List (Addr × Obj))(s:Shared)(σ:St)(H:Hp)(x y:V)(v u:Value)(Q:VK),Inv X pins σ H s->RelV x v->RelV y u->r x y H Q ->
  subscripted slice false v u=operate [v,u] (getItem v u)->wpAny (model X.prog X.w) X.A (subscriptTail value slice v u) (EP X pins σ Q) X.xe s
def MtR (X:Cx)(id:String)(r:V->List V->Hp->VK->Prop):Prop :=
 ∀ (pins:List (Addr × Obj))(s:Shared)(σ:St)(H:Hp)(x:V)(xs:List V)(v:Value)(us:List Value)(Q:VK),Inv X pins σ H s->RelV x v->Vals xs us->r x xs H Q ->
  wpAny (model X.prog X.w) X.A (call (.builtin id) (v::us)) (EP X pins σ Q) X.xe s
section
variable {X:Cx}{a b:Expr}{ta tb:TE}{pos:Pos}
theorem zaq {r:R2}(hr:IxR X r)(ha:PE X a ta)(hb:PE X b tb)(hs:PlainIx b):PE X (.Subscript a b pos) (tOp r ta tb):=by
 intro pins s σ H Q I h
 exact Subscript_ (binT ha hb I h λ v u s2 x y H2 I2 rx ry q=>hr a b pins s2 σ H2 x y v u Q I2 rx ry q (hs _ _))
inductive rIxL_i (K:uad)(x:V)(y:V)(H:Hp)(Q:VK):Prop
 | mk:∀ p xs i v,(x=.ref p)->(y=.int i)->(SqL K H p xs)->(atI xs i=some v)->(Q v H)->rIxL_i K x y H Q
def rIxL (K:uad):R2:=λ x y H Q=>rIxL_i K x y H Q
inductive rIxT_i (K:uad)(x:V)(y:V)(H:Hp)(Q:VK):Prop
 | mk:∀ p xs i v,(x=.ref p)->(y=.int i)->(SqT K H p xs)->(atI xs i=some v)->(Q v H)->rIxT_i K x y H Q
def rIxT (K:uad):R2:=λ x y H Q=>rIxT_i K x y H Q
theorem zau:IxR X (rIxL X.K):=by
 intro value slice pins s σ H x y v u Q I rx ry h hs
 obtain⟨p,xs,i,z,rfl,rfl,hq,he,q⟩:=h
 cases rx
 obtain⟨t,rfl⟩:=ry
 obtain⟨its,r,pl,hz⟩:=I.list hq
 obtain⟨j,h1,h2,h3,h4,h5⟩:=zpt he
 obtain⟨w,ew,rw'⟩:=r.get h2
 have hl:=r.length
 have hn:=line63
 have fin:EP X pins σ Q w s:=⟨z,H,I,rw',q⟩
 by_cases h0:0<=i
 ·have hj:i.toNat=j:=by
   rw[seqIndex_of h0 h5] at h1
   exact ua3 h1
  exact item_listR pl.isList h0 (by left) (by rw[hj];simpa using ew) fin hs
 ·have hj:(i+(its.toArray.size:Int)).toNat=j:=by
   rw[seqIndex_neg (by left) h4] at h1
   rw[uao,← hl]
   exact ua3 h1
  exact subscriptTail_builtinR (x:=w) pl.isList.typeIs slot_list_getitem.lookup
   (wpAny_getItem_list_neg (Q:=λ r s'=>r=w/\EP X pins σ Q r s') pl.isList (by left) (by rw[uao] <;> left) (by left) (by rw[hj];simpa using ew) ⟨rfl,fin⟩) hs
theorem zaz:IxR X (rIxT X.K):=by
 intro value slice pins s σ H x y v u Q I rx ry h hs
 obtain⟨p,xs,i,z,rfl,rfl,hq,he,q⟩:=h
 cases rx
 obtain⟨t,rfl⟩:=ry
 obtain⟨its,r,pl,hz⟩:=I.tuple hq
 obtain⟨j,h1,h2,h3,h4,h5⟩:=zpt he
 obtain⟨w,ew,rw'⟩:=r.get h2
 have hl:=r.length
 have hn:=line63
 have fin:EP X pins σ Q w s:=⟨z,H,I,rw',q⟩
 exact subscriptTail_builtinR (x:=w) pl.typeIs slot_tuple_getitem.lookup
  (getItem_tuple (j:=j) (Q:=λ r s'=>r=w/\EP X pins σ Q r s') pl (by left) (by left) (by rw[uao,← hl];exact h1) (by simpa using ew) ⟨rfl,fin⟩) hs
theorem zm0 (its:List Value)(n j:Nat)(u:Value):Obj.mapSeq (·.setIfInBounds j u) { cls:=.type "list",data:=.seq its.toArray n }={ cls:=.type "list",data:=.seq (its.set j u).toArray n }:=by
 simp [Obj.mapSeq]
theorem Inv.lst {pins:List (Addr × Obj)}{σ:St}{H:Hp}{s:Shared}{p:Addr}{xs:List V}(I:Inv X pins σ H s)(h:H p=some (.lst xs)) :
  ∃ (its:List Value)(n:Nat),Vals xs its/\s.heap.get? p=some { cls:=.type "list",data:=.seq its.toArray n }/\xs.length<=sizeLine:=by
 obtain⟨z,its,n,r,e⟩:=I.hok p _ h
 exact⟨its,n,r,e,z⟩
theorem Inv.lstUpd {pins:List (Addr × Obj)}{σ:St}{H:Hp}{s:Shared}{p:Addr}{xs ys:List V}{its its':List Value}{n n':Nat}{f:Obj->Obj}(I:Inv X pins σ H s)(h:H p=some (.lst xs))
  (ho:s.heap.get? p=some { cls:=.type "list",data:=.seq its.toArray n }) (hf:f { cls:=.type "list",data:=.seq its.toArray n }={ cls:=.type "list",data:=.seq its'.toArray n' }) (r:Vals ys its') (hz:ys.length<=sizeLine) (t:Nat) :
  Inv X pins σ (upd H p (.lst ys)) { s with heap:=s.heap.update p f,toks:=t }:=by
 have e:(s.heap.update p f).get? p=some { cls:=.type "list",data:=.seq its'.toArray n' }:=by
  rw[Heap.get?_update_self f ho (by rw[hf] <;> rfl),hf]
 refine I.write (x:=p) (e:=p) (by rw[h];trivial) (.inl rfl) (λ b u hb q=>(Heap.get?_update_other _ _ (Ne.symm hb)).trans q) ⟨_,e⟩ ?_
 exact⟨hz,its',n',r,e⟩
inductive rSetL_i  (o:V) (i:V) (v:V) (H:Hp) (Q:Hp->Prop):Prop
 | mk:∀ p xs k j,(o=.ref p)->(i=.int k)->(H p=some (.lst xs))->(ixN xs.length k=some j)->(Q (upd H p (.lst (xs.set j v))))->rSetL_i o i v H Q
def rSetL :V->V->V->Hp->(Hp->Prop)->Prop:=λ o i v H Q=>rSetL_i o i v H Q
theorem zcf:PSet X rSetL:=by
 intro pins s σ H o i v ov iv u Q I ro ri rv h
 obtain⟨p,xs,k,j,rfl,rfl,hp,hj,q⟩:=h
 cases ro
 obtain⟨t,rfl⟩:=ri
 obtain⟨its,n,r,ho,hz⟩:=I.lst hp
 obtain⟨h1,h2,h3,h4⟩:=zhu hj
 have hl:=r.length
 have hn:=line63
 have I':Inv X pins σ (upd H p (.lst (xs.set j v))) { s with heap:=s.heap.update p (Obj.mapSeq (·.setIfInBounds j u)) } :=
  I.lstUpd hp ho (zm0 its n j u) (r.set rv j) (by rw[uce];exact hz) s.toks
 by_cases h0:0<=k
 ·have hk:k.toNat=j:=by
   rw[seqIndex_of h0 h4] at h1
   exact ua3 h1
  exact PySem.W.ki_setAt ho h0 (by left) (by rw[uao,← hl];exact h4) (by rw[hk];exact⟨_,I',q⟩)
 ·have hk:(k+(its.toArray.size:Int)).toNat=j:=by
   rw[seqIndex_neg (by left) h3] at h1
   rw[uao,← hl]
   exact ua3 h1
  exact PySem.W.ki_setBack ho (by left) (by rw[uao,← hl];exact h3) (by left) (by rw[hk];exact⟨_,I',q⟩)
def flatV:V->Bool
 | .non=>true
 | .bl _=>true
 | .int _=>true
 | .str _=>true
 | _=>false
def eqV:V->V->Bool
 | .non,.non=>true
 | .bl a,.bl b=>a==b
 | .bl a,.int b=>(if a then 1 else 0)==b
 | .int a,.bl b=>a==(if b then 1 else 0)
 | .int a,.int b=>a==b
 | .str a,.str b=>a==b
 | _,_=>false
theorem zuk {A:Around}{s:Shared}{y x:V}{u v:Value}(ry:RelV y u)(rx:RelV x v)(fy:flatV y=true)(fx:flatV x=true):SeqAt.EqAt A s u v (eqV y x):=by
 cases y with
 | non =>
  cases ry
  cases x with
  | non=>cases rx;exact SeqAt.EqAt.same _
  | bl b=>cases rx;exact SeqAt.EqAt.none_bool b
  | int b=>obtain⟨t,rfl⟩:=rx;exact SeqAt.EqAt.none_int b t
  | str b=>obtain⟨t,rfl⟩:=rx;exact SeqAt.EqAt.none_str b t
  | _=>exact absurd (show false=true from fx) uas
 | bl a =>
  cases ry
  cases x with
  | non=>cases rx;exact SeqAt.EqAt.bool_none a
  | bl b=>cases rx;exact SeqAt.EqAt.bool_bool a b
  | int b=>obtain⟨t,rfl⟩:=rx;exact SeqAt.EqAt.bool_int a b t
  | str b=>obtain⟨t,rfl⟩:=rx;exact SeqAt.EqAt.bool_str a b t
  | _=>exact absurd (show false=true from fx) uas
 | int a =>
  obtain⟨t',rfl⟩:=ry
  cases x with
  | non=>cases rx;exact SeqAt.EqAt.int_none a t'
  | bl b=>cases rx;exact SeqAt.EqAt.int_bool a t' b
  | int b=>obtain⟨t,rfl⟩:=rx;exact SeqAt.EqAt.int_int a t' b t
  | str b=>obtain⟨t,rfl⟩:=rx;exact SeqAt.EqAt.int_str a t' b t
  | _=>exact absurd (show false=true from fx) uas
 | str a =>
  obtain⟨t',rfl⟩:=ry
  cases x with
  | non=>cases rx;exact SeqAt.EqAt.str_none a t'
  | bl b=>cases rx;exact SeqAt.EqAt.str_bool a t' b
  | int b=>obtain⟨t,rfl⟩:=rx;exact SeqAt.EqAt.str_int a t' b t
  | str b=>obtain⟨t,rfl⟩:=rx;exact SeqAt.EqAt.str_str a t' b t
  | _=>exact absurd (show false=true from fx) uas
 | _=>exact absurd (show false=true from fy) uas
def eqU (x:V)(u:Value):Bool:=match u with
 | .none=>eqV .non x
 | .bool b=>eqV (.bl b) x
 | .int i _=>eqV (.int i) x
 | .str z _=>eqV (.str z) x
 | _=>false
theorem zsb {x y:V}{u:Value}(r:RelV y u)(f:flatV y=true):eqU x u=eqV y x:=by
 cases y with
 | non=>cases r;rfl
 | bl b=>cases r;rfl
 | int i=>obtain⟨t,rfl⟩:=r;rfl
 | str z=>obtain⟨t,rfl⟩:=r;rfl
 | _=>exact absurd (show false=true from f) uas
theorem zfv {x:V}:∀ {xs:List V}{us:List Value},Vals xs us->xs.all flatV=true->us.any (eqU x)=xs.any λ y=>eqV y x
 | _,_,.nil,_=>rfl
 | y::xs,u::us,.cons r t,f=>by
  rw[List.all_cons,ubd] at f
  rw[List.any_cons,List.any_cons,zsb r f.1,zfv t f.2]
theorem zdz {A:Around}{s:Shared}{x:V}{v:Value}(rx:RelV x v)(fx:flatV x=true):∀ {xs:List V}{us:List Value},Vals xs us->xs.all flatV=true->∀ u∈us,SeqAt.EqAt A s u v (eqU x u)
 | _,_,.nil,_=>λ u hu=>by cases hu
 | y::xs,u::us,.cons r t,f=>λ u' hu=>by
  rw[List.all_cons,ubd] at f
  rcases uar.mp hu with rfl | hu
  ·rw[zsb r f.1];exact zuk r rx f.1 fx
  ·exact zdz rx fx t f.2 u' hu
def inV (x:V)(xs:List V):Bool:=xs.any λ y=>eqV y x
inductive rIn_i (K:uad)(neg:Bool)(x:V)(y:V)(H:Hp)(Q:VK):Prop
 | mk:∀ p xs,(y=.ref p)->((SqL K H p xs\/SqT K H p xs))->(flatV x=true)->(xs.all flatV=true)->(Q (.bl (if neg then !inV x xs else inV x xs)) H)->rIn_i K neg x y H Q
def rIn (K:uad)(neg:Bool):R2:=λ x y H Q=>rIn_i K neg x y H Q
theorem zog:OpR X (compareOp .In) (rIn X.K false):=by
 intro pins s σ H x y v u Q I rx ry h
 obtain⟨p,xs,rfl,hq,fx,fs,q⟩:=h
 cases ry
 rcases hq with hq | hq
 ·obtain⟨its,r,pl,hz⟩:=I.list hq
  refine SeqAt.in_listAt (eqU x) pl.isList (λ w hw=>zdz rx fx r fs w (by simpa using hw)) ⟨.bl _,H,I,rfl,?_⟩
  rw[show its.toArray.any (eqU x)=its.any (eqU x) by simp,zfv r fs]
  exact q
 ·obtain⟨its,r,pl,hz⟩:=I.tuple hq
  refine SeqAt.in_tupleAt (eqU x) pl (λ w hw=>zdz rx fx r fs w (by simpa using hw)) ⟨.bl _,H,I,rfl,?_⟩
  rw[show its.toArray.any (eqU x)=its.any (eqU x) by simp,zfv r fs]
  exact q
theorem zcx:OpR X (compareOp .NotIn) (rIn X.K true):=by
 intro pins s σ H x y v u Q I rx ry h
 obtain⟨p,xs,rfl,hq,fx,fs,q⟩:=h
 cases ry
 rcases hq with hq | hq
 ·obtain⟨its,r,pl,hz⟩:=I.list hq
  refine SeqAt.notIn_listAt (eqU x) pl.isList (λ w hw=>zdz rx fx r fs w (by simpa using hw)) ⟨.bl _,H,I,rfl,?_⟩
  rw[show its.toArray.any (eqU x)=its.any (eqU x) by simp,zfv r fs]
  exact q
 ·obtain⟨its,r,pl,hz⟩:=I.tuple hq
  refine SeqAt.notIn_tupleAt (eqU x) pl (λ w hw=>zdz rx fx r fs w (by simpa using hw)) ⟨.bl _,H,I,rfl,?_⟩
  rw[show its.toArray.any (eqU x)=its.any (eqU x) by simp,zfv r fs]
  exact q
inductive call_len_seq_i (K:uad)(xs:List V)(H:Hp)(Q:VK):Prop
 | mk:∀ p ys,(xs=[.ref p])->((SqL K H p ys\/SqT K H p ys))->(Q (.int ys.length) H)->call_len_seq_i K xs H Q
theorem zao:CallR X (.builtin "len") (call_len_seq_i X.K):=by
 intro pins s σ H xs us Q I r h
 obtain⟨p,ys,rfl,hq,q⟩:=h
 obtain⟨u,rfl,rx⟩:=vals1 r
 cases rx
 have hn:=line63
 rcases hq with hq | hq
 ·obtain⟨its,r',pl,hz⟩:=I.list hq
  have hlen:=r'.length
  exact Calls.call_len_list pl.isList (by simp only [uao] <;> left) ⟨.int ys.length,H,I.tok _,⟨s.toks+1,by rw[uao,hlen]⟩,q⟩
 ·obtain⟨its,r',pl,hz⟩:=I.tuple hq
  have hlen:=r'.length
  exact len_tuple pl (by simp only [uao] <;> left) ⟨.int ys.length,H,I.tok _,⟨s.toks+1,by rw[uao,hlen]⟩,q⟩
inductive call_list_of_i (K:uad)(xs:List V)(H:Hp)(Q:VK):Prop
 | mk:∀ p ys,(xs=[.ref p])->((SqL K H p ys\/SqT K H p ys))->(∀ l,H l=none->Q (.ref l) (upd H l (.lst ys)))->call_list_of_i K xs H Q
theorem zjq:CallR X (.type "list") (call_list_of_i X.K):=by
 intro pins s σ H xs us Q I r h
 obtain⟨p,ys,rfl,hq,q⟩:=h
 obtain⟨u,rfl,rx⟩:=vals1 r
 cases rx
 have fin : ∀ (its : List Value), Vals ys its → ys.length <= sizeLine → ∀ (h' : Heap)(c' : Nat), (∀ b o', s.heap.get? b = some o' → h'.get? b = some o') →
     h'.get? s.heap.objs.size=some { cls:=.type "list",dict:=none,data:=.seq its.toArray c',slots:=#[] }->EP X pins σ Q (.ref s.heap.objs.size) { s with heap:=h' }:=λ its r' hz h' c' kp e =>
  ⟨.ref s.heap.objs.size,_,I.laid (t':=s.toks) kp (uai _) (show ObjOk X.prog X.w _ h' _ (.lst ys) from ⟨hz,its,c',r',e⟩),rfl,q _ (I.hok.fresh (uai _))⟩
 rcases hq with hq | hq
 ·obtain⟨its,r',pl,hz⟩:=I.list hq
  have hlen:=r'.length
  obtain⟨o,ho,hc,n,hd⟩:=pl.isList
  exact call_list_seq p (.inl rfl) ho hc hd (λ h' c' kp e=>fin its r' hz h' c' kp e) (by simp only [uao] <;> left)
 ·obtain⟨its,r',pl,hz⟩:=I.tuple hq
  have hlen:=r'.length
  obtain⟨o,ho,hc,n,hd⟩:=pl
  exact call_list_seq p (.inr rfl) ho hc hd (λ h' c' kp e=>fin its r' hz h' c' kp e) (by simp only [uao] <;> left)
inductive call_tuple_of_i (K:uad)(xs:List V)(H:Hp)(Q:VK):Prop
 | mk:∀ p ys,(xs=[.ref p])->(((SqL K H p ys/\∀ l,H l=none->Q (.ref l) (upd H l (.tup ys)))\/(SqT K H p ys/\Q (.ref p) H)))->call_tuple_of_i K xs H Q
theorem zd8:CallR X (.type "tuple") (call_tuple_of_i X.K):=by
 intro pins s σ H xs us Q I r h
 obtain⟨p,ys,rfl,h⟩:=h
 obtain⟨u,rfl,rx⟩:=vals1 r
 cases rx
 rcases h with ⟨hq,q⟩ | ⟨hq,q⟩
 ·obtain⟨its,r',pl,hz⟩:=I.list hq
  have hlen:=r'.length
  refine call_tuple_list pl.isList (λ h' kp=>?_) (by simp only [uao] <;> left)
  have I1:Inv X pins σ H { s with heap:=h' }:=I.kept (t':=s.toks) kp
  have I2:Inv X pins σ (upd H h'.objs.size (.tup ys)) { s with heap:=h'.push { cls:=.type "tuple",data:=.seq its.toArray } } :=
   I1.laid (t':=s.toks) (λ b o e=>Heap.get?_push_of_some _ e) (uai _) (show ObjOk X.prog X.w _ _ _ (.tup ys) from ⟨hz,its,r',TupN.new _ _⟩)
  exact⟨.ref h'.objs.size,_,I2,rfl,q _ (I1.hok.fresh (uai _))⟩
 ·obtain⟨its,r',pl,hz⟩:=I.tuple hq
  exact call_tuple_same pl ⟨.ref p,H,I,rfl,q⟩
def tyV (K:uad)(T:String)(x:V)(H:Hp):Prop:=match x with
 | .str _=>T="str"
 | .int _=>T="int"
 | .ref p => (T = "list" /\ ∃ xs, SqL K H p xs) \/ (T = "tuple" /\ ∃ o, K.lookup p = some o /\ o.cls = .type "tuple" /\ o.dict = none) \/
     (T="dict"/\((∃ kvs,H p=some (.dK kvs))\/∃ kvs,H p=some (.dT kvs)))\/(T="set"/\∃ S n,H p=some (.set S n))
 | _=>False
theorem ztu {pins:List (Addr × Obj)}{σ:St}{H:Hp}{s:Shared}{T:String}{x:V}{v:Value}(I:Inv X pins σ H s)(r:RelV x v)(ty:tyV X.K T x H) :
  s.TypeIs v T/\∀ a,v=.ref a->∃ ob,s.heap.get? a=some ob/\ob.dict=none:=by
 cases x with
 | str z =>
  obtain⟨t,rfl⟩:=r
  cases (show T="str" from ty)
  exact⟨typeIs_str s z t,λ _ e=>nomatch e⟩
 | int i =>
  obtain⟨t,rfl⟩:=r
  cases (show T="int" from ty)
  exact⟨typeIs_int s i t,λ _ e=>nomatch e⟩
 | ref p =>
  cases r
  rcases ty with ⟨rfl,xs,hq⟩ | ⟨rfl,o,hk,hc,hd⟩ | ⟨rfl,hk⟩ | ⟨rfl,S,n,hk⟩
  ·obtain⟨its,_,pl,_⟩:=I.list hq
   refine⟨pl.isList.typeIs,λ a e=>?_⟩
   cases e
   obtain⟨o,n,e,c,hd,_⟩:=pl
   exact⟨o,e,hd⟩
  ·refine⟨⟨o,I.kIn p o hk,hc⟩,λ a e=>?_⟩
   cases e
   exact⟨o,I.kIn _ o hk,hd⟩
  ·have z:∃ o,s.heap.get? p=some o/\o.ExactDict:=by
    rcases hk with ⟨kvs,hk⟩ | ⟨kvs,hk⟩
    ·obtain⟨_,_,_,_,o,_,_,e,ex,_⟩:=I.hok p _ hk
     exact⟨o,e,ex⟩
    ·obtain⟨_,_,_,_,o,_,_,e,ex,_⟩:=I.hok p _ hk
     exact⟨o,e,ex⟩
   obtain⟨o,e,ex⟩:=z
   refine⟨⟨o,e,ex.1⟩,λ a e2=>?_⟩
   cases e2
   exact⟨o,e,ex.2.1⟩
  ·obtain⟨o,_,_,_,e,ex,_⟩:=I.hok p _ hk
   refine⟨⟨o,e,ex.1⟩,λ a e2=>?_⟩
   cases e2
   exact⟨o,e,ex.2.1⟩
 | _=>exact False.elim ty
def tBM (K:uad)(T:String)(r:V->List V->Hp->VK->Prop)(to:TE)(t:TA):TE:=λ σ H Q=>to σ H λ x H1=>tyV K T x H1/\t σ H1 λ xs H2=>r x xs H2 Q
variable {o e:Expr}{es:List Expr}{to:TE}{t:TA}{name:Str}{apos cpos:Pos}{T id:String}{r:V->List V->Hp->VK->Prop}
theorem zcu (pa:PlainAttrs T)(slot:Slot T name id)(hty:typeOf (.builtin id)=pure (.type "method_descriptor"))(hm:MtR X id r)(ho:PE X o to)(ha:PA X (e::es) t)
  (hbase:attributeBase o name X.env (eval o X.env)=eval o X.env:=by rfl)
  (hfew:((backTo cpos (starEach (e::es) X.env)).all (λ x=>!x.1)&&(backToKw cpos (keywordEach [] X.env)).all (λ x=>x.1.isSome)
  &&decide ((e::es).length+([]:List Keyword).length+(if ([]:List Keyword).isEmpty then 0 else 1)<30))=true:=by rfl)
  (hline:(apos.endLine==cpos.line)=true:=by rfl) (hs:starEach (e::es) X.env=(false,eval e X.env)::starEach es X.env:=by rfl) (hplain:(backTo cpos (starEach es X.env)).any (·.1)=false:=by rfl) :
  PE X (.Call (.Attribute o name apos) (e::es) [] cpos) (tBM X.K T r to t):=by
 intro pins s σ H Q I h
 refine wpAny_Call_method_late hbase hfew hline rfl (thn (ho pins s σ H _ I h) λ v s1 ⟨x,H1,I1,r1,ty,q1⟩=>?_)
 obtain⟨h1,h2⟩:=ztu I1 r1 ty
 refine⟨T,id,pa,slot,hty,h1,h2,?_⟩
 have hA:=ha cpos pins s1 σ H1 _ I1 q1
 rw[hs] at hA ⊢
 refine Calls.callWith_builtin (by show (false||(backTo cpos (starEach es X.env)).any (·.1))=false;rw[hplain] <;> rfl) (Calls.evalArgs_plain ?_)
 exact thn hA λ us s2 ⟨vs,H2,I2,r2,q2⟩=>hm pins s2 σ H2 x vs v us Q I2 r1 r2 q2
end
end L2
namespace L2
open PySem PySem.Spec PyProof.Rows
def MtM (X:Cx)(id:String)(r:V->List V->Hp->VK->Prop):Prop :=
 ∀ (pins:List (Addr × Obj))(s:Shared)(σ:St)(H:Hp)(x:V)(xs:List V)(v:Value)(us:List Value)(Q:VK),Inv X pins σ H s->RelV x v->Vals xs us->r x xs H Q ->
  wpAny (model X.prog X.w) X.A (call (.builtin id) (v::us)) (EP X pins σ Q) X.xe s
theorem Vals.one:∀ {x:V}{us:List Value},Vals [x] us->∃ u,us=[u]/\RelV x u
 | _,_,.cons r .nil=>⟨_,rfl,r⟩
theorem Vals.two:∀ {x y:V}{us:List Value},Vals [x,y] us->∃ u v,us=[u,v]/\RelV x u/\RelV y v
 | _,_,_,.cons r (.cons q .nil)=>⟨_,_,rfl,r,q⟩
theorem Vals.eraseIdx:∀ {xs:List V}{us:List Value}(i:Nat),Vals xs us->Vals (xs.eraseIdx i) (us.eraseIdx i)
 | _,_,_,.nil=>.nil
 | _,_,0,.cons _ t=>t
 | _,_,i+1,.cons r t=>.cons r (Vals.eraseIdx i t)
theorem Vals.reverse {xs:List V}{us:List Value}(h:Vals xs us):Vals xs.reverse us.reverse:=by
 induction h with
 | nil=>exact .nil
 | cons r t ih=>rw[uee,uee];exact Vals.append ih (.cons r .nil)
theorem Vals.rep {xs:List V}{us:List Value}(h:Vals xs us):∀ k:Nat,Vals (uay k xs).flatten (uay k us).flatten
 | 0=>.nil
 | k+1=>by
  rw[udg,udg,uef,uef]
  exact Vals.append h (Vals.rep h k)
theorem zjc {α:Type}:∀ (l:List α)(i:Nat),(l.eraseIdx i).length<=l.length
 | [],_=>uai _
 | _::_,0=>udo _
 | _::r,i+1=>ufj (zjc r i)
theorem zjf (its:List Value):∀ (k:Nat)(acc:List Value),
  uhe (λ x1 x2=>x1++x2) acc.toArray (uay k its.toArray)=(acc++(uay k its).flatten).toArray
 | 0,acc=>by simp
 | k+1,acc=>by
  have e:acc.toArray++its.toArray=(acc++its).toArray:=by simp
  have e2:(acc++its)++(uay k its).flatten=acc++(uay (k+1) its).flatten:=by
   rw[udg,uef,ugf]
  rw[← e2,← zjf its k (acc++its),← e,udg,List.foldl_cons]
section
variable {X:Cx}{pins:List (Addr × Obj)}{σ:St}{H:Hp}{s:Shared}{l b:Addr}{xs ys zs:List V}
theorem Inv.lset {its its':List Value}{n:Nat}{f:Array Value->Array Value}{t':Nat}(I:Inv X pins σ H s)(hH:H l=some (.lst xs))
  (e:s.heap.get? l=some { cls:=.type "list",data:=.seq its.toArray n }) (hf:f its.toArray=its'.toArray) (hv:Vals ys its') (hz:ys.length<=sizeLine) :
  Inv X pins σ (upd H l (.lst ys)) { s with heap:=s.heap.update l (Obj.mapSeq f),toks:=t' }:=by
 have q:=PySem.IsL.update e f
 rw[hf] at q
 refine I.write (x:=l) (e:=l) (by rw[hH];exact trivial) (.inl rfl) (λ b' u hb hu=>(Heap.get?_update_other s.heap (Obj.mapSeq f) (Ne.symm hb)).trans hu) ⟨_,q⟩ ?_
 exact⟨hz,its',_,hv,q⟩
theorem Inv.lnew {its:List Value}{t':Nat}(I:Inv X pins σ H s)(hv:Vals ys its)(hz:ys.length<=sizeLine) :
  Inv X pins σ (upd H s.heap.objs.size (.lst ys)) { s with heap:=s.heap.push { cls:=.type "list",data:=.seq its.toArray },toks:=t' } :=
 I.laid (λ _ _ q=>Heap.get?_push_of_some _ q) (uai _) ⟨hz,its,0,hv,Heap.get?_push_size _ rfl⟩
theorem Inv.fresh (I:Inv X pins σ H s):H s.heap.objs.size=none:=I.hok.fresh (uai _)
theorem Inv.lstM (I:Inv X pins σ H s)(hH:H l=some (.lst xs)):xs.length<=sizeLine/\∃ (its:List Value)(n:Nat),Vals xs its/\xs.length=its.length/\s.heap.get? l=some { cls:=.type "list",data:=.seq its.toArray n }:=by
 obtain⟨z,its,n,r,e⟩:=I.hok l _ hH
 exact⟨z,its,n,r,r.length,e⟩
theorem notLongL {n:Nat}(h:n<=sizeLine):Builtin.List.listTooLong n=false:=by
 unfold Builtin.List.listTooLong
 exact decide_eq_false (by left)
end
section
variable {X:Cx}
inductive rAppend_i  (x:V) (vs:List V) (H:Hp) (Q:VK):Prop
 | mk:∀ l xs y,(x=.ref l)->(vs=[y])->(H l=some (.lst xs))->(xs.length<sizeLine)->(Q .non (upd H l (.lst (xs++[y]))))->rAppend_i x vs H Q
def rAppend :V->List V->Hp->VK->Prop:=λ x vs H Q=>rAppend_i x vs H Q
theorem zdy:MtM X "list.append" rAppend:=by
 intro pins s σ H x vs v us Q I rx rv h
 obtain⟨l,xs,y,rfl,rfl,hH,hz,q⟩:=h
 cases rx
 obtain⟨u,rfl,ru⟩:=rv.one
 obtain⟨z,its,n,r,hl,e⟩:=I.lstM hH
 refine ufz F.slot_list_append ⟨_,e,rfl⟩ F.entry_list_append (F.args_list_append_2 _ _) (PySem.list_append l its.toArray n u (by rw[uao];left)) ⟨e,?_⟩
 refine⟨.non,_,I.lset (its':=its++[u]) hH e (by simp) (r.append (.cons ru .nil)) ?_,rfl,q⟩
 rw[uaq,ubn]
 left
inductive rExtend_i  (x:V) (vs:List V) (H:Hp) (Q:VK):Prop
 | mk:∀ l b xs zs,(x=.ref l)->(vs=[.ref b])->(H l=some (.lst xs))->(H b=some (.lst zs))->(xs.length+zs.length<=sizeLine)->(Q .non (upd H l (.lst (xs++zs))))->rExtend_i x vs H Q
def rExtend :V->List V->Hp->VK->Prop:=λ x vs H Q=>rExtend_i x vs H Q
theorem zjb:MtM X "list.extend" rExtend:=by
 intro pins s σ H x vs v us Q I rx rv h
 obtain⟨l,b,xs,zs,rfl,rfl,hH,hB,hz,q⟩:=h
 cases rx
 obtain⟨u,rfl,ru⟩:=rv.one
 cases ru
 obtain⟨z,its,n,r,hl,e⟩:=I.lstM hH
 obtain⟨z2,its2,n2,r2,hl2,e2⟩:=I.lstM hB
 have hsz:its.toArray.size+its2.toArray.size<=sizeLine:=by rw[uao,uao];left
 have hlong:¬ (!its.toArray.isEmpty&&Builtin.List.listTooLong (its.toArray.size+its2.toArray.size))=true:=by
  rw[notLongL hsz,Bool.and_false]
  exact uas
 refine ufz F.slot_list_extend ⟨_,e,rfl⟩ F.entry_list_extend (F.args_list_extend_2 _ _)
  (AutoSeq1.list_extend_list_list_0 l its.toArray n b its2.toArray n2 hlong (by rw[uao];left) (by left)) ⟨e,e2,?_⟩
 refine⟨.non,_,I.lset (its':=its++its2) hH e (by simp) (r.append r2) ?_,rfl,q⟩
 rw[uaq]
 left
inductive rPopAt_i  (x:V) (vs:List V) (H:Hp) (Q:VK):Prop
 | mk:∀ l xs i k y,(x=.ref l)->(vs=[.int i])->(H l=some (.lst xs))->(-(2^63)<=i)->(i<2^63)->(seqIndex? i xs.length=some k)->(xs[k]?=some y)->(Q y (upd H l (.lst (xs.eraseIdx k))))->rPopAt_i x vs H Q
def rPopAt :V->List V->Hp->VK->Prop:=λ x vs H Q=>rPopAt_i x vs H Q
theorem zlx:MtM X "list.pop" rPopAt:=by
 intro pins s σ H x vs v us Q I rx rv h
 obtain⟨l,xs,i,k,y,rfl,rfl,hH,h1,h2,hk,hy,q⟩:=h
 cases rx
 obtain⟨u,rfl,ru⟩:=rv.one
 obtain⟨t,rfl⟩:=ru
 obtain⟨z,its,n,r,hl,e⟩:=I.lstM hH
 obtain⟨w,hw,rw'⟩:=r.get hy
 refine ufz F.slot_list_pop ⟨_,e,rfl⟩ F.entry_list_pop (F.args_list_pop_2 _ _)
  (MeetsSeq.list_pop_at l its.toArray n i t k w (fitsIndex_both h1 h2) (by rw[uao,← hl];exact hk) (by rw[← ucg];exact hw) (by rw[uao];left)) ⟨e,?_⟩
 refine⟨y,_,I.lset (its':=its.eraseIdx k) hH e ?_ (r.eraseIdx k) ?_,rw',q⟩
 ·show its.toArray.eraseIdxIfInBounds k=(its.eraseIdx k).toArray
  rw[List.eraseIdxIfInBounds_toArray]
 ·have:=zjc xs k
  left
inductive rRep_i  (x:V) (y:V) (H:Hp) (Q:VK):Prop
 | mk:∀ l k xs,(x=.ref l)->(y=.int k)->(H l=some (.lst xs))->(-(2^63)<=k)->(k<2^63)->(xs.length*k.toNat<=sizeLine)->(∀ p,H p=none->Q (.ref p) (upd H p (.lst (uay k.toNat xs).flatten)))->rRep_i x y H Q
def rRep :R2:=λ x y H Q=>rRep_i x y H Q
theorem zs9 {α:Type}(xs:List α)(k:Nat):(uay k xs).flatten.length=k*xs.length:=by
 induction k with
 | zero=>simp
 | succ k ih=>rw[udg,uef,uaq,ih,Nat.succ_mul,Nat.add_comm]
theorem zt5:OpR X (binaryOp .Mult) rRep:=by
 intro pins s σ H x y v u Q I rx ry h
 obtain⟨l,k,xs,rfl,rfl,hH,h1,h2,hz,q⟩:=h
 cases rx
 obtain⟨t,rfl⟩:=ry
 obtain⟨z,its,n,r,hl,e⟩:=I.lstM hH
 have hlen:its.toArray.size*k.toNat<=sizeLine:=by rw[uao,← hl];exact hz
 have hcap:¬ its.toArray.size*k.toNat>(2^63-1) / 8:=by
  have:(sizeLine:Nat)<=(2^63-1) / 8:=by decide
  left
 have hfit:¬ (!Builtin.List.listFitsIndex k)=true:=by
  rw[fitsIndex_both h1 h2]
  exact uas
 have hlong:¬ Builtin.List.listTooLong (its.toArray.size*k.toNat)=true:=by
  rw[notLongL hlen]
  exact uas
 have hnew:uhe (λ x1 x2=>x1++x2) #[] (uay (if its.toArray.isEmpty=true then 0 else k.toNat) its.toArray)=(uay k.toNat its).flatten.toArray:=by
  have f0:∀ m:Nat,uhe (λ x1 x2=>x1++x2) #[] (uay m its.toArray)=(uay m its).flatten.toArray:=λ m=>by
   have:=zjf its m []
   rw[List.nil_append] at this
   exact this
  rw[f0]
  cases its with
  | nil=>simp
  | cons a r'=>rw[if_neg (by simp)]
 refine wpAny_binaryOp_repeat_ref (T:="list") (U:="int") (by decide) ⟨_,e,rfl⟩ (λ s'=>typeIs_int s' k t) noFill_list_mul F.fills_int_mul F.slot_int_rmul repeat_list F.slot_int_index.lookup
  (ufz F.slot_int_rmul (typeIs_int s k t) F.entry_int_rmul (F.args_int_rmul_2 _ _) (int___rmul___int_list k t l its.toArray n)
   ⟨e,rfl,⟨_,e,rfl⟩,ufz F.slot_list_mul ⟨_,e,rfl⟩ F.entry_list_mul (F.args_list_mul_2 _ _) (AutoListH.list___mul___list_int_3 l its.toArray n k t hfit hcap hlong) ⟨e,?_⟩⟩)
 rw[hnew]
 exact⟨.ref _,_,I.lnew (t':=s.toks) (r.rep k.toNat) (by rw[zs9,Nat.mul_comm];exact hz),rfl,q _ I.fresh⟩
end
section
variable {prog:Program}{w:World}{A:Around}{E:Value->Shared->Prop}{s:Shared}
end
section
variable {X:Cx}
end
end L2
namespace Att
open PySem PySem.W PySem.Calls PyProof.Rows
theorem zfg {P:Params}{h:Heap}:∀ (ns:List Int)(vs:List Value),WellAll P h vs (ns.map WData.int)->IntsAre vs ns:=by
 intro ns
 induction ns with
 | nil =>
  intro vs w
  rw[List.map_nil] at w
  cases w
  exact .nil
 | cons n ns ih =>
  intro vs w
  rw[udw] at w
  cases w with
  | cons a b =>
   cases a
   exact .cons _ _ (ih _ b)
theorem znt {l:OpenLaw}{n:Nat}(hn:l.most=some n){P:Params}{h:Heap}{args:List WData}{vals:List Value}
  (hpre:l.row.toRowW.claim.pre args=true) (hwl:WellAll P h vals args) :
  ∃ a vs ns,vals=[Value.ref a]/\args=[WData.list (ns.map WData.int)]/\h.get? a=some { cls:=.type "list",data:=.seq vs.toArray }/\IntsAre vs ns/\ns.length<=n:=by
 have hsh:WShape.hasAll [] args [.list .int]=true:=(pre_splitW hpre).1
 have hc:l.pre.holds [] { args:=args }=true:=(pre_splitW hpre).2
 obtain⟨d,r,rfl,h1,h2⟩:=hasAllW_cons hsh
 obtain rfl:=hasAllW_nil h2
 obtain⟨xs,rfl,h3⟩:=hasW_list h1
 obtain⟨ns,rfl⟩:=items_int h3
 have hlen:ns.length<=n:=by
  unfold OpenLaw.pre at hc
  have h4:(WTm.not (.lt (.lit (.int (n:Int))) (.len (.arg 0)))).holds [] { args:=[.list (ns.map .int)] }=true:=by
   have h4:=(holds_andW hc).1
   rw[hn] at h4
   exact h4
  have h5:=condW_of h4 (w_not (w_lt w_lit (w_len_list (w_arg rfl))))
  rw[uae] at h5
  refine Nat.le_of_not_lt λ q=>?_
  have q':(n:Int)<((ns.length:Nat):Int):=by left
  first
   | (rw[decide_eq_true q'] at h5;exact absurd h5 (by decide))
   | (simp at h5;left)
 cases hwl with
 | cons w1 w2 =>
  cases w2
  cases w1 with
  | list ho hall=>exact⟨_,_,ns,rfl,rfl,ho,zfg ns _ hall,hlen⟩
theorem zn4 (l:OpenLaw)(args:List WData):l.row.toRowW.claim.post args (.bool true) args=true :=
 postW_of (r:=l.row.toRowW) (X:=(true==true))
  (show WShape.has [] (.bool true) .bool=true by first | rfl | decide | simp [WShape.has,WShape.arms,WShape.armsAll])
  (show (WTm.eq .res (.lit (.bool true))).value [] { args:=args,res:=some (.bool true),after:=args }=some (.bool (true==true)) from w_eq_bool (w_res rfl) w_lit) rfl
theorem attach_call {l:OpenLaw}{n:Nat}{q:Program}{loose:List Str}{XP:(Str->Option Value)->Heap->Prop}{YP:World->Heap->Prop}{d:DefRec}
  (hn:l.most=some n) (hdf:d.params.defaults=[])
  (call:∀ (w:World)(s₀ s₁:Shared)(mg mb:Str->Option Value)(fa:Addr)(o:Obj)(pm cd doc:Value)(a:Addr)(vs:List Value)(ns:List Int),
   Ground q loose [] XP w s₀ mg mb s₁.heap->YP w s₁.heap ->
   s₁.heap.get? fa=some o->o.data=.func (docDef d.name d.params d.body d.scope pm cd doc)->s₁.heap.CodeRec cd d.name->mg d.name=some (.ref fa) ->
   s₁.heap.get? a=some { cls:=.type "list",data:=.seq vs.toArray }->IntsAre vs ns->ns.length<=n->s₁.gens=#[] ->
   codeAny (model l.prog w) callerA (.call (.ref fa) ⟨[.ref a],[]⟩) (λ r s'=>r=.ok (.ret (.bool true))/\OldK s₁.heap s'.heap/\s'.os=s₁.os/\AllBare s'.gens) s₁) :
  WalkO q loose XP YP l.row.toRowW d [] (λ f vs=>PySem.call f vs):=by
 intro w s₀ s₁ mg mb G Y fa o pm cd doc dV kV ho hd hcd hD hmg hg args vals as hpre hlay hrd hwl hlo
 obtain rfl:dV=.none:=Dflts.none hD hdf
 obtain rfl:kV=.none:=Dflts.noKw hD
 obtain⟨a,vs,ns,rfl,rfl,hobj,hints,hlen⟩:=znt hn hpre hwl
 refine enter_call (udr (call w s₀ s₁ mg mb fa o pm cd doc a vs ns G Y ho (fd_plain hd) hcd hmg hobj hints hlen hg) λ r s' hq=>?_)
 obtain⟨rfl,h2,h3,h4⟩:=hq
 exact⟨.inl ⟨.bool true,.bool true,[],rfl,λ _=>rfl,.bool true,zn4 l _,λ _=>⟨ug5,λ _ hm=>(nomatch hm)⟩⟩,h2,h3,h4⟩
section
variable {prog:Program}{w:World}{A:Around}{E:Value->Shared->Prop}{s:Shared}{K:Frag}
end
end Att
namespace L2
open PySem PySem.Spec PyProof.Rows
theorem zil:∀ {vs:List Value}{ns:List Int},IntsAre vs ns->Vals (ns.map V.int) vs
 | _,_,.nil=>.nil
 | _,_,.cons n t h=>.cons ⟨t,rfl⟩ (zil h)
def Only (H:Hp):Prop:=∀ b,H b=none\/∃ o xs,H b=some (.frz o (.lst xs))
theorem zq6 {P:Program}{w:World}{K:uad}{mg mb:Str->Option Value}{CX:CXT}{k:Nat}{fa a:Addr}{fd:FuncData}{x:Str}{sp:Sp}{s₁:Shared}{vs:List Value}{ns:List Int}
  (KX:K.In s₁.heap) (hns:s₁.heap.Ns mainGlobals mg) (hb:s₁.heap.Ns builtinsNs mb) (hbb:∀ x:Str,x≠"__name__"->mb x=bootBuiltins x) (hlim:s₁.heap.NoLimit) (hg:s₁.gens=#[])
  (ha:s₁.heap.get? a=some { cls:=.type "list",data:=.seq vs.toArray }) (hi:IntsAre vs ns) (hl:ns.length<=sizeLine) (hr:Room k callerA)
  (F:∀ base:Heap,K.In base->base.Ns mainGlobals mg->FnOk P w K mg base CX k fa fd [x] sp) (hbind:∀ (s:Shared)(u:Value),BindsTo s fd ⟨[u],[]⟩ [(x,u)])
  (hsp:∀ H:Hp,Only H->SqL K H a (ns.map V.int)->sp [.ref a] H (λ v _=>v=.bl true) λ _ _ _=>False)
  (hCX:∀ H e s',CX [] H s₁ (λ _ _ _=>False) e s'->False) :
  codeAny (model P w) callerA (.call (.ref fa) ⟨[.ref a],[]⟩) (λ r s'=>r=.ok (.ret (.bool true))/\OldK s₁.heap s'.heap/\s'.os=s₁.os/\AllBare s'.gens) s₁:=by
 have rv:=zil hi
 have lenV:=hi.length
  -- from an abstract heap in which nothing but the script may be tracked
 have core : ∀ H : Hp, Only H → SqL K H a (ns.map V.int) → HOk P w H s₁.heap → (∀ b, H b ≠ none → b = a) → (H a ≠ none → K.lookup a = none) →
     codeAny (model P w) callerA (.call (.ref fa) ⟨[.ref a],[]⟩) (λ r s'=>r=.ok (.ret (.bool true))/\OldK s₁.heap s'.heap/\s'.os=s₁.os/\AllBare s'.gens) s₁:=by
  intro H hO hS hok hA hK
  have base_of:∀ {b:Addr}{o:Obj},s₁.heap.get? b=some o->H b=none->(hidT s₁.heap H).get? b=some o:=λ e n=>zrd e n
  have noA:∀ {b:Addr}{o:Obj}{es:Array DictEntry}{ep:Nat},s₁.heap.get? b=some o->o.data=.dict es ep->H b=none:=λ {b o es ep} e d=>by
   cases q:H b with
   | none=>rfl
   | some u =>
    have e':b=a:=hA b (by rw[q];simp)
    subst e'
    rw[ha] at e;cases e
    have d':Data.seq vs.toArray _=Data.dict es ep:=d
    cases d'
  have nsK:∀ {b:Addr}{m:Str->Option Value},s₁.heap.Ns b m->(hidT s₁.heap H).Ns b m:=λ {b m} ⟨o,es,ep,e,d,r⟩=>⟨o,es,ep,base_of e (noA e d),d,r⟩
  have hKb:K.In (hidT s₁.heap H):=λ b o e=>base_of (KX b o e) (by
   cases q:H b with
   | none=>rfl
   | some u =>
    have e':b=a:=hA b (by rw[q];simp)
    subst e'
    rw[hK (by rw[q];simp)] at e;cases e)
  have hM:Mod K mg (hidT s₁.heap H):=⟨hKb,nsK hns,⟨mb,nsK hb,hbb⟩,let ⟨mc,h1,h2⟩:=hlim;⟨mc,nsK h1,h2⟩⟩
  have e0:Env0 P w K mg (hidT s₁.heap H) callerA [] s₁ H:=⟨rfl,hM,λ b o e=>zs5 e,uey (zo2 _ _),trivial,λ b hb=>absurd (show b∈([]:List Addr) from hb) (by simp),hok,.of_eq hg⟩
  refine udr ((F _ hKb (nsK hns)).run callerA [] s₁ H ⟨[.ref a],[]⟩ [.ref a] [.ref a] _ _ hr e0 (hbind s₁ (.ref a)) (.cons rfl .nil) (hsp H hO hS)) λ r s' h=>?_
  cases r with
  | error e=>exact (hCX H e s' h).elim
  | ok fl =>
   cases fl with
   | next=>exact False.elim h
   | brk=>exact False.elim h
   | cont=>exact False.elim h
   | ret u =>
    obtain⟨v,H',os,bare,un,hok',r',q⟩:=h
    have q':v=.bl true:=q
    subst q'
    obtain rfl:u=Value.bool true:=r'
    refine⟨rfl,OldK.of_keep λ b o e=>?_,os,bare⟩
    cases q:H b with
    | none=>exact un.keep b o e q (by intro z;exact absurd (show b∈([]:List Addr) from z) (by simp)) (by simp)
    | some u =>
     rcases hO b with z | ⟨ob,xs,z⟩
     ·rw[q] at z;cases z
     ·have z2:=un.frzs b ob _ z
      obtain⟨e1,_⟩:=hok b _ z
      obtain⟨e2,_⟩:=hok' b _ z2
      rw[e] at e1;cases e1
      exact e2
 cases hk:K.lookup a with
 | some o =>
    -- the script is one of the module's own objects
  have e:=KX a o hk
  rw[ha] at e
  cases e
  refine core (λ _=>none) (λ _=>.inl rfl) (.inr ⟨_,vs.toArray,_,hk,rfl,rfl,rfl,by rw[uao,lenV];exact hl,by simpa using rv⟩) (λ b u z=>by have z':(none:Option HO)=some u:=z;cases z') (λ b z=>absurd rfl z) λ z=>absurd rfl z
 | none =>
  refine core (λ b=>if b=a then some (.frz { cls:=.type "list",data:=.seq vs.toArray } (.lst (ns.map V.int))) else none) (λ b=>?_) (.inl (.inr ⟨{ cls:=.type "list",data:=.seq vs.toArray },if_pos rfl⟩)) (λ b u z=>?_) (λ b z=>?_) λ _=>hk
  ·by_cases hb:b=a
   ·exact .inr ⟨_,_,if_pos hb⟩
   ·exact .inl (if_neg hb)
  ·by_cases hb:b=a
   ·have z':=(if_pos hb).symm.trans z
    cases z'
    subst hb
    exact⟨ha,by rw[uae];exact hl,vs,_,rv,ha⟩
   ·have z':=(if_neg hb).symm.trans z
    cases z'
  ·by_cases hb:b=a
   ·exact hb
   ·exact absurd (if_neg hb) z
end L2
namespace L2
open PySem PySem.Spec PyProof.Rows
theorem zsj {l:PySem.W.OpenLaw}{n k:Nat}{q:Program}{loose:List Str}{XP:(Str->Option Value)->Heap->Prop}{YP:World->Heap->Prop}{d:DefRec}{K:Params->uad}{CX:World->CXT}{sp:World->Sp}{x:Str}
  (hn:l.most=some n) (hn2:n<=sizeLine) (hdf:d.params.defaults=[]) (hr:Room k callerA)
  (hY:∀ (w:World)(h:Heap),YP w h->(K w.params).In h)
  (F:∀ (w:World)(mg:Str->Option Value)(fa:Addr)(h:Heap),(K w.params).In h->h.Ns mainGlobals mg->mg d.name=some (.ref fa) ->
   ∃ fd:FuncData,(∀ (s:Shared)(u:Value),BindsTo s fd ⟨[u],[]⟩ [(x,u)]) /\
    ∀ base:Heap,(K w.params).In base->base.Ns mainGlobals mg->FnOk l.prog w (K w.params) mg base (CX w) k fa fd [x] (sp w))
  (hsp:∀ (w:World)(H:Hp)(a:Addr)(ns:List Int),ns.length<=n->Only H->SqL (K w.params) H a (ns.map V.int)->sp w [.ref a] H (λ v _=>v=.bl true) λ _ _ _=>False)
  (hCX:∀ (w:World)(H:Hp)(s:Shared)(e:Value)(s':Shared),CX w [] H s (λ _ _ _=>False) e s'->False) :
  PySem.W.WalkO q loose XP YP l.row.toRowW d [] (λ f vs=>PySem.call f vs):=by
 refine Att.attach_call hn hdf λ w s₀ s₁ mg mb fa o pm cd doc a vs ns G Y ho hd hcd hmg hobj hints hlen hg=>?_
 have KX:=hY w _ Y
 obtain⟨fd,hb,hF⟩:=F w mg fa _ KX G.T.g hmg
 exact zq6 KX G.T.g G.T.b G.T.builtins G.T.nolimit hg hobj hints (ubr hlen hn2) hr hF hb (λ H hO hS=>hsp w H a ns hlen hO hS) λ H e s'=>hCX w H s₁ e s'
end L2
namespace L2
open PySem PySem.Spec PyProof.Rows
def defArgs (s:Stmt):Arguments:=match s with
 | .FunctionDef _ a _ _ _ _ _ _ _ _=>a
 | _=>{ posonlyargs:=[],args:=[],vararg:=none,kwonlyargs:=[],kw_defaults:=[],kwarg:=none,defaults:=[] }
def defBody (s:Stmt):List Stmt:=match s with
 | .FunctionDef _ _ b _ _ _ _ _ _ _=>b
 | _=>[]
def defScope (s:Stmt):Scope:=match s with
 | .FunctionDef _ _ _ _ _ _ sc _ _ _=>sc
 | _=>{ kind:=.function,names:=[],isGenerator:=false,isCoroutine:=false }
abbrev CX0:CXT:=λ _ _ _ _ _ _=>False
abbrev E0:XK:=λ _ _ _=>False
theorem pass0 {X:Cx}:Passes CX0 X E0:=λ _ _ _ _ _ _ _ h=>h.elim
structure Fun (K:uad)(x qual:Str)(st:Stmt)(f:Addr)(fd:FuncData):Prop where
 ex:∃ (oc:Value)(od:Option Addr)(kV doc pm:Value)(an:Option Addr)(cdv ct:Value)(osl:Array (Option Value)),
  fd=uc2 x qual (defArgs st) (defBody st) (defScope st) .none kV doc pm an cdv ct/\K.lookup f=some ⟨oc,od,.func fd,osl⟩/\uet K cdv qual=true
 kp:ued K (.ref f)=true
section
variable {P:Program}{w:World}{K:uad}{mg:Str->Option Value}{base:Heap}
theorem Fun.ok {x qual:Str}{st:Stmt}{f:Addr}{fd:FuncData}{N ps:List Str}{k:Nat}{sp:Sp}(F:Fun K x qual st f fd)(S:FnScope N ps (defScope st))(len:∀ vs H Q E,sp vs H Q E->vs.length=ps.length)
  (hbody:∀ (cdv:Value)(A:Around)(outer:List Env)(s:Shared)(H:Hp)(vs:List V)(Q:VK)(E:XK),Room k (A.deeper (envOfC qual (defScope st) s.heap.objs.size f cdv))->sp vs H Q E ->
   ∃ t,PSs (cxOf CX0 P w K mg base N qual (defScope st) f cdv A outer s H E).nox (defBody st) t/\t { nx:=λ _ H'=>Q .non H',rt:=Q } (start N vs) H):FnOk P w K mg base CX0 (k+1) f fd ps sp:=by
 obtain⟨oc,od,kV,doc,pm,an,cdv,ct,osl,rfl,lk,hcd⟩:=F.ex
 refine zuu lk hcd S len λ A outer s H vs Q E hr hsp=>?_
 obtain⟨t,h,q⟩:=hbody cdv A outer s H vs Q E hr hsp
 exact⟨t,h.nox,q⟩
theorem Fun.binds {x qual:Str}{st:Stmt}{f:Addr}{fd:FuncData}{ps:List Str}(F:Fun K x qual st f fd)
  (h:∀ (kV doc pm:Value)(an:Option Addr)(cdv ct:Value)(us:List Value),us.length=ps.length->bindArgs (uc2 x qual (defArgs st) (defBody st) (defScope st) .none kV doc pm an cdv ct) ⟨us,[]⟩=pure (ps.zip us)):Binds K fd ps []:=by
 obtain⟨oc,od,kV,doc,pm,an,cdv,ct,osl,rfl,lk,hcd⟩:=F.ex
 exact .all (h kV doc pm an cdv ct)
theorem zr9 {x qual:Str}{st:Stmt}{f:Addr}{oc:Value}{od an:Option Addr}{osl:Array (Option Value)}{kV doc pm cdv ct:Value}(l:K.lookup f=some ⟨oc,od,.func (uc2 x qual (defArgs st) (defBody st) (defScope st) .none kV doc pm an cdv ct),osl⟩)
  (c:uet K cdv qual=true) (k:ued K (.ref f)=true):Fun K x qual st f (uc2 x qual (defArgs st) (defBody st) (defScope st) .none kV doc pm an cdv ct):=⟨⟨oc,od,kV,doc,pm,an,cdv,ct,osl,rfl,l,c⟩,k⟩
end
section
variable {X:Cx}
theorem pv (i:Nat){x:Str}{pos:Pos}(hN:X.N[i]?=some x:=by rfl)(hv:Vis X.env.scope x:=by first | exact uap rfl | exact ufy (uap rfl) | exact ufy (ufy rfl))(hd:(x==("__debug__":Str))=false:=by decide)
  (hcd:(x==("__classdict__":Str))=false:=by decide):PE X (.Name x pos) (tVar i):=zt4 hN hv hd hcd
end
theorem iteF {A B:Prop}(h:B):if false=true then A else B:=by
 rw[if_neg uas]
 exact h
theorem iteT {A B:Prop}(h:A):if true=true then A else B:=by
 rw[if_pos rfl]
 exact h
theorem ite2 {c A B:Prop}[Decidable c](h1:c->A)(h2:¬ c->B):if c then A else B:=by
 by_cases h:c
 ·rw[if_pos h]
  exact h1 h
 ·rw[if_neg h]
  exact h2 h
theorem iteNS {c A B:Prop}[Decidable c](hc:c)(h:B):if (!decide c)=true then A else B:=by
 rw[decide_eq_true hc]
 exact iteF h
def Same (H H':Hp):Prop:=∀ b o,H b=some o->H' b=some o
theorem Same.refl (H:Hp):Same H H:=λ _ _ h=>h
theorem Same.trans {H H1 H2:Hp}(a:Same H H1)(b:Same H1 H2):Same H H2:=λ c o h=>b c o (a c o h)
theorem Same.free {H H':Hp}(e:Same H H'){l:Addr}(h:H' l=Option.none):H l=Option.none:=by
 cases q:H l with
 | none=>rfl
 | some o =>
  rw[e l o q] at h
  cases h
theorem Same.seq {K:uad}{H H':Hp}{a:Addr}{xs:List V}(e:Same H H')(h:SqL K H a xs):SqL K H' a xs:=by
 rcases h with (h | ⟨o,h⟩) | h
 ·exact .inl (.inl (e _ _ h))
 ·exact .inl (.inr ⟨o,e _ _ h⟩)
 ·exact .inr h
end L2
namespace L2
open PySem PySem.Spec PyProof.Rows
section
variable {κ:Type}[DecidableEq κ]
def valV (kvs:List (κ × V))(k:κ):Option V:=(kvs.find? λ kv=>decide (kv.1=k)).map (·.2)
def putK (kvs:List (κ × V))(k:κ)(v:V):List (κ × V) :=
 if (kvs.any λ kv=>decide (kv.1=k))=true then kvs.map (λ kv=>if kv.1=k then (kv.1,v) else kv) else kvs++[(k,v)]
def dropK (kvs:List (κ × V))(k:κ):List (κ × V):=kvs.filter λ kv=>decide (kv.1≠k)
theorem RelO.getD {o:Option V}{u:Option Value}{d:V}{d':Value}(r:RelO o u)(rd:RelV d d'):RelV (o.getD d) (u.getD d'):=by
 cases o with
 | none=>cases u with
  | none=>exact rd
  | some _=>exact (show False from r).elim
 | some _=>cases u with
  | none=>exact (show False from r).elim
  | some _=>exact r
theorem KV.length {kvs:List (κ × V)}{vs:List (κ × Value)}(r:KV kvs vs):kvs.length=vs.length:=Paired.length r
end
abbrev KT (H:Hp):List (List Key × V)->List (List Key × Addr × Value)->Prop:=Paired λ p q=>p.1=q.1/\H q.2.1=some (.tup (p.1.map kV))/\RelV p.2 q.2.2
section
variable {P:Program}{w:World}{H:Hp}{h:Heap}{a:Addr}
end
def DGet (H:Hp)(a:Addr)(y:V)(r:Option V):Prop :=
 (∃ kvs k,Rd H a (.dK kvs)/\y=kV k/\r=valV kvs k)\/∃ kvs k b,Rd H a (.dT kvs)/\y=.ref b/\H b=some (.tup (k.map kV))/\r=valV kvs k
def DPut (H:Hp)(a:Addr)(y v:V)(H':Hp):Prop :=
 (∃ kvs k,H a=some (.dK kvs)/\y=kV k/\kvs.length<sizeLine/\H'=upd H a (.dK (putK kvs k v))) \/
 ∃ kvs k b,H a=some (.dT kvs)/\y=.ref b/\H b=some (.tup (k.map kV))/\kvs.length<sizeLine/\H'=upd H a (.dT (putK kvs k v))
section
variable {X:Cx}{pins:List (Addr × Obj)}{σ:St}{H:Hp}{s:Shared}{a:Addr}{y v:V}{u r:Value}{o:Option V}{A:Around}{E:Value->Shared->Prop}
end
section
variable {X:Cx}{pins:List (Addr × Obj)}{σ:St}{H:Hp}{s:Shared}{a:Addr}{kvs:List (Key × V)}{k:Key}{u:Value}{A:Around}{E:Value->Shared->Prop}
end
section
variable {X:Cx}{o i e value:Expr}{pos pos' tpos:Pos}{td ty tv:TE}
end
section
variable {X:Cx}{pos:Pos}
end
end L2
set_option maxHeartbeats 4000000
namespace Srt
open PySem PySem.W PyProof.Rows
section
variable {N:Nat}{r:Nat->Int}{cmp:Nat->Nat->(Bool->Shared->Prop)->Shared->Prop}{s:Shared}
def ky (r:Nat->Int)(p:Array Nat)(m:Nat):Int:=r (p.getD m 0)
def Up (r:Nat->Int)(p:Array Nat)(n:Nat):Prop:=∀ i j,i<=j->j<n->ky r p i<=ky r p j
def Dn (r:Nat->Int)(p:Array Nat)(n:Nat):Prop:=∀ i j,i<=j->j<n->ky r p j<=ky r p i
def Ask (N:Nat)(r:Nat->Int)(cmp:Nat->Nat->(Bool->Shared->Prop)->Shared->Prop)(s:Shared):Prop :=
 ∀ i j C,i<N->j<N->C (decide (r i<r j)) s->cmp i j C s
def Gd (N:Nat)(p:Array Nat):Prop:=p.Perm (ugk (uac N))
theorem Gd.sz {p:Array Nat}(g:Gd N p):p.size=N:=by
 have:=g.size_eq
 simpa using this
theorem Gd.lt {p:Array Nat}(g:Gd N p)(h:0<N)(m:Nat):p.getD m 0<N:=by
 by_cases hm:m<p.size
 ·have e:p.getD m 0=p[m]:=by simp [ue4,hm]
  rw[e]
  have h1:p[m]∈p:=Array.getElem_mem hm
  have h2:p[m]∈ugk (uac N):=g.mem_iff.mp h1
  simpa using h2
 ·have e:p.getD m 0=0:=by simp [ue4,hm]
  left
theorem zot {p q:Array Nat}{i j:Nat}(h:p[i]?=q[j]?):ky r p i=ky r q j:=by
 have e:∀ (a:Array Nat)(k:Nat),a.getD k 0=(a[k]?).getD 0:=λ a k=>by
  by_cases hk:k<a.size <;> simp [ue4,hk]
 unfold ky
 rw[e,e,h]
theorem zos {p:Array Nat}{i j:Nat}(hj:j<=p.size)(k:Nat):ky r (kas_rev p i j) k=if i<=k/\k<j then ky r p (i+j-1-k) else ky r p k:=by
 have e:=getElem?_mirror_all (i:=i) hj k
 by_cases h:i<=k/\k<j
 ·rw[if_pos h] at e ⊢
  exact zot e
 ·rw[if_neg h] at e ⊢
  exact zot e
theorem zue {p:Array Nat}{k d:Nat}(hs:k<p.size)(hd:d<=k)(m:Nat) :
  ky r (bubble p k d) m=if m=k-d then ky r p k else if k-d<m/\m<=k then ky r p (m-1) else ky r p m:=by
 have e:=getElem?_bubble hs d hd m
 by_cases h1:m=k-d
 ·rw[if_pos h1] at e ⊢
  exact zot e
 ·rw[if_neg h1] at e ⊢
  by_cases h2:k-d<m/\m<=k
  ·rw[if_pos h2] at e ⊢
   exact zot e
  ·rw[if_neg h2] at e ⊢
   exact zot e
theorem Gd.rev {p:Array Nat}(g:Gd N p)(i j:Nat):Gd N (kas_rev p i j):=(mirror_perm p i j _).trans g
theorem Gd.bub {p:Array Nat}(g:Gd N p)(i j:Nat):Gd N (bubble p i j):=(bubble_perm p i j).trans g
theorem zpu (h:Ask N r cmp s)(hN:0<N){p:Array Nat}(g:Gd N p){Q:Nat->Shared->Prop}:∀ f n,1<=n->Up r p n ->
  (∀ m,n<=m->m<=n+f->Up r p m->(m<n+f->ky r p m<ky r p (m-1))->Q m s)->(kas_asc p f n).kasWp cmp Q s
 | 0,n,_,hu,q=>q n (uai _) (uai _) hu (λ z=>absurd z (ucw _))
 | f+1,n,h1,hu,q=>by
  refine h _ _ _ (g.lt hN _) (g.lt hN _) ?_
  by_cases c:r (p.getD n 0)<r (p.getD (n-1) 0)
  ·rw[decide_eq_true c]
   exact q n (uai _) (by left) hu (λ _=>c)
  ·rw[decide_eq_false c]
   refine zpu h hN g f (n+1) (by left) (λ i j hij hj=>?_) (λ m a b u d=>q m (by left) (by left) u (λ z=>d (by left)))
   have c':ky r p (n-1)<=ky r p n:=by unfold ky;left
   by_cases e:j=n
   ·subst e
    by_cases e2:i=j
    ·subst e2;exact ub2 _
    ·exact ugp (hu i (j-1) (by left) (by left)) c'
   ·exact hu i j hij (by left)
theorem zfd {p:Array Nat}{i j:Nat}(hj:j<=p.size)(v:Int)(he:∀ k,i<=k->k<j->ky r p k=v)(k:Nat):ky r (kas_rev p i j) k=ky r p k:=by
 rw[zos hj]
 split
 ·rename_i c
  rw[he _ (by left) (by left),he k c.1 c.2]
 ·rfl
theorem zhz (h:Ask N r cmp s)(hN:0<N){Q:Array Nat × Nat × Nat->Shared->Prop}:∀ f p n q,Gd N p->1<=n->n+f<=N->Dn r p n->q+1<=n->(∀ i,n-(q+1)<=i->i<n->ky r p i=ky r p (n-1)) ->
  (∀ p' n' q',Gd N p'->n<=n'->n'<=n+f->Dn r p' n'->q'+1<=n'->(∀ i,n'-(q'+1)<=i->i<n'->ky r p' i=ky r p' (n'-1))->Q (p',n',q') s)->(kas_desc f p n q).kasWp cmp Q s
 | 0,p,n,q,g,_,_,hd,hq,he,z=>z p n q g (uai _) (uai _) hd hq he
 | f+1,p,n,q,g,h1,hf,hd,hq,he,z=>by
  refine h _ _ _ (g.lt hN _) (g.lt hN _) ?_
  by_cases c:r (p.getD n 0)<r (p.getD (n-1) 0)
  ·rw[decide_eq_true c]
   have c':ky r p n<ky r p (n-1):=c
   have dn:∀ {p':Array Nat},(∀ k,ky r p' k=ky r p k)->Dn r p' (n+1):=λ e i j hij hj=>by
    rw[e,e]
    by_cases ej:j=n
    ·subst ej
     by_cases ei:i=j
     ·subst ei;exact ub2 _
     ·exact ugp (udj c') (hd i (j-1) (by left) (by left))
    ·exact hd i j hij (by left)
   show KasT.kasWp cmp (if q>0 then kas_desc f (kas_rev p (n-(q+1)) n) (n+1) 0 else kas_desc f p (n+1) 0) Q s
   by_cases hq0:q>0
   ·rw[if_pos hq0]
    have e:=zfd (r:=r) (p:=p) (i:=n-(q+1)) (j:=n) (by rw[g.sz];left) (ky r p (n-1)) he
    exact zhz h hN f _ (n+1) 0 (g.rev _ _) (by left) (by left) (dn e) (by left) (λ i a b=>by congr 1;left)
     (λ p' n' q' g' a b d e1 e2=>z p' n' q' g' (by left) (by left) d e1 e2)
   ·rw[if_neg hq0]
    exact zhz h hN f _ (n+1) 0 g (by left) (by left) (dn λ _=>rfl) (by left) (λ i a b=>by congr 1;left)
     (λ p' n' q' g' a b d e1 e2=>z p' n' q' g' (by left) (by left) d e1 e2)
  ·rw[decide_eq_false c]
   refine h _ _ _ (g.lt hN _) (g.lt hN _) ?_
   by_cases d:r (p.getD (n-1) 0)<r (p.getD n 0)
   ·rw[decide_eq_true d]
    exact z p n q g (uai _) (by left) hd hq he
   ·rw[decide_eq_false d]
    have e:ky r p n=ky r p (n-1):=by unfold ky;left
    refine zhz h hN f p (n+1) (q+1) g (by left) (by left) (λ i j hij hj=>?_) (by left) (λ i a b=>?_)
     (λ p' n' q' g' a b d e1 e2=>z p' n' q' g' (by left) (by left) d e1 e2)
    ·by_cases ej:j=n
     ·subst ej
      by_cases ei:i=j
      ·subst ei;exact ub2 _
      ·rw[e];exact hd i (j-1) (by left) (by left)
     ·exact hd i j hij (by left)
    ·rw[show n+1-1=n by left]
     by_cases ei:i=n
     ·rw[ei]
     ·rw[e];exact he i (by left) (by left)
theorem zlj (h:Ask N r cmp s)(hN:0<N){Q:Nat × Array Nat->Shared->Prop}{p:Array Nat}{n:Nat}(g:Gd N p)(h1:1<=n)(hn:n<=N)(hd:Dn r p n)
  (z:∀ m p',Gd N p'->1<=m->m<=N->Up r p' m->Q (m,p') s):(kas_tail3 n N p).kasWp cmp Q s:=by
 unfold kas_tail3
 rw[KasT.kasWp_bind]
 refine zpu h hN (g.rev 0 n) _ n h1 (λ i j hij hj=>?_) (λ m a b u _=>z m _ (g.rev 0 n) (by left) (by left) u)
 rw[zos (by rw[g.sz];left),zos (by rw[g.sz];left),if_pos (by left),if_pos (by left)]
 exact hd _ _ (by left) (by left)
theorem zfj (h:Ask N r cmp s)(hN:0<N){Q:Nat × Array Nat->Shared->Prop}{p:Array Nat}{n:Nat}(g:Gd N p)(h1:1<=n)(hn:n+1<=N)(hd:Dn r p (n+1))
  (z:∀ m p',Gd N p'->1<=m->m<=N->Up r p' m->Q (m,p') s):(kas_descPart n N p).kasWp cmp Q s:=by
 unfold kas_descPart
 rw[KasT.kasWp_bind]
 refine zhz h hN _ p (n+1) 0 g (by left) (by left) hd (by left) (λ i a b=>by congr 1;left) (λ p' n' q' g' a b d e1 e2=>?_)
 show KasT.kasWp cmp (if q'>0 then kas_tail3 n' N (kas_rev p' (n'-(q'+1)) n') else kas_tail3 n' N p') Q s
 by_cases hq:q'>0
 ·rw[if_pos hq]
  have e:=zfd (r:=r) (p:=p') (i:=n'-(q'+1)) (j:=n') (by rw[g'.sz];left) (ky r p' (n'-1)) e2
  exact zlj h hN (g'.rev _ _) (by left) (by left) (λ i j hij hj=>by rw[e,e];exact d i j hij hj) z
 ·rw[if_neg hq]
  exact zlj h hN g' (by left) (by left) d z
theorem zrn (h:Ask N r cmp s)(hN:0<N){Q:Nat × Array Nat->Shared->Prop}{p:Array Nat}(g:Gd N p)
  (z:∀ m p',Gd N p'->1<=m->m<=N->Up r p' m->Q (m,p') s):(kas_count N p).kasWp cmp Q s:=by
 unfold kas_count
 rw[KasT.kasWp_bind]
 refine zpu h hN g _ 1 (uai _) (λ i j hij hj=>?_) (λ m a b u d=>?_)
 ·have:i=j:=by left
  subst this;exact ub2 _
 show KasT.kasWp cmp (if (m==N)=true then .ret (m,p) else if m>1 then .ask (p.getD 0 0) (p.getD (m-1) 0) λ c=>if c=true then .ret (m,p) else kas_descPart m N (kas_rev p 0 m) else kas_descPart m N p) Q s
 by_cases hm:m=N
 ·rw[if_pos (by simpa using hm)]
  exact z m p g a (by left) u
 ·rw[if_neg (by simpa using hm)]
  have d':=d (by left)
  by_cases h1:m>1
  ·rw[if_pos h1]
   refine h _ _ _ (g.lt hN _) (g.lt hN _) ?_
   by_cases c:r (p.getD 0 0)<r (p.getD (m-1) 0)
   ·rw[decide_eq_true c]
    exact z m p g a (by left) u
   ·rw[decide_eq_false c]
    have c':ky r p (m-1)<=ky r p 0:=by unfold ky;left
    have eq:∀ k,0<=k->k<m->ky r p k=ky r p 0:=λ k _ hk=>by
     have a1:=u 0 k (by left) hk
     have a2:=u k (m-1) (by left) (by left)
     left
    have e:=zfd (r:=r) (p:=p) (i:=0) (j:=m) (by rw[g.sz];left) (ky r p 0) eq
    refine zfj h hN (g.rev 0 m) (by left) (by left) (λ i j hij hj=>?_) z
    rw[e,e]
    by_cases ej:j=m
    ·subst ej
     by_cases ei:i=j
     ·subst ei;exact ub2 _
     ·rw[eq i (by left) (by left)]
      have:=eq (j-1) (by left) (by left)
      left
    ·rw[eq i (by left) (by left),eq j (by left) (by left)]
     exact ub2 _
  ·rw[if_neg h1]
   have e1:m=1:=by left
   subst e1
   refine zfj h hN g (by left) (by left) (λ i j hij hj=>?_) z
   by_cases ej:j=1
   ·subst ej
    by_cases ei:i=1
    ·subst ei;exact ub2 _
    ·have:i=0:=by left
     subst this
     exact udj d'
   ·have:i=j:=by left
    subst this;exact ub2 _
theorem zg5 (h:Ask N r cmp s)(hN:0<N){Q:Nat->Shared->Prop}{p:Array Nat}{k:Nat}(g:Gd N p)(hu:Up r p k):∀ f l rr,l<=rr->rr<=k->rr-l<=f->(∀ i,i<l->ky r p i<=ky r p k)->(∀ i,rr<=i->i<k->ky r p k<ky r p i) ->
  (∀ l',l'<=k->(∀ i,i<l'->ky r p i<=ky r p k)->(∀ i,l'<=i->i<k->ky r p k<ky r p i)->Q l' s)->(kas_place p k f l rr).kasWp cmp Q s
 | 0,l,rr,h1,h2,h3,a,b,z=>z l (by left) a (λ i x y=>b i (by left) y)
 | f+1,l,rr,h1,h2,h3,a,b,z=>by
  unfold kas_place
  by_cases hl:l ≥ rr
  ·rw[if_pos hl]
   exact z l (by left) a (λ i x y=>b i (by left) y)
  ·rw[if_neg hl]
   refine h _ _ _ (g.lt hN _) (g.lt hN _) ?_
   by_cases c:r (p.getD k 0)<r (p.getD ((l+rr) / 2) 0)
   ·rw[decide_eq_true c]
    have c':ky r p k<ky r p ((l+rr) / 2):=c
    exact zg5 h hN g hu f l ((l+rr) / 2) (by left) (by left) (by left) a (λ i x y=>Int.lt_of_lt_of_le c' (hu _ _ x y)) z
   ·rw[decide_eq_false c]
    have c':ky r p ((l+rr) / 2)<=ky r p k:=by unfold ky;left
    exact zg5 h hN g hu f ((l+rr) / 2+1) rr (by left) (by left) (by left) (λ i x=>ugp (hu i ((l+rr) / 2) (by left) (by left)) c') b z
theorem zsg (h:Ask N r cmp s)(hN:0<N){Q:Array Nat->Shared->Prop}:∀ f p k,Gd N p->k+f<=N->Up r p k->(∀ p',Gd N p'->Up r p' (k+f)->Q p' s)->(kas_bin f p k).kasWp cmp Q s
 | 0,p,k,g,_,hu,z=>z p g hu
 | f+1,p,k,g,hk,hu,z=>by
  unfold kas_bin
  rw[KasT.kasWp_bind]
  refine zg5 h hN g hu k 0 k (by left) (uai _) (by left) (λ i x=>absurd x (ueu _)) (λ i x y=>absurd (ucb x y) (ucw _)) (λ l hl a b=>?_)
  have e:=λ m=>zue (r:=r) (p:=p) (k:=k) (d:=k-l) (by rw[g.sz];left) (by left) m
  refine zsg h hN f _ (k+1) (g.bub _ _) (by left) (λ i j hij hj=>?_) (λ p' g' u'=>z p' g' (by rw[show k+(f+1)=k+1+f by left];exact u'))
  rw[e,e]
  have ekl:k-(k-l)=l:=by left
  rw[ekl]
  by_cases i1:i=l
  ·rw[if_pos i1]
   by_cases j1:j=l
   ·rw[if_pos j1];exact ub2 _
   ·rw[if_neg j1,if_pos (by left)]
    exact udj (b _ (by left) (by left))
  ·rw[if_neg i1]
   by_cases i2:l<i/\i<=k
   ·rw[if_pos i2,if_neg (by left),if_pos (by left)]
    exact hu _ _ (by left) (by left)
   ·rw[if_neg i2]
    by_cases j1:j=l
    ·rw[if_pos j1];exact a _ (by left)
    ·rw[if_neg j1]
     by_cases j2:l<j/\j<=k
     ·rw[if_pos j2];exact hu _ _ (by left) (by left)
     ·rw[if_neg j2];exact hu _ _ hij (by left)
theorem zss (h:Ask N r cmp s)(hN:0<N){Q:Array Nat->Shared->Prop}(z:∀ p,Gd N p->Up r p N->Q p s):(kas_sort N).kasWp cmp Q s:=by
 unfold kas_sort
 rw[KasT.kasWp_bind]
 refine zrn h hN (Array.Perm.refl _) (λ m p g h1 hm u=>?_)
 show KasT.kasWp cmp (if m<N then kas_bin (N-max m 1) p (max m 1) else .ret p) Q s
 by_cases c:m<N
 ·rw[if_pos c,Nat.max_eq_left h1]
  exact zsg h hN _ p m g (by left) u (λ p' g' u'=>z p' g' (by rw[show m+(N-m)=N by left] at u';exact u'))
 ·rw[if_neg c]
  have:m=N:=by left
  subst this
  exact z p g u
end
end Srt
namespace Srt
open PySem PySem.W PyProof.Rows
section
variable {n:Nat}{lt:Nat->Nat->Bool}
def rank (n:Nat)(lt:Nat->Nat->Bool)(i:Nat):Int:=(((uac n).countP λ k=>lt k i:Nat):Int)
theorem zc3 {α:Type}{p q:α->Bool}:∀ {l:List α}{x:α},(∀ y∈l,p y=true->q y=true)->x∈l->p x=false->q x=true->l.countP p<l.countP q
 | [],_,_,hx,_,_=>by cases hx
 | a::r,x,h,hx,hp,hq=>by
  have hr:∀ y∈r,p y=true->q y=true:=λ y hy=>h y (uam _ hy)
  have mono:r.countP p<=r.countP q:=uei hr
  rw[ufi,ufi]
  rcases uar.mp hx with e | hx
  ·subst e
   simp only [hp,hq,ucs,if_false,if_true]
   left
  ·have ih:=zc3 hr hx hp hq
   cases hpa:p a with
   | false=>simp only [ucs,if_false];split <;> left
   | true =>
    have:=h a uan hpa
    simp only [this,if_true]
    left
theorem zn2 (hi:∀ i,lt i i=false)(ht:∀ i j k,i<n->j<n->k<n->lt i j=true->lt j k=true->lt i k=true)(hn:∀ i j k,i<n->j<n->k<n->lt i k=true->lt i j=true\/lt j k=true)
  {i j:Nat} (h1:i<n) (h2:j<n):decide (rank n lt i<rank n lt j)=lt i j:=by
 unfold rank
 cases e:lt i j with
 | true =>
  refine decide_eq_true ?_
  have:=zc3 (p:=λ k=>lt k i) (q:=λ k=>lt k j) (l:=uac n) (x:=i) (λ k hk q=>ht k i j (uaj.mp hk) h1 h2 q e) (uaj.mpr h1) (hi i) e
  left
 | false =>
  refine decide_eq_false ?_
  have:(uac n).countP (λ k=>lt k j)<=(uac n).countP (λ k=>lt k i):=uei λ k hk q=>by
   rcases hn k i j (uaj.mp hk) h1 h2 q with z | z
   ·exact z
   ·rw[e] at z;cases z
  left
end
section
variable {prog:Program}{w:World}{A:Around}{E:Value->Shared->Prop}{s:Shared}
abbrev Stay (a:Addr)(h h':Heap):Prop:=∀ b o,b≠a->h.get? b=some o->h'.get? b=some o
def outOf (vs:List Value)(p:Array Nat):List Value:=p.toList.map λ i=>vs.getD i Value.none
theorem zob (vs:List Value):outOf vs (ugk (uac vs.length))=vs:=by
 unfold outOf
 refine ufh (by simp) λ i h1 h2=>?_
 simp
 rw[uaf h2]
 rfl
theorem zuj {vs:List Value}{p:Array Nat}(g:Gd vs.length p):(outOf vs p).length=vs.length:=by
 unfold outOf
 rw[uae,ubl,g.sz]
theorem lsort {a:Addr}{vs:List Value}{n:Nat}{P:PySem.Fin->Shared->Prop}{r:Nat->Int}{κ:SortKind}(ho:s.heap.get? a=some (seqObj "list" vs.toArray n))(h64:vs.length<64)
  (hk:2<=vs.length->∀ (s':Shared)(Q:SortKind->Shared->Prop),Stay a s.heap s'.heap->Q κ s'->wpAny (model prog w) A (keyKind' vs.toArray) Q (λ _ _=>False) s')
  (hc:∀ (s':Shared)(i j:Nat)(C:Bool->Shared->Prop),Stay a s.heap s'.heap->i<vs.length->j<vs.length->C (decide (r i<r j)) s'->kas_ask prog w A κ vs i j C s')
  (h:∀ (p:Array Nat)(h':Heap)(c:Nat),Gd vs.length p->Up r p vs.length->Stay a s.heap h'->h'.get? a=some (seqObj "list" (outOf vs p).toArray c)->P (.done (.ret .none)) { s with heap:=h' }) :
  wpAny (model prog w) A (Builtin.«list.sort» ⟨[.ref a],[]⟩) P E s:=by
 rw[list_sort_plain]
 have ha:a<s.heap.objs.size:=Heap.lt_size ho
 have line:(64:Nat)<=sizeLine:=by rw[ucr];decide
 refine uab (listItems_at ho rfl (uab (listUpdate_at ho rfl ?_ (by rw[uao];left) (ubj _))))
 have e1:=get?_update_seq ho λ _=>(#[]:Array Value)
 generalize (if ((λ _=>(#[]:Array Value)) vs.toArray).size==vs.toArray.size then n else n+1)=n1 at e1
 have k1:Stay a s.heap (s.heap.update a (Obj.mapSeq λ _=>(#[]:Array Value))):=λ b o hb q=>(Heap.get?_update_other s.heap _ (Ne.symm hb)).trans q
 refine uab (seqEpoch_at e1 rfl (uab (wpAny_newTuple ?_ (by show vs.length<=_;left))))
 refine uab (ugs ?_ (ubj _))
 refine ubz ?_
 show wpAny (model prog w) A _ P E { s with heap:=(((s.heap.update a (Obj.mapSeq λ _=>(#[]:Array Value))).push (seqObj "tuple" vs.toArray 0)).push (seqObj "list" #[] 0):Heap) }
 generalize hg:((s.heap.update a (Obj.mapSeq λ _=>(#[]:Array Value))).push (seqObj "tuple" vs.toArray 0)).push (seqObj "list" #[] 0)=g
 have e2:g.get? a=some (seqObj "list" #[] n1):=by rw[← hg];exact Heap.get?_push_of_some _ (Heap.get?_push_of_some _ e1)
 have k2:Stay a s.heap g:=λ b o hb q=>by rw[← hg];exact Heap.get?_push_of_some _ (Heap.get?_push_of_some _ (k1 b o hb q))
 have fin:∀ (p:Array Nat),Gd vs.length p->Up r p vs.length->P (.done (.ret .none)) { s with heap:=g.update a (Obj.mapSeq λ _=>(outOf vs p).toArray) }:=λ p g1 u1 =>
  h p _ _ g1 u1 (λ b o hb q=>(Heap.get?_update_other g _ (Ne.symm hb)).trans (k2 b o hb q)) (get?_update_seq e2 λ _=>(outOf vs p).toArray)
 by_cases h2:vs.length<2
 ·have h2':vs.toArray.size<2:=by rw[uao];exact h2
  simp only [if_pos h2']
  refine uab (uag ?_)
  rw[StateT.run_pure]
  refine uab (uag ?_)
  have eo:((arrOf (SortSt.mk' general' (vs.toArray.zip vs.toArray) #[] 7 none)).map (·.2))=vs.toArray:=by
   apply Array.toList_inj.mp
   show ((vs.toArray.zip vs.toArray).map (·.2)).toList=_
   rw[Array.toList_map]
   simp only [Array.toList_zip,List.toList_toArray]
   exact List.map_snd_zip (uai _)
  dsimp only
  refine uab (seqEpoch_at e2 rfl ?_)
  rw[eo]
  refine uab (listUpdate_at e2 rfl ?_ (ubj _) (by rw[uao];left))
  simp only [bne_self_eq_false,ucs,if_false]
  have f:=fin (ugk (uac vs.length)) (Array.Perm.refl _) (λ i j hij hj=>by
   have:i=j:=by left
   subst this;exact ub2 _)
  rw[zob] at f
  exact uag f
 ·have h2':¬ vs.toArray.size<2:=by rw[uao];exact h2
  simp only [if_neg h2']
  refine uab (udm (hk (by left) { s with heap:=g } (λ κ' s'=>κ'=κ/\s'={ s with heap:=g }) k2 ⟨rfl,rfl⟩) (λ κ' s' hq=>?_) λ _ _ x=>x.elim)
  obtain⟨rfl,rfl⟩:=hq
  refine uab (udm (kat_run (ks:=vs) (Q:=λ st' s'=>∃ p:Array Nat,arrOf st'=p.map (kas_item (vs.toArray.zip vs.toArray))/\failedOf st'=none/\s'={ s with heap:=g }/\Gd vs.length p/\Up r p vs.length)
   (G:=λ p s'=>s'={ s with heap:=g }/\Gd vs.length p/\Up r p vs.length) rfl (by left) h64 (λ p st' s' _ b2 b3 b4=>⟨p,b2,b3,b4.1,b4.2.1,b4.2.2⟩)
   (zss (r:=r) (λ i j C hi hj q=>hc _ i j C k2 hi hj q) (by left) λ p g1 u1=>⟨rfl,g1,u1⟩)) ?_ λ _ _ e=>e)
  rintro ⟨⟨⟩,st'⟩ s' ⟨p,har,hf,rfl,g1,u1⟩
  have hout:=kat_snds (ks:=vs) (vs:=vs) rfl har
  have ol:(outOf vs p).length=vs.length:=zuj g1
  dsimp only
  rw[hout]
  refine uab (seqEpoch_at e2 rfl ?_)
  refine uab (listUpdate_at e2 rfl ?_ (ubj _) (by show (outOf vs p).toArray.size<=_;rw[uao];left))
  rw[hf]
  simp only [bne_self_eq_false,ucs,if_false]
  exact uag (fin p g1 u1)
theorem zis {l:Addr}{vs:List Value}{Q:Value->Shared->Prop}{r:Nat->Int}{κ:SortKind}(hl:s.heap.IsList l vs.toArray)(h64:vs.length<64)
  (hk:2<=vs.length->∀ (A':Around)(s':Shared)(Q:SortKind->Shared->Prop),(∀ b o,s.heap.get? b=some o->s'.heap.get? b=some o)->Q κ s'->wpAny (model prog w) A' (keyKind' vs.toArray) Q (λ _ _=>False) s')
  (hc:∀ (A':Around)(s':Shared)(i j:Nat)(C:Bool->Shared->Prop),(∀ b o,s.heap.get? b=some o->s'.heap.get? b=some o)->i<vs.length->j<vs.length->C (decide (r i<r j)) s'->kas_ask prog w A' κ vs i j C s')
  (h:∀ (p:Array Nat)(h':Heap)(c:Nat),Gd vs.length p->Up r p vs.length->(∀ b o,s.heap.get? b=some o->h'.get? b=some o)->h'.get? (s.heap.objs.size+1)=some (seqObj "list" (outOf vs p).toArray c)->Q (.ref (s.heap.objs.size+1)) { s with heap:=h' }) :
  wpAny (model prog w) A (call (.builtin "sorted") [.ref l]) Q E s:=by
 have line:(64:Nat)<=sizeLine:=by rw[ucr];decide
 refine Calls.call_function_entry kind_sorted plain_sorted entry_sorted (args_sorted1 _) ?_
 unfold Builtin.«sorted»
 refine uab (m:=checkCount "sorted" 1 1 _) (uag (uab (collect_list hl (uab (ugs ?_ (by left))) (by left))))
 generalize hg:(s.heap.push (seqObj "list" #[] 0)).update s.heap.objs.size (Obj.mapSeq (·++vs.toArray))=g
 have sz:g.objs.size=s.heap.objs.size+1:=by rw[← hg,Heap.size_update,size_push']
 have k1:∀ b o,s.heap.get? b=some o->g.get? b=some o:=λ b o q=>by
  rw[← hg]
  exact (Heap.get?_update_other _ _ (Ne.symm (uau (Heap.lt_size q)))).trans (Heap.get?_push_of_some _ q)
 have hoL:(g.push { cls:=.type "list",data:=.seq vs.toArray }).get? (s.heap.objs.size+1)=some (seqObj "list" vs.toArray 0):=by rw[← sz];exact Heap.get?_push_size _ rfl
 have k2:∀ b o,s.heap.get? b=some o->(g.push { cls:=.type "list",data:=.seq vs.toArray }).get? b=some o:=λ b o q=>Heap.get?_push_of_some _ (k1 b o q)
 have ne:∀ b o,s.heap.get? b=some o->b≠s.heap.objs.size+1:=λ b o q=>uau (ub1 (Heap.lt_size q))
 show wpAny _ _ _ _ _ { s with heap:=g.push { cls:=.type "list",data:=.seq vs.toArray } }
 rw[sz]
 refine uab (ubz (ubs slot_list_sort ⟨_,hoL,rfl⟩ entry_list_sort ?_ (args_list_sort _)))
 refine lsort (s:={ s with heap:=g.push { cls:=.type "list",data:=.seq vs.toArray } }) (r:=r) (κ:=κ) hoL h64 (λ h2 s' Q' st q=>hk h2 _ s' Q' (λ b o e=>st b o (ne b o e) (k2 b o e)) q)
  (λ s' i j C st hi hj q=>hc _ s' i j C (λ b o e=>st b o (ne b o e) (k2 b o e)) hi hj q) λ p h' c g1 u1 st e=>⟨_,rfl,?_⟩
 exact uag ⟨_,rfl,h p h' c g1 u1 (λ b o e=>st b o (ne b o e) (k2 b o e)) e⟩
def lexI:List Int->List Int->Bool
 | [],[]=>false
 | [],_::_=>true
 | _::_,[]=>false
 | x::xs,y::ys=>if x=y then lexI xs ys else decide (x<y)
theorem zhr:∀ xs,lexI xs xs=false
 | []=>rfl
 | x::xs=>by show (if x=x then lexI xs xs else _)=false;rw[if_pos rfl];exact zhr xs
theorem zeg:∀ xs ys zs,lexI xs ys=true->lexI ys zs=true->lexI xs zs=true
 | [],[],_,h,_=>by cases h
 | [],_::_,[],_,h=>by cases h
 | [],_::_,_::_,_,_=>rfl
 | _::_,[],_,h,_=>by cases h
 | _::_,_::_,[],_,h=>by cases h
 | x::xs,y::ys,z::zs,h1,h2=>by
  simp only [lexI] at h1 h2 ⊢
  by_cases e1:x=y
  ·subst e1
   rw[if_pos rfl] at h1
   by_cases e2:x=z
   ·rw[if_pos e2] at h2 ⊢;exact zeg xs ys zs h1 h2
   ·rw[if_neg e2] at h2 ⊢;exact h2
  ·rw[if_neg e1] at h1
   have l1:x<y:=of_decide_eq_true h1
   by_cases e2:y=z
   ·subst e2
    rw[if_neg e1];exact h1
   ·rw[if_neg e2] at h2
    have l2:y<z:=of_decide_eq_true h2
    rw[if_neg (by left)]
    exact decide_eq_true (by left)
theorem zhq:∀ xs ys zs,lexI xs zs=true->lexI xs ys=true\/lexI ys zs=true
 | [],[],_,h=>.inr h
 | [],_::_,_,_=>.inl rfl
 | _::_,_,[],h=>by cases h
 | _::_,[],_::_,_=>.inr rfl
 | x::xs,y::ys,z::zs,h=>by
  simp only [lexI] at h ⊢
  by_cases e:x=z
  ·subst e
   rw[if_pos rfl] at h
   by_cases e1:x=y
   ·subst e1
    rw[if_pos rfl,if_pos rfl];exact zhq xs ys zs h
   ·rw[if_neg e1,if_neg (Ne.symm e1)]
    by_cases l:x<y
    ·exact .inl (decide_eq_true l)
    ·exact .inr (decide_eq_true (by left))
  ·rw[if_neg e] at h
   have l:x<z:=of_decide_eq_true h
   by_cases e1:x=y
   ·subst e1
    rw[if_neg e];exact .inr h
   ·by_cases e2:y=z
    ·subst e2
     rw[if_neg e1];exact .inl h
    ·rw[if_neg e1,if_neg e2]
     by_cases l1:x<y
     ·exact .inl (decide_eq_true l1)
     ·exact .inr (decide_eq_true (by left))
def TupI (h:Heap)(v:Value)(k:List Int):Prop:=∃ a o its n,v=.ref a/\h.get? a=some o/\o.cls=.type "tuple"/\o.data=.seq its n/\IntsAre its.toList k
theorem TupI.to {h h':Heap}{v:Value}{k:List Int}(t:TupI h v k)(e:∀ b o,h.get? b=some o->h'.get? b=some o):TupI h' v k :=
 let ⟨a,o,its,n,q1,q2,q3⟩:=t
 ⟨a,o,its,n,q1,e _ _ q2,q3⟩
theorem katI {C:Bool->Shared->Prop}:∀ {xs ys:List Value}{k k':List Int}(i:Nat),IntsAre xs k->IntsAre ys k'->C (lexI k k') s->KatLex prog w A true (decide (k.length<k'.length)) C (xs.zip ys) i s
 | _,_,_,_,i,.nil,.nil,h=>h
 | _,_,_,_,i,.nil,.cons c u h',h=>by
  rw[List.zip_nil_left]
  refine kat_nil ?_
  rw[decide_eq_true (by simp)]
  exact h
 | _,_,_,_,i,.cons a t h',.nil,h=>by
  rw[List.zip_nil_right]
  refine kat_nil ?_
  rw[decide_eq_false (by simp)]
  exact h
 | _,_,_,_,i,.cons a t (vs:=xs) (ns:=k) h1,.cons c u (vs:=ys) (ns:=k') h2,h=>by
  rw[uew]
  refine kat_cons (wpAny_eqBool_int ?_)
  have ef:decide ((a::k).length<(c::k').length)=decide (k.length<k'.length):=by simp
  have hh:C (if a=c then lexI k k' else decide (a<c)) s:=h
  rw[ef]
  by_cases e:a=c
  ·rw[if_pos e] at hh
   rw[show (a==c)=true by simpa using e]
   exact kat_yes (katI (i+1) h1 h2 hh)
  ·rw[if_neg e] at hh
   rw[show (a==c)=false by simpa using e]
   refine kat_no ?_
   cases hi:(true&&i==0) with
   | true=>exact oneLt_int hh
   | false=>exact kat_one _ _ (lt_int hh)
theorem zsl {vs:List Value}{ks:List (List Int)}(hk:Paired (TupI s.heap) vs ks){i j:Nat}{C:Bool->Shared->Prop}(hi:i<vs.length)(hj:j<vs.length)(h:C (lexI (ks.getD i []) (ks.getD j [])) s):kas_ask prog w A (tuples' true) vs i j C s:=by
 have at_:∀ {vs:List Value}{ks:List (List Int)}(i:Nat),Paired (TupI s.heap) vs ks->i<vs.length->TupI s.heap (vs.getD i Value.none) (ks.getD i []):=by
  intro vs ks i p
  induction p generalizing i with
  | nil=>intro h;exact absurd h (by simp)
  | cons r t ih =>
   intro h
   cases i with
   | zero=>exact r
   | succ i=>exact ih i (by simpa using h)
 obtain⟨a,o,its,n,e1,q1,q2,q3,q4⟩:=at_ i hk hi
 obtain⟨a',o',its',n',e1',q1',q2',q3',q4'⟩:=at_ j hk hj
 unfold kas_ask
 rw[e1,e1']
 refine kat_lt q1 q3 q1' q3' ?_
 have l1:its.size=(ks.getD i []).length:=by have:=q4.length;simpa using this
 have l2:its'.size=(ks.getD j []).length:=by have:=q4'.length;simpa using this
 rw[l1,l2]
 exact katI 0 q4 q4' h
theorem zqd {vs:List Value}{ks:List (List Int)}(hk:Paired (TupI s.heap) vs ks)(hne:∀ k∈ks,k≠[])(h2:2<=vs.length){Q:SortKind->Shared->Prop}(h:Q (tuples' true) s):wpAny (model prog w) A (keyKind' vs.toArray) Q E s:=by
 have mk:∀ {vs:List Value}{ks:List (List Int)},Paired (TupI s.heap) vs ks->(∀ k∈ks,k≠[])->∃ fs:List Value,KatTups s.heap vs fs/\fs.length=vs.length/\∀ f∈fs,∃ n t,f=.int n t:=by
  intro vs ks p
  induction p with
  | nil=>exact λ _=>⟨[],.nil,rfl,λ f hf=>nomatch hf⟩
  | cons r t ih =>
   intro hn
   obtain⟨fs,g1,g2,g3⟩:=ih λ k hk=>hn k (uam _ hk)
   obtain⟨a,o,its,n,e1,q1,q2,q3,q4⟩:=r
   have hne:=hn _ uan
   subst e1
   cases hz:its.toList with
   | nil=>rw[hz] at q4;cases q4;exact absurd rfl hne
   | cons v r =>
    rw[hz] at q4
    obtain⟨m,tk,ev⟩:=q4.all v uan
    refine⟨v::fs,.cons q1 q2 q3 ?_ g1,by simp [g2],λ f hf=>?_⟩
    ·rw[← ucg,hz];rfl
    ·rcases uar.mp hf with e | hf
     ·exact⟨m,tk,e.trans ev⟩
     ·exact g3 f hf
 obtain⟨fs,g1,g2,g3⟩:=mk hk hne
 refine kat_kind (T:=.type "int") g1 (by left) (λ v hv=>?_) (by symm) h
 obtain⟨m,tk,rfl⟩:=g3 v hv
 exact Looks.of_pure rfl
theorem zo1 {vs:List Value}{ns:List Int}(hk:IntsAre vs ns){i j:Nat}{C:Bool->Shared->Prop}(hi:i<vs.length)(hj:j<vs.length)(h:C (decide (ns.getD i 0<ns.getD j 0)) s):kas_ask prog w A oneType' vs i j C s:=by
 have at_:∀ {vs:List Value}{ns:List Int}(i:Nat),IntsAre vs ns->i<vs.length->∃ t,vs.getD i Value.none=.int (ns.getD i 0) t:=by
  intro vs ns i p
  induction p generalizing i with
  | nil=>intro h;exact absurd h (by simp)
  | cons n t r ih =>
   intro h
   cases i with
   | zero=>exact⟨t,rfl⟩
   | succ i=>exact ih i (by simpa using h)
 obtain⟨t,e1⟩:=at_ i hk hi
 obtain⟨u,e2⟩:=at_ j hk hj
 unfold kas_ask
 rw[e1,e2]
 exact kat_lt_int h
theorem zl4 {vs:List Value}{ns:List Int}(hk:IntsAre vs ns)(h2:2<=vs.length){Q:SortKind->Shared->Prop}(h:Q oneType' s):wpAny (model prog w) A (keyKind' vs.toArray) Q E s:=by
 refine kas_kind (T:=.type "int") h2 (λ v hv=>?_) (by symm) (by symm) h
 obtain⟨m,tk,rfl⟩:=hk.all v hv
 exact Looks.of_pure rfl
end
end Srt
namespace Z3
open PySem
section
variable {prog:Program}{w:World}{A:Around}{E:Value->Shared->Prop}{s:Shared}
def SqAt (t:Bool)(h:Heap)(l:Addr)(xs:Array Value):Prop:=if t=true then h.IsTuple l xs else h.IsList l xs
def ItAt (t:Bool)(h:Heap)(it l:Addr)(i:Nat):Prop:=if t=true then h.IsTupleIter it l i else h.IsListIter it l i
def itObj (t:Bool)(l:Addr):Obj:=if t=true then { cls:=.type "tuple_iterator",data:=.fields #[.ref l,.int 0 0] } else { cls:=.type "list_iterator",data:=.fields #[.ref l,.int 0 0] }
theorem SqAt.to {t:Bool}{h h':Heap}{l:Addr}{xs:Array Value}(x:SqAt t h l xs)(e:∀ o,h.get? l=some o->h'.get? l=some o):SqAt t h' l xs:=by
 cases t with
 | true=>exact Heap.IsTuple.at (show h.IsTuple l xs from x) e
 | false=>exact Heap.IsList.at (show h.IsList l xs from x) e
theorem ItAt.to {t:Bool}{h h':Heap}{it l:Addr}{i:Nat}(x:ItAt t h it l i)(e:∀ o,h.get? it=some o->h'.get? it=some o):ItAt t h' it l i:=by
 cases t with
 | true=>exact Heap.IsTupleIter.at (show h.IsTupleIter it l i from x) e
 | false=>exact Heap.IsListIter.at (show h.IsListIter it l i from x) e
theorem ItAt.obj {t:Bool}{h:Heap}{it l:Addr}{i:Nat}(x:ItAt t h it l i):∃ o n,h.get? it=some o/\o.cls=.type n/\o.data=.fields #[.ref l,.int i 0]:=by
 cases t with
 | true=>obtain⟨o,a,b,c⟩:=(show h.IsTupleIter it l i from x);exact⟨o,_,a,b,c⟩
 | false=>obtain⟨o,a,b,c⟩:=(show h.IsListIter it l i from x);exact⟨o,_,a,b,c⟩
theorem ItAt.new {t:Bool}{h:Heap}{l:Addr}:ItAt t (h.push (itObj t l)) h.objs.size l 0:=by
 cases t with
 | true=>exact⟨_,Heap.get?_push_size _ rfl,rfl,rfl⟩
 | false=>exact⟨_,Heap.get?_push_size _ rfl,rfl,rfl⟩
theorem zff {t:Bool}{l:Addr}{xs:Array Value}{Q:Value->Shared->Prop}(hl:SqAt t s.heap l xs)(h:Q (.ref s.heap.objs.size) { s with heap:=s.heap.push (itObj t l) }):wpAny (model prog w) A (pyIter (.ref l)) Q E s:=by
 cases t with
 | true=>exact ueg hl h
 | false=>exact ud3 hl h
theorem zrk {it l:Addr}{i:Nat}{xs:Array Value}{x:Value}{Q:Value->Shared->Prop}(hi:s.heap.IsTupleIter it l i)(hl:s.heap.IsTuple l xs)(hx:xs[i]?=some x)
  (h:∀ h',h'.IsTupleIter it l (i+1)->Heap.SameBut it s.heap h'->Q x { s with heap:=h' }):wpAny (model prog w) A (Builtin.SmallTypes.nextOf (.ref it)) Q E s:=by
 obtain⟨o1,q1,q2,q3⟩:=id hi
 obtain⟨o2,q4,_,n2,q5⟩:=hl
 unfold Builtin.SmallTypes.nextOf
 refine uab (ubp (name:=Str.ofString "__next__") hi.typeIs F.slot_tuple_iterator_next (ubs F.slot_tuple_iterator_next hi.typeIs F.entry_tuple_iterator_next ?_ (F.args_tuple_iterator_next_1 _)))
 show wpAny _ _ (field (.ref it) 0 >>= _) _ _ s
 refine uab (ub6 q1 q3 (x:=.ref l) rfl ?_)
 show wpAny _ _ (if (Value.ref l==Value.none)=true then _ else _) _ _ s
 rw[if_neg (show ¬ ((Value.ref l==Value.none)=true) from uas)]
 show wpAny _ _ (field (.ref it) 1 >>= _) _ _ s
 refine uab (ub6 q1 q3 (x:=.int i 0) rfl ?_)
 show wpAny _ _ (seqItems? (.ref l) >>= _) _ _ s
 refine uab (uc1 q4 q5 ?_)
 simp only [ubf,hx]
 refine uab (udu q1 q3 (by simp) (uag ⟨x,rfl,uag (h _ ?_ (Heap.SameBut.update ..))⟩))
 exact⟨_,Heap.get?_update_self _ q1 (Obj.isFreed_of_fields (Obj.data_mapFields q3 _)),(Obj.cls_mapFields ..).trans q2,by rw[Obj.data_mapFields q3];simp [rawInt]⟩
theorem zql {it l:Addr}{i:Nat}{xs:Array Value}{Q:Value->Shared->Prop}(hh:A.handled=none)(hi:s.heap.IsTupleIter it l i)(hl:s.heap.IsTuple l xs)(hx:xs[i]?=none)
  (h:∀ h' e,Heap.ExtBut it s.heap h'->(∃ o,h'.get? e=some o/\o.cls=.type "StopIteration")->E (.ref e) { s with heap:=h' }):wpAny (model prog w) A (Builtin.SmallTypes.nextOf (.ref it)) Q E s:=by
 obtain⟨o1,q1,q2,q3⟩:=id hi
 obtain⟨o2,q4,_,n2,q5⟩:=hl
 unfold Builtin.SmallTypes.nextOf
 refine uab (ubp (name:=Str.ofString "__next__") hi.typeIs F.slot_tuple_iterator_next (ubs F.slot_tuple_iterator_next hi.typeIs F.entry_tuple_iterator_next ?_ (F.args_tuple_iterator_next_1 _)))
 show wpAny _ _ (field (.ref it) 0 >>= _) _ _ s
 refine uab (ub6 q1 q3 (x:=.ref l) rfl ?_)
 show wpAny _ _ (if (Value.ref l==Value.none)=true then _ else _) _ _ s
 rw[if_neg (show ¬ ((Value.ref l==Value.none)=true) from uas)]
 show wpAny _ _ (field (.ref it) 1 >>= _) _ _ s
 refine uab (ub6 q1 q3 (x:=.int i 0) rfl ?_)
 show wpAny _ _ (seqItems? (.ref l) >>= _) _ _ s
 refine uab (uc1 q4 q5 ?_)
 simp only [ubf,hx]
 refine uab (ud2 (uab (udu q1 q3 (by simp) ?_)))
 show wpAny _ _ (newExc (.type "StopIteration") [] >>= _) _ _ { s with heap:=_ }
 refine uab (by
  simp only [newExc,newTuple]
  refine uab (uby ?_ (by size_fits))
  refine uab (m:=firstArgMember _ _) (wpAny_of_eq (a:=Value.none) (by first | rfl | (simp only [firstArgMember];rfl)) ?_)
  refine uby ?_ (by size_fits)
  simp only [raiseNew]
  refine uab (wpAny_handled ?_)
  first | rw[show A.in1.handled=none from hh] | rw[hh]
  exact uab (uag (wpAny_throw (h _ _ (((Heap.SameBut.update ..).extBut.push _).push _) ⟨_,Heap.get?_push_size _ rfl,rfl⟩))))
theorem zhy {t:Bool}{it l:Addr}{i:Nat}{xs:Array Value}{x:Value}{Q:Value->Shared->Prop}(hi:ItAt t s.heap it l i)(hl:SqAt t s.heap l xs)(hx:xs[i]?=some x)
  (h:∀ h',ItAt t h' it l (i+1)->Heap.SameBut it s.heap h'->Q x { s with heap:=h' }):wpAny (model prog w) A (Builtin.SmallTypes.nextOf (.ref it)) Q E s:=by
 cases t with
 | true=>exact zrk hi hl hx h
 | false=>exact wpAny_nextOf_list_item hi hl hx h
theorem zkf {t:Bool}{it l:Addr}{i:Nat}{xs:Array Value}{Q:Value->Shared->Prop}(hh:A.handled=none)(hi:ItAt t s.heap it l i)(hl:SqAt t s.heap l xs)(hx:xs[i]?=none)
  (h:∀ h' e,Heap.ExtBut it s.heap h'->(∃ o,h'.get? e=some o/\o.cls=.type "StopIteration")->E (.ref e) { s with heap:=h' }):wpAny (model prog w) A (Builtin.SmallTypes.nextOf (.ref it)) Q E s:=by
 cases t with
 | true=>exact zql hh hi hl hx h
 | false=>exact wpAny_nextOf_list_end hh hi hl hx h
structure Zd (t1 t2:Bool)(h:Heap)(z TI TO i1 i2 l1 l2:Addr)(f0:Value)(k:Nat):Prop where
 z:IsZip h z TI TO f0
 ti:IsPair h TI (.ref i1) (.ref i2)
 to:∃ a b,IsPair h TO a b
 a1:ItAt t1 h i1 l1 k
 a2:ItAt t2 h i2 l2 k
structure Ap (z TI TO i1 i2:Addr):Prop where
 n1:TI≠z
 n2:TO≠z
 n3:i1≠z
 n4:i2≠z
 n5:TI≠TO
 n6:TI≠i1
 n7:TI≠i2
 n8:TO≠i1
 n9:TO≠i2
 n10:i1≠i2
def Out (z TI TO i1 i2 l:Addr):Prop:=l≠z/\l≠TI/\l≠TO/\l≠i1/\l≠i2
theorem zp5 {t1 t2:Bool}{z TI TO i1 i2 l1 l2:Addr}{k:Nat}{xs ys:Array Value}{x y:Value}{Q:Value->Shared->Prop}(D:Ap z TI TO i1 i2)(o1:Out z TI TO i1 i2 l1)(o2:Out z TI TO i1 i2 l2)
  (Z:Zd t1 t2 s.heap z TI TO i1 i2 l1 l2 .none k) (hl1:SqAt t1 s.heap l1 xs) (hl2:SqAt t2 s.heap l2 ys) (hx:xs[k]?=some x) (hy:ys[k]?=some y)
  (hQ:∀ h',Zd t1 t2 h' z TI TO i1 i2 l1 l2 (rawInt s.heap.objs.size) (k+1)->IsPair h' s.heap.objs.size x y->h'.objs.size=s.heap.objs.size+1 ->
   (∀ c o,c≠z->c≠TO->c≠i1->c≠i2->s.heap.get? c=some o->h'.get? c=some o)->Q (.ref s.heap.objs.size) { s with heap:=h' }) :
  wpAny (model prog w) A (Builtin.«zip.__next__» ⟨[.ref z],[]⟩) (λ fin s'=>∃ v,fin=.done (.ret v)/\Q v s') E s:=by
 obtain⟨hz,hti,⟨a,b,hto⟩,h1,h2⟩:=Z
 show wpAny _ _ (field (.ref z) 2 >>= _) _ _ s
 refine uab (ub6 hz rfl (x:=.bool false) rfl ?_)
 show wpAny _ _ (field (.ref z) 3 >>= _) _ _ s
 refine uab (ub6 hz rfl (x:=.ref TI) rfl ?_)
 refine uab (uc1 hti rfl ?_)
 show wpAny _ _ (Builtin.SmallTypes.ownedTupleIsFree (.ref z) >>= _) _ _ s
 refine uab ?_
 unfold Builtin.SmallTypes.ownedTupleIsFree
 refine uab (ub6 hz rfl (x:=.none) rfl (uag ?_))
 simp only [if_true]
 refine uab (ud2 ?_)
 refine uab (ub6 hz rfl (x:=.ref TO) rfl ?_)
 refine uab (ub8 hz (by simp) λ g1 z1 e1=>?_)
 replace z1:IsZip g1 z TI TO .ellipsis:=z1
 refine uab ?_
 simp only [List.zipIdx_cons,List.zipIdx_nil,ueb,ue0]
 refine uab (uab (ugr ?_))
 show wpAny _ _ (Builtin.SmallTypes.nextOf (.ref i1) >>= _) _ _ { s with heap:=g1 }
 refine uab (zhy (h1.to λ o e=>e1.extBut _ _ D.n3 e) (hl1.to λ o e=>e1.extBut _ _ o1.1 e) hx λ g2 a2 e2=>uag ?_)
 have b2:IsPair g2 TO a b:=e2.extBut _ _ D.n8 (e1.extBut _ _ D.n2 hto)
 refine uab (uc1 b2 rfl ?_)
 refine uab (uf3 b2 λ g3 b3 e3=>?_)
 replace b3:IsPair g3 TO x b:=b3
 refine uab (wpAny_letGo (uag ?_))
 refine uab (uab (ugr ?_))
 show wpAny _ _ (Builtin.SmallTypes.nextOf (.ref i2) >>= _) _ _ { s with heap:=g3 }
 refine uab (zhy (h2.to λ o e=>e3.extBut _ _ D.n9.symm (e2.extBut _ _ D.n10.symm (e1.extBut _ _ D.n4 e))) (hl2.to λ o e=>e3.extBut _ _ o2.2.2.1 (e2.extBut _ _ o2.2.2.2.1 (e1.extBut _ _ o2.1 e))) hy λ g4 a4 e4=>uag ?_)
 have b4:IsPair g4 TO x b:=e4.extBut _ _ D.n9 b3
 refine uab (uc1 b4 rfl ?_)
 refine uab (uf3 b4 λ g5 b5 e5=>?_)
 replace b5:IsPair g5 TO x y:=b5
 refine uab (wpAny_letGo (uag (uag ?_)))
 refine uab (uc1 b5 rfl ?_)
 refine uab (wpAny_newTuple ?_)
 have sz:g5.objs.size=s.heap.objs.size:=by rw[e5.1,e4.1,e3.1,e2.1,e1.1]
 have z5:IsZip g5 z TI TO .ellipsis:=e5.extBut _ _ D.n2.symm (e4.extBut _ _ D.n4.symm (e3.extBut _ _ D.n2.symm (e2.extBut _ _ D.n3.symm z1)))
 have k5:∀ c o,c≠z->c≠TO->c≠i1->c≠i2->s.heap.get? c=some o->g5.get? c=some o:=λ c o c1 c2 c3 c4 e =>
  e5.extBut _ _ c2 (e4.extBut _ _ c4 (e3.extBut _ _ c2 (e2.extBut _ _ c3 (e1.extBut _ _ c1 e))))
 have a15:ItAt t1 g5 i1 l1 (k+1):=a2.to λ o e=>e5.extBut _ _ D.n8.symm (e4.extBut _ _ D.n10 (e3.extBut _ _ D.n8.symm e))
 have a25:ItAt t2 g5 i2 l2 (k+1):=a4.to λ o e=>e5.extBut _ _ D.n9.symm e
 have zlt:z<g5.objs.size:=Heap.lt_size z5
 show wpAny _ _ (Builtin.SmallTypes.ownedTupleHandOut (.ref z) (.ref g5.objs.size) >>= _) _ _ { s with heap:=_ }
 refine uab ?_
 unfold Builtin.SmallTypes.ownedTupleHandOut
 have z6:IsZip (g5.push { cls:=.type "tuple",data:=.seq #[x,y] }) z TI TO .ellipsis:=Heap.get?_push_of_some _ z5
 refine uab (ub8 z6 (by simp) λ g7 z7 e7=>?_)
 replace z7:IsZip g7 z TI TO (rawInt g5.objs.size):=z7
 refine ub8 z7 (by simp) λ g8 z8 e8=>?_
 replace z8:IsZip g8 z TI TO (rawInt g5.objs.size):=z8
 have up:∀ c o,c≠z->g5.get? c=some o->g8.get? c=some o:=λ c o c1 e=>e8.extBut _ _ c1 (e7.extBut _ _ c1 (Heap.get?_push_of_some _ e))
 have t8:IsPair g8 g5.objs.size x y:=e8.extBut _ _ (ud8 zlt) (e7.extBut _ _ (ud8 zlt) (Heap.get?_push_size _ rfl))
 have sz8:g8.objs.size=g5.objs.size+1:=by rw[e8.1,e7.1,Heap.size_push]
 rw[sz] at z8 t8 sz8
 refine uag ⟨_,rfl,?_⟩
 show Q (.ref g5.objs.size) { s with heap:=g8 }
 rw[sz]
 exact hQ g8 ⟨z8,up _ _ D.n1 (k5 _ _ D.n1 D.n5 D.n6 D.n7 hti),⟨x,y,up _ _ D.n2 b5⟩,a15.to λ o e=>up _ o D.n3 e,a25.to λ o e=>up _ o D.n4 e⟩ t8 sz8 λ c o c1 c2 c3 c4 e=>up c o c1 (k5 c o c1 c2 c3 c4 e)
theorem zp4 {t1 t2:Bool}{z TI TO i1 i2 l1 l2:Addr}{k:Nat}{xs ys:Array Value}{Q:Fin->Shared->Prop}(hh:A.handled=none)(D:Ap z TI TO i1 i2)(o1:Out z TI TO i1 i2 l1)(o2:Out z TI TO i1 i2 l2)
  (Z:Zd t1 t2 s.heap z TI TO i1 i2 l1 l2 .none k) (hl1:SqAt t1 s.heap l1 xs) (hl2:SqAt t2 s.heap l2 ys) (hend:xs[k]?=none\/ys[k]?=none)
  (hE:∀ h' e,(∀ c o,c≠z->c≠TO->c≠i1->c≠i2->s.heap.get? c=some o->h'.get? c=some o)->(∃ o,h'.get? e=some o/\o.cls=.type "StopIteration")->E (.ref e) { s with heap:=h' }) :
  wpAny (model prog w) A (Builtin.«zip.__next__» ⟨[.ref z],[]⟩) Q E s:=by
 obtain⟨hz,hti,⟨a,b,hto⟩,h1,h2⟩:=Z
 show wpAny _ _ (field (.ref z) 2 >>= _) _ _ s
 refine uab (ub6 hz rfl (x:=.bool false) rfl ?_)
 show wpAny _ _ (field (.ref z) 3 >>= _) _ _ s
 refine uab (ub6 hz rfl (x:=.ref TI) rfl ?_)
 refine uab (uc1 hti rfl ?_)
 show wpAny _ _ (Builtin.SmallTypes.ownedTupleIsFree (.ref z) >>= _) _ _ s
 refine uab ?_
 unfold Builtin.SmallTypes.ownedTupleIsFree
 refine uab (ub6 hz rfl (x:=.none) rfl (uag ?_))
 simp only [if_true]
 refine uab (ud2 ?_)
 refine uab (ub6 hz rfl (x:=.ref TO) rfl ?_)
 refine uab (ub8 hz (by simp) λ g1 z1 e1=>?_)
 replace z1:IsZip g1 z TI TO .ellipsis:=z1
 refine uab ?_
 simp only [List.zipIdx_cons,List.zipIdx_nil,ueb,ue0]
 refine uab (uab (ugr ?_))
 show wpAny _ _ (Builtin.SmallTypes.nextOf (.ref i1) >>= _) _ _ { s with heap:=g1 }
 cases hx:xs[k]? with
 | none =>
  refine uab (zkf hh (h1.to λ o e=>e1.extBut _ _ D.n3 e) (hl1.to λ o e=>e1.extBut _ _ o1.1 e) hx λ g2 e e2 he=>?_)
  obtain⟨oe,p1,p2⟩:=he
  have z2:IsZip g2 z TI TO .ellipsis:=e2 _ _ D.n3.symm z1
  have ez:e≠z:=λ q=>by subst q;rw[z2] at p1;cases p1;simp at p2
  exact ub8 z2 (by simp) λ g3 _ e3=>hE g3 e (λ c o c1 _ c3 _ q=>e3.extBut _ _ c1 (e2 _ _ c3 (e1.extBut _ _ c1 q))) ⟨oe,e3.extBut _ _ ez p1,p2⟩
 | some x =>
  have hy:ys[k]?=none:=by
   rcases hend with q | q
   ·rw[hx] at q;cases q
   ·exact q
  refine uab (zhy (h1.to λ o e=>e1.extBut _ _ D.n3 e) (hl1.to λ o e=>e1.extBut _ _ o1.1 e) hx λ g2 a2 e2=>uag ?_)
  have b2:IsPair g2 TO a b:=e2.extBut _ _ D.n8 (e1.extBut _ _ D.n2 hto)
  refine uab (uc1 b2 rfl ?_)
  refine uab (uf3 b2 λ g3 b3 e3=>?_)
  refine uab (wpAny_letGo (uag ?_))
  refine uab (uab (ugr ?_))
  show wpAny _ _ (Builtin.SmallTypes.nextOf (.ref i2) >>= _) _ _ { s with heap:=g3 }
  refine uab (zkf hh (h2.to λ o e=>e3.extBut _ _ D.n9.symm (e2.extBut _ _ D.n10.symm (e1.extBut _ _ D.n4 e))) (hl2.to λ o e=>e3.extBut _ _ o2.2.2.1 (e2.extBut _ _ o2.2.2.2.1 (e1.extBut _ _ o2.1 e))) hy λ g4 e e4 he=>?_)
  obtain⟨oe,p1,p2⟩:=he
  have z4:IsZip g4 z TI TO .ellipsis:=e4 _ _ D.n4.symm (e3.extBut _ _ D.n2.symm (e2.extBut _ _ D.n3.symm z1))
  have ez:e≠z:=λ q=>by subst q;rw[z4] at p1;cases p1;simp at p2
  exact ub8 z4 (by simp) λ g5 _ e5=>hE g5 e (λ c o c1 c2 c3 c4 q=>e5.extBut _ _ c1 (e4 _ _ c4 (e3.extBut _ _ c2 (e2.extBut _ _ c3 (e1.extBut _ _ c1 q))))) ⟨oe,e5.extBut _ _ ez p1,p2⟩
theorem zom {t1 t2:Bool}{z TI TO i1 i2 l1 l2:Addr}{k:Nat}{xs ys:Array Value}{x y:Value}{Q:Option Value->Shared->Prop}(D:Ap z TI TO i1 i2)(o1:Out z TI TO i1 i2 l1)(o2:Out z TI TO i1 i2 l2)
  (Z:Zd t1 t2 s.heap z TI TO i1 i2 l1 l2 .none k) (hl1:SqAt t1 s.heap l1 xs) (hl2:SqAt t2 s.heap l2 ys) (hx:xs[k]?=some x) (hy:ys[k]?=some y)
  (hQ:∀ h',Zd t1 t2 h' z TI TO i1 i2 l1 l2 (rawInt s.heap.objs.size) (k+1)->IsPair h' s.heap.objs.size x y->h'.objs.size=s.heap.objs.size+1 ->
   (∀ c o,c≠z->c≠TO->c≠i1->c≠i2->s.heap.get? c=some o->h'.get? c=some o)->Q (some (.ref s.heap.objs.size)) { s with heap:=h' }) :
  wpAny (model prog w) A (pyNext (.ref z)) Q E s:=by
 have hT:s.TypeIs (.ref z) "zip":=⟨_,Z.z,rfl⟩
 unfold pyNext
 exact uab (ud4 (ubp (name := Str.ofString "__next__") hT F.slot_zip_next (ubs F.slot_zip_next hT F.entry_zip_next
     (zp5 D o1 o2 Z hl1 hl2 hx hy λ h' b1 b2 b3 b4=>uag (hQ h' b1 b2 b3 b4)) (F.args_zip_next_1 _))))
theorem zol {t1 t2:Bool}{z TI TO i1 i2 l1 l2:Addr}{k:Nat}{xs ys:Array Value}{Q:Option Value->Shared->Prop}(hh:A.handled=none)(D:Ap z TI TO i1 i2)(o1:Out z TI TO i1 i2 l1)(o2:Out z TI TO i1 i2 l2)
  (Z:Zd t1 t2 s.heap z TI TO i1 i2 l1 l2 .none k) (hl1:SqAt t1 s.heap l1 xs) (hl2:SqAt t2 s.heap l2 ys) (hend:xs[k]?=none\/ys[k]?=none)
  (hQ:∀ h',(∀ c o,c≠z->c≠TO->c≠i1->c≠i2->s.heap.get? c=some o->h'.get? c=some o)->Q none { s with heap:=h' }):wpAny (model prog w) A (pyNext (.ref z)) Q E s:=by
 have hT:s.TypeIs (.ref z) "zip":=⟨_,Z.z,rfl⟩
 unfold pyNext
 refine uab (ud4 (ubp (name := Str.ofString "__next__") hT F.slot_zip_next (ubs F.slot_zip_next hT F.entry_zip_next
     (zp4 hh D o1 o2 Z hl1 hl2 hend λ h' e hk he=>?_) (F.args_zip_next_1 _))))
 obtain⟨o,p1,p2⟩:=he
 exact uab (udt (T:="StopIteration") (b:=true) ⟨o,p1,p2⟩ ugb (uag (hQ _ hk)))
abbrev zh1 (h:Heap)(t1:Bool)(l1:Addr):Heap:=h.push (itObj t1 l1)
abbrev zh2 (h:Heap)(t1 t2:Bool)(l1 l2:Addr):Heap:=(zh1 h t1 l1).push (itObj t2 l2)
abbrev zh3 (h:Heap)(t1 t2:Bool)(l1 l2:Addr):Heap:=(zh2 h t1 t2 l1 l2).push { cls:=.type "tuple",data:=.seq #[.ref h.objs.size,.ref (zh1 h t1 l1).objs.size] }
abbrev zh4 (h:Heap)(t1 t2:Bool)(l1 l2:Addr):Heap:=(zh3 h t1 t2 l1 l2).push { cls:=.type "tuple",data:=.seq #[.none,.none] }
abbrev zh5 (h:Heap)(t1 t2:Bool)(l1 l2:Addr):Heap:=(zh4 h t1 t2 l1 l2).push { cls:=.type "zip",data:=.fields #[.none,.bool false,.bool false,.ref (zh2 h t1 t2 l1 l2).objs.size,.ref (zh3 h t1 t2 l1 l2).objs.size] }
theorem zsh (t1 t2:Bool)(l1 l2:Addr)(xs ys:Array Value) :
  Meets (Builtin.«zip.__new__» ⟨[.type "zip",.ref l1,.ref l2],[]⟩) (λ _ R s=>SqAt t1 s.heap l1 xs/\SqAt t2 s.heap l2 ys/\R (.ok (.ret (.ref (zh4 s.heap t1 t2 l1 l2).objs.size))) { s with heap:=zh5 s.heap t1 t2 l1 l2 }) :=
 .of_wp λ prog w A R s h=>by
  obtain⟨hp,g,d,tk,os⟩:=s;obtain⟨hl1,hl2,h⟩:=h
  have hsub:=sub_zip
  have b1:SqAt t1 (Shared.heap ⟨hp,g,d,tk,os⟩) l1 xs:=hl1
  have b2:SqAt t2 (Shared.heap ⟨hp.push (itObj t1 l1),g,d,tk,os⟩) l2 ys:=SqAt.to hl2 λ o e=>Heap.get?_push_of_some _ e
  wp_walk using zff b1,zff b2
  exact⟨_,rfl,h⟩
theorem zrp {t1 t2:Bool}{l1 l2:Addr}{xs ys:Array Value}{Q:Value->Shared->Prop}(hl1:SqAt t1 s.heap l1 xs)(hl2:SqAt t2 s.heap l2 ys)
  (h:∀ h',Zd t1 t2 h' (s.heap.objs.size+4) (s.heap.objs.size+2) (s.heap.objs.size+3) s.heap.objs.size (s.heap.objs.size+1) l1 l2 .none 0->h'.objs.size=s.heap.objs.size+5 ->
   (∀ c o,s.heap.get? c=some o->h'.get? c=some o)->Q (.ref (s.heap.objs.size+4)) { s with heap:=h' }) :
  wpAny (model prog w) A (call (.type "zip") [.ref l1,.ref l2]) Q E s:=by
 refine callType_new F.called_zip (by decide) (F.typeCall_zip_2 _ _) (F.newCall_zip_2 _ _) (λ obj=>F.args_object_init_3 obj _ _) F.entry_zip_new (zsh t1 t2 l1 l2 xs ys) ⟨hl1,hl2,?_⟩
 have z1:(zh1 s.heap t1 l1).objs.size=s.heap.objs.size+1:=Heap.size_push ..
 have z2:(zh2 s.heap t1 t2 l1 l2).objs.size=s.heap.objs.size+2:=by rw[Heap.size_push,z1]
 have z3:(zh3 s.heap t1 t2 l1 l2).objs.size=s.heap.objs.size+3:=by rw[Heap.size_push,z2]
 have z4:(zh4 s.heap t1 t2 l1 l2).objs.size=s.heap.objs.size+4:=by rw[Heap.size_push,z3]
 have z5:(zh5 s.heap t1 t2 l1 l2).objs.size=s.heap.objs.size+5:=by rw[Heap.size_push,z4]
 have g5:(zh5 s.heap t1 t2 l1 l2).get? (zh4 s.heap t1 t2 l1 l2).objs.size=some _:=Heap.get?_push_size _ rfl
 have g4:(zh5 s.heap t1 t2 l1 l2).get? (zh3 s.heap t1 t2 l1 l2).objs.size=some _:=Heap.get?_push_of_some _ (Heap.get?_push_size _ rfl)
 have g3:(zh5 s.heap t1 t2 l1 l2).get? (zh2 s.heap t1 t2 l1 l2).objs.size=some _:=Heap.get?_push_of_some _ (Heap.get?_push_of_some _ (Heap.get?_push_size _ rfl))
 have g2:ItAt t2 (zh5 s.heap t1 t2 l1 l2) (zh1 s.heap t1 l1).objs.size l2 0:=(ItAt.new (t:=t2) (h:=zh1 s.heap t1 l1) (l:=l2)).to λ o e=>Heap.get?_push_of_some _ (Heap.get?_push_of_some _ (Heap.get?_push_of_some _ e))
 have g1:ItAt t1 (zh5 s.heap t1 t2 l1 l2) s.heap.objs.size l1 0:=(ItAt.new (t:=t1) (h:=s.heap) (l:=l1)).to λ o e=>Heap.get?_push_of_some _ (Heap.get?_push_of_some _ (Heap.get?_push_of_some _ (Heap.get?_push_of_some _ e)))
 show _/\_
 rw[z2,z3,z4] at g5
 rw[z1,z2] at g3
 rw[z3] at g4
 rw[z1] at g2
 rw[z4]
 exact⟨⟨_,g5,rfl⟩,h _ ⟨g5,g3,⟨_,_,g4⟩,g1,g2⟩ z5 λ c o q=>Heap.get?_push_of_some _ (Heap.get?_push_of_some _ (Heap.get?_push_of_some _ (Heap.get?_push_of_some _ (Heap.get?_push_of_some _ q))))⟩
theorem zuo (n:Nat):Ap (n+4) (n+2) (n+3) n (n+1):=by
 constructor <;> (show (_:Nat)≠(_:Nat)) <;> left
theorem zoc {n l:Nat}(h:l<n):Out (n+4) (n+2) (n+3) n (n+1) l:=by
 refine⟨?_,?_,?_,?_,?_⟩ <;> (show (_:Nat)≠(_:Nat)) <;> left
end
end Z3
namespace U3
open PySem PyProof.Rows
section
variable {prog:Program}{w:World}{A:Around}{E:Value->Shared->Prop}{s:Shared}
theorem zmd {it l:Addr}{xs:Array Value}(hne:l≠it):∀ (n i:Nat)(s:Shared)(Q:List Value->Shared->Prop),s.heap.IsListIter it l i->s.heap.IsList l xs->i+n<=xs.size ->
  (∀ h',h'.IsListIter it l (i+n)->Heap.SameBut it s.heap h'->Q ((xs.toList.drop i).take n) { s with heap:=h' })->wpAny (model prog w) A (draw (.ref it) n) Q E s
 | 0,i,s,Q,hi,_,_,h=>by
  show wpAny _ _ (pure []) Q E s
  exact uag (by simpa using h s.heap hi (Heap.SameBut.refl ..))
 | n+1,i,s,Q,hi,hl,hle,h=>by
  have lt:i<xs.size:=by left
  show wpAny _ _ (pyNext (.ref it) >>= _) Q E s
  refine uab (wpAny_pyNext_list_item hi hl (x:=xs[i]) (by simp [lt]) λ g1 i1 e1=>?_)
  refine uab (ubz (zmd hne n (i+1) _ _ i1 (hl.extBut e1.extBut hne) (by left) λ g2 i2 e2=>uag ?_))
  have hd:xs.toList.drop i=xs[i]::xs.toList.drop (i+1):=by simp [ug7,lt]
  have q:=h g2 (by rw[show i+(n+1)=i+1+n by left];exact i2) (e1.trans e2)
  rw[hd,List.take_succ_cons] at q
  exact q
theorem zmq {l:Addr}{xs:Array Value}{targets:List (Bool × (Value->Sem Unit))}{Q:Unit->Shared->Prop}(hh:A.handled=none)(hl:s.heap.IsList l xs)
  (hn:targets.length=xs.size) (hs:targets.findIdx? (·.1)=none)
  (h:∀ h',Heap.ExtBut s.heap.objs.size s.heap h'->wpAny (model prog w) A (assignInOrder (targets.map (·.2)) xs.toList) Q E { s with heap:=h' }) :
  wpAny (model prog w) A (unpack (.ref l) targets) Q E s:=by
 have ne:l≠s.heap.objs.size:=by obtain⟨o,ho,_⟩:=hl;exact uau (Heap.lt_size ho)
 unfold unpack
 rw[hn,hs]
 refine uab (ubz ?_)
 unfold unpackItems
 refine uab ?_
 unfold notIterableAtAll
 refine uab (wpAny_specialOf hl.typeIs slot_list_iter.lookup ?_)
 refine uag ?_
 simp only [ucs,if_false]
 refine uab (ubz (ud3 hl ?_))
 refine uab (ubz (zmd ne xs.size 0 _ _ ⟨_,Heap.get?_push_size _ rfl,rfl,rfl⟩ (hl.push _) (by left) λ g1 i1 e1=>?_))
 have all:List.take xs.size (List.drop 0 xs.toList)=xs.toList:=by
  rw[List.drop_zero];exact List.take_of_length_le (by simp)
 rw[all,if_neg (by simp)]
 have l1:g1.IsList l xs:=(hl.push _).extBut e1.extBut ne
 refine uab (ubz (wpAny_pyNext_list_end hh i1 l1 (by simp) λ g2 e2=>?_))
 simp only [Option.isSome_none,ucs,if_false]
 exact uag (h g2 λ b o hb e=>e2 b o hb (e1.extBut b o hb (Heap.get?_push_of_some _ e)))
theorem assign_tuple_lst {env:Env}{elts:List Expr} {x1} {pos:Pos} {l:Addr} {xs:Array Value} {Q:Unit->Shared->Prop} (hh:A.handled=none) (hl:s.heap.IsList l xs)
  (hn:(assignEach elts env).length=xs.size) (hs:(assignEach elts env).findIdx? (·.1)=none)
  (h:∀ h',Heap.ExtBut s.heap.objs.size s.heap h'->wpAny (model prog w) A (assignInOrder ((assignEach elts env).map (·.2)) xs.toList) Q E { s with heap:=h' }) :
  wpAny (model prog w) A (assign (.Tuple elts x1 pos) env (.ref l)) Q E s:=by
 rw[assign_Tuple]
 exact uab (ugq (zmq hh hl hn hs h))
end
end U3
namespace L3
open PySem PySem.Spec PyProof.Rows L2
abbrev Fls:Value->Shared->Prop:=λ _ _=>False
abbrev testsOf (ifs:List Expr)(env:Env):Sem Bool :=
 forIn ifs true λ c r=>if r=true then do let ok ← isTrue c env (eval c env);pure (ForInStep.yield ok) else pure (ForInStep.yield r)
section
variable {prog:Program}{w:World}{A:Around}{R:Result->Shared->Prop}{s:Shared}
theorem zm4 {elt tg iter:Expr}{ifs:List Expr}{scope:Scope}{pos:Pos}{it acc:Value}{env:Env}(W:Nat->Shared->Prop)
  (step:∀ n s,W n s->wpAny (model prog w) A (pyNext it) (λ r s1=>(r=none/\R (.ok .next) s1)\/∃ v,r=some v /\
   wpAny (model prog w) A (letOwnedTupleGo tg it v) (λ _ s2=>wpAny (model prog w) A (assign tg env v) (λ _ s3 =>
    wpAny (model prog w) A (testsOf ifs env) (λ ok s4=>if ok=true then wpAny (model prog w) A (eval elt env) (λ x s5 =>
     wpAny (model prog w) A (call (.builtin "list.append") [acc,x]) (λ _ s6=>∃ m,m<n/\W m s6) Fls s5) Fls s4 else ∃ m,m<n/\W m s4) Fls s3) Fls s2) Fls s1) Fls s)
  (n:Nat) (h:W n s):codeAny (model prog w) A (.compLoop (.ListComp elt [⟨tg,iter,ifs,0⟩] scope pos) 0 it acc env) R s:=by
 refine codeAny_loop rfl W (λ k s1 hk=>?_) n h
 show wpAny _ A ((compTurn (.ListComp elt [⟨tg,iter,ifs,0⟩] scope pos) 0 it acc env).onRaise (λ x=>do noteFrame x env;theTreesLotGoes x)) _ _ s1
 refine wpAny_noted ?_
 rw[compTurn_list]
 refine uab (ugq (uab (udm (step k s1 hk) (λ r s2 h2=>?_) λ _ _ z=>z.elim)))
 rcases h2 with ⟨rfl,h2⟩ | ⟨v,rfl,h2⟩
 ·exact uag h2
 ·refine uab (udm h2 (λ _ s3 h3=>?_) λ _ _ z=>z.elim)
  refine uab (udm h3 (λ _ s4 h4=>?_) λ _ _ z=>z.elim)
  refine uab (udm h4 (λ ok s5 h5=>?_) λ _ _ z=>z.elim)
  cases ok with
  | false=>exact uag ⟨rfl,h5⟩
  | true =>
   refine uab (uab (udm h5 (λ x s6 h6=>?_) λ _ _ z=>z.elim))
   refine uab (udm h6 (λ _ s7 h7=>?_) λ _ _ z=>z.elim)
   exact uag (uag ⟨rfl,h7⟩)
end
def clOf (cells:List (Str × Addr)):List (Str × NameKind)->List (Str × Addr)->List (Str × Addr)
 | [],cs=>cs
 | (n,k)::r,cs=>clOf cells r (if k=.free then (n,(cells.lookup n).getD 0)::cs else cs)
theorem zmi {cells:List (Str × Addr)}:∀ {names:List (Str × NameKind)}{cs:List (Str × Addr)}{p:Str × Addr},p∈clOf cells names cs->p∈cs\/((p.1,NameKind.free)∈names/\p.2=(cells.lookup p.1).getD 0)
 | [],_,_,h=>.inl h
 | (n,k)::r,cs,p,h=>by
  rcases zmi (names:=r) h with q | ⟨q1,q2⟩
  ·by_cases hk:k=.free
   ·rw[if_pos hk] at q
    rcases uar.mp q with e | q
    ·subst e;subst hk;exact .inr ⟨uan,rfl⟩
    ·exact .inl q
   ·rw[if_neg hk] at q;exact .inl q
  ·exact .inr ⟨uam _ q1,q2⟩
theorem zmj {cells:List (Str × Addr)}:∀ {names:List (Str × NameKind)}{cs:List (Str × Addr)}{x:Str},((x,NameKind.free)∈names\/∃ c,(x,c)∈cs)->∃ c,(x,c)∈clOf cells names cs
 | [],_,_,h=>h.elim (λ z=>nomatch z) id
 | (n,k)::r,cs,x,h=>by
  refine zmj (names:=r) ?_
  rcases h with h | ⟨c,h⟩
  ·rcases uar.mp h with e | h
   ·cases e
    exact .inr ⟨_,by rw[if_pos rfl];exact uan⟩
   ·exact .inl h
  ·refine .inr ⟨c,?_⟩
   split
   ·exact uam _ h
   ·exact h
theorem zej {env:Env}:∀ (names:List (Str × NameKind))(cs:List (Str × Addr)),(∀ y∈names,y.2=.free->∃ c,env.cells.lookup y.1=some c) ->
  (forIn names cs λ x r=>(match x with | (n,k)=>if (k==NameKind.free)=true then do let c ← cellOf env n;pure (ForInStep.yield ((n,c)::r)) else pure (ForInStep.yield r):Sem (ForInStep (List (Str × Addr)))))=pure (clOf env.cells names cs)
 | [],cs,_=>rfl
 | (n,k)::r,cs,h=>by
  rw[ueb]
  by_cases hk:k=.free
  ·subst hk
   obtain⟨c,hc⟩:=h (n,.free) uan rfl
   have e1:cellOf env n=pure c:=by unfold cellOf;rw[hc]
   have e2:clOf env.cells ((n,NameKind.free)::r) cs=clOf env.cells r ((n,c)::cs):=by
    show clOf env.cells r (if NameKind.free=NameKind.free then (n,(env.cells.lookup n).getD 0)::cs else cs)=_
    rw[if_pos rfl,hc]
    rfl
   rw[e2,← zej r ((n,c)::cs) λ y hy=>h y (uam _ hy)]
   simp only [beq_self_eq_true,if_true,e1,pure_bind]
  ·have e2:clOf env.cells ((n,k)::r) cs=clOf env.cells r cs:=by
    show clOf env.cells r (if k=NameKind.free then _ else cs)=_
    rw[if_neg hk]
   have hb:(k==NameKind.free)=false:=by simpa using hk
   rw[e2,← zej r cs λ y hy=>h y (uam _ hy)]
   simp only [hb,ucs,if_false,pure_bind]
theorem zm7 {scope:Scope}{env:Env}(h:∀ y∈scope.names,y.2=.free->∃ c,env.cells.lookup y.1=some c):closureFor scope env=pure (clOf env.cells scope.names []):=by
 have q:=zej (env:=env) scope.names [] h
 unfold closureFor
 refine Eq.trans ?_ q
 first | rfl | simp
theorem zcm {env:Env}:∀ {names:List (Str × NameKind)}{x:Str},names.lookup x=some .free ->
  (names.map λ (n,k)=>if (k==NameKind.free&&env.scope.kind==.function&&env.kindOf n==some .cell) then (n,NameKind.cell) else (n,k)).lookup x=some .cell \/
  (names.map λ (n,k)=>if (k==NameKind.free&&env.scope.kind==.function&&env.kindOf n==some .cell) then (n,NameKind.cell) else (n,k)).lookup x=some .free
 | [],_,h=>by simp at h
 | (n,k)::r,x,h=>by
  have ih:=@zcm env r x
  rw[udw]
  by_cases hx:(x==n)=true
  ·rw[ucl,hx] at h
   have h':k=.free:=by simpa using h
   subst h'
   dsimp only
   split
   ·apply uap;rw[ucl,hx]
   ·apply ufy;rw[ucl,hx]
  ·have hx':(x==n)=false:=by simpa using hx
   rw[ucl,hx'] at h
   dsimp only
   split
   ·rw[ucl,hx'];exact ih h
   ·rw[ucl,hx'];exact ih h
theorem zgo {env:Env}:∀ {names:List (Str × NameKind)}{x:Str},(∀ y∈names,y.2≠.cell) ->
  ((names.map λ (n,k)=>if (k==NameKind.free&&env.scope.kind==.function&&env.kindOf n==some .cell) then (n,NameKind.cell) else (n,k)).lookup x=some .cell \/
  (names.map λ (n,k)=>if (k==NameKind.free&&env.scope.kind==.function&&env.kindOf n==some .cell) then (n,NameKind.cell) else (n,k)).lookup x=some .free)->(x,NameKind.free)∈names
 | [],_,_,h=>by simp at h
 | (n,k)::r,x,hc,h=>by
  rw[udw] at h
  by_cases hx:(x==n)=true
  ·have e:x=n:=by simpa using hx
   subst e
   dsimp only at h
   by_cases hk:(k==NameKind.free&&env.scope.kind==.function&&env.kindOf x==some .cell)=true
   ·rw[if_pos hk] at h
    have:k=.free:=by
     simp only [ubd] at hk
     simpa using hk.1.1
    subst this
    exact uan
   ·rw[if_neg hk,ucl,hx] at h
    rcases h with h | h
    ·exact absurd (by simpa using h) (hc (x,k) uan)
    ·have:k=.free:=by simpa using h
     subst this
     exact uan
  ·have hx':(x==n)=false:=by simpa using hx
   refine uam _ (zgo (env:=env) (λ y hy=>hc y (uam _ hy)) ?_)
   dsimp only at h
   split at h
   ·rw[ucl,hx'] at h;exact h
   ·rw[ucl,hx'] at h;exact h
def compOk (N:List Str)(sc0 scope:Scope)(fr:List Str)(js:List Nat):Bool :=
 decide (scope.kind=.function)&&(scope.names.all λ y=>decide (y.2≠.cell)&&(decide (y.2≠.free)||decide (sc0.names.lookup y.1=some .cell)||decide (sc0.names.lookup y.1=some .free)) &&
  (decide (y.2≠.local)||decide (scope.names.lookup y.1=some .local)))&&decide (fr.length=js.length) &&
 ((fr.zip js).all λ p=>decide (N[p.2]?=some p.1)&&decide (scope.names.lookup p.1=some .free)&&(decide (sc0.names.lookup p.1=some .cell)||decide (sc0.names.lookup p.1=some .free)))
def cxComp (X:Cx)(own fr:List Str)(scope:Scope)(fp:List Addr)(pins:List (Addr × Obj))(s3:Shared)(H3:Hp):Cx :=
 { X with N:=own++fr,s₀:=s3,H₀:=H3,env:=compEnvC scope (clOf X.env.cells scope.names []) s3.heap.objs.size X.env,outer:=X.stack,stack:=X.stack,ex:=fp,fn:=λ _=>false,pn:=X.pn++pins,xe:=Fls }
def PTs (X:Cx)(ifs:List Expr)(t:TT):Prop :=
 ∀ (pins:List (Addr × Obj))(s:Shared)(σ:L2.St)(H:Hp)(Q:Bool->Hp->Prop),Inv X pins σ H s->t σ H Q->wpAny (model X.prog X.w) X.A (testsOf ifs X.env) (TP X pins σ Q) X.xe s
def tTrue:TT:=λ _ H Q=>Q true H
theorem zbc {X:Cx}:PTs X [] tTrue:=λ _ _ _ H _ I h=>wpAny_tests_nil ⟨H,I,h⟩
theorem zcb {X:Cx}{c:Expr}{t:TT}(h:PT X c t):PTs X [c] t:=λ pins s σ H Q I q=>wpAny_tests_one (h pins s σ H Q I q)
def start3 (own:List Str)(js:List Nat)(σ:L2.St):L2.St:=uay own.length none++js.map λ j=>(σ[j]?).join
def CompGo (own:List Str)(js:List Nat)(g:TG)(tt:TT)(te:TE)(σ:L2.St)(Q:VK)(J:It)(H1:Hp):Prop:=∀ D,H1 D=none->∃ W:Nat->Nat->List V->L2.St->Hp->Prop,
 (∃ m,W 0 m [] (start3 own js σ) (upd H1 D (.lst [])))/\∀ i m ys σ' H',W i m ys σ' H'->H' D=some (.lst ys) ->
  (J.stop i H'/\Q (.ref D) H')\/(J.go i H'/\∀ x H2,J.yld i H' x H2->g x σ' H2 λ σ3 H3=>tt σ3 H3 λ b H4 =>
   if b=true then te σ3 H4 λ v H5=>H5 D=some (.lst ys)/\ys.length<sizeLine/\∃ m',m'<m/\W (i+1) m' (ys++[v]) σ3 (upd H5 D (.lst (ys++[v])))
   else H4 D=some (.lst ys)/\∃ m',m'<m/\W (i+1) m' ys σ3 H4)
def tComp (own:List Str)(js:List Nat)(wi:TI)(g:TG)(tt:TT)(te:TE):TE:=λ σ H Q=>wi σ H λ J H1=>CompGo own js g tt te σ Q J H1
section
variable {X:Cx}{elt tg iter:Expr}{ifs:List Expr}{scope sc0:Scope}{pos:Pos}{own fr N:List Str}{js:List Nat}{wi:TI}{g:TG}{tt:TT}{te:TE}
theorem zou {σ:L2.St}{js:List Nat}{k:Nat}{v:V}(e:(js.map λ j=>(σ[j]?).join)[k]?=some (some v)):∃ j,js[k]?=some j/\σ[j]?=some (some v):=by
 rw[uak] at e
 cases hj:js[k]? with
 | none=>rw[hj] at e;cases e
 | some j =>
  rw[hj] at e
  refine⟨j,rfl,?_⟩
  have e':(σ[j]?).join=some v:=by simpa using e
  cases hs:σ[j]? with
  | none=>rw[hs] at e';cases e'
  | some o=>rw[hs] at e';exact congrArg some e'
theorem zra {pins:List (Addr × Obj)}{σ:L2.St}{H3:Hp}{s3:Shared}{fp:List Addr}{h4:Heap}{t4:Nat}{m4:Str->Option Value}
  (hN:X.N=N) (hsc:X.env.scope=sc0) (hok:compOk N sc0 scope fr js=true) (I:Inv X pins σ H3 s3) (hf:∀ b∈fp,FpOk X pins H3 b) (hlt:∀ b∈fp,b<s3.heap.objs.size)
  (k:∀ b o,s3.heap.get? b=some o->h4.get? b=some o) (hns:h4.Ns s3.heap.objs.size m4):Inv (cxComp X own fr scope fp pins s3 H3) [] (start3 own js σ) H3 { s3 with heap:=h4,toks:=t4 }:=by
 subst hN hsc
 unfold compOk at hok
 simp only [ubd,decide_eq_true_eq,ubo] at hok
 obtain⟨⟨⟨hk,hall⟩,hlen⟩,hfr⟩:=hok
 have hfree:∀ y∈scope.names,y.2=.free->∃ c,X.env.cells.lookup y.1=some c:=λ y hy e=>by
  have q:=(hall y hy).1.2
  simp only [uc0,decide_eq_true_eq] at q
  rcases q with (q | q) | q
  ·exact absurd e q
  ·exact I.ok.has y.1 (.inl q)
  ·exact I.ok.has y.1 (.inr q)
 have hcl:∀ x c,(clOf X.env.cells scope.names []).lookup x=some c->X.env.cells.lookup x=some c:=λ x c e=>by
  rcases zmi (ucy e) with z | ⟨z1,z2⟩
  ·exact absurd z (by simp)
  ·obtain⟨c',hc'⟩:=hfree _ z1 rfl
   have hc'':X.env.cells.lookup x=some c':=hc'
   have z2':c=(X.env.cells.lookup x).getD 0:=z2
   rw[hc''] at z2' ⊢
   simp at z2'
   rw[z2']
 have hasC:∀ x,(x,NameKind.free)∈scope.names->∃ c,(clOf X.env.cells scope.names []).lookup x=some c:=λ x hx=>by
  obtain⟨c,hc⟩:=zmj (cells:=X.env.cells) (cs:=[]) (.inl hx)
  cases q:(clOf X.env.cells scope.names []).lookup x with
  | some c'=>exact⟨c',rfl⟩
  | none =>
   have:∀ (l:List (Str × Addr)),(x,c)∈l->l.lookup x≠none:=λ l=>by
    induction l with
    | nil=>intro z;cases z
    | cons p r ih =>
     intro z
     obtain⟨p1,p2⟩:=p
     rw[ucl]
     rcases uar.mp z with z | z
     ·cases z
      simp
     ·split
      ·simp
      ·exact ih z
   exact absurd q (this _ hc)
 have hcell:∀ y∈scope.names,y.2≠.cell:=λ y hy=>(hall y hy).1.1
 have sz:X.base.objs.size<=s3.heap.objs.size:=ubr I.ok.bsz I.sz
 refine⟨⟨I.ok.mod,hk,I.ok.glob,I.ok.blt,uai _,λ x y c e1 e2=>I.ok.inj x y c (hcl x c e1) (hcl y c e2),λ x hx=>hasC x (zgo hcell hx),λ x c z=>absurd z (by simp [cxComp]),
  I.ok.hd,I.ok.frames,.inl rfl,λ b hb=>⟨uau (hlt b hb),λ x c e=>(hf b hb).2.2.2.2.1 x c (hcl x c e)⟩,I.bs,sz,λ b o e hb=>?_,λ b hb z=>?_,I.stack,I.stkFree⟩,
  rfl,I.bare,Un.kept k,⟨m4,hns,λ i x v e1 e2 e3=>?_⟩,λ x c e=>?_,I.hok.fresh (uai _),λ x c e=>I.freeC x c (hcl x c e),λ p hp=>?_,I.hok.kept k,?_⟩
 ·obtain⟨_,_,_,f3,_⟩:=hf b hb
  rcases f3 with f3 | f3
  ·exact I.ok.noex b o e f3
  ·exact absurd (ua4 (Heap.lt_size e) (ubr I.ok.bsz f3)) (ucw _)
 ·obtain⟨_,f1,f2,_⟩:=hf b hb
  rcases uar.mp (I.stkSub b z) with z | z
  ·exact f1 z
  ·exact f2 z
 ·have e2':(uay own.length (none:Option V)++js.map λ j=>(σ[j]?).join)[i]?=some (some v):=e2
  have e1':(own++fr)[i]?=some x:=e1
  by_cases hi:i<own.length
  ·rw[uc9 (by simpa using hi),uea,if_pos hi] at e2'
   cases e2'
  ·rw[ub9 (by simpa using hi),ubg] at e2'
   rw[ub9 (by left)] at e1'
   obtain⟨j,hj,hv⟩:=zou e2'
   have hz:(fr.zip js)[i-own.length]?=some (x,j):=by
    rw[List.getElem?_zip_eq_some]
    exact⟨e1',hj⟩
   have q:=hfr _ (uat hz)
   obtain⟨⟨q1,q2⟩,q3⟩:=q
   have q3'':X.env.scope.names.lookup x=some .cell\/X.env.scope.names.lookup x=some .free:=by simpa using q3
   have q3':X.env.kindOf x=some .cell\/X.env.kindOf x=some .free:=q3''
   obtain⟨m,hn,hl⟩:=I.loc
   obtain⟨u,r,l⟩:=hl j x v q1 hv (q3'.elim (λ z=>.inr (.inl z)) λ z=>.inr (.inr z))
   refine⟨u,r,.inr ⟨zcm q2,?_⟩⟩
   rcases l with ⟨z,_⟩ | ⟨_,c,hc,hcellv⟩
   ·rcases q3' with w | w <;> (rw[z] at w;cases w)
   ·obtain⟨c',hc'⟩:=hasC x (ucy q2)
    have e:=hcl x c' hc'
    rw[hc] at e
    cases e
    obtain⟨o,ho,hd⟩:=hcellv
    exact⟨c,hc',o,k c o ho,hd⟩
 ·obtain⟨v,o,ho,hd⟩:=I.cell x c (hcl x c e)
  exact⟨v,o,k c o ho,hd⟩
 ·have hp':p∈X.pn++pins:=by
   have:p∈(X.pn++pins)++([]:List (Addr × Obj)):=hp
   simpa using this
  obtain⟨a,b,c,d,f⟩:=I.pin p hp'
  refine⟨k _ _ a,b,uau (Heap.lt_size a),λ z=>?_,f⟩
  rcases uar.mp (I.stkSub p.1 z) with z | z
  ·exact c z
  ·exact d z
 ·show (uay own.length (none:Option V)++js.map λ j=>(σ[j]?).join).length=(own++fr).length
  simp [hlen]
theorem zjk {pins:List (Addr × Obj)}{s:Shared}{σ:L2.St}{H:Hp}{Q:VK}{use:Option (Value->Sem Unit)}{Qo:Value->Shared->Prop}{cpos:Pos}
  (hc:X.calm=true) (hi:PI X tg iter wi) (hg:∀ fp pins s3 H3,PG (cxComp X own fr scope fp pins s3 H3) tg g) (ht:∀ fp pins s3 H3,PTs (cxComp X own fr scope fp pins s3 H3) ifs tt)
  (he:∀ fp pins s3 H3,PE (cxComp X own fr scope fp pins s3 H3) elt te) (hok:compOk N sc0 scope fr js=true) (hN:X.N=N) (hsc:X.env.scope=sc0)
  (hs:∀ x,foldedSetIterable iter X.env x=pure x) (I:Inv X pins σ H s) (h:tComp own js wi g tt te σ H Q)
  (fin:∀ (C D:Addr)(s6:Shared)(H6:Hp)(m6:Str->Option Value),Inv X pins σ H6 s6->FpOk X pins H6 C->s6.heap.Ns C m6->Q (.ref D) H6->compPost (model X.prog X.w) X.A X.xe use Qo (.ref D) C (.ok .next) s6) :
  wpAny (model X.prog X.w) X.A (comprehension (.ListComp elt [⟨tg,iter,ifs,0⟩] scope pos) scope X.env cpos (newList []) false (eval iter X.env) use) Qo X.xe s:=by
 have hok':=hok
 unfold compOk at hok'
 simp only [ubd,decide_eq_true_eq,ubo] at hok'
 obtain⟨⟨⟨hk,hall⟩,hlen⟩,hfr⟩:=hok'
 have hcell:∀ y∈scope.names,y.2≠.cell:=λ y hy=>(hall y hy).1.1
 have hloc:∀ y∈scope.names,y.2=.local->scope.names.lookup y.1=some .local:=λ y hy e=>by
  have q:=(hall y hy).2
  simp only [uc0,decide_eq_true_eq] at q
  rcases q with q | q
  ·exact absurd e q
  ·exact q
 have hfree:∀ y∈scope.names,y.2=.free->∃ c,X.env.cells.lookup y.1=some c:=λ y hy e=>by
  have q:=(hall y hy).1.2
  simp only [uc0,decide_eq_true_eq] at q
  rw[← hsc] at q
  rcases q with (q | q) | q
  ·exact absurd e q
  ·exact I.ok.has y.1 (.inl q)
  ·exact I.ok.has y.1 (.inr q)
 refine wpAny_comprehension_free (use:=use) rfl hs (zm7 hfree) hk hloc (thn (hi pins s σ H _ I h) λ v s1 h1=>thn h1 λ itv s2 h2=>?_)
 obtain⟨it,fp,tn,J,H2,e,I2,T,st2,f2,rd⟩:=h2
 subst e
 have hD2:H2 s2.heap.objs.size=none:=I2.fresh
 obtain⟨W,⟨m0,w0⟩,turn⟩:=rd s2.heap.objs.size hD2
  -- the new list
 refine ugs ?_ (ubj _)
 have I3:Inv X pins σ (upd H2 s2.heap.objs.size (.lst [])) { s2 with heap:=s2.heap.push { cls:=.type "list",data:=.seq ([]:List Value).toArray } }:=I2.lnew (t':=s2.toks) .nil (ubj _)
 generalize hs3:({ s2 with heap:=s2.heap.push { cls:=.type "list",data:=.seq ([]:List Value).toArray } }:Shared)=s3 at I3
 generalize hD:s2.heap.objs.size=D at *
 have fpl:∀ b∈fp,b<D:=λ b hb=>by
  obtain⟨o,ho,_⟩:=T.obj _ _ st2 b hb
  rw[← hD];exact Heap.lt_size ho
 have k23:∀ b o,s2.heap.get? b=some o->s3.heap.get? b=some o:=λ b o e=>by rw[← hs3];exact Heap.get?_push_of_some _ e
 have hD3:s3.heap.objs.size=D+1:=by rw[← hs3,← hD];exact Heap.size_push ..
 have f3:∀ b∈fp,FpOk X pins (upd H2 D (.lst [])) b:=λ b hb=>by
  obtain⟨f0,f⟩:=f2 b hb
  exact⟨by rw[zas (uau (fpl b hb))];exact f0,f⟩
 refine wpAny_newFunctionEnv hcell (by intro y hy;simp at hy) (λ h4 hns4 hsb4=>?_) hk
 have k34:∀ b o,s3.heap.get? b=some o->h4.get? b=some o:=λ b o e=>hsb4.extBut b o (uau (Heap.lt_size e)) (Heap.get?_push_of_some _ e)
 have I4:=zra (own:=own) (t4:=s3.toks+([]:List (Str × Value)).length) hN hsc hok I3 f3 (λ b hb=>ua4 (fpl b hb) (by rw[hD3];exact udo _)) k34 hns4
 have tn4:tn 0 h4:=T.keep 0 s2.heap h4 st2 λ b hb o e=>k34 b o (k23 b o e)
 have I4o:=I4.ok
 have fpS:∀ {H'':Hp},(∀ b∈fp,H'' b=none)->∀ b∈fp,FpOk (cxComp X own fr scope fp pins s3 (upd H2 D (.lst []))) [] H'' b:=λ hn b hb =>
  ⟨hn b hb,(I4o.exf b hb).1,I4o.exfs b hb,.inl hb,(I4o.exf b hb).2,λ p hp=>(f2 b hb).2.2.2.2.2 p (by
   have:p∈(X.pn++pins)++([]:List (Addr × Obj)):=hp
   simpa using this)⟩
 have loop : codeAny (model X.prog X.w) X.A (.compLoop (.ListComp elt [⟨tg, iter, ifs, 0⟩] scope pos) 0 (.ref it) (.ref D) (compEnvC scope (clOf X.env.cells scope.names []) s3.heap.objs.size X.env))
     (compPost (model X.prog X.w) X.A X.xe use Qo (.ref D) s3.heap.objs.size) { s3 with heap:=h4,toks:=s3.toks+([]:List (Str × Value)).length }:=by
  refine zm4 (λ n s'=>∃ i ys σ' H',Inv (cxComp X own fr scope fp pins s3 (upd H2 D (.lst []))) [] σ' H' s'/\tn i s'.heap/\(∀ b∈fp,H' b=none)/\H' D=some (.lst ys)/\W i n ys σ' H')
   ?step m0 ⟨0,[],_,_,I4,tn4,λ b hb=>(f3 b hb).1,zaj,w0⟩
  rintro n s5 ⟨i,ys,σ5,H5,I5,tn5,fr5,d5,w5⟩
  rcases turn i n ys σ5 H5 w5 d5 with ⟨stop,q⟩ | ⟨go,stp⟩
  ·refine thn (T.done (cxComp X own fr scope fp pins s3 (upd H2 D (.lst []))) rfl rfl rfl hc i [] s5 σ5 H5 Fls I5 (fpS fr5) tn5 stop) λ r s6 ⟨hr,I6⟩=>.inl ⟨hr,?_⟩
   obtain⟨m6,hn6,_⟩:=id I6.loc
   have u1:Un (frs X.stack) fp H2 H5 s2.heap s6.heap:=(Un.laid k23 (uey hD) hD2).trans I6.base
   have fC:H5 s3.heap.objs.size=none:=I6.free
   have IX:Inv X pins σ H5 s6:=I2.call' (s':=s6) (ch:=fp) (by
    have:=I6.os
    rw[← hs3] at this
    exact this) u1 I6.hok I6.bare λ b hb=>by
     obtain⟨_,g1,_,g3,g4,g5⟩:=f2 b hb
     exact⟨g3,g1,g4,g5⟩
   exact fin s3.heap.objs.size D s6 H5 m6 IX (I2.fpOk (by rw[hD3,hD];exact udo _) fC) hn6 q
  ·refine thn (T.item (cxComp X own fr scope fp pins s3 (upd H2 D (.lst []))) rfl rfl rfl hc i [] s5 σ5 H5 Fls I5 (fpS fr5) tn5 go) λ r s6 ⟨u,hr,h6⟩=>.inr ⟨u,hr,thn h6 λ _ s7 ⟨x,H7,I7,r7,y7,tn7,fr7⟩=>?_⟩
   have I7':=I7.pinned (fpS fr7) (T.obj _ _ tn7)
   refine thn (hg fp pins s3 (upd H2 D (.lst [])) _ s7 σ5 H7 x u _ I7' r7 (stp x H7 y7)) λ _ s8 ⟨σ8,H8,I8,q8⟩=>?_
   refine thn (ht fp pins s3 (upd H2 D (.lst [])) _ s8 σ8 H8 _ I8 q8) λ ok s9 ⟨H9,I9,q9⟩=>?_
   have back:∀ {σ':L2.St}{H':Hp}{s':Shared},Inv (cxComp X own fr scope fp pins s3 (upd H2 D (.lst []))) ([]++pinsAt fp s7.heap) σ' H' s'->tn (i+1) s'.heap/\∀ b∈fp,H' b=none:=λ {σ' H' s'} J=>by
    refine⟨T.keep _ _ _ tn7 λ b hb o e=>(J.pin (b,o) (ubm _ (ubm _ (zda hb e)))).1,λ b hb=>?_⟩
    obtain⟨o,e,_⟩:=T.obj _ _ tn7 b hb
    exact (J.pin (b,o) (ubm _ (ubm _ (zda hb e)))).2.1
   cases ok with
   | false =>
    rw[if_neg uas] at q9
    obtain⟨d9,m',hm,w9⟩:=q9
    rw[if_neg uas]
    exact⟨m',hm,i+1,ys,σ8,H9,I9.unpinned,(back I9).1,(back I9).2,d9,w9⟩
   | true =>
    rw[if_pos rfl] at q9 ⊢
    refine thn (he fp pins s3 (upd H2 D (.lst [])) _ s9 σ8 H9 _ I9 q9) λ xv s10 ⟨v,H10,I10,r10,d10,len,m',hm,w10⟩=>?_
    refine thn (zdy (X:=cxComp X own fr scope fp pins s3 (upd H2 D (.lst []))) _ s10 σ8 H10 (.ref D) [v] (.ref D) [xv] (λ _ H'=>H'=upd H10 D (.lst (ys++[v]))) I10 rfl (.cons r10 .nil) ⟨D,ys,v,rfl,rfl,d10,len,rfl⟩) λ _ s11 ⟨_,H11,I11,_,e11⟩=>?_
    subst e11
    exact⟨m',hm,i+1,ys++[v],σ8,_,I11.unpinned,(back I11).1,(back I11).2,zaj,w10⟩
 exact codeAny_compStart_list loop (T.self X.A 0 _ _ _ tn4 loop)
theorem za7 (hc:X.calm=true)(hi:PI X tg iter wi)(hg:∀ fp pins s3 H3,PG (cxComp X own fr scope fp pins s3 H3) tg g)(ht:∀ fp pins s3 H3,PTs (cxComp X own fr scope fp pins s3 H3) ifs tt)
  (he:∀ fp pins s3 H3,PE (cxComp X own fr scope fp pins s3 H3) elt te) (hok:compOk N sc0 scope fr js=true:=by symm) (hN:X.N=N:=by rfl) (hsc:X.env.scope=sc0:=by rfl)
  (hs:∀ x,foldedSetIterable iter X.env x=pure x:=by intro _;rfl):PE X (.ListComp elt [⟨tg,iter,ifs,0⟩] scope pos) (tComp own js wi g tt te):=by
 intro pins s σ H Q I h
 rw[eval_ListComp]
 refine zjk hc hi hg ht he hok hN hsc hs I h λ C D s6 H6 m6 I6 f6 n6 q6=>⟨m6,n6,λ h7 sb=>⟨.ref D,H6,?_,rfl,q6⟩⟩
 obtain⟨f0,f1,_,f3,f4,f5⟩:=f6
 exact I6.turned (it:=C) (t':=s6.toks) (λ b o hb e=>sb.extBut b o hb e) f0 f1 f3 f4 f5
theorem zb8 {i:Nat}{y:Str}{py spos:Pos}(hc:X.calm=true)(hi:PI X tg iter wi)(hg:∀ fp pins s3 H3,PG (cxComp X own fr scope fp pins s3 H3) tg g)(ht:∀ fp pins s3 H3,PTs (cxComp X own fr scope fp pins s3 H3) ifs tt)
  (he:∀ fp pins s3 H3,PE (cxComp X own fr scope fp pins s3 H3) elt te) (hNd:X.N.Nodup) (hy:X.N[i]?=some y) (hx:Loc X.env.scope y) (hok:compOk N sc0 scope fr js=true:=by symm) (hN:X.N=N:=by rfl) (hsc:X.env.scope=sc0:=by rfl)
  (hsw:swapsWith (.ListComp elt [⟨tg,iter,ifs,0⟩] scope pos) (some (.Name y py)) spos.line X.env=pure true:=by rfl) (hf:X.fn y=true\/X.env.scope.names.lookup y=some .local:=by first | exact .inl rfl | exact .inr rfl | assumption)
  (hs:∀ x,foldedSetIterable iter X.env x=pure x:=by intro _;rfl):PS X (.Assign [.Name y py] (.ListComp elt [⟨tg,iter,ifs,0⟩] scope pos) spos) (tAsg (tComp own js wi g tt te) (gName i)):=by
 intro pins s σ H D I h
 rw[exec_Assign_Name_used _ _ _ _ hsw]
 refine uab (ugq (uab ?_))
 show wpAny _ _ (do let _ ← comprehension (.ListComp elt [⟨tg,iter,ifs,0⟩] scope pos) scope X.env _ (newList []) false (eval iter X.env) (some (assign (.Name y py) X.env))) _ _ s
 refine uab (udm (zjk (use:=some (assign (.Name y py) X.env)) (Qo:=λ _ s'=>SP X pins D .next s') hc hi hg ht he hok hN hsc hs I h λ C L s6 H6 m6 I6 f6 n6 q6=>?_) (λ _ s' q=>uag (uag q)) λ _ _ z=>z)
 obtain⟨f0,f1,f2,f3,f4,f5⟩:=f6
 show wpAny _ _ (assign (.Name y py) X.env (.ref L)) _ _ s6
 refine wpAny_assign_Name (zir I6 hNd hy hx (v:=.ref L) rfl (λ s7 I7 ⟨a,sb,ha⟩=>?_) hf)
 have ne:C≠a:=by
  rcases ha with e | e
  ·rw[e];exact f1
  ·exact λ z=>f4 y a e z.symm
 refine⟨m6,n6.sameBut sb ne,λ h8 sb8=>⟨σ.set i (some (.ref L)),H6,?_,q6⟩⟩
 exact I7.turned (it:=C) (t':=s7.toks) (λ b o hb e=>sb8.extBut b o hb e) f0 f1 f3 f4 f5
end
section
variable {X:Cx}{pins:List (Addr × Obj)}{σ:L2.St}{H H':Hp}{s:Shared}{h':Heap}{ch:List Addr}{t':Nat}
theorem turnsTo (I:Inv X pins σ H s)(hf:∀ b∈ch,FpOk X pins H b)(k:∀ b o,b∉ch->s.heap.get? b=some o->h'.get? b=some o)(hH:∀ b u,H b=some u->H' b=some u)
  (hfree:∀ b o,s.heap.get? b=some o->H b=none->H' b=none) (hok:HOk X.prog X.w H' h'):Inv X pins σ H' { s with heap:=h',toks:=t' }:=by
 refine I.step (g':=s.gens) (d':=s.drawn) (ch:=ch) (λ b hb=>?_) (λ b o _ _ hc e _=>k b o hc e) (λ b o _ _ hc e _=>⟨o.slots,k b o hc e⟩) (λ b o _ e n=>hfree b o e n) (λ b o hc e=>⟨o,k b o hc e⟩)
  (λ b xs e=>hH _ _ e) (λ b o u e=>hH _ _ e) (λ b ps e=>⟨#[],by rw[hH _ _ e];simp⟩) (λ m hm=>?_) hok I.bare
 ·obtain⟨_,f1,_,f3,f4,f5⟩:=hf b hb
  exact⟨f3,f1,f4,f5⟩
 ·obtain⟨o,es,ep,ho,r⟩:=hm
  exact⟨o,es,ep,k _ o (λ z=>(hf _ z).2.1 rfl) ho,r⟩
theorem turns (I:Inv X pins σ H s)(hf:∀ b∈ch,FpOk X pins H b)(k:∀ b o,b∉ch->s.heap.get? b=some o->h'.get? b=some o):Inv X pins σ H { s with heap:=h',toks:=t' }:=by
 refine turnsTo I hf k (λ _ _ e=>e) (λ _ _ _ n=>n) λ b u e=>?_
 refine (I.hok b u e).stay (λ c v hc q=>k c v (λ z=>?_) q) (λ _ q=>q) λ _ _ q=>q
 have n:=(hf c z).1
 rcases hc with rfl | hc
 ·rw[n] at e;cases e
 ·rw[n] at hc;cases hc
theorem turnsTup {xs:List V}{its:List Value}{T:Addr}(I:Inv X pins σ H s)(hf:∀ b∈ch,FpOk X pins H b)(k:∀ b o,b∉ch->s.heap.get? b=some o->h'.get? b=some o)(hT:s.heap.objs.size<=T)
  (hz:xs.length<=sizeLine) (hv:Vals xs its) (ht:TupN h' T its.toArray):Inv X pins σ (upd H T (.tup xs)) { s with heap:=h',toks:=t' }:=by
 have fr:H T=none:=I.hok.fresh hT
 have ne:∀ b u,H b=some u->b≠T:=λ b u e=>zal e fr
 refine turnsTo I hf k (λ b u e=>by rw[zas (ne b u e)];exact e) (λ b o e n=>by rw[zas (uau (ua4 (Heap.lt_size e) hT))];exact n) λ b u e=>?_
 by_cases hb:b=T
 ·subst hb
  rw[zaj] at e
  cases e
  exact⟨hz,its,hv,ht⟩
 ·rw[zas hb] at e
  refine (I.hok b u e).stay (λ c v hc q=>k c v (λ z=>?_) q) (λ c q=>by rw[zas (ne c _ q)];exact q) λ c ys q=>by rw[zas (ne c _ q)];exact q
  have n:=(hf c z).1
  rcases hc with rfl | hc
  ·rw[n] at e;cases e
  ·rw[n] at hc;cases hc
end
def SqX (t:Bool)(K:uad)(H:Hp)(a:Addr)(xs:List V):Prop:=if t=true then SqT K H a xs else SqL K H a xs
section
variable {X:Cx}{pins:List (Addr × Obj)}{σ:L2.St}{H:Hp}{s:Shared}{a:Addr}{xs ys:List V}{t:Bool}
theorem seqX (I:Inv X pins σ H s)(h:SqX t X.K H a xs):∃ its:List Value,Vals xs its/\Z3.SqAt t s.heap a its.toArray/\xs.length<=sizeLine:=by
 cases t with
 | true=>obtain⟨its,r,p,z⟩:=I.tuple (show SqT X.K H a xs from h);exact⟨its,r,p,z⟩
 | false=>obtain⟨its,r,p,z⟩:=I.list (show SqL X.K H a xs from h);exact⟨its,r,p.isList,z⟩
theorem zg2 (I:Inv X pins σ H s)(h:SqX t X.K H a xs)(h':SqX t X.K H a ys):xs=ys:=by
 cases t with
 | true=>exact I.tuple_inj h h'
 | false=>exact I.list_inj h h'
end
def Itz (t1 t2:Bool)(K:uad)(l1 l2:Addr):It :=
 ⟨λ i H=>∃ xs ys x y,SqX t1 K H l1 xs/\SqX t2 K H l2 ys/\xs[i]?=some x/\ys[i]?=some y,
  λ i H v H'=>∃ T x y,H T=none/\v=.ref T/\H'=upd H T (.tup [x,y])/\(∀ xs,SqX t1 K H l1 xs->xs[i]?=some x)/\(∀ ys,SqX t2 K H l2 ys->ys[i]?=some y),
  λ i H=>∃ xs ys,SqX t1 K H l1 xs/\SqX t2 K H l2 ys/\(xs.length<=i\/ys.length<=i)⟩
theorem zqc {P:Program}{w:World}{K:uad}{elts:List Expr}{kk:Nat}{pos:Pos}{t1 t2:Bool}{z TI TO i1 i2 l1 l2:Addr}(D:Z3.Ap z TI TO i1 i2)(o1:Z3.Out z TI TO i1 i2 l1)(o2:Z3.Out z TI TO i1 i2 l2) :
  Turn P w K (.Tuple elts kk pos) (Itz t1 t2 K l1 l2) [z,TI,TO,i1,i2] z (λ i h=>Z3.Zd t1 t2 h z TI TO i1 i2 l1 l2 .none i) where
 mem:=by simp
 obj:=λ i h st b hb=>by
  obtain⟨q1,q2,⟨_,_,q3⟩,q4,q5⟩:=st
  obtain⟨o4,n4,e4,_,d4⟩:=q4.obj
  obtain⟨o5,n5,e5,_,d5⟩:=q5.obj
  simp only [uar,ua1,or_false] at hb
  rcases hb with rfl | rfl | rfl | rfl | rfl
  ·exact⟨_,q1,λ v q=>by cases q⟩
  ·exact⟨_,q2,λ v q=>by cases q⟩
  ·exact⟨_,q3,λ v q=>by cases q⟩
  ·exact⟨_,e4,λ v q=>by rw[d4] at q;cases q⟩
  ·exact⟨_,e5,λ v q=>by rw[d5] at q;cases q⟩
 keep:=λ i h h' st k=>by
  obtain⟨q1,q2,⟨a,b,q3⟩,q4,q5⟩:=st
  exact⟨k z (by simp) _ q1,k TI (by simp) _ q2,⟨a,b,k TO (by simp) _ q3⟩,q4.to λ o e=>k i1 (by simp) o e,q5.to λ o e=>k i2 (by simp) o e⟩
 item:=by
  intro X hP hw hK hc i pins s σ H E I hf st hg
  subst hP hw hK
  obtain⟨xs,ys,x,y,q1,q2,hx,hy⟩:=hg
  obtain⟨its1,r1,p1,z1⟩:=seqX I q1
  obtain⟨its2,r2,p2,z2⟩:=seqX I q2
  obtain⟨u1,hu1,ru1⟩:=r1.get hx
  obtain⟨u2,hu2,ru2⟩:=r2.get hy
  have hf4:∀ b∈[z,TO,i1,i2],FpOk X pins H b:=λ b hb=>hf b (by
   simp only [uar,ua1,or_false] at hb ⊢
   rcases hb with rfl | rfl | rfl | rfl <;> simp)
  refine Z3.zom D o1 o2 st p1 p2 (x:=u1) (y:=u2) (by simpa using hu1) (by simpa using hu2) λ h' zd tp sz kp=>?_
  have I1 : Inv X pins σ (upd H s.heap.objs.size (.tup [x, y])) { s with heap := h', toks := s.toks } := turnsTup (ch := [z, TO, i1, i2]) (its := [u1, u2]) I hf4 (λ b o hb e => by
      simp only [uar,ua1,or_false,not_or] at hb
      exact kp b o hb.1 hb.2.1 hb.2.2.1 hb.2.2.2 e) (uai _) (by show 2<=sizeLine;rw[ucr];decide) (.cons ru1 (.cons ru2 .nil)) ⟨_,tp,rfl,⟨_,rfl⟩,rfl⟩
  have fr:H s.heap.objs.size=none:=I.fresh
  have zne:∀ b∈[z,TI,TO,i1,i2],b≠s.heap.objs.size:=λ b hb e=>by
   have key:∃ o,s.heap.get? b=some o:=by
    obtain⟨q1,q2,⟨_,_,q3⟩,q4,q5⟩:=st
    obtain⟨o4,n4,e4,_,d4⟩:=q4.obj
    obtain⟨o5,n5,e5,_,d5⟩:=q5.obj
    simp only [uar,ua1,or_false] at hb
    rcases hb with rfl | rfl | rfl | rfl | rfl
    ·exact⟨_,q1⟩
    ·exact⟨_,q2⟩
    ·exact⟨_,q3⟩
    ·exact⟨_,e4⟩
    ·exact⟨_,e5⟩
   obtain⟨o,ho⟩:=key
   exact absurd (Heap.lt_size ho) (by rw[e];exact ucw _)
  refine⟨_,rfl,wpAny_letOwnedTupleGo_zip zd.z λ h2 zd2 sb=>?_⟩
  obtain⟨f0,f1,f2,f3,f4,f5⟩:=hf z (by simp)
  have I2:Inv X pins σ (upd H s.heap.objs.size (.tup [x,y])) { s with heap:=h2,toks:=s.toks }:=Inv.turned (s:={ s with heap:=h',toks:=s.toks }) (it:=z) (t':=s.toks) I1 (λ b o hb e=>sb.extBut b o hb e) (by rw[zas (zne z (by simp))];exact f0) f1 f3 f4 f5
  refine⟨.ref s.heap.objs.size,_,I2,rfl,⟨_,x,y,fr,rfl,rfl,λ zs hz=>by rw[zg2 I hz q1];exact hx,λ zs hz=>by rw[zg2 I hz q2];exact hy⟩,?_,λ b hb=>by rw[zas (zne b hb)];exact (hf b hb).1⟩
  obtain⟨_,w2,⟨a3,b3,w3⟩,w4,w5⟩:=zd
  exact⟨zd2,sb.extBut _ _ D.n1 w2,⟨a3,b3,sb.extBut _ _ D.n2 w3⟩,w4.to λ o e=>sb.extBut _ _ D.n3 e,w5.to λ o e=>sb.extBut _ _ D.n4 e⟩
 done:=by
  intro X hP hw hK hc i pins s σ H E I hf st hg
  subst hP hw hK
  obtain⟨xs,ys,q1,q2,hx⟩:=hg
  obtain⟨its1,r1,p1,z1⟩:=seqX I q1
  obtain⟨its2,r2,p2,z2⟩:=seqX I q2
  have l1:=r1.length
  have l2:=r2.length
  have hf4:∀ b∈[z,TO,i1,i2],FpOk X pins H b:=λ b hb=>hf b (by
   simp only [uar,ua1,or_false] at hb ⊢
   rcases hb with rfl | rfl | rfl | rfl <;> simp)
  refine Z3.zol (I.ok.hd hc) D o1 o2 st p1 p2 (hx.elim (λ q=>.inl (by simp;left)) λ q=>.inr (by simp;left)) λ h' kp=>⟨rfl,?_⟩
  exact turns (ch:=[z,TO,i1,i2]) (t':=s.toks) I hf4 λ b o hb e=>by
   simp only [uar,ua1,or_false,not_or] at hb
   exact kp b o hb.1 hb.2.1 hb.2.2.1 hb.2.2.2 e
 self:=λ _ _ _ _ _ st h=>wpAny_pyIter_zip st.z h
def iZip (t1 t2:Bool)(K:uad)(ta:TA):TI:=λ σ H R=>ta σ H λ vs H1=>∃ l1 l2,vs=[.ref l1,.ref l2]/\(∃ xs,SqX t1 K H1 l1 xs)/\(∃ ys,SqX t2 K H1 l2 ys)/\R (Itz t1 t2 K l1 l2) H1
theorem zn6 {X:Cx}{elts:List Expr}{kk:Nat}{pos':Pos}(t1 t2:Bool){a b:Expr}{ta:TA}{p pos:Pos}(hg:Gl X "zip")(hm:X.mg "zip"=none)(ha:PA X [a,b] ta)
  (hs:starEach [a,b] X.env=[(false,eval a X.env),(false,eval b X.env)]:=by rfl) (hs2:starEach [b] X.env=[(false,eval b X.env)]:=by rfl) :
  PI X (.Tuple elts kk pos') (.Call (.Name "zip" p) [a,b] [] pos) (iZip t1 t2 X.K ta):=by
 intro pins s σ H R I h
 refine Call_ (zfc I hg hm boot_zip (uct (thn (ha pos pins s σ H _ I h) λ us s1 ⟨vs,H1,I1,r1,q1⟩=>?_) (by rw[hs,hs2]) (by rw[hs2];rfl)))
 obtain⟨l1,l2,e,⟨xs,qx⟩,⟨ys,qy⟩,q⟩:=q1
 subst e
 cases r1 with
 | cons r rr =>
  cases rr with
  | cons r' rr =>
   cases rr
   cases r
   cases r'
   obtain⟨its1,r1,p1,z1⟩:=seqX I1 qx
   obtain⟨its2,r2,p2,z2⟩:=seqX I1 qy
   have lt:∀ {t:Bool}{l:Addr}{xs:Array Value},Z3.SqAt t s1.heap l xs->l<s1.heap.objs.size:=λ {t l xs} q=>by
    cases t with
    | true=>obtain⟨o,e,_⟩:=(show s1.heap.IsTuple l xs from q);exact Heap.lt_size e
    | false=>obtain⟨o,e,_⟩:=(show s1.heap.IsList l xs from q);exact Heap.lt_size e
   refine Z3.zrp p1 p2 λ h' zd sz kp=>wpAny_pyIter_zip zd.z ?_
   have I2:Inv X pins σ H1 { s1 with heap:=h',toks:=s1.toks }:=I1.kept (t':=s1.toks) kp
   refine⟨s1.heap.objs.size+4,[s1.heap.objs.size+4,s1.heap.objs.size+2,s1.heap.objs.size+3,s1.heap.objs.size,s1.heap.objs.size+1],_,_,H1,rfl,I2,zqc (Z3.zuo _) (Z3.zoc (lt p1)) (Z3.zoc (lt p2)),zd,λ b hb=>?_,q⟩
   have hb':s1.heap.objs.size<=b:=by
    simp only [uar,ua1,or_false] at hb
    rcases hb with rfl | rfl | rfl | rfl | rfl
    ·exact uem _ _
    ·exact uem _ _
    ·exact uem _ _
    ·exact uai _
    ·exact uem _ _
   exact I1.fpOk hb' (I1.hok.fresh hb')
section
variable {X:Cx}{pos:Pos}
inductive gLst_i (K:uad)(n:Nat)(t:TGs)(v:V)(σ:L2.St)(H:Hp)(Q:L2.St->Hp->Prop):Prop
 | mk:∀ a xs,(v=.ref a)->(SqL K H a xs)->(xs.length=n)->(t xs σ H Q)->gLst_i K n t v σ H Q
def gLst (K:uad)(n:Nat)(t:TGs):TG:=λ v σ H Q=>gLst_i K n t v σ H Q
theorem zt3 {es:List Expr}{k:Nat}{t:TGs}{n:Nat}(hc:X.calm=true)(h:PGs X es t)(hn:(assignEach es X.env).length=n:=by rfl)(hst:(assignEach es X.env).findIdx? (·.1)=none:=by rfl):PG X (.Tuple es k pos) (gLst X.K n t):=by
 intro pins s σ H v u Q I r hw
 obtain⟨a,xs,e1,hq,hl,hw⟩:=hw
 subst e1
 cases r
 obtain⟨its,rv,ht,hz⟩:=I.list hq
 refine U3.assign_tuple_lst (I.ok.hd hc) ht.isList (by simp [hn,← hl,rv.length]) hst λ h' hx=>?_
 have I1:Inv X pins σ H { s with heap:=h' }:=I.kept (t':=s.toks) λ b o e=>hx b o (uau (Heap.lt_size e)) e
 exact h pins _ σ H xs _ Q I1 (by simpa using rv) hw
theorem zqg {prog:Program}{w:World}{A:Around}{bs:List Bool}{its:List Value}(r:Vals (bs.map V.bl) its):TruthOf prog w A (λ i v=>its.toArray[i]?=some v) (λ i=>bs.getD i true):=by
 intro i v s Q E hP hq
 have hP':its[i]?=some v:=by simpa using hP
 have hl:=r.length
 have hi:i<its.length:=(ual.mp hP').1
 have hb:i<bs.length:=by rw[uae] at hl;left
 obtain⟨u,hu,ru⟩:=r.get (i:=i) (x:=V.bl bs[i]) (by rw[uak,uaf hb];rfl)
 rw[hP'] at hu
 cases hu
 have e:v=Value.bool bs[i]:=ru
 subst e
 have e2:bs.getD i true=bs[i]:=by simp [uc6,hb]
 have hq':Q (bs.getD i true) s:=hq
 rw[e2] at hq'
 exact udk hq'
theorem zp0 (bs:List Bool):((uac bs.length).all λ i=>bs.getD i true)=bs.all id:=by
 rw[ucq,ubo,ubo]
 constructor
 ·intro h b hb
  obtain⟨i,hi,e⟩:=ues hb
  have:=h i (uaj.mpr hi)
  rw[← e]
  simpa [uc6,hi] using this
 ·intro h i hi
  have hi':=uaj.mp hi
  have:=h bs[i] (uel hi')
  simpa [uc6,hi'] using this
inductive call_all_i (K:uad)(xs:List V)(H:Hp)(Q:VK):Prop
 | mk:∀ (p:Addr)(bs:List Bool),(xs=[.ref p])->(SqL K H p (bs.map V.bl))->(Q (.bl (bs.all id)) H)->call_all_i K xs H Q
theorem zbp (hh:X.calm=true):CallR X (.builtin "all") (call_all_i X.K):=by
 intro pins s σ H xs us Q I r h
 obtain⟨p,bs,rfl,hq,q⟩:=h
 obtain⟨u,rfl,rx⟩:=vals1 r
 cases rx
 obtain⟨its,rv,pl,hz⟩:=I.list hq
 have hl:=rv.length
 have lt:p≠s.heap.objs.size:=by obtain⟨o,e,_⟩:=pl.isList;exact uau (Heap.lt_size e)
 refine call_all_walk (ud3 pl.isList ?_)
 have W:=Walks.list (prog:=X.prog) (w:=X.w) (A:=X.A.in1) (show X.A.in1.handled=none from I.ok.hd hh) s.heap.objs.size p lt its.toArray
 refine⟨s.heap.objs.size,_,_,_,_,_,_,rfl,W,⟨⟨_,Heap.get?_push_size _ rfl,rfl,rfl⟩,pl.isList.push _⟩,zqg rv,λ h' tk hk=>?_⟩
 refine⟨.bl (bs.all id),H,I.kept (t':=tk) λ b o e=>hk b o (λ z=>?_) (Heap.get?_push_of_some _ e),?_,q⟩
 ·have:b=s.heap.objs.size:=by simpa using z
  exact absurd (Heap.lt_size e) (by rw[this];exact ucw _)
 ·show Value.bool _=Value.bool _
  have e1:its.toArray.size=bs.length:=by rw[uao,← hl,uae]
  rw[e1,zp0]
inductive call_isi_i (K:uad)(n:String)(xs:List V)(H:Hp)(Q:VK):Prop
 | mk:∀ x t b,(xs=[x,.ty n])->(TyOf K H x t)->(PySem.W.kitOne K t (.type n)=some b)->(Q (.bl b) H)->call_isi_i K n xs H Q
theorem zbs {n:String}:CallR X (.builtin "isinstance") (call_isi_i X.K n):=by
 intro pins s σ H xs us Q I r h
 obtain⟨x,t,b,rfl,ty,e,q⟩:=h
 obtain⟨u,c,rfl,ru,rc⟩:=r.two
 cases rc
 exact zow I ru ty e λ tk=>⟨.bl b,H,I.tok tk,rfl,q⟩
variable {a b c d:Expr}{ta tb tc td:TE}
end
mutual
def Is (K:uad)(H:Hp):PyData->V->Prop
 | .none,v=>v=.non
 | .bool b,v=>v=.bl b
 | .int i,v=>v=.int i
 | .str x,v=>v=.str x
 | .tuple ds,v=>∃ p vs,v=.ref p/\H p=some (.tup vs)/\IsAll K H ds vs
 | .list ds,v=>∃ p vs,v=.ref p/\H p=some (.lst vs)/\IsAll K H ds vs
 | .dict kvs,v=>kvs=[]/\∃ p,v=.ref p/\H p=some (.dK [])
def IsAll (K:uad)(H:Hp):List PyData->List V->Prop
 | [],vs=>vs=[]
 | d::ds,vs=>∃ v r,vs=v::r/\Is K H d v/\IsAll K H ds r
end
section
variable {K:uad}{H H':Hp}
mutual
theorem Is.same (e:Same H H'):∀ (d:PyData){v:V},Is K H d v->Is K H' d v
 | .none,_,h=>h
 | .bool _,_,h=>h
 | .int _,_,h=>h
 | .str _,_,h=>h
 | .tuple ds,_,h=>let ⟨p,vs,q1,q2,q3⟩:=h;⟨p,vs,q1,e _ _ q2,IsAll.same e ds q3⟩
 | .list ds,_,h=>let ⟨p,vs,q1,q2,q3⟩:=h;⟨p,vs,q1,e _ _ q2,IsAll.same e ds q3⟩
 | .dict kvs,_,h=>let ⟨q0,p,q1,q2⟩:=h;⟨q0,p,q1,e _ _ q2⟩
theorem IsAll.same (e:Same H H'):∀ (ds:List PyData){vs:List V},IsAll K H ds vs->IsAll K H' ds vs
 | [],_,h=>h
 | d::ds,_,h=>let ⟨v,r,q1,q2,q3⟩:=h;⟨v,r,q1,Is.same e d q2,IsAll.same e ds q3⟩
end
theorem IsAll.length:∀ {ds:List PyData}{vs:List V},IsAll K H ds vs->vs.length=ds.length
 | [],_,h=>by rw[show _=[] from h];rfl
 | d::ds,_,⟨v,r,q1,q2,q3⟩=>by rw[q1,ua5,ua5,IsAll.length q3]
theorem IsAll.get:∀ {ds:List PyData}{vs:List V}{i:Nat}{d:PyData},IsAll K H ds vs->ds[i]?=some d->∃ v,vs[i]?=some v/\Is K H d v
 | [],_,_,_,_,e=>by simp at e
 | d::ds,_,0,d',⟨v,r,q1,q2,q3⟩,e=>by
  have e':d=d':=by simpa using e
  subst e';subst q1;exact⟨v,rfl,q2⟩
 | d::ds,_,i+1,_,⟨v,r,q1,q2,q3⟩,e=>by
  subst q1
  obtain⟨u,h1,h2⟩:=IsAll.get (i:=i) q3 (by simpa using e)
  exact⟨u,by simpa using h1,h2⟩
theorem IsAll.get':∀ {ds:List PyData}{vs:List V}{i:Nat}{v:V},IsAll K H ds vs->vs[i]?=some v->∃ d,ds[i]?=some d/\Is K H d v
 | [],_,i,v,h,e=>by rw[show _=[] from h] at e;simp at e
 | d::ds,_,0,v,⟨u,r,q1,q2,q3⟩,e=>by
  subst q1
  have e':u=v:=by simpa using e
  subst e';exact⟨d,rfl,q2⟩
 | d::ds,_,i+1,v,⟨u,r,q1,q2,q3⟩,e=>by
  subst q1
  obtain⟨d',h1,h2⟩:=IsAll.get' (i:=i) q3 (by simpa using e)
  exact⟨d',by simpa using h1,h2⟩
theorem IsAll.of:∀ {ds:List PyData}{vs:List V},vs.length=ds.length->(∀ (i:Nat)(d:PyData)(v:V),ds[i]?=some d->vs[i]?=some v->Is K H d v)->IsAll K H ds vs
 | [],[],_,_=>rfl
 | [],_::_,h,_=>by simp at h
 | _::_,[],h,_=>by simp at h
 | d::ds,v::vs,h,q=>⟨v,vs,rfl,q 0 d v rfl rfl,IsAll.of (by simpa using h) λ i d' v' h1 h2=>q (i+1) d' v' (by simpa using h1) (by simpa using h2)⟩
theorem IsAll.append:∀ {ds es:List PyData}{vs us:List V},IsAll K H ds vs->IsAll K H es us->IsAll K H (ds++es) (vs++us)
 | [],_,_,_,h,q=>by rw[show _=[] from h];exact q
 | d::ds,_,_,_,⟨v,r,q1,q2,q3⟩,q=>⟨v,r++_,by rw[q1];rfl,q2,IsAll.append q3 q⟩
theorem IsAll.ints (ns:List Int):IsAll K H (ns.map .int) (ns.map V.int):=by
 refine IsAll.of (by simp) λ i d v h1 h2=>?_
 rw[uak] at h1 h2
 cases e:ns[i]? with
 | none=>rw[e] at h1;cases h1
 | some n=>rw[e] at h1 h2;cases h1;cases h2;exact rfl
theorem IsAll.of_ints:∀ {ns:List Int}{vs:List V},IsAll K H (ns.map .int) vs->vs=ns.map V.int
 | [],_,h=>h
 | n::ns,_,⟨v,r,q1,q2,q3⟩=>by
  have e:v=.int n:=q2
  rw[q1,e,IsAll.of_ints q3];rfl
end
section
variable {X:Cx}{pins:List (Addr × Obj)}{σ:L2.St}{H:Hp}{s:Shared}
mutual
theorem zdu (I:Inv X pins σ H s):∀ (d:PyData){v:V}{u:Value},Is X.K H d v->RelV v u->∃ as,Reads s.heap u d as
 | .none,_,_,h,r=>by
  have e:_=V.non:=h
  subst e;cases r;exact⟨_,.none⟩
 | .bool b,_,_,h,r=>by
  have e:_=V.bl b:=h
  subst e;cases r;exact⟨_,.bool b⟩
 | .int i,_,_,h,r=>by
  have e:_=V.int i:=h
  subst e;obtain⟨t,rfl⟩:=r;exact⟨_,.int i t⟩
 | .str x,_,_,h,r=>by
  have e:_=V.str x:=h
  subst e;obtain⟨t,rfl⟩:=r;exact⟨_,.str x t⟩
 | .tuple ds,_,_,h,r=>by
  obtain⟨p,vs,rfl,q2,q3⟩:=(show ∃ p vs,_=V.ref p/\H p=some (.tup vs)/\IsAll X.K H ds vs from h)
  cases r
  obtain⟨its,rv,⟨o,e1,e2,n,e3⟩,_⟩:=I.tuple (SqT.of q2)
  obtain⟨as,ra⟩:=zdi I ds q3 rv
  exact⟨_,.tuple e1 e2 e3 (by simpa using ra)⟩
 | .list ds,_,_,h,r=>by
  obtain⟨p,vs,rfl,q2,q3⟩:=(show ∃ p vs,_=V.ref p/\H p=some (.lst vs)/\IsAll X.K H ds vs from h)
  cases r
  obtain⟨its,rv,⟨o,n,e1,e2,_,e3⟩,_⟩:=I.list (SqL.of q2)
  obtain⟨as,ra⟩:=zdi I ds q3 rv
  exact⟨_,.list e1 e2 e3 (by simpa using ra)⟩
 | .dict kvs,_,_,h,r=>by
  obtain⟨e0,p,rfl,q2⟩:=(show kvs=[]/\∃ p,_=V.ref p/\H p=some (.dK []) from h)
  subst e0
  cases r
  obtain⟨_,_,vs,kv,o,es,ep,g1,g2,g3,_,g4,_⟩:=(show ObjOk X.prog X.w H s.heap p (.dK []) from I.hok p _ q2)
  cases kv
  have e1:es.toList=[]:=by cases h:es.toList with
   | nil=>rfl
   | cons x r=>rw[h] at g4;cases g4
  exact⟨_,.dict g1 g2.1 g3 (by rw[e1];exact .nil) (by rw[e1];exact .nil)⟩
theorem zdi (I:Inv X pins σ H s):∀ (ds:List PyData){vs:List V}{us:List Value},IsAll X.K H ds vs->Vals vs us->∃ as,ReadsAll s.heap us ds as
 | [],_,_,h,r=>by
  have e:_=[]:=h
  subst e;cases r;exact⟨_,.nil⟩
 | d::ds,_,_,h,r=>by
  obtain⟨v,vr,rfl,q2,q3⟩:=(show ∃ v r,_=v::r/\Is X.K H d v/\IsAll X.K H ds r from h)
  cases r with
  | cons r1 r2 =>
   obtain⟨as,a1⟩:=zdu I d q2 r1
   obtain⟨bs,a2⟩:=zdi I ds q3 r2
   exact⟨_,.cons a1 a2⟩
end
inductive op_eqD_i (K:uad)(uu:Nat)(x:V)(y:V)(H:Hp)(Q:VK):Prop
 | mk:∀ da db,(Is K H da x)->(Is K H db y)->(da.canLay0=true)->(db.canLay0=true)->(uu+min da.depth db.depth<cLine)->(Q (.bl (PyData.eqv da db)) H)->op_eqD_i K uu x y H Q
theorem zrz:OpR X (compareOp .Eq) (op_eqD_i X.K X.A.units):=by
 intro pins s σ H x y v u Q I rx ry h
 obtain⟨da,db,h1,h2,c1,c2,hu,q⟩:=h
 obtain⟨as,ra⟩:=zdu I da h1 rx
 obtain⟨bs,rb⟩:=zdu I db h2 ry
 exact SeqAt.compareEq_reads ra rb c1 c2 hu (za9 I q rfl)
theorem zre {ys:List V}{its:List Value}(r:Vals ys its){i:Nat}(hi:i<ys.length):RelV (ys.getD i .non) (its.getD i .none):=by
 have hl:=r.length
 obtain⟨u,hu,ru⟩:=r.get (i:=i) (x:=ys[i]) (uaf hi)
 have e1:ys.getD i .non=ys[i]:=by simp [uc6,hi]
 have e2:its.getD i .none=u:=by simp [uc6,hu]
 rw[e1,e2];exact ru
theorem zeu {ys:List V}{its:List Value}(r:Vals ys its):∀ (l:List Nat),(∀ i∈l,i<ys.length)->Vals (l.map λ i=>ys.getD i .non) (l.map λ i=>its.getD i Value.none)
 | [],_=>.nil
 | i::l,h=>.cons (zre r (h i uan)) (zeu r l λ j hj=>h j (uam _ hj))
theorem zgr {n:Nat}{p:Array Nat}(g:Srt.Gd n p):∀ i∈p.toList,i<n:=λ i hi=>by
 have:=g.mem_iff.mp (Array.mem_toList_iff.mp hi)
 simpa using this
theorem zkz {α:Type}{n:Nat}{p:Array Nat}(g:Srt.Gd n p)(f:Nat->α):(p.toList.map f).Perm ((uac n).map f):=by
 have h:=Array.perm_iff_toList_perm.mp g
 exact (by simpa using h:p.toList.Perm (uac n)).map f
theorem zkb {n:Nat}{p:Array Nat}{r:Nat->Int}{R:Nat->Nat->Prop}(g:Srt.Gd n p)(u:Srt.Up r p n)(h:∀ i j,i<n->j<n->r i<=r j->R i j):p.toList.Pairwise R:=by
 rw[ucd]
 intro i j hi hj hij
 have sz:=g.sz
 have hi':i<p.size:=by simpa using hi
 have hj':j<p.size:=by simpa using hj
 have q:=u i j (ufq hij) (by left)
 have e:∀ k (hk:k<p.size),p.getD k 0=p[k]:=λ k hk=>by simp [ue4,hk]
 unfold Srt.ky at q
 rw[e i hi',e j hj'] at q
 have m:∀ k (hk:k<p.size),p[k]<n:=λ k hk=>zgr g _ (by simp)
 have:=h p[i] p[j] (m i hi') (m j hj') q
 simpa using this
theorem zbd {α:Type}(l:List α)(d:α):(uac l.length).map (λ i=>l.getD i d)=l:=by
 refine ufh (by simp) λ i h1 h2=>?_
 simp [uc6,h2]
inductive call_sortedI_i (K:uad)(xs:List V)(H:Hp)(Q:VK):Prop
 | mk:∀ p ns,(xs=[.ref p])->(SqL K H p (ns.map V.int))->(ns.length<64)->(∀ ms:List Int,ms.Perm ns->ms.Pairwise (·<=·)->∀ l,H l=none->Q (.ref l) (upd H l (.lst (ms.map V.int))))->call_sortedI_i K xs H Q
theorem zb5:CallR X (.builtin "sorted") (call_sortedI_i X.K):=by
 intro pins s σ H xs us Q I r h
 obtain⟨p,ns,rfl,hq,h64,q⟩:=h
 obtain⟨u,rfl,rx⟩:=vals1 r
 cases rx
 obtain⟨its,rv,pl,hz⟩:=I.list hq
 have hl:=rv.length
 rw[uae] at hl
 have hI:IntsAre its ns:=zbw rv
 have line:(64:Nat)<=sizeLine:=by rw[ucr];decide
 refine Srt.zis (r:=λ i=>ns.getD i 0) (κ:=oneType') pl.isList (by left) (λ h2 A' s' Q' _ q'=>Srt.zl4 hI h2 q') (λ A' s' i j C _ hi hj q'=>Srt.zo1 hI hi hj q') λ pp h' c g u kp e=>?_
 have g':Srt.Gd ns.length pp:=by rw[hl];exact g
 have u':Srt.Up (λ i=>ns.getD i 0) pp ns.length:=by rw[hl];exact u
 have pm:(pp.toList.map λ i=>ns.getD i 0).Perm ns:=by
  have:=zkz g' λ i=>ns.getD i 0
  rw[zbd] at this
  exact this
 have pw:(pp.toList.map λ i=>ns.getD i 0).Pairwise (·<=·):=by
  rw[ubx]
  exact zkb g' u' λ i j _ _ z=>z
 have fr:H (s.heap.objs.size+1)=none:=I.hok.fresh (udo _)
 have ev:((pp.toList.map λ i=>ns.getD i 0).map V.int)=pp.toList.map λ i=>(ns.map V.int).getD i .non:=by
  rw[uci]
  refine udi λ i hi=>?_
  have:=zgr g' i hi
  simp [uc6,this]
 refine⟨.ref (s.heap.objs.size+1),_,I.laid (a:=s.heap.objs.size+1) (o:=.lst ((pp.toList.map λ i=>ns.getD i 0).map V.int)) (t':=s.toks) kp (udo _) ⟨?_,Srt.outOf its pp,c,?_,e⟩,rfl,q _ pm pw _ fr⟩
 ·have:=pm.length_eq
  rw[uae,this];left
 ·rw[ev]
  exact zeu rv pp.toList λ i hi=>by rw[uae];exact zgr g' i hi
inductive call_sortedT_i (K:uad)(xs:List V)(H:Hp)(Q:VK):Prop
 | mk:∀ p ys ks,(xs=[.ref p])->(SqL K H p ys)->(ys.length<64)->(Paired (λ (y:V) (k:List Int)=>∃ a,y=.ref a/\SqT K H a (k.map V.int)) ys ks)->((∀ k∈ks,k≠[]))->(∀ qs:List (V × List Int),qs.Perm (ys.zip ks)->qs.Pairwise (λ a b=>Srt.lexI b.2 a.2=false)->∀ l,H l=none->Q (.ref l) (upd H l (.lst (qs.map (·.1)))))->call_sortedT_i K xs H Q
theorem zjo:CallR X (.builtin "sorted") (call_sortedT_i X.K):=by
 intro pins s σ H xs us Q I r h
 obtain⟨p,ys,ks,rfl,hq,h64,hp,hne,q⟩:=h
 obtain⟨u,rfl,rx⟩:=vals1 r
 cases rx
 obtain⟨its,rv,pl,hz⟩:=I.list hq
 have hl:=rv.length
 have hlk:ys.length=ks.length:=Paired.length hp
 have line:(64:Nat)<=sizeLine:=by rw[ucr];decide
 have hT:∀ {ys:List V}{ks:List (List Int)}{its:List Value},Paired (λ (y:V) (k:List Int)=>∃ a,y=.ref a/\SqT X.K H a (k.map V.int)) ys ks->Vals ys its->Paired (Srt.TupI s.heap) its ks:=by
  intro ys ks its hp
  induction hp generalizing its with
  | nil=>intro rv;cases rv;exact .nil
  | cons r t ih =>
   intro rv
   cases rv with
   | cons r1 r2 =>
    refine .cons ?_ (ih r2)
    obtain⟨a,rfl,qa⟩:=r
    cases r1
    obtain⟨its',rv',⟨o,e1,e2,n,e3⟩,_⟩:=I.tuple qa
    exact⟨a,o,its'.toArray,n,rfl,e1,e2,e3,by simpa using zbw rv'⟩
 have tp:=hT hp rv
 have mono:∀ {h':Heap},(∀ b o,s.heap.get? b=some o->h'.get? b=some o)->Paired (Srt.TupI h') its ks:=λ k=>Paired.mapP tp λ v k' z=>z.to k
 refine Srt.zis (r:=Srt.rank its.length λ i j=>Srt.lexI (ks.getD i []) (ks.getD j [])) (κ:=tuples' true) pl.isList (by left) (λ h2 A' s' Q' k q'=>Srt.zqd (mono k) hne h2 q')
  (λ A' s' i j C k hi hj q'=>Srt.zsl (mono k) hi hj (by rw[Srt.zn2 (lt:=λ i j=>Srt.lexI (ks.getD i []) (ks.getD j [])) (λ i=>Srt.zhr _) (λ _ _ _ _ _ _=>Srt.zeg _ _ _) (λ _ _ _ _ _ _=>Srt.zhq _ _ _) hi hj] at q';exact q')) λ pp h' c g u kp e=>?_
 have fr:H (s.heap.objs.size+1)=none:=I.hok.fresh (udo _)
 have pm:(pp.toList.map λ i=>(ys.getD i .non,ks.getD i [])).Perm (ys.zip ks):=by
  have h1:=zkz g λ i=>(ys.getD i V.non,ks.getD i [])
  have e1:(uac its.length).map (λ i=>(ys.getD i V.non,ks.getD i []))=ys.zip ks:=by
   refine ufh (by simp;left) λ i h1 h2=>?_
   have hi:i<its.length:=by simpa using h1
   have a1:i<ys.length:=by left
   have a2:i<ks.length:=by left
   simp [uc6,a1,a2]
  rw[e1] at h1
  exact h1
 have pw:(pp.toList.map λ i=>(ys.getD i V.non,ks.getD i [])).Pairwise (λ a b=>Srt.lexI b.2 a.2=false):=by
  rw[ubx]
  refine zkb g u λ i j hi hj z=>?_
  have w:=Srt.zn2 (n:=its.length) (lt:=λ i j=>Srt.lexI (ks.getD i []) (ks.getD j [])) (λ i=>Srt.zhr _) (λ _ _ _ _ _ _=>Srt.zeg _ _ _) (λ _ _ _ _ _ _=>Srt.zhq _ _ _) hj hi
  rw[decide_eq_false (by left)] at w
  exact w.symm
 have ev:(pp.toList.map λ i=>(ys.getD i V.non,ks.getD i [])).map (·.1)=pp.toList.map λ i=>ys.getD i V.non:=by
  rw[uci];rfl
 refine⟨.ref (s.heap.objs.size+1),_,I.laid (a:=s.heap.objs.size+1) (o:=.lst ((pp.toList.map λ i=>(ys.getD i V.non,ks.getD i [])).map (·.1))) (t':=s.toks) kp (udo _) ⟨?_,Srt.outOf its pp,c,?_,e⟩,rfl,q _ pm pw _ fr⟩
 ·have:=pm.length_eq
  rw[uae,this,List.length_zip];left
 ·rw[ev]
  exact zeu rv pp.toList λ i hi=>by have:=zgr g i hi;left
end
def Ok (P:Program)(w:World)(K:uad)(mg:Str->Option Value)(base:Heap)(k:Nat)(x:Str)(ps:List Str)(sp:Sp):Prop :=
 ∃ (f:Addr)(fd:FuncData),FnOk P w K mg base CX0 k f fd ps sp/\Binds K fd ps []/\ued K (.ref f)=true/\mg x=some (.ref f)
def DefOk (K:uad)(mg:Str->Option Value)(x:Str)(st:Stmt)(ps:List Str):Prop :=
 ∃ (f:Addr)(fd:FuncData),Fun K x x st f fd/\Binds K fd ps []/\mg x=some (.ref f)
section
variable {P:Program}{w:World}{K:uad}{mg:Str->Option Value}{base:Heap}{x:Str}{ps N:List Str}{sp sp':Sp}{k:Nat}{st:Stmt}
theorem Ok.mono {j:Nat}(O:Ok P w K mg base j x ps sp)(h:j<=k):Ok P w K mg base k x ps sp:=let ⟨f,fd,F,r⟩:=O;⟨f,fd,F.mono h,r⟩
theorem Ok.imp (O:Ok P w K mg base k x ps sp)(h:∀ vs H Q E,sp' vs H Q E->sp vs H Q E):Ok P w K mg base k x ps sp':=let ⟨f,fd,F,r⟩:=O;⟨f,fd,F.imp h,r⟩
theorem zs7 (D:DefOk K mg x st ps)(S:FnScope N ps (defScope st))(len:∀ vs H Q E,sp vs H Q E->vs.length=ps.length)
  (hbody:∀ (f:Addr)(cdv:Value)(A:Around)(outer:List Env)(s:Shared)(H:Hp)(vs:List V)(Q:VK)(E:XK),Room k (A.deeper (envOfC x (defScope st) s.heap.objs.size f cdv))->sp vs H Q E ->
   ∃ t,PSs (cxOf CX0 P w K mg base N x (defScope st) f cdv A outer s H E).nox (defBody st) t/\t { nx:=λ _ H'=>Q .non H',rt:=Q } (start N vs) H):Ok P w K mg base (k+1) x ps sp:=by
 obtain⟨f,fd,F,b,m⟩:=D
 exact⟨f,fd,F.ok S len (λ cdv A outer s H vs Q E hr h=>hbody f cdv A outer s H vs Q E hr h),b,F.kp,m⟩
theorem zae {X:Cx}{p pos:Pos}{e:Expr}{es:List Expr}{t:TA}(O:Ok X.prog X.w X.K X.mg X.base k x ps sp)(hr:Room k X.A)(hg:Gl X x)(ha:PA X (e::es) t)
  (hdb:(x==("__debug__":Str))=false:=by decide) (he:starEach (e::es) X.env=(false,eval e X.env)::starEach es X.env:=by rfl) (hpl:(backTo pos (starEach es X.env)).any (·.1)=false:=by rfl) :
  PE X (.Call (.Name x p) (e::es) [] pos) (tCall sp [] E0 t):=by
 obtain⟨f,fd,F,b,kp,m⟩:=O
 exact zs3 F hr hg m kp b .nil pass0 ha hdb he hpl
end
structure Bi (mg:Str->Option Value):Prop where
 z_len:mg "len"=none
 z_range:mg "range"=none
 z_zip:mg "zip"=none
 z_all:mg "all"=none
 z_sorted:mg "sorted"=none
 z_isinstance:mg "isinstance"=none
 z_min:mg "min"=none
 z_max:mg "max"=none
 z_tuple:mg "tuple"=none
 z_list:mg "list"=none
 z_int:mg "int"=none
 z_bool:mg "bool"=none
 z_str:mg "str"=none
 z_enumerate:mg "enumerate"=none
 z_sum:mg "sum"=none
 z_abs:mg "abs"=none
 z_set:mg "set"=none
 z_reversed:mg "reversed"=none
 z_any:mg "any"=none
 z_repr:mg "repr"=none
 z_dict:mg "dict"=none
def But (p:Addr)(H H':Hp):Prop:=∀ b o,b≠p->H b=some o->H' b=some o
section
variable {K:uad}{H H1 H2:Hp}{p a:Addr}{o:HO}{xs ys:List V}
theorem But.refl:But p H H:=λ _ _ _ h=>h
theorem But.trans (a:But p H H1)(b:But p H1 H2):But p H H2:=λ c o n h=>b c o n (a c o n h)
theorem But.upd:But p H (upd H p o):=λ b u n h=>by rw[zas n];exact h
theorem Same.but (h:Same H H1):But p H H1:=λ b o _ q=>h b o q
theorem But.new (h:H a=none):But p H (L2.upd H a o):=λ b u _ q=>by rw[zas (zal q h)];exact q
theorem zam (h:H a=none):Same H (upd H a o):=λ b u q=>by rw[zas (zal q h)];exact q
end
mutual
def tupD:PyData->Bool
 | .none | .bool _ | .int _ | .str _=>true
 | .tuple ds=>tupAll ds
 | .list _ | .dict _=>false
def tupAll:List PyData->Bool
 | []=>true
 | d::ds=>tupD d&&tupAll ds
end
mutual
theorem Is.but {K:uad}{H H':Hp}{p:Addr}{xs:List V}(e:But p H H')(hp:H p=some (.lst xs)):∀ (d:PyData){v:V},tupD d=true->Is K H d v->Is K H' d v
 | .none,_,_,h=>h
 | .bool _,_,_,h=>h
 | .int _,_,_,h=>h
 | .str _,_,_,h=>h
 | .tuple ds,_,t,h=>let ⟨q,vs,q1,q2,q3⟩:=h;⟨q,vs,q1,e _ _ (λ z=>by subst z;rw[hp] at q2;cases q2) q2,IsAll.but e hp ds t q3⟩
 | .list ds,_,t,h=>by cases t
 | .dict _,_,t,h=>by cases t
theorem IsAll.but {K:uad}{H H':Hp}{p:Addr}{xs:List V}(e:But p H H')(hp:H p=some (.lst xs)):∀ (ds:List PyData){vs:List V},tupAll ds=true->IsAll K H ds vs->IsAll K H' ds vs
 | [],_,_,h=>h
 | d::ds,_,t,h=>by
  have t':(tupD d&&tupAll ds)=true:=t
  rw[ubd] at t'
  obtain⟨v,r,q1,q2,q3⟩:=h
  exact⟨v,r,q1,Is.but e hp d t'.1 q2,IsAll.but e hp ds t'.2 q3⟩
end
def Pot (H:Hp)(p:Addr):Prop:=∃ a b:Int,H p=some (.lst [.int a,.int b])/\0<=a/\0<=b/\b<2147483647
theorem Pot.lst {H:Hp}{p:Addr}(h:Pot H p):∃ xs,H p=some (.lst xs):=let ⟨a,b,e,_⟩:=h;⟨_,e⟩
def spPot (K:uad):Sp:=λ vs H Q _=>∃ a k,∃ ns:List Int,vs=[.ref a,.int k]/\SqL K H a (ns.map V.int)/\0<=k/\k<=100/\∀ l H',Same H H'->H l=none->Pot H' l->Q (.ref l) H'
def spTake:Sp:=λ vs H Q _=>∃ p m,vs=[.ref p,.int m]/\Pot H p/\0<m/\m<1073741824/\∀ r H',0<=r->r<m->But p H H'->Pot H' p->Q (.int r) H'
def spLength:Sp:=λ vs H Q _=>∃ p y,vs=[.ref p,.int y]/\Pot H p/\0<=y/\y<5/\∀ r H',1<=r->r<=10^18->But p H H'->Pot H' p->Q (.int r) H'
def spTied:Sp:=λ vs H Q _=>∃ p n y a b,vs=[.ref p,.int n,.int y,.int a,.int b]/\Pot H p/\∀ k H',But p H H'->Pot H' p->Q (.bl k) H'
def spOrder:Sp:=λ vs H Q _=>∃ p m,vs=[.ref p,.int m]/\Pot H p/\0<=m/\m<=1000/\∀ l H' (ms:List Int),But p H H'->Pot H' p->H l=none->l≠p->H' l=some (.lst (ms.map V.int))->ms.Perm ((uac m.toNat).map λ i:Nat=>(i:Int))->Q (.ref l) H'
abbrev Tie:=Int × Int × Int
def tieI (t:Tie):List Int:=[t.1,t.2.1,t.2.2]
def tieD (t:Tie):PyData:=.tuple ((tieI t).map .int)
def webD (n:Int)(ties:List Tie):PyData:=.tuple [.int n,.tuple (ties.map tieD)]
def endLt (s t:Tie):Prop:=s.1<t.1\/(s.1=t.1/\s.2.1<t.2.1)
structure WebOk (n:Int)(ties:List Tie):Prop where
 n1:1<=n
 n24:n<=24
 rise:ties.Pairwise endLt
 few:ties.length<=60
 tie:∀ t∈ties,0<=t.1/\t.1<t.2.1/\t.2.1<n/\1<=t.2.2/\t.2.2<=10^18
def spWeb (K:uad):Sp:=λ vs H Q _=>∃ p m,vs=[.ref p,.int m]/\Pot H p/\1<=m/\m<=24/\∀ v H' n ties,But p H H'->Pot H' p->WebOk n ties->n<=m->Is K H' (webD n ties) v->Q v H'
end L3
namespace L3
structure Grown (n:Nat)(ms:List Int)(b a:Nat)(ties:List Tie):Prop where
 few:ties.length<=60
 ok:∀ t∈ties,0<=t.1/\t.1<t.2.1/\t.2.1<(n:Int)/\1<=t.2.2/\t.2.2<=10^18
 of:∀ t∈ties,∃ a' b':Nat,a'<b'/\b'<n/\(b'<b\/(b'=b/\a'<a))/\((t.1=ms.getD a' 0/\t.2.1=ms.getD b' 0)\/(t.1=ms.getD b' 0/\t.2.1=ms.getD a' 0))
 nd:ties.Pairwise λ s t=>¬ (s.1=t.1/\s.2.1=t.2.1)
theorem Grown.start {n:Nat}{ms:List Int}:Grown n ms 0 0 []:=⟨ubj _,(λ t h=>by cases h),(λ t h=>by cases h),ug5⟩
theorem Grown.down {n:Nat}{ms:List Int}{b:Nat}{ties:List Tie}(g:Grown n ms b b ties):Grown n ms (b+1) 0 ties :=
 ⟨g.few,g.ok,λ t h=>by
  obtain⟨a',b',h1,h2,h3,h4⟩:=g.of t h
  exact⟨a',b',h1,h2,.inl (by left),h4⟩,g.nd⟩
theorem Grown.skip {n:Nat}{ms:List Int}{b a:Nat}{ties:List Tie}(g:Grown n ms b a ties):Grown n ms b (a+1) ties :=
 ⟨g.few,g.ok,λ t h=>by
  obtain⟨a',b',h1,h2,h3,h4⟩:=g.of t h
  exact⟨a',b',h1,h2,by left,h4⟩,g.nd⟩
structure Perm0 (n:Nat)(ms:List Int):Prop where
 len:ms.length=n
 lo:∀ i,i<n->0<=ms.getD i 0/\ms.getD i 0<(n:Int)
 inj:∀ i j,i<n->j<n->ms.getD i 0=ms.getD j 0->i=j
theorem Perm0.of {n:Nat}{ms:List Int}(h:ms.Perm ((uac n).map λ i:Nat=>(i:Int))):Perm0 n ms:=by
 have hl:ms.length=n:=by simpa using h.length_eq
 have nd:ms.Nodup:=(h.nodup_iff).mpr (by
  rw[ua0,ubx]
  exact (uek (n:=n)).imp λ h z=>h (by left))
 refine⟨hl,λ i hi=>?_,λ i j hi hj e=>?_⟩
 ·have e:ms.getD i 0=ms[i]:=by simp [uc6,show i<ms.length by left]
  have m:ms[i]'(by left)∈(uac n).map λ i:Nat=>(i:Int):=h.mem_iff.mp (uel _)
  rw[e]
  obtain⟨k,hk,ek⟩:=ube.mp m
  have:=uaj.mp hk
  left
 ·have e1:ms.getD i 0=ms[i]:=by simp [uc6,show i<ms.length by left]
  have e2:ms.getD j 0=ms[j]:=by simp [uc6,show j<ms.length by left]
  rw[e1,e2] at e
  exact (List.getElem_inj nd).mp e
theorem Grown.add {n:Nat}{ms:List Int}{b a:Nat}{ties:List Tie}{x y l:Int}(g:Grown n ms b a ties)(pm:Perm0 n ms)(ha:a<b)(hb:b<n)(hf:ties.length<60)(hl:1<=l)(hl2:l<=10^18)
  (hxy:(x=ms.getD a 0/\y=ms.getD b 0)\/(x=ms.getD b 0/\y=ms.getD a 0)) (hle:x<=y):Grown n ms b (a+1) (ties++[(x,y,l)]):=by
 have han:=Nat.lt_trans ha hb
 have la:=pm.lo a han
 have lb:=pm.lo b hb
 have ne:ms.getD a 0≠ms.getD b 0:=λ e=>uau ha (pm.inj a b han hb e)
 refine⟨by rw[uaq,ubn];exact hf,λ t ht=>?_,λ t ht=>?_,?_⟩
 ·rcases ua6.mp ht with h | h
  ·exact g.ok t h
  ·have e:t=(x,y,l):=uav.mp h
   subst e
   refine⟨?_,?_,?_,hl,hl2⟩
   ·show 0<=x
    rcases hxy with ⟨q1,q2⟩ | ⟨q1,q2⟩
    ·rw[q1];exact la.1
    ·rw[q1];exact lb.1
   ·show x<y
    refine Int.lt_iff_le_and_ne.mpr ⟨hle,λ z=>?_⟩
    rcases hxy with ⟨q1,q2⟩ | ⟨q1,q2⟩
    ·exact ne (q1.symm.trans (z.trans q2))
    ·exact ne (q2.symm.trans (z.symm.trans q1))
   ·show y<(n:Int)
    rcases hxy with ⟨q1,q2⟩ | ⟨q1,q2⟩
    ·rw[q2];exact lb.2
    ·rw[q2];exact la.2
 ·rcases ua6.mp ht with h | h
  ·obtain⟨a',b',h1,h2,h3,h4⟩:=g.of t h
   exact⟨a',b',h1,h2,h3.imp id λ z=>⟨z.1,ub1 z.2⟩,h4⟩
  ·have e:t=(x,y,l):=uav.mp h
   subst e
   exact⟨a,b,ha,hb,.inr ⟨rfl,uc5 _⟩,hxy⟩
 ·rw[List.pairwise_append]
  refine⟨g.nd,List.pairwise_singleton _ _,λ t ht u hu=>?_⟩
  have e:u=(x,y,l):=uav.mp hu
  subst e
  rintro ⟨e1,e2⟩
  obtain⟨a',b',h1,h2,h3,h4⟩:=g.of t ht
  have e1':t.1=x:=e1
  have e2':t.2.1=y:=e2
  have h1n:=Nat.lt_trans h1 h2
  have fin:a'=a->b'=b->False:=λ ea eb=>h3.elim (λ z=>uau z eb) λ z=>uau z.2 ea
  have fin2:a'=b->b'=a->False:=λ ea eb=>Nat.lt_asymm ha (by rw[← ea,← eb];exact h1)
  rcases h4 with ⟨p1,p2⟩ | ⟨p1,p2⟩ <;> rcases hxy with ⟨q1,q2⟩ | ⟨q1,q2⟩
  ·exact fin (pm.inj a' a h1n han (p1.symm.trans (e1'.trans q1))) (pm.inj b' b h2 hb (p2.symm.trans (e2'.trans q2)))
  ·exact fin2 (pm.inj a' b h1n hb (p1.symm.trans (e1'.trans q1))) (pm.inj b' a h2 han (p2.symm.trans (e2'.trans q2)))
  ·exact fin2 (pm.inj a' b h1n hb (p2.symm.trans (e2'.trans q2))) (pm.inj b' a h2 han (p1.symm.trans (e1'.trans q1)))
  ·exact fin (pm.inj a' a h1n han (p2.symm.trans (e2'.trans q2))) (pm.inj b' b h2 hb (p1.symm.trans (e1'.trans q1)))
theorem zsv {ts:List Tie}(h:ts.Pairwise λ a b=>Srt.lexI (tieI b) (tieI a)=false)(nd:ts.Pairwise λ s t=>¬ (s.1=t.1/\s.2.1=t.2.1)):ts.Pairwise endLt:=by
 refine (h.and nd).imp λ {a b} hab=>?_
 obtain⟨h1,h2⟩:=hab
 obtain⟨a1,a2,a3⟩:=a
 obtain⟨b1,b2,b3⟩:=b
 simp only [tieI,Srt.lexI] at h1
 show a1<b1\/(a1=b1/\a2<b2)
 have h2':¬ (a1=b1/\a2=b2):=h2
 by_cases e1:b1=a1
 ·rw[if_pos e1] at h1
  by_cases e2:b2=a2
  ·exact absurd ⟨e1.symm,e2.symm⟩ h2'
  ·rw[if_neg e2] at h1
   have:=of_decide_eq_false h1
   exact .inr ⟨e1.symm,by left⟩
 ·rw[if_neg e1] at h1
  have:=of_decide_eq_false h1
  exact .inl (by left)
end L3
namespace L3
open PySem PySem.Spec PyProof.Rows L2
section
variable {X:Cx}{pos:Pos}
inductive op_isnotB_i  (x:V) (y:V) (H:Hp) (Q:VK):Prop
 | mk:∀ i j,(x=.bl i)->(y=.bl j)->(Q (.bl (!(i==j))) H)->op_isnotB_i x y H Q
theorem ziv:OpR X (compareOp .IsNot) (op_isnotB_i):=by
 intro pins s σ H x y v u Q I rx ry h
 obtain⟨i,j,rfl,rfl,q⟩:=h
 cases rx
 cases ry
 exact isnot_bool (za9 I q rfl)
theorem zof:OpR X (binaryOp .Mult) (rI (λ i j=>IntMulOk i j) λ i j=>.int (i*j)):=opI λ _ _ _ _ _ _ _ hc q=>mul_int q hc
theorem mulB:IntMulOk ((10:Int)^(60:Int).toNat) ((10:Int)^(60:Int).toNat):=IntMulOk.of_bits (by symm) (by symm)
theorem mulB2:IntMulOk ((10:Int)^(60:Int).toNat*(10:Int)^(60:Int).toNat) ((10:Int)^(60:Int).toNat):=IntMulOk.of_bits (by symm) (by symm)
theorem posB:(0:Int)<(10:Int)^(60:Int).toNat*(10:Int)^(60:Int).toNat*(10:Int)^(60:Int).toNat:=by symm
inductive call_range_i  (xs:List V) (H:Hp) (Q:VK):Prop
 | mk:∀ (j:Int),(xs=[.int j])->(∀ p,H p=none->Q (.ref p) (upd H p (.rng 0 j)))->call_range_i xs H Q
theorem zdc:CallR X (.type "range") (call_range_i):=by
 intro pins s σ H xs us Q I r h
 obtain⟨j,rfl,q⟩:=h
 obtain⟨u,rfl,t,rfl⟩:=vals1 r
 refine call_range_1 ⟨.ref s.heap.objs.size,_,I.laid (a:=s.heap.objs.size) (o:=.rng 0 j) (λ b o e=>Heap.get?_push_of_some _ e) (uai _) ⟨_,_,_,Heap.get?_push_size _ rfl⟩,rfl,q _ I.fresh⟩
inductive call_list_rng_i  (xs:List V) (H:Hp) (Q:VK):Prop
 | mk:∀ (p:Addr)(j:Int),(xs=[.ref p])->(H p=some (.rng 0 j))->(0<=j)->(j<=1000)->(∀ l,H l=none->Q (.ref l) (upd H l (.lst ((uac j.toNat).map λ i:Nat=>V.int (i:Int)))))->call_list_rng_i xs H Q
theorem zd9 (hh:X.calm=true):CallR X (.type "list") (call_list_rng_i):=by
 intro pins s σ H xs us Q I r h
 obtain⟨p,j,rfl,hp,hj0,hj,q⟩:=h
 obtain⟨u,rfl,rx⟩:=vals1 r
 cases rx
 obtain⟨t,u,v,e⟩:=(show ObjOk X.prog X.w H s.heap p (.rng 0 j) from I.hok p _ hp)
 refine call_list_range (n:=j.toNat) (I.ok.hd hh) (show IsRange s.heap p 0 j 1 t u v from e) (small_one (by left) (by left) (by left) (by left)) (by rw[rangeSize_one];split <;> left) (by left) λ h' tk acc c hk hS hacc=>?_
 refine⟨.ref s.heap.objs.size,_,I.laid (a:=s.heap.objs.size) (o:=.lst ((uac j.toNat).map λ i:Nat=>V.int (i:Int))) (t':=tk) hk (uai _) ⟨?_,acc.toList,c,?_,by simpa using hS⟩,rfl,q _ I.fresh⟩
 ·rw[uae,ua8,ucr];left
 ·have go:∀ (n:Nat)(l:List Value),l.length=n->(∀ (k:Nat)(v:Value),l[k]?=some v->∃ t,v=Value.int (0+(k:Int)*1) t)->Vals ((uac n).map λ i:Nat=>V.int (i:Int)) l:=by
   intro n l hl hv
   have gen:∀ (l:List Value)(o:Nat),(∀ (k:Nat)(v:Value),l[k]?=some v->∃ t,v=Value.int ((o+k:Nat):Int) t)->Vals ((ufb o l.length).map λ i:Nat=>V.int (i:Int)) l:=by
    intro l
    induction l with
    | nil=>intro o _;exact .nil
    | cons x r ih =>
     intro o h
     rw[ua5,ugn,udw]
     obtain⟨t,ht⟩:=h 0 x rfl
     refine .cons ⟨t,by simpa using ht⟩ (ih (o+1) λ k v hk=>?_)
     obtain⟨t,ht⟩:=h (k+1) v (by simpa using hk)
     exact⟨t,by rw[ht];congr 1;left⟩
   have:=gen l 0 λ k v hk=>by
    obtain⟨t,ht⟩:=hv k v hk
    exact⟨t,by rw[ht];congr 1;left⟩
   rw[hl] at this
   rw[List.range_eq_range']
   exact this
  refine go _ _ (by simpa using hacc.1) λ k v hk=>hacc.2 k v (by simpa using hk)
end
theorem zgt {α:Type}:∀ (l:List α)(k:Nat)(h:k<l.length),(l[k]::l.eraseIdx k).Perm l
 | [],k,h=>absurd h (ueu _)
 | a::l,0,_=>uer _
 | a::l,k+1,h=>by
  have h':k<l.length:=by simpa using h
  show (l[k]::a::l.eraseIdx k).Perm (a::l)
  exact (List.Perm.swap a l[k] _).trans ((zgt l k h').cons a)
theorem zcz {α β:Type}(f:α->β):∀ (l:List α)(k:Nat),(l.eraseIdx k).map f=(l.map f).eraseIdx k
 | [],_=>rfl
 | _::_,0=>rfl
 | a::l,k+1=>by
  show f a::(l.eraseIdx k).map f=f a::(l.map f).eraseIdx k
  rw[zcz f l k]
def TieL (H:Hp)(ys:List V)(ts:List Tie):Prop:=Paired (λ (y:V) (t:Tie)=>∃ a,y=.ref a/\H a=some (.tup ((tieI t).map V.int))) ys ts
theorem TieL.keep {H H':Hp}{ys:List V}{ts:List Tie}(h:TieL H ys ts)(k:∀ a xs,H a=some (.tup xs)->H' a=some (.tup xs)):TieL H' ys ts :=
 Paired.mapP h λ y t ⟨a,e1,e2⟩=>⟨a,e1,k _ _ e2⟩
theorem TieL.snoc {H:Hp}{ys:List V}{ts:List Tie}{a:Addr}{t:Tie}(h:TieL H ys ts)(e:H a=some (.tup ((tieI t).map V.int))):TieL H (ys++[.ref a]) (ts++[t]):=Paired.snoc h ⟨a,rfl,e⟩
theorem zgl {α β γ:Type}{F:β->γ->Prop}(f:α->β)(g:α->γ):∀ {l:List α},(∀ x∈l,F (f x) (g x))->Paired F (l.map f) (l.map g)
 | [],_=>.nil
 | x::l,h=>.cons (h x uan) (zgl f g λ y hy=>h y (uam _ hy))
theorem zgk {α β γ:Type}{F:α->β->Prop}{f:β->γ}:∀ {l:List α}{r:List β},Paired F l r->∀ q∈l.zip (r.map f),∃ b,q.2=f b/\F q.1 b
 | _,_,.nil,q,h=>by cases h
 | _,_,.cons (a:=a) (b:=b) x t,q,h=>by
  rw[udw,uew] at h
  rcases uar.mp h with e | h
  ·subst e;exact⟨b,rfl,x⟩
  ·exact zgk t q h
theorem ze1 {F:V->Tie->Prop}{G:V->List Int->Prop}(h:∀ y t,F y t->G y (tieI t)):∀ {ys:List V}{ts:List Tie},Paired F ys ts->Paired G ys (ts.map tieI)
 | _,_,.nil=>.nil
 | _,_,.cons x t=>.cons (h _ _ x) (ze1 h t)
def tieOf:List Int->Tie
 | [a,b,c]=>(a,b,c)
 | _=>(0,0,0)
theorem zso (t:Tie):tieOf (tieI t)=t:=rfl
theorem zsm {H:Hp}{ys:List V}{ts:List Tie}(h:TieL H ys ts){qs:List (V × List Int)}(p:qs.Perm (ys.zip (ts.map tieI)))(w:qs.Pairwise λ a b=>Srt.lexI b.2 a.2=false) :
  ∃ ts':List Tie,ts'.Perm ts/\TieL H (qs.map (·.1)) ts'/\ts'.Pairwise λ a b=>Srt.lexI (tieI b) (tieI a)=false:=by
 have mem:∀ q∈qs,∃ t,q.2=tieI t/\∃ a,q.1=.ref a/\H a=some (.tup ((tieI t).map V.int)):=λ q hq=>zgk h q (p.mem_iff.mp hq)
 have back:∀ q∈qs,tieI (tieOf q.2)=q.2:=λ q hq=>by
  obtain⟨t,e,_⟩:=mem q hq
  rw[e];rfl
 refine⟨qs.map λ q=>tieOf q.2,?_,zgl _ _ λ q hq=>?_,?_⟩
 ·have e1:(qs.map λ q=>tieOf q.2).Perm ((ys.zip (ts.map tieI)).map λ q=>tieOf q.2):=p.map _
  have e2:(ys.zip (ts.map tieI)).map (λ q=>tieOf q.2)=ts:=by
   have l:ys.length=(ts.map tieI).length:=by rw[uae];exact Paired.length h
   have:(ys.zip (ts.map tieI)).map (λ q=>tieOf q.2)=((ys.zip (ts.map tieI)).map (·.2)).map tieOf:=by rw[uci];rfl
   rw[this,List.map_snd_zip (uey l.symm),uci]
   exact (udi λ t _=>zso t).trans (ugx _)
  rw[e2] at e1
  exact e1
 ·obtain⟨t,e,a,ea,eh⟩:=mem q hq
  refine⟨a,ea,?_⟩
  rw[back q hq,e];exact eh
 ·rw[ubx]
  refine w.imp_of_mem λ {a b} ha hb z=>?_
  rw[back a ha,back b hb];exact z
theorem TieL.is {K:uad}{H:Hp}:∀ {ys:List V}{ts:List Tie},TieL H ys ts->IsAll K H (ts.map tieD) ys
 | _,_,.nil=>rfl
 | _,_,.cons (a:=y) (b:=t) ⟨a,e1,e2⟩ r=>⟨_,_,rfl,⟨a,_,e1,e2,IsAll.ints _⟩,TieL.is r⟩
theorem zmr {x y:Int}{ms:List Int}(p:ms.Perm [x,y])(w:ms.Pairwise (·<=·)):∃ a b,ms=[a,b]/\a<=b/\((a=x/\b=y)\/(a=y/\b=x)):=by
 have hl:=p.length_eq
 match ms,hl,p,w with
 | [a,b],_,p,w =>
  refine⟨a,b,rfl,by simpa using w,?_⟩
  have ha:a∈[x,y]:=p.mem_iff.mp (by simp)
  rcases uar.mp ha with e | e
  ·subst e
   have:=(List.perm_cons a).mp p
   have e2:b=y:=by simpa using List.perm_singleton.mp this
   exact .inl ⟨rfl,e2⟩
  ·have e':a=y:=by simpa using e
   subst e'
   have p2:[a,b].Perm [a,x]:=p.trans (List.Perm.swap a x [])
   have:=(List.perm_cons a).mp p2
   have e2:b=x:=by simpa using List.perm_singleton.mp this
   exact .inr ⟨rfl,e2⟩
def TupKeep (H H':Hp):Prop:=∀ a xs,H a=some (.tup xs)->H' a=some (.tup xs)
section
variable {J:It}{g:TG}{te:TE}{own:List Str}{js:List Nat}{σ:L2.St}{H1:Hp}{Q:VK}
theorem zd7 (n:Nat)(Sg:L2.St->Prop)(R:Nat->V->Hp->Prop)(hn:n<=1000)(h0:Sg (start3 own js σ))(mono:∀ i v H H',TupKeep H H'->R i v H->R i v H')
  (go:∀ i H',i<n->Same H1 H'->J.go i H') (stop:∀ H',Same H1 H'->J.stop n H')
  (step:∀ i x σ' H' H2,i<n->Same H1 H'->J.yld i H' x H2->Sg σ'->∀ C:L2.St->V->Hp->Prop,(∀ σ3 v H5,Sg σ3->Same H' H5->R i v H5->C σ3 v H5)->g x σ' H2 λ σ3 H3=>te σ3 H3 λ v H5=>C σ3 v H5)
  (fin:∀ D ys H',H1 D=none->Same H1 H'->H' D=some (.lst ys)->ys.length=n->(∀ i v,ys[i]?=some v->R i v H')->Q (.ref D) H'):CompGo own js g tTrue te σ Q J H1:=by
 intro D hD
 refine⟨λ i m ys σ' H'=>m=n-i/\i<=n/\Sg σ'/\Same H1 H'/\ys.length=i/\∀ j v,ys[j]?=some v->R j v H',⟨n,rfl,ubj _,h0,zam hD,rfl,λ j v e=>by simp at e⟩,?_⟩
 rintro i m ys σ' H' ⟨rfl,hi,sg,sm,hl,hr⟩ hd
 by_cases hlt:i<n
 ·refine .inr ⟨go i H' hlt sm,λ x H2 hy=>?_⟩
  refine step i x σ' H' H2 hlt sm hy sg (λ σ3 v H5=>H5 D=some (.lst ys)/\ys.length<sizeLine/\∃ m',m'<n-i/\(m'=n-(i+1)/\i+1<=n/\Sg σ3/\Same H1 (upd H5 D (.lst (ys++[v])))/\(ys++[v]).length=i+1/\∀ j u,(ys++[v])[j]?=some u->R j u (upd H5 D (.lst (ys++[v]))))) λ σ3 v H5 sg3 s5 r5=>?_
  have hd5:=s5 _ _ hd
  refine⟨hd5,ucb (by left:ys.length<=1000) (by decide),n-(i+1),by left,rfl,hlt,sg3,λ b o e=>?_,by rw[uaq,ubn,hl],λ j u e=>?_⟩
  ·rw[zas (zal e hD)];exact s5 _ _ (sm _ _ e)
  ·have tk5:TupKeep H5 (upd H5 D (.lst (ys++[v]))):=λ a xs e=>by rw[zas (λ z=>by rw[z,hd5] at e;cases e)];exact e
   by_cases hj:j<ys.length
   ·rw[uc9 hj] at e
    exact mono _ _ _ _ tk5 (mono _ _ _ _ (λ a xs z=>s5 _ _ z) (hr j u e))
   ·rw[ub9 (by left)] at e
    have ej:j=ys.length:=by
     have:=(ual.mp e).1
     simp at this;left
    subst ej
    have eu:v=u:=by simpa using e
    subst eu
    rw[hl]
    exact mono _ _ _ _ tk5 r5
 ·have e:i=n:=by left
  subst e
  exact .inl ⟨stop H' sm,fin D ys H' hD sm hd hl hr⟩
theorem zbr {K:uad}{a:Addr}{xs:List V}(hx:H1 a=some (.tup xs))(Sg:L2.St->Prop)(R:Nat->V->Hp->Prop)(hn:xs.length<=1000)(h0:Sg (start3 own js σ))(mono:∀ i v H H',TupKeep H H'->R i v H->R i v H')
  (step:∀ i x σ' H',xs[i]?=some x->Same H1 H'->Sg σ'->∀ C:L2.St->V->Hp->Prop,(∀ σ3 v H5,Sg σ3->Same H' H5->R i v H5->C σ3 v H5)->g x σ' H' λ σ3 H3=>te σ3 H3 λ v H5=>C σ3 v H5)
  (fin:∀ D ys H',H1 D=none->Same H1 H'->H' D=some (.lst ys)->ys.length=xs.length->(∀ i v,ys[i]?=some v->R i v H')->Q (.ref D) H'):CompGo own js g tTrue te σ Q (Itt K a) H1:=by
 refine zd7 xs.length Sg R hn h0 mono (λ i H' hi s=>⟨xs,xs[i],SqT.of (s _ _ hx),by simp [hi]⟩) (λ H' s=>⟨xs,SqT.of (s _ _ hx),uai _⟩) (λ i x σ' H' H2 hi s hy sg C hC=>?_) fin
 obtain⟨rfl,hy⟩:=hy
 exact step i x σ' _ (hy xs (SqT.of (s _ _ hx))) s sg C hC
theorem zh6 {K:uad}{a:Addr}{xs:List V}(hx:H1 a=some (.lst xs))(Sg:L2.St->Prop)(R:Nat->V->Hp->Prop)(hn:xs.length<=1000)(h0:Sg (start3 own js σ))(mono:∀ i v H H',TupKeep H H'->R i v H->R i v H')
  (step:∀ i x σ' H',xs[i]?=some x->Same H1 H'->Sg σ'->∀ C:L2.St->V->Hp->Prop,(∀ σ3 v H5,Sg σ3->Same H' H5->R i v H5->C σ3 v H5)->g x σ' H' λ σ3 H3=>te σ3 H3 λ v H5=>C σ3 v H5)
  (fin:∀ D ys H',H1 D=none->Same H1 H'->H' D=some (.lst ys)->ys.length=xs.length->(∀ i v,ys[i]?=some v->R i v H')->Q (.ref D) H'):CompGo own js g tTrue te σ Q (Itl K a) H1:=by
 refine zd7 xs.length Sg R hn h0 mono (λ i H' hi s=>⟨xs,xs[i],SqL.of (s _ _ hx),by simp [hi]⟩) (λ H' s=>⟨xs,SqL.of (s _ _ hx),uai _⟩) (λ i x σ' H' H2 hi s hy sg C hC=>?_) fin
 obtain⟨rfl,hy⟩:=hy
 exact step i x σ' _ (hy xs (SqL.of (s _ _ hx))) s sg C hC
theorem SqX.of {t:Bool}{K:uad}{H:Hp}{a:Addr}{xs:List V}(h:H a=some (if t=true then .tup xs else .lst xs)):SqX t K H a xs:=by
 cases t with
 | true=>exact SqT.of h
 | false=>exact SqL.of h
theorem zmf {t1 t2:Bool}{K:uad}{a b:Addr}{xs zs:List V}(hx:H1 a=some (if t1=true then .tup xs else .lst xs))(hz:H1 b=some (if t2=true then .tup zs else .lst zs))(Sg:L2.St->Prop)(R:Nat->V->Hp->Prop)(hn:xs.length<=1000)
  (h0:Sg (start3 own js σ)) (mono:∀ i v H H',TupKeep H H'->R i v H->R i v H')
  (step:∀ i x z T σ' H',xs[i]?=some x->zs[i]?=some z->Same H1 H'->H' T=none->Sg σ'->∀ C:L2.St->V->Hp->Prop,(∀ σ3 v H5,Sg σ3->Same H' H5->R i v H5->C σ3 v H5)->g (.ref T) σ' (upd H' T (.tup [x,z])) λ σ3 H3=>te σ3 H3 λ v H5=>C σ3 v H5)
  (fin:∀ D ys H',H1 D=none->Same H1 H'->H' D=some (.lst ys)->ys.length=min xs.length zs.length->(∀ i v,ys[i]?=some v->R i v H')->Q (.ref D) H'):CompGo own js g tTrue te σ Q (Itz t1 t2 K a b) H1:=by
 have s1:∀ H',Same H1 H'->SqX t1 K H' a xs:=λ H' s=>SqX.of (s _ _ hx)
 have s2:∀ H',Same H1 H'->SqX t2 K H' b zs:=λ H' s=>SqX.of (s _ _ hz)
 refine zd7 (min xs.length zs.length) Sg R (by left) h0 mono (λ i H' hi s=>⟨xs,zs,xs[i]'(by left),zs[i]'(by left),s1 H' s,s2 H' s,by simp [show i<xs.length by left],by simp [show i<zs.length by left]⟩)
  (λ H' s=>⟨xs,zs,s1 H' s,s2 H' s,by left⟩) (λ i x σ' H' H2 hi s hy sg C hC=>?_) fin
 obtain⟨T,x1,z1,hT,rfl,rfl,e1,e2⟩:=hy
 exact step i x1 z1 T σ' H' (e1 _ (s1 H' s)) (e2 _ (s2 H' s)) s hT sg C hC
end
theorem zbt {f:Nat->Bool}{n:Nat}{ys:List V}(hl:ys.length=n)(h:∀ (i:Nat) (v:V),ys[i]?=some v->v=V.bl (f i)):ys=((uac n).map f).map V.bl:=by
 refine ucx λ i=>?_
 by_cases hi:i<n
 ·obtain⟨v,hv⟩:∃ v,ys[i]?=some v:=⟨ys[i],uaf (by left)⟩
  rw[hv,h i v hv]
  simp [hi]
 ·rw[uba (by left),uba (by simp;left)]
def tyD:PyData->String
 | .none=>"NoneType"
 | .bool _=>"bool"
 | .int _=>"int"
 | .str _=>"str"
 | .tuple _=>"tuple"
 | .list _=>"list"
 | .dict _=>"dict"
theorem ztt {K:uad}{H:Hp}:∀ {d:PyData}{v:V},Is K H d v->TyOf K H v (.type (tyD d))
 | .none,_,h=>by rw[show _=V.non from h];exact .non
 | .bool b,_,h=>by rw[show _=V.bl b from h];exact .bl b
 | .int i,_,h=>by rw[show _=V.int i from h];exact .int i
 | .str x,_,h=>by rw[show _=V.str x from h];exact .str x
 | .tuple _,_,⟨p,vs,e,h,_⟩=>by rw[e];exact .tup h
 | .list _,_,⟨p,vs,e,h,_⟩=>by rw[e];exact .lst h
 | .dict _,_,⟨_,p,e,h⟩=>by rw[e];exact .dK h
def wholeB:PyData->Bool
 | .int _=>true
 | _=>false
def wholesB:PyData->Bool
 | .tuple ds=>ds.all wholeB
 | _=>false
def tieB (n:Int):PyData->Bool
 | .tuple [.int a,.int b,.int l]=>decide (0<=a)&&decide (a<b)&&decide (b<n)&&decide (1<=l)&&decide (l<=10^18)
 | _=>false
def few:PyData->Prop
 | .tuple ds=>ds.length<=1000
 | .list ds=>ds.length<=1000
 | _=>True
def spD1 (K:uad)(pre:PyData->Prop)(f:PyData->Bool):Sp:=λ vs H Q _=>∃ d v,vs=[v]/\Is K H d v/\pre d/\∀ H',Same H H'->Q (.bl (f d)) H'
section
variable {g:TG}{te:TE}{own:List Str}{js:List Nat}{σ:L2.St}{H1:Hp}{Q:VK}
end
def e2 (e:Int × Int):List Int:=[e.1,e.2]
def risingB (es:List (Int × Int)):Bool:=((uac (min es.length (es.drop 1).length)).map λ i=>HT.lexLt (e2 (es.getD i (0,0))) (e2 ((es.drop 1).getD i (0,0)))).all id
def TwoL (H:Hp)(ys:List V)(es:List (Int × Int)):Prop:=Paired (λ (y:V) (e:Int × Int)=>∃ a,y=.ref a/\H a=some (.tup [.int e.1,.int e.2])) ys es
theorem TwoL.get {H:Hp}:∀ {ys:List V}{es:List (Int × Int)}{i:Nat}{y:V},TwoL H ys es->ys[i]?=some y->∃ a,y=.ref a/\H a=some (.tup ((e2 (es.getD i (0,0))).map V.int))
 | _,_,_,_,.nil,h=>by simp at h
 | _,_,0,y,.cons (a:=y0) r t,h=>by
  have e:y0=y:=by simpa using h
  subst e
  exact r
 | _,_,i+1,_,.cons r t,h=>TwoL.get (i:=i) t (by simpa using h)
theorem cut1 (ys:List V):cutV ys (some 1) none=ys.drop 1:=by
 unfold cutV
 have e1:HT.sIx ys.length ys.length none=ys.length:=rfl
 have e2:HT.sIx ys.length 0 (some 1)=min 1 ys.length:=by
  unfold HT.sIx
  simp
 rw[e1,e2]
 by_cases h:ys.length=0
 ·have:ys=[]:=udp h
  subst this;rfl
 ·have:min 1 ys.length=1:=by left
  rw[this]
  exact List.take_of_length_le (by simp)
section
variable {g:TG}{te:TE}{own:List Str}{js:List Nat}{σ:L2.St}{H1:Hp}{Q:VK}
end
theorem TieL.get {H:Hp}{ys:List V}{us:List Tie}{i:Nat}{x:V}(h:TieL H ys us)(e:ys[i]?=some x):∃ a,x=.ref a/\H a=some (.tup ((tieI (us.getD i (0,0,0))).map V.int)):=by
 induction h generalizing i with
 | nil=>simp at e
 | @cons y0 _ _ _ r t ih =>
  cases i with
  | zero =>
   have e':y0=x:=by simpa using e
   rw[← e'];exact r
  | succ i=>exact ih (i:=i) (by simpa using e)
section
variable {X:Cx}{own fr:List Str}{scope:Scope}{fp:List Addr}{pins:List (Addr × Obj)}{s3:Shared}{H3:Hp}{pos:Pos}
theorem zb2 {es:List Expr}{k:Nat}{t:TGs}{n:Nat}(hc:X.calm=true)(h:PGs (cxComp X own fr scope fp pins s3 H3) es t)
  (hn:(assignEach es (cxComp X own fr scope fp pins s3 H3).env).length=n:=by rfl) (hst:(assignEach es (cxComp X own fr scope fp pins s3 H3).env).findIdx? (·.1)=none:=by rfl):PG (cxComp X own fr scope fp pins s3 H3) (.Tuple es k pos) (gTup X.K n t) :=
 zb3 (X:=cxComp X own fr scope fp pins s3 H3) hc h hn hst
theorem zq7:IxR (cxComp X own fr scope fp pins s3 H3) (rIxL X.K):=zau (X:=cxComp X own fr scope fp pins s3 H3)
theorem zbf:IxR (cxComp X own fr scope fp pins s3 H3) (rIxT X.K):=zaz (X:=cxComp X own fr scope fp pins s3 H3)
theorem zby:OpR (cxComp X own fr scope fp pins s3 H3) (compareOp .NotIn) (rIn X.K true):=zcx (X:=cxComp X own fr scope fp pins s3 H3)
theorem zea:CallR (cxComp X own fr scope fp pins s3 H3) (.builtin "len") (call_len_seq_i X.K):=zao (X:=cxComp X own fr scope fp pins s3 H3)
end
def KeepOk (m:Nat)(ks:List Nat):Prop:=ks.Pairwise (·<·)/\∀ k∈ks,k<m
def keepI (ks:List Nat):List Int:=ks.map λ k:Nat=>(k:Int)
def keepD (ks:List Nat):PyData:=.tuple ((keepI ks).map .int)
theorem KeepOk.len {m:Nat}{ks:List Nat}(h:KeepOk m ks):ks.length<=m:=by
 have go:∀ (ks:List Nat)(lo m:Nat),ks.Pairwise (·<·)->(∀ k∈ks,lo<=k/\k<m)->ks.length+lo<=max m lo:=by
  intro ks
  induction ks with
  | nil=>intro lo m _ _;simp;left
  | cons k r ih =>
   intro lo m hp hb
   have h1:=hb k uan
   have:=ih (k+1) m (ud9.mp hp).2 λ j hj=>⟨(ud9.mp hp).1 j hj,(hb j (uam _ hj)).2⟩
   rw[ua5]
   left
 have:=go ks 0 m h.1 λ k hk=>⟨ubj _,h.2 k hk⟩
 left
theorem zax {K:uad}{H:Hp}{n:Int}{ts:List Tie}{v:V}(h:Is K H (webD n ts) v):∃ (p g:Addr)(ws:List V),v=.ref p/\H p=some (.tup [.int n,.ref g])/\H g=some (.tup ws)/\IsAll K H (ts.map tieD) ws/\ws.length=ts.length:=by
 obtain⟨p,vs,rfl,hp,v1,r1,rfl,e1,v2,r2,rfl,⟨g,ws,rfl,hg,hall⟩,e3⟩:=h
 have e1':v1=.int n:=e1
 have e3':r2=[]:=e3
 subst e1' e3'
 exact⟨p,g,ws,rfl,hp,hg,hall,by have:=hall.length;rw[uae] at this;exact this⟩
end L3
namespace Z3
open PySem
section
variable {prog:Program}{w:World}{A:Around}{E:Value->Shared->Prop}{s:Shared}
theorem zrh (t:Bool)(l:Addr)(xs:Array Value) :
  Meets (Builtin.«enumerate.__new__» ⟨[.type "enumerate",.ref l],[]⟩) (λ _ R s=>SqAt t s.heap l xs /\
   R (.ok (.ret (.ref (s.heap.push (itObj t l)).objs.size))) { s with heap:=(s.heap.push (itObj t l)).push { cls:=.type "enumerate",data:=.fields #[.none,.bool false,.ref s.heap.objs.size,rawInt 0,.none,.none] } }) :=
 .of_wp λ prog w A R s h=>by
  obtain⟨hp,g,d,tk,os⟩:=s;obtain⟨hl,h⟩:=h
  have hsub:=sub_enumerate
  have b1:SqAt t (Shared.heap ⟨hp,g,d,tk,os⟩) l xs:=hl
  obtain⟨o,ho⟩:∃ o,hp.get? l=some o:=by
   cases t with
   | true=>obtain⟨o,q,_⟩:=(show hp.IsTuple l xs from hl);exact⟨o,q⟩
   | false=>obtain⟨o,q,_⟩:=(show hp.IsList l xs from hl);exact⟨o,q⟩
  wp_walk using AutoSeq1.wpAny_loadPart' ho
  refine wpAny_stack_any λ st=>?_
  refine uag ?_
  split
  ·rename_i c _ _ _ _ _
   rcases (c==Value.type "enumerate") with _ | _
   ·wp_walk using AutoSeq1.wpAny_loadPart' ho,zff b1
    exact⟨_,rfl,h⟩
   ·wp_walk using AutoSeq1.wpAny_loadPart' ho,zff b1
    exact⟨_,rfl,h⟩
  ·wp_walk using AutoSeq1.wpAny_loadPart' ho,zff b1
   exact⟨_,rfl,h⟩
theorem zpn {t:Bool}{l:Addr}{xs:Array Value}{Q:Value->Shared->Prop}(hl:SqAt t s.heap l xs)
  (h:∀ h',IsEnum h' (s.heap.objs.size+1) s.heap.objs.size ((0:Nat):Int) .none->ItAt t h' s.heap.objs.size l 0->h'.objs.size=s.heap.objs.size+2->(∀ b o,s.heap.get? b=some o->h'.get? b=some o)->Q (.ref (s.heap.objs.size+1)) { s with heap:=h' }) :
  wpAny (model prog w) A (call (.type "enumerate") [.ref l]) Q E s:=by
 refine callType_new F.called_enumerate (by decide) (F.typeCall_enumerate_1 _) (F.newCall_enumerate_1 _) (λ obj=>F.args_object_init_2 obj _) F.entry_enumerate_new (zrh t l xs) ⟨hl,?_⟩
 have z1:(s.heap.push (itObj t l)).objs.size=s.heap.objs.size+1:=Heap.size_push ..
 have g1:ItAt t ((s.heap.push (itObj t l)).push { cls:=.type "enumerate",data:=.fields #[.none,.bool false,.ref s.heap.objs.size,rawInt 0,.none,.none] }) s.heap.objs.size l 0:=(ItAt.new (t:=t) (h:=s.heap) (l:=l)).to λ o e=>Heap.get?_push_of_some _ e
 have g2:((s.heap.push (itObj t l)).push { cls:=.type "enumerate",data:=.fields #[.none,.bool false,.ref s.heap.objs.size,rawInt 0,.none,.none] }).get? (s.heap.push (itObj t l)).objs.size=some _:=Heap.get?_push_size _ rfl
 show _/\_
 rw[z1] at g2 ⊢
 exact⟨⟨_,g2,rfl⟩,h _ g2 g1 (by rw[Heap.size_push,z1]) λ b o q=>Heap.get?_push_of_some _ (Heap.get?_push_of_some _ q)⟩
theorem zpa {t:Bool}{e it l:Addr}{i:Nat}{xs:Array Value}{x old:Value}{Q:Value->Shared->Prop}(he:IsEnum s.heap e it i old)(hi:ItAt t s.heap it l i)(hl:SqAt t s.heap l xs)(hx:xs[i]?=some x)(ne:e≠it)
  (hQ:∀ h',IsEnumOut h' e it ((i:Int)+1) x s.heap.objs.size->ItAt t h' it l (i+1)->h'.get? s.heap.objs.size=some { cls:=.type "tuple",data:=.seq #[.int i s.toks,x] }->h'.objs.size=s.heap.objs.size+1 ->
   (∀ b o,b≠e->b≠it->s.heap.get? b=some o->h'.get? b=some o)->Q (.ref s.heap.objs.size) { s with heap:=h',toks:=s.toks+1 }) :
  wpAny (model prog w) A (Builtin.«enumerate.__next__» ⟨[.ref e],[]⟩) (λ fin s'=>∃ v,fin=.done (.ret v)/\Q v s') E s:=by
 obtain⟨hp,g,d,tk,os⟩:=s
 show wpAny _ _ (field (.ref e) 2 >>= _) _ _ _
 refine uab (ub6 he rfl (x:=.ref it) rfl (uab (zhy hi hl hx λ k1 i1 s1=>?_)))
 replace s1:Heap.SameBut it hp k1:=s1
 have q1:IsEnum k1 e it i old:=(s1.2 e ne).trans he
 show wpAny _ _ (field (.ref e) 3 >>= _) _ _ ⟨k1,g,d,tk,os⟩
 refine uab (ub6 q1 rfl (x:=rawInt i) rfl ?_)
 show wpAny _ _ (field (.ref e) 4 >>= _) _ _ ⟨k1,g,d,tk,os⟩
 refine uab (ub6 q1 rfl (x:=.none) rfl ?_)
 show wpAny _ _ (mkInt i >>= _) _ _ ⟨k1,g,d,tk,os⟩
 refine uab (wpAny_mkInt ?_)
 show wpAny _ _ (setField (.ref e) 3 (rawInt ((i:Int)+1)) >>= _) _ _ ⟨k1,g,d,tk+1,os⟩
 refine uab (ub8 q1 (by simp) λ k2 q2 s2=>?_)
 replace s2:Heap.SameBut e k1 k2:=s2
 replace q2:IsEnum k2 e it ((i:Int)+1) old:=q2
 show wpAny _ _ (setField (.ref e) 4 .none >>= _) _ _ ⟨k2,g,d,tk+1,os⟩
 refine uab (ub8 q2 (by simp) λ k3 q3 s3=>?_)
 replace s3:Heap.SameBut e k2 k3:=s3
 replace q3:IsEnum k3 e it ((i:Int)+1) old:=q3
 show wpAny _ _ (newTuple [.int i tk,x] >>= _) _ _ ⟨k3,g,d,tk+1,os⟩
 refine uab (wpAny_newTuple ?_)
 have q4:IsEnum (k3.push { cls:=.type "tuple",data:=.seq #[.int i tk,x] }) e it ((i:Int)+1) old:=Heap.get?_push_of_some _ q3
 generalize hk4:k3.push { cls:=.type "tuple",data:=.seq #[.int i tk,x] }=k4 at q4
 have sz:k3.objs.size=hp.objs.size:=by rw[s3.1,s2.1,s1.1]
 have lt:e<hp.objs.size:=Heap.lt_size he
 have t4:k4.get? hp.objs.size=some { cls:=.type "tuple",data:=.seq #[.int i tk,x] }:=by rw[← hk4,← sz];exact Heap.get?_push_size _ rfl
 have z4:k4.objs.size=hp.objs.size+1:=by rw[← hk4,Heap.size_push,sz]
 have up4:∀ b o,b≠e->b≠it->hp.get? b=some o->k4.get? b=some o:=λ b o n1 n2 q=>by
  rw[← hk4];exact Heap.get?_push_of_some _ (s3.extBut b o n1 (s2.extBut b o n1 (s1.extBut b o n2 q)))
 have i4:ItAt t k4 it l (i+1):=i1.to λ o q=>by
  rw[← hk4];exact Heap.get?_push_of_some _ (s3.extBut _ _ ne.symm (s2.extBut _ _ ne.symm q))
 show wpAny _ _ (Builtin.SmallTypes.ownedTupleIsFree (.ref e) >>= _) _ _ ⟨k4,g,d,tk+1,os⟩
 rw[sz]
 clear hk4 q3 s3 q2 s2 q1 s1 i1 sz k3 k2 k1
 refine uab ?_
 unfold Builtin.SmallTypes.ownedTupleIsFree
 refine uab (ub6 q4 rfl (x:=.none) rfl (uag ?_))
 simp only [if_true]
 refine uab (ud2 (uab (ub6 q4 rfl (x:=old) rfl (uab (ub8 q4 (by simp) λ k5 q5 s5=>?_)))))
 replace s5:Heap.SameBut e k4 k5:=s5
 replace q5:IsEnum k5 e it ((i:Int)+1) x:=q5
 show wpAny _ _ (Builtin.SmallTypes.ownedTupleHandOut (.ref e) (.ref hp.objs.size) >>= _) _ _ ⟨k5,g,d,tk+1,os⟩
 refine uab ?_
 unfold Builtin.SmallTypes.ownedTupleHandOut
 refine uab (ub8 q5 (by simp) λ k6 q6 s6=>?_)
 replace s6:Heap.SameBut e k5 k6:=s6
 replace q6:IsEnumOut k6 e it ((i:Int)+1) x hp.objs.size:=q6
 refine ub8 q6 (by simp) λ k7 q7 s7=>?_
 replace s7:Heap.SameBut e k6 k7:=s7
 replace q7:IsEnumOut k7 e it ((i:Int)+1) x hp.objs.size:=q7
 have up:∀ b o,b≠e->k4.get? b=some o->k7.get? b=some o:=λ b o n q=>s7.extBut b o n (s6.extBut b o n (s5.extBut b o n q))
 exact uab (wpAny_letGo (uag ⟨_,rfl,hQ k7 q7 (i4.to λ o q=>up _ o ne.symm q) (up _ _ (ud8 lt) t4) (by rw[s7.1,s6.1,s5.1,z4]) λ b o n1 n2 q=>up b o n1 (up4 b o n1 n2 q)⟩))
theorem zf8 {t:Bool}{e it l:Addr}{i:Nat}{xs:Array Value}{x old:Value}{Q:Option Value->Shared->Prop}(he:IsEnum s.heap e it i old)(hi:ItAt t s.heap it l i)(hl:SqAt t s.heap l xs)(hx:xs[i]?=some x)(ne:e≠it)
  (hQ:∀ h',IsEnumOut h' e it ((i:Int)+1) x s.heap.objs.size->ItAt t h' it l (i+1)->h'.get? s.heap.objs.size=some { cls:=.type "tuple",data:=.seq #[.int i s.toks,x] }->h'.objs.size=s.heap.objs.size+1 ->
   (∀ b o,b≠e->b≠it->s.heap.get? b=some o->h'.get? b=some o)->Q (some (.ref s.heap.objs.size)) { s with heap:=h',toks:=s.toks+1 }) :
  wpAny (model prog w) A (pyNext (.ref e)) Q E s:=by
 have ty:s.TypeIs (.ref e) "enumerate":=⟨_,he,rfl⟩
 unfold pyNext
 exact uab (ud4 (ubp (name := Str.ofString "__next__") ty F.slot_enumerate_next (ubs F.slot_enumerate_next ty F.entry_enumerate_next
     (zpa he hi hl hx ne λ h' a b c d k=>uag (hQ h' a b c d k)) (F.args_enumerate_next_1 _))))
theorem zf7 {t:Bool}{e it l:Addr}{i:Nat}{xs:Array Value}{old:Value}{Q:Option Value->Shared->Prop}(hh:A.handled=none)(he:IsEnum s.heap e it i old)(hi:ItAt t s.heap it l i)(hl:SqAt t s.heap l xs)(hx:xs[i]?=none)
  (hQ:∀ h',Heap.ExtBut it s.heap h'->Q none { s with heap:=h' }):wpAny (model prog w) A (pyNext (.ref e)) Q E s:=by
 have ty:s.TypeIs (.ref e) "enumerate":=⟨_,he,rfl⟩
 unfold pyNext
 refine uab (ud4 (ubp (name:=Str.ofString "__next__") ty F.slot_enumerate_next (ubs F.slot_enumerate_next ty F.entry_enumerate_next ?_ (F.args_enumerate_next_1 _))))
 show wpAny _ _ (field (.ref e) 2 >>= _) _ _ _
 refine uab (ub6 he rfl (x:=.ref it) rfl (uab (zkf hh hi hl hx λ h' x k ⟨o,p1,p2⟩=>?_)))
 exact uab (udt (T:="StopIteration") (b:=true) ⟨o,p1,p2⟩ ugb (uag (hQ _ k)))
end
end Z3
namespace L3
open PySem PySem.Spec PyProof.Rows L2
def Itn (t:Bool)(K:uad)(l:Addr):It :=
 ⟨λ i H=>∃ xs x,SqX t K H l xs/\xs[i]?=some x,
  λ i H v H'=>∃ T x,H T=none/\v=.ref T/\H'=upd H T (.tup [.int (i:Nat),x])/\(∀ xs,SqX t K H l xs->xs[i]?=some x),
  λ i H=>∃ xs,SqX t K H l xs/\xs.length<=i⟩
theorem znk {P:Program}{w:World}{K:uad}{elts:List Expr}{kk:Nat}{pos:Pos}{t:Bool}{e it l:Addr}(n1:e≠it)(n2:l≠e)(n3:l≠it) :
  Turn P w K (.Tuple elts kk pos) (Itn t K l) [e,it] e (λ i h=>(∃ old,IsEnum h e it (i:Int) old)/\Z3.ItAt t h it l i) where
 mem:=by simp
 obj:=λ i h st b hb=>by
  obtain⟨⟨old,q1⟩,q2⟩:=st
  obtain⟨o2,m2,e2,_,d2⟩:=q2.obj
  simp only [uar,ua1,or_false] at hb
  rcases hb with rfl | rfl
  ·exact⟨_,q1,λ v q=>by cases q⟩
  ·exact⟨_,e2,λ v q=>by rw[d2] at q;cases q⟩
 keep:=λ i h h' st k=>by
  obtain⟨⟨old,q1⟩,q2⟩:=st
  exact⟨⟨old,k e (by simp) _ q1⟩,q2.to λ o z=>k it (by simp) o z⟩
 item:=by
  intro X hP hw hK hc i pins s σ H E I hf st hg
  subst hP hw hK
  obtain⟨xs,x,q1,hx⟩:=hg
  obtain⟨⟨old,en⟩,ia⟩:=st
  obtain⟨its1,r1,p1,z1⟩:=seqX I q1
  obtain⟨u1,hu1,ru1⟩:=r1.get hx
  refine Z3.zf8 en ia p1 (x:=u1) (by simpa using hu1) n1 λ h' eo ia' tp sz kp=>?_
  have I1 : Inv X pins σ (upd H s.heap.objs.size (.tup [.int (i : Nat), x])) { s with heap := h', toks := s.toks+1 } := turnsTup (ch := [e, it]) (its := [.int i s.toks, u1]) I hf (λ b o hb z => by
      simp only [uar,ua1,or_false,not_or] at hb
      exact kp b o hb.1 hb.2 z) (uai _) (by show 2<=sizeLine;rw[ucr];decide) (.cons ⟨_,rfl⟩ (.cons ru1 .nil)) ⟨_,tp,rfl,⟨_,rfl⟩,rfl⟩
  have fr:H s.heap.objs.size=none:=I.fresh
  have elt:e<s.heap.objs.size:=Heap.lt_size en
  have ilt:it<s.heap.objs.size:=by obtain⟨o2,m2,e2,_⟩:=ia.obj;exact Heap.lt_size e2
  have zne:∀ b∈[e,it],b≠s.heap.objs.size:=λ b hb=>by
   simp only [uar,ua1,or_false] at hb
   rcases hb with rfl | rfl
   ·exact uau elt
   ·exact uau ilt
  refine⟨_,rfl,wpAny_letOwnedTupleGo_enum eo λ h2 en2 sb=>?_⟩
  obtain⟨f0,f1,f2,f3,f4,f5⟩:=hf e (by simp)
  have I2:Inv X pins σ (upd H s.heap.objs.size (.tup [.int (i:Nat),x])) { s with heap:=h2,toks:=s.toks+1 }:=Inv.turned (s:={ s with heap:=h',toks:=s.toks+1 }) (it:=e) (t':=s.toks+1) I1 (λ b o hb z=>sb.extBut b o hb z) (by rw[zas (zne e (by simp))];exact f0) f1 f3 f4 f5
  refine⟨.ref s.heap.objs.size,_,I2,rfl,⟨_,x,fr,rfl,rfl,λ zs hz=>by rw[zg2 I hz q1];exact hx⟩,?_,λ b hb=>by rw[zas (zne b hb)];exact (hf b hb).1⟩
  exact⟨⟨_,by simpa using en2⟩,ia'.to λ o z=>sb.extBut _ _ n1.symm z⟩
 done:=by
  intro X hP hw hK hc i pins s σ H E I hf st hg
  subst hP hw hK
  obtain⟨xs,q1,hx⟩:=hg
  obtain⟨⟨old,en⟩,ia⟩:=st
  obtain⟨its1,r1,p1,z1⟩:=seqX I q1
  have l1:=r1.length
  refine Z3.zf7 (I.ok.hd hc) en ia p1 (by simp;left) λ h' kp=>⟨rfl,?_⟩
  exact turns (ch:=[e,it]) (t':=s.toks) I hf λ b o hb z=>by
   simp only [uar,ua1,or_false,not_or] at hb
   exact kp b o hb.2 z
 self:=λ _ _ _ _ _ st h=>by
  obtain⟨⟨old,en⟩,_⟩:=st
  exact wpAny_pyIter_enum en h
def iEnum (t:Bool)(K:uad)(ta:TA):TI:=λ σ H R=>ta σ H λ vs H1=>∃ l,vs=[.ref l]/\(∃ xs,SqX t K H1 l xs)/\R (Itn t K l) H1
theorem zez {X:Cx}{elts:List Expr}{kk:Nat}{pos':Pos}(t:Bool){a:Expr}{ta:TA}{p pos:Pos}(hg:Gl X "enumerate")(hm:X.mg "enumerate"=none)(ha:PA X [a] ta)
  (hs:starEach [a] X.env=[(false,eval a X.env)]:=by rfl) (hs2:starEach [] X.env=[]:=by rfl) :
  PI X (.Tuple elts kk pos') (.Call (.Name "enumerate" p) [a] [] pos) (iEnum t X.K ta):=by
 intro pins s σ H R I h
 refine Call_ (zfc I hg hm boot_enumerate (uct (thn (ha pos pins s σ H _ I h) λ us s1 ⟨vs,H1,I1,r1,q1⟩=>?_) (by rw[hs,hs2]) (by rw[hs2];rfl)))
 obtain⟨l,e,⟨xs,qx⟩,q⟩:=q1
 subst e
 obtain⟨u,rfl,rx⟩:=vals1 r1
 cases rx
 obtain⟨its1,r1,p1,z1⟩:=seqX I1 qx
 have lt:l<s1.heap.objs.size:=by
  cases t with
  | true=>obtain⟨o,e,_⟩:=(show s1.heap.IsTuple l _ from p1);exact Heap.lt_size e
  | false=>obtain⟨o,e,_⟩:=(show s1.heap.IsList l _ from p1);exact Heap.lt_size e
 refine Z3.zpn p1 λ h' en ia sz kp=>wpAny_pyIter_enum en ?_
 have I2:Inv X pins σ H1 { s1 with heap:=h',toks:=s1.toks }:=I1.kept (t':=s1.toks) kp
 refine⟨s1.heap.objs.size+1,[s1.heap.objs.size+1,s1.heap.objs.size],_,_,H1,rfl,I2,znk (Nat.succ_ne_self _) (uau (ub1 lt)) (uau lt),⟨⟨_,en⟩,ia⟩,λ b hb=>?_,q⟩
 have hb':s1.heap.objs.size<=b:=by
  simp only [uar,ua1,or_false] at hb
  rcases hb with rfl | rfl
  ·exact udo _
  ·exact uai _
 exact I1.fpOk hb' (I1.hok.fresh hb')
end L3
namespace HT
open PySem PyProof.Rows
section
variable {prog:Program}{w:World}{A:Around}{E:Value->Shared->Prop}{s:Shared}
theorem zka {t:Addr}{items:Array Value}{Q:Bool->Shared->Prop}(ht:IsTup s.heap t items)(h:Q true s):wpAny (model prog w) A (Builtin.Tuple.tupleIsExact (.ref t)) Q E s:=by
 unfold Builtin.Tuple.tupleIsExact
 exact uab (ufa ht.typeIs (uag h))
theorem zdo {t sl:Addr}{items:Array Value}{vl vu:Value}{lo hi:Option Int}{Q:Value->Shared->Prop}(ht:IsTup s.heap t items)(hs:s.heap.IsSliceOf sl vl vu .none)(pl:IsPart vl lo)(pu:IsPart vu hi)
  (hw:sIx items.size 0 lo=0/\sIx items.size items.size hi=items.size) (h:Q (.ref t) s):wpAny (model prog w) A (getItem (.ref t) (.ref sl)) Q E s:=by
 obtain⟨os,hos,hcs,hds⟩:=id hs
 have ty:s.TypeIs (.ref sl) "slice":=⟨os,hos,hcs⟩
 unfold getItem
 try with_reducible refine ubz ?_
 first | refine uab (uag ?_) | skip
 refine uab (wpAny_sequenceKey ht.typeIs (by decide) (uab (ubp (name:=Str.ofString "__getitem__") ht.typeIs ub7
  (ubs ub7 ht.typeIs entry_tuple_getitem ?_ (args_tuple_getitem _ _)))))
 show wpAny _ _ (Builtin.Tuple.tupleItemsOf (.ref t) >>= _) _ _ s
 refine uab (tupleItemsOf_ ht (uab (ufa ty ?_)))
 rw[if_pos (by decide)]
 refine uab (zcs hs pl pu ?_)
 have yes:(((sIx items.size 0 lo:Nat):Int)==0&&(1:Int)==1&&(sIx items.size items.size hi-sIx items.size 0 lo)==items.size)=true:=by
  rw[hw.1,hw.2];simp
 show wpAny _ _ (if (((sIx items.size 0 lo:Nat):Int)==0&&(1:Int)==1&&(sIx items.size items.size hi-sIx items.size 0 lo)==items.size)=true then _ else _) _ _ s
 rw[if_pos yes]
 refine uab (zka ht ?_)
 rw[if_pos rfl]
 exact uab (ud2 (uab (uag (uag ⟨_,rfl,uag h⟩))))
end
end HT
namespace L3
open PySem PySem.Spec PyProof.Rows L2
section
variable {X:Cx}{pins:List (Addr × Obj)}{σ:L2.St}{H:Hp}{s:Shared}{e:Expr}{te:TE}{pos p2:Pos}
theorem zrl {xs:List V}{lo hi:Option Int}(h:HT.sIx xs.length 0 lo=0/\HT.sIx xs.length xs.length hi=xs.length):cutV xs lo hi=xs:=by
 unfold cutV
 rw[h.1,h.2]
 simp
inductive rSlA_i  (x:V) (lo:Option Int) (hi:Option Int) (H:Hp) (Q:VK):Prop
 | mk:∀ a xs,(x=.ref a)->(H a=some (.tup xs))->(∀ p H',Same H H'->H' p=some (.tup (cutV xs lo hi))->Q (.ref p) H')->rSlA_i x lo hi H Q
def rSlA :V->Option Int->Option Int->Hp->VK->Prop:=λ x lo hi H Q=>rSlA_i x lo hi H Q
theorem zki:SlR X rSlA:=by
 intro pins s σ H x v vl vu lo hi sl Q I rx hs pl pu h
 obtain⟨a,xs,rfl,hx,q⟩:=h
 by_cases c:HT.sIx xs.length 0 lo=0/\HT.sIx xs.length xs.length hi=xs.length
 ·cases rx
  obtain⟨its,r,ht,hz⟩:=I.tuple (SqT.of hx)
  have hlen:its.toArray.size=xs.length:=by rw[uao];exact r.length.symm
  refine⟨"tuple",_,ub7.lookup,ht.typeIs,HT.zdo ht hs pl pu (by rw[hlen];exact c) ⟨.ref a,H,I,rfl,q _ _ (Same.refl H) (by rw[zrl c];exact hx)⟩⟩
 ·exact ztx (X:=X) pins s σ H (.ref a) v vl vu lo hi sl Q I rx hs pl pu ⟨a,xs,rfl,SqT.of hx,c,λ p hp=>q p _ (zam hp) zaj⟩
end
theorem iteB2 {b:Bool}{A B:Prop}(h1:b=true->B)(h2:b=false->A):if (!b)=true then A else B:=by
 cases b with
 | true=>exact h1 rfl
 | false=>exact h2 rfl
def numB (m:Nat):PyData->Bool
 | .int i=>decide (0<=i)&&decide (i<(m:Int))
 | _=>false
def intOf:PyData->Int
 | .int i=>i
 | _=>0
def risI (ns:List Int):Bool:=((uac (min ns.length (ns.drop 1).length)).map λ i=>decide (ns.getD i 0<(ns.drop 1).getD i 0)).all id
def keepB (m:Nat):PyData->Bool
 | .tuple ds=>ds.all (numB m)&&risI (ds.map intOf)
 | _=>false
def spRisI:Sp:=λ vs H Q _=>∃ p ns,vs=[.ref p]/\H p=some (.tup (ns.map V.int))/\ns.length<=1000/\∀ H',Same H H'->Q (.bl (risI ns)) H'
theorem zkw {ds:List PyData}(h:∀ d∈ds,∃ i,d=.int i):ds=(ds.map intOf).map .int:=by
 rw[uci]
 conv=>lhs;rw[← ugx ds]
 refine udi λ d hd=>?_
 obtain⟨i,rfl⟩:=h d hd
 rfl
structure Pre (m:Nat)(ds:List PyData)(i:Nat)(a:Int):Prop where
 num:∀ d∈ds.take i,numB m d=true
 up:((ds.take i).map intOf).Pairwise (·<·)
 top:∀ x∈(ds.take i).map intOf,x<=a
 at_:a=-1\/a∈(ds.take i).map intOf
theorem ziq {α:Type}{ds:List α}{i:Nat}{d:α}(e:ds[i]?=some d):ds.take (i+1)=ds.take i++[d]:=by
 rw[udv,e];rfl
def flatD:V->Bool
 | .non | .bl _ | .int _ | .str _=>true
 | _=>false
theorem Pot.same {H H':Hp}{p:Addr}(h:Pot H p)(s:Same H H'):Pot H' p:=let ⟨a,b,e,z⟩:=h;⟨a,b,s _ _ e,z⟩
theorem zlh:∀ ns:List Int,tupAll (ns.map .int)=true
 | []=>rfl
 | n::ns=>by show (tupD (.int n)&&tupAll (ns.map .int))=true;rw[zlh ns];rfl
theorem zlf:∀ ts:List Tie,tupAll (ts.map tieD)=true
 | []=>rfl
 | t::r=>by show (tupD (tieD t)&&tupAll (r.map tieD))=true;rw[zlf r];rfl
theorem zsk (n:Int)(ts:List Tie):tupD (webD n ts)=true:=by
 show (true&&(tupAll (ts.map tieD)&&true))=true
 rw[zlf ts];rfl
theorem zqe (ks:List Nat):tupD (keepD ks)=true:=zlh _
end L3
namespace L3
end L3
namespace L3
open PySem PySem.Spec PyProof.Rows L2
theorem lI {c:TT}{a b:TS}{D:Ends}{σ:L2.St}{H:Hp}(h:let A:=a;let B:=b;let E:=D;let S:=σ;tIfS c A B E S H):tIfS c a b D σ H:=h
theorem lF {i:TI}{g:TG}{b:TS}{D:Ends}{σ:L2.St}{H:Hp}(h:let B:=b;let E:=D;let S:=σ;tFor i g B E S H):tFor i g b D σ H:=h
end L3
namespace HT
open PySem PyProof.Rows
section
open PySem.SeqAt
open PySem.AutoSeq1 (wpAny_loadPart')
open PySem.MeetsSeq PySem.MeetsSeq2 PySem.MeetsSeq3
end
section
variable {prog:Program}{w:World}{A:Around}{E:Value->Shared->Prop}{s:Shared}
end
end HT
namespace L3
open PySem PySem.Spec PyProof.Rows L2
section
variable {X:Cx}
end
def wide:Nat->PyData->Prop
 | 0,_=>True
 | k+1,.tuple ds=>ds.length<=1000/\∀ d∈ds,wide k d
 | k+1,.list ds=>ds.length<=1000/\∀ d∈ds,wide k d
 | _+1,_=>True
def endsD:PyData->Int × Int
 | .tuple [.int a,.int b,.int _]=>(a,b)
 | _=>(0,0)
def tiesB (n:Int):PyData->Bool
 | .tuple ds=>decide (ds.length<=60)&&ds.all (tieB n)&&risingB (ds.map endsD)
 | _=>false
def Gd (H:Hp):Nat->V->Prop
 | 0,v=>flatD v=true
 | k+1,v=>flatD v=true\/(∃ p vs,v=.ref p/\(H p=some (.tup vs)\/H p=some (.lst vs))/\vs.length<=1000/\∀ u∈vs,Gd H k u)\/(∃ p,v=.ref p/\H p=some (.dK []))
def lt2 (e f:Int × Int):Prop:=e.1<f.1\/(e.1=f.1/\e.2<f.2)
theorem zl0 (e f:Int × Int):HT.lexLt (e2 e) (e2 f)=true↔lt2 e f:=by
 show (if e.1=f.1 then (if e.2=f.2 then false else decide (e.2<f.2)) else decide (e.1<f.1))=true↔_
 unfold lt2
 by_cases h:e.1=f.1
 ·rw[if_pos h]
  by_cases h2:e.2=f.2
  ·rw[if_pos h2];simp;left
  ·rw[if_neg h2,decide_eq_true_eq];left
 ·rw[if_neg h,decide_eq_true_eq];left
structure PreT (n:Int)(ds:List PyData)(i:Nat)(a:Int × Int):Prop where
 tie:∀ d∈ds.take i,tieB n d=true
 up:((ds.take i).map endsD).Pairwise lt2
 top:∀ x∈(ds.take i).map endsD,x=a\/lt2 x a
 at_:a=(-1,-1)\/a∈(ds.take i).map endsD
section
variable {X:Cx}{es:List Expr}{t:TA}{pos:Pos}
def tTupG (t:TA):TE:=λ σ H Q=>t σ H λ xs H1=>xs.length<=1000/\∀ p H',Same H1 H'->H1 p=none->H' p=some (.tup xs)->Q (.ref p) H'
def tLstG (t:TA):TE:=λ σ H Q=>t σ H λ xs H1=>xs.length<=1000/\∀ p H',Same H1 H'->H1 p=none->H' p=some (.lst xs)->Q (.ref p) H'
theorem zbk {x1} (h:PA X es t):PE X (.Tuple es x1 pos) (tTupG t):=by
 intro pins s σ H Q I hq
 refine wpAny_Tuple_spliced (thn (h pos pins s σ H _ I hq) λ us s1 ⟨xs,J,I1,r,z,q⟩=>?_)
 have z':xs.length<=sizeLine:=ubr z (by decide)
 have fr:J s1.heap.objs.size=none:=I1.hok.fresh (uai _)
 refine⟨by rw[← r.length];exact z',.ref s1.heap.objs.size,upd J s1.heap.objs.size (.tup xs),I1.laid (t':=s1.toks) (λ b u e=>Heap.get?_push_of_some _ e) (uai _) ⟨z',us,r,⟨_,Heap.get?_push_size _ rfl,rfl,⟨_,rfl⟩,rfl⟩⟩,rfl,q _ _ (zam fr) fr zaj⟩
theorem zbb (h:PA X es t):PE X (.List es pos) (tLstG t):=by
 intro pins s σ H Q I hq
 refine wpAny_List_spliced (thn (h pos pins s σ H _ I hq) λ us s1 ⟨xs,J,I1,r,z,q⟩=>?_)
 have z':xs.length<=sizeLine:=ubr z (by decide)
 have fr:J s1.heap.objs.size=none:=I1.hok.fresh (uai _)
 refine⟨by rw[← r.length];exact z',.ref s1.heap.objs.size,upd J s1.heap.objs.size (.lst xs),I1.laid (t':=s1.toks) (λ b u e=>Heap.get?_push_of_some _ e) (uai _) ⟨z',us,0,r,Heap.get?_push_size _ rfl⟩,rfl,q _ _ (zam fr) fr zaj⟩
inductive rExtendG_i  (x:V) (vs:List V) (H:Hp) (Q:VK):Prop
 | mk:∀ l b xs zs,(x=.ref l)->(vs=[.ref b])->(H l=some (.lst xs))->(H b=some (.lst zs))->(xs.length+zs.length<=1000)->(∀ H',But l H H'->H' l=some (.lst (xs++zs))->Q .non H')->rExtendG_i x vs H Q
def rExtendG :V->List V->Hp->VK->Prop:=λ x vs H Q=>rExtendG_i x vs H Q
theorem zmz:MtM X "list.extend" rExtendG:=by
 intro pins s σ H x vs v us Q I rx rv h
 obtain⟨l,b,xs,zs,rfl,rfl,hH,hB,hz,q⟩:=h
 exact zjb (X:=X) pins s σ H _ _ v us Q I rx rv ⟨l,b,xs,zs,rfl,rfl,hH,hB,ubr hz (by decide),q _ But.upd zaj⟩
inductive rAppendG_i  (x:V) (vs:List V) (H:Hp) (Q:VK):Prop
 | mk:∀ l xs y,(x=.ref l)->(vs=[y])->(H l=some (.lst xs))->(xs.length<1000)->(∀ H',But l H H'->H' l=some (.lst (xs++[y]))->Q .non H')->rAppendG_i x vs H Q
def rAppendG :V->List V->Hp->VK->Prop:=λ x vs H Q=>rAppendG_i x vs H Q
theorem zbv:MtM X "list.append" rAppendG:=by
 intro pins s σ H x vs v us Q I rx rv h
 obtain⟨l,xs,y,rfl,rfl,hH,hz,q⟩:=h
 exact zdy (X:=X) pins s σ H _ _ v us Q I rx rv ⟨l,xs,y,rfl,rfl,hH,ua4 hz (by decide),q _ But.upd zaj⟩
inductive call_listG_i  (xs:List V) (H:Hp) (Q:VK):Prop
 | mk:∀ p ys,(xs=[.ref p])->((H p=some (.lst ys)\/H p=some (.tup ys)))->(∀ l H',Same H H'->H l=none->H' l=some (.lst ys)->Q (.ref l) H')->call_listG_i xs H Q
theorem zel:CallR X (.type "list") (call_listG_i):=by
 intro pins s σ H xs us Q I r h
 obtain⟨p,ys,rfl,hp,q⟩:=h
 exact zjq (X:=X) pins s σ H _ us Q I r ⟨p,ys,rfl,hp.elim (λ e=>.inl (SqL.of e)) (λ e=>.inr (SqT.of e)),λ l hl=>q l _ (zam hl) hl zaj⟩
end
def Sm (H:Hp)(t:Addr):Prop:=∃ vs:List V,(H t=some (.tup vs)\/H t=some (.lst vs))/\vs.length<=1000/\vs.all flatD=true
def GdF (H:Hp)(xs:List V):Prop:=∀ u∈xs,∃ t,u=.ref t/\Sm H t
def GdL (l:Addr)(H:Hp)(xs:List V):Prop:=∀ u∈xs,∃ t,u=.ref t/\t≠l/\Sm H t
theorem GdL.append {l:Addr}{H:Hp}{xs ys:List V}(h:GdL l H xs)(k:GdL l H ys):GdL l H (xs++ys):=λ u hu=>(ua6.mp hu).elim (h u) (k u)
theorem ztn {prog:Program}{w:World}{A:Around}{E:Value->Shared->Prop}{s:Shared}{l b:Addr}{vs ws:List Value}{Q:Value->Shared->Prop}(hl:s.heap.IsList l vs.toArray)(hb:s.heap.IsList b ws.toArray)
  (h:Q (.ref s.heap.objs.size) { s with heap:=s.heap.push { cls:=.type "list",data:=.seq (vs++ws).toArray } }) (hz:vs.length+ws.length<=sizeLine):wpAny (model prog w) A (binaryOp .Add (.ref l) (.ref b)) Q E s:=by
 obtain⟨⟨c1,d1,t1,s1⟩,g1,h1,n1,e1⟩:=id hl
 obtain⟨⟨c2,d2,t2,s2⟩,g2,h2,n2,e2⟩:=id hb
 simp only at h1 e1 h2 e2
 subst h1 e1 h2 e2
 have e:vs.toArray++ws.toArray=(vs++ws).toArray:=by simp
 refine concat_meets ⟨_,g1,rfl⟩ ⟨_,g2,rfl⟩ noFill_list_add seq_list_add PySem.F.slot_list_add PySem.F.entry_list_add (PySem.F.args_list_add_2 _ _) (list_addW l b vs.toArray ws.toArray n1 n2 d1 d2 s1 s2 (by rw[uao,uao];exact hz)) ⟨g1,g2,?_⟩
 rw[e]
 exact h
inductive rCatL_i  (x:V) (y:V) (H:Hp) (Q:VK):Prop
 | mk:∀ a b xs ys,(x=.ref a)->(y=.ref b)->(H a=some (.lst xs))->(H b=some (.lst ys))->(xs.length+ys.length<=1000)->(∀ p H',Same H H'->H p=none->H' p=some (.lst (xs++ys))->Q (.ref p) H')->rCatL_i x y H Q
def rCatL :R2:=λ x y H Q=>rCatL_i x y H Q
theorem zko {X:Cx}:OpR X (binaryOp .Add) rCatL:=by
 intro pins s σ H x y v u Q I rx ry h
 obtain⟨a,b,xs,ys,rfl,rfl,ha,hb,hz,q⟩:=h
 cases rx
 cases ry
 obtain⟨its,r1,p1,_⟩:=I.list (SqL.of ha)
 obtain⟨jts,r2,p2,_⟩:=I.list (SqL.of hb)
 have hz':xs.length+ys.length<=sizeLine:=ubr hz (by decide)
 have fr:H s.heap.objs.size=none:=I.hok.fresh (uai _)
 refine ztn p1.isList p2.isList ⟨.ref s.heap.objs.size,_,I.laid (t':=s.toks) (o:=.lst (xs++ys)) (λ b ob q=>Heap.get?_push_of_some _ q) (uai _) ⟨by rw[uaq];exact hz',_,0,r1.append r2,Heap.get?_push_size _ rfl⟩,rfl,q _ _ (zam fr) fr zaj⟩ (by rw[← r1.length,← r2.length];exact hz')
section
variable {g:TG}{te:TE}{own:List Str}{js:List Nat}{σ:L2.St}{H1:Hp}{Q:VK}
theorem zm5 {lo:Int}{n:Nat}(Sg:L2.St->Prop)(R:Nat->V->Hp->Prop)(hn:n<=1000)(h0:Sg (start3 own js σ))(mono:∀ i v H H',TupKeep H H'->R i v H->R i v H')
  (step:∀ i σ' H',i<n->Same H1 H'->Sg σ'->∀ C:L2.St->V->Hp->Prop,(∀ σ3 v H5,Sg σ3->Same H' H5->R i v H5->C σ3 v H5)->g (.int (lo+i)) σ' H' λ σ3 H3=>te σ3 H3 λ v H5=>C σ3 v H5)
  (fin:∀ D ys H',H1 D=none->Same H1 H'->H' D=some (.lst ys)->ys.length=n->(∀ i v,ys[i]?=some v->R i v H')->Q (.ref D) H'):CompGo own js g tTrue te σ Q (Itr lo n) H1:=by
 refine zd7 n Sg R hn h0 mono (λ i H' hi s=>hi) (λ H' s=>uai _) (λ i x σ' H' H2 hi s hy sg C hC=>?_) fin
 obtain⟨rfl,rfl⟩:=hy
 exact step i σ' _ hi s sg C hC
end
inductive call_tupleG_i  (xs:List V) (H:Hp) (Q:VK):Prop
 | mk:∀ p ys,(xs=[.ref p])->(H p=some (.lst ys))->(∀ l H',Same H H'->H l=none->H' l=some (.tup ys)->Q (.ref l) H')->call_tupleG_i xs H Q
theorem za2 {X:Cx}:CallR X (.type "tuple") (call_tupleG_i):=by
 intro pins s σ H xs us Q I r h
 obtain⟨p,ys,rfl,hp,q⟩:=h
 exact zd8 (X:=X) pins s σ H _ us Q I r ⟨p,ys,rfl,.inl ⟨SqL.of hp,λ l hl=>q l _ (zam hl) hl zaj⟩⟩
def Row3 (H:Hp)(v:V):Prop:=∃ (t:Addr)(x y z:Int),v=.ref t/\H t=some (.tup [.int x,.int y,.int z])
section
variable {X:Cx}
end
end L3
namespace Far
inductive Walk (A:List (Nat × Nat × Int))(s:Nat):Nat->Int->Prop
 | nil:Walk A s s 0
 | snoc {u v:Nat} {l x:Int}:Walk A s u x->(u,v,l)∈A->Walk A s v (x+l)
variable {A:List (Nat × Nat × Int)}{s:Nat}
def Pos (A:List (Nat × Nat × Int)):Prop:=∀ u v l,(u,v,l)∈A->1<=l
theorem Walk.nonneg (P:Pos A){v:Nat}{x:Int}(h:Walk A s v x):0<=x:=by
 induction h with
 | nil=>exact ub2 0
 | snoc _ m ih=>have:=P _ _ _ m;left
def Dst (A:List (Nat × Nat × Int))(s v:Nat)(o:Option Int):Prop:=(∀ y,o=some y->Walk A s v y)/\∀ L,Walk A s v L->∃ y,o=some y/\y<=L
theorem Dst.unique {v:Nat}{o p:Option Int}(h:Dst A s v o)(k:Dst A s v p):o=p:=by
 cases o with
 | none =>
  cases p with
  | none=>rfl
  | some y=>obtain⟨_,e,_⟩:=h.2 y (k.1 y rfl);cases e
 | some x =>
  obtain⟨y,rfl,hy⟩:=k.2 x (h.1 x rfl)
  obtain⟨z,e,hz⟩:=h.2 y (k.1 y rfl)
  cases e
  rw[show x=y by left]
theorem least {P:Nat->Prop}:∀ n,P n->∃ m,P m/\∀ k,P k->m<=k:=by
 intro n
 induction n using ufp with
 | ind n ih =>
  intro h
  by_cases c:∃ k,k<n/\P k
  ·obtain⟨k,hk,pk⟩:=c;exact ih k hk pk
  ·exact⟨n,h,λ k pk=>by
    by_cases z:k<n
    ·exact absurd ⟨k,z,pk⟩ c
    ·left⟩
theorem zdb (P:Pos A)(s v:Nat):∃ o,Dst A s v o:=by
 by_cases c:∃ x,Walk A s v x
 ·obtain⟨x,hx⟩:=c
  have nn:=hx.nonneg P
  obtain⟨m,hm,mn⟩:=least (P:=λ k=>Walk A s v (k:Int)) x.toNat (by rw[ua9 nn];exact hx)
  refine⟨some m,λ y e=>by cases e;exact hm,λ L hL=>⟨m,rfl,?_⟩⟩
  have n2:=hL.nonneg P
  have:=mn L.toNat (by rw[ua9 n2];exact hL)
  left
 ·exact⟨none,⟨λ y e=>(by cases e),λ L hL=>absurd ⟨L,hL⟩ c⟩⟩
theorem Walk.cons {u v:Nat}{l:Int}(m:(u,v,l)∈A){w:Nat}{x:Int}(h:Walk A v w x):Walk A u w (x+l):=by
 induction h with
 | nil=>exact .snoc .nil m
 | snoc _ m' ih=>rw[uf9];exact .snoc ih m'
def Sym (A:List (Nat × Nat × Int)):Prop:=∀ u v l,(u,v,l)∈A->(v,u,l)∈A
theorem Walk.back (S:Sym A){v:Nat}{x:Int}(h:Walk A s v x):Walk A v s x:=by
 induction h with
 | nil=>exact .nil
 | snoc _ m ih=>exact ih.cons (S _ _ _ m)
theorem Dst.back (S:Sym A){v:Nat}{o:Option Int}(h:Dst A s v o):Dst A v s o:=⟨λ y e=>(h.1 y e).back S,λ L hL=>h.2 L (hL.back S)⟩
def lt2 (e f:Int × Int):Prop:=e.1<f.1\/(e.1=f.1/\e.2<f.2)
def get {α:Type}(cs:List (Option α))(v:Nat):Option α:=cs.getD v none
theorem za5 {α:Type}{cs:List (Option α)}{v i:Nat}{x:Option α}(h:v<cs.length):get (cs.set v x) i=if i=v then x else get cs i:=by
 unfold get
 rw[uah,List.getElem?_set,uah]
 by_cases c:v=i
 ·subst c;simp [h]
 ·simp [c,Ne.symm c]
def ct {α:Type}:List (Option α)->Nat
 | []=>0
 | none::r=>ct r
 | some _::r=>ct r+1
theorem zrm {α:Type}:∀ cs:List (Option α),ct cs<=cs.length
 | []=>uai 0
 | none::r=>Nat.le_succ_of_le (zrm r)
 | some _::r=>ufj (zrm r)
theorem zme {α:Type}{c:α}:∀ {cs:List (Option α)}{v:Nat},v<cs.length->ct (cs.set v (some c))=ct cs+(if (get cs v).isSome then 0 else 1)
 | none::r,0,_=>rfl
 | some _::r,0,_=>rfl
 | none::r,v+1,h=>zme (cs:=r) (v:=v) (by simpa using h)
 | some _::r,v+1,h=>by
  have:=zme (c:=c) (cs:=r) (v:=v) (by simpa using h)
  show ct (r.set v (some c))+1=ct r+1+_
  rw[this]
  show _=ct r+1+(if (get r v).isSome then 0 else 1)
  left
theorem zse {α:Type}:∀ {cs:List (Option α)}{v:Nat}{c:α},get cs v=some c->1<=ct cs
 | [],v,c,h=>by cases h
 | some _::r,_,_,_=>ufj (ubj _)
 | none::r,0,c,h=>by cases h
 | none::r,v+1,c,h=>zse (cs:=r) (v:=v) (c:=c) h
def WM:Int:=2^130
def mW:Option (Int × Int)->Nat
 | none=>(2^250)
 | some c=>(c.1*WM+c.2).toNat
def mu:List (Option (Int × Int))->Nat
 | []=>0
 | c::r=>mW c+mu r
theorem zr4 {x:Option (Int × Int)}:∀ {cs:List (Option (Int × Int))}{v:Nat},v<cs.length->mW x<mW (get cs v)->mu (cs.set v x)<mu cs
 | c::r,0,_,h=>Nat.add_lt_add_right (k:=mu r) h
 | c::r,v+1,hl,h=>Nat.add_lt_add_left (k:=mW c) (zr4 (cs:=r) (v:=v) (by simpa using hl) h)
structure Good (A:List (Nat × Nat × Int))(n s:Nat)(cs:List (Option (Int × Int))):Prop where
 len:cs.length=n
 walk:∀ v c,get cs v=some c->Walk A s v c.1
 w0:∀ v c,get cs v=some c->0<=c.2/\c.2<=c.1*2^60
 top:∀ v c,get cs v=some c->c.1<=((ct cs:Nat)-1:Int)*10^18
 start:∃ c,get cs s=some c/\c.1<=0
theorem Good.step {n u v:Nat}{l w:Int}{cs:List (Option (Int × Int))}{c:Int × Int}(P:Pos A)(n24:n<=24)(g:Good A n s cs)(arc:(u,v,l)∈A)(l1:l<=10^18)(w0:0<=w)(w1:w<=2^60)(hv:v<n)(hu:get cs u=some c)
  (h:get cs v=none\/∃ c',get cs v=some c'/\lt2 (c.1+l,c.2+w) c'):Good A n s (cs.set v (some (c.1+l,c.2+w)))/\mu (cs.set v (some (c.1+l,c.2+w)))<mu cs:=by
 have hv':v<cs.length:=by rw[g.len];exact hv
 have l0:=P _ _ _ arc
 have wk:=Walk.snoc (g.walk _ _ hu) arc
 have c0:=(g.walk _ _ hu).nonneg P
 obtain⟨cw0,cw1⟩:=g.w0 _ _ hu
 have ct24:ct cs<=24:=by have:=zrm cs;rw[g.len] at this;left
 have ctp:=zse hu
 have es:=zme (c:=(c.1+l,c.2+w)) hv'
 have topc:=g.top _ _ hu
 have wbound:c.2+w<=(c.1+l)*2^60:=by rw[Int.add_mul];left
 have big:c.1+l<=((ct (cs.set v (some (c.1+l,c.2+w))):Nat)-1:Int)*10^18:=by
  rw[es]
  rcases h with h | ⟨c',h,hlt⟩
  ·rw[h]
   show _<=(((ct cs+1:Nat):Int)-1)*10^18
   left
  ·rw[h]
   show _<=(((ct cs+0:Nat):Int)-1)*10^18
   have:=g.top _ _ h
   unfold lt2 at hlt
   simp only at hlt
   left
 have ctm:ct cs<=ct (cs.set v (some (c.1+l,c.2+w))):=by rw[es];exact uem _ _
 refine⟨⟨by rw[uce];exact g.len,λ v' d e=>?_,λ v' d e=>?_,λ v' d e=>?_,?_⟩,?_⟩
 ·rw[za5 hv'] at e
  split at e
  ·rename_i z;subst z;cases e;exact wk
  ·exact g.walk _ _ e
 ·rw[za5 hv'] at e
  split at e
  ·cases e;exact⟨by show 0<=c.2+w;left,wbound⟩
  ·exact g.w0 _ _ e
 ·rw[za5 hv'] at e
  split at e
  ·cases e;exact big
  ·have:=g.top _ _ e
   left
 ·obtain⟨d,hd,hd0⟩:=g.start
  rw[za5 hv']
  split
  ·rename_i z;subst z
   refine⟨_,rfl,?_⟩
   rcases h with h | ⟨c',h,hlt⟩
   ·rw[h] at hd;cases hd
   ·rw[h] at hd;cases hd
    unfold lt2 at hlt
    simp only at hlt
    show c.1+l<=0
    left
  ·exact⟨d,hd,hd0⟩
 ·refine zr4 hv' ?_
  have ctb:ct (cs.set v (some (c.1+l,c.2+w)))<=24:=by have:=zrm (cs.set v (some (c.1+l,c.2+w)));rw[uce,g.len] at this;left
  have x23:c.1+l<=23*10^18:=by left
  have y23:c.2+w<=23*10^18*2^60:=by left
  have WMe:WM=1361129467683753853853498429727072845824:=by decide
  rcases h with h | ⟨c',h,hlt⟩
  ·rw[h]
   show ((c.1+l)*WM+(c.2+w)).toNat<2^250
   have:(c.1+l)*WM+(c.2+w)<2^250:=by rw[WMe];left
   left
  ·rw[h]
   obtain⟨d0,d1⟩:=g.w0 _ _ h
   have t0:=(g.walk _ _ h).nonneg P
   have tt:=g.top _ _ h
   show ((c.1+l)*WM+(c.2+w)).toNat<(c'.1*WM+c'.2).toNat
   unfold lt2 at hlt
   simp only at hlt
   have:(c.1+l)*WM+(c.2+w)<c'.1*WM+c'.2:=by
    rw[WMe]
    rcases hlt with z | ⟨z,z'⟩
    ·left
    ·rw[z];left
   have p0:0<=(c.1+l)*WM+(c.2+w):=by rw[WMe];left
   left
def Stab (A:List (Nat × Nat × Int))(cs:List (Option (Int × Int))):Prop:=∀ u v l c,(u,v,l)∈A->get cs u=some c->∃ c',get cs v=some c'/\c'.1<=c.1+l
theorem Good.dst {n:Nat}{cs:List (Option (Int × Int))}(g:Good A n s cs)(st:Stab A cs)(v:Nat):Dst A s v ((get cs v).map (·.1)):=by
 refine⟨λ y e=>?_,λ L hL=>?_⟩
 ·cases h:get cs v with
  | none=>rw[h] at e;cases e
  | some c=>rw[h] at e;cases e;exact g.walk _ _ h
 ·have:∃ c,get cs v=some c/\c.1<=L:=by
   induction hL with
   | nil=>exact g.start
   | snoc _ m ih =>
    obtain⟨c,hc,hle⟩:=ih
    obtain⟨c',hc',hle'⟩:=st _ _ _ _ m hc
    exact⟨c',hc',by left⟩
  obtain⟨c,hc,hle⟩:=this
  exact⟨c.1,by rw[hc];rfl,hle⟩
structure Snd (A:List (Nat × Nat × Int))(n s:Nat)(D:List (Option Int)):Prop where
 len:D.length=n
 walk:∀ v x,get D v=some x->Walk A s v x
 start:∃ x,get D s=some x/\x<=0
structure Rnd (A:List (Nat × Nat × Int))(n s:Nat)(δ:Nat->Option Int)(D0:List (Option Int))(B:(Nat × Nat × Int)->Prop)(D:List (Option Int)):Prop where
 snd:Snd A n s D
 keep:∀ v,get D0 v=δ v->get D v=δ v
 arc:∀ u v l x,B (u,v,l)->get D0 u=δ u->δ u=some x->∃ y,get D v=some y/\y<=x+l
section
variable {n:Nat}{δ:Nat->Option Int}{D0 D:List (Option Int)}{B:(Nat × Nat × Int)->Prop}{u v:Nat}{l:Int}
def plus (B:(Nat × Nat × Int)->Prop)(a:Nat × Nat × Int):(Nat × Nat × Int)->Prop:=λ b=>B b\/b=a
theorem Rnd.no (r:Rnd A n s δ D0 B D)(hu:get D u=none):Rnd A n s δ D0 (plus B (u,v,l)) D:=by
 refine⟨r.snd,r.keep,λ u' v' l' x b e1 e2=>?_⟩
 rcases b with b | b
 ·exact r.arc _ _ _ _ b e1 e2
 ·cases b
  have:=r.keep _ e1
  rw[hu,e2] at this;cases this
theorem Rnd.old (r:Rnd A n s δ D0 B D){x' y:Int}(hu:get D u=some x')(hv:get D v=some y)(hy:y<=x'+l):Rnd A n s δ D0 (plus B (u,v,l)) D:=by
 refine⟨r.snd,r.keep,λ u' v' l' x b e1 e2=>?_⟩
 rcases b with b | b
 ·exact r.arc _ _ _ _ b e1 e2
 ·cases b
  have:=r.keep _ e1
  rw[hu,e2] at this;cases this
  exact⟨y,hv,hy⟩
theorem Rnd.put (dd:∀ v,Dst A s v (δ v))(m:(u,v,l)∈A)(hn:v<n)(r:Rnd A n s δ D0 B D){x':Int}(hu:get D u=some x')(hv:get D v=none\/∃ y,get D v=some y/\x'+l<y)(P:Pos A):Rnd A n s δ D0 (plus B (u,v,l)) (D.set v (some (x'+l))):=by
 have hl:v<D.length:=by rw[r.snd.len];exact hn
 have wk:=Walk.snoc (r.snd.walk _ _ hu) m
 obtain⟨d,hd,hdl⟩:=(dd v).2 _ wk
 have bad:get D0 v=δ v->False:=λ e=>by
  have e':=r.keep _ e
  rcases hv with hv | ⟨y,hv,hy⟩
  ·rw[hv,hd] at e';cases e'
  ·rw[hv,hd] at e';cases e';left
 refine⟨⟨by rw[uce];exact r.snd.len,λ i x e=>?_,?_⟩,λ i e=>?_,λ u' v' l' x b e1 e2=>?_⟩
 ·rw[za5 hl] at e
  split at e
  ·rename_i z;subst z;cases e;exact wk
  ·exact r.snd.walk _ _ e
 ·rw[za5 hl]
  split
  ·rename_i z;subst z
   obtain⟨x,hx,hx0⟩:=r.snd.start
   rcases hv with hv | ⟨y,hv,hy⟩
   ·rw[hv] at hx;cases hx
   ·rw[hv] at hx;cases hx
    exact⟨_,rfl,by left⟩
  ·exact r.snd.start
 ·rw[za5 hl]
  split
  ·rename_i z;subst z;exact absurd e bad
  ·exact r.keep _ e
 ·rw[za5 hl]
  rcases b with b | b
  ·obtain⟨y',hy',hle⟩:=r.arc _ _ _ _ b e1 e2
   split
   ·rename_i z;subst z
    refine⟨_,rfl,?_⟩
    rcases hv with hv | ⟨y,hv,hy⟩
    ·rw[hv] at hy';cases hy'
    ·rw[hv] at hy';cases hy';left
   ·exact⟨y',hy',hle⟩
  ·cases b
   have:=r.keep _ e1
   rw[hu,e2] at this;cases this
   rw[if_pos rfl]
   exact⟨_,rfl,ub2 _⟩
theorem Rnd.next (dd:∀ v,Dst A s v (δ v))(P:Pos A)(inn:∀ u v l,(u,v,l)∈A->u<n/\v<n)(s0:Snd A n s D0)(r:Rnd A n s δ D0 B D)(all:∀ a∈A,B a):∀ (k:Nat)(v:Nat),v<n->get D0 v≠δ v->(∀ d,δ v=some d->d.toNat<=k)->∃ v,v<n/\get D0 v≠δ v/\get D v=δ v:=by
 intro k
 induction k using ufp with
 | ind k ih =>
  intro v hv hne hk
  cases e:δ v with
  | none =>
   cases e2:get D0 v with
   | none=>exact absurd (e2.trans e.symm) hne
   | some x =>
    obtain⟨y,hy,_⟩:=(dd v).2 _ (s0.walk _ _ e2)
    rw[e] at hy;cases hy
  | some d =>
   have wk:=(dd v).1 _ e
   have hkd:=hk _ e
   cases hw:wk with
   | nil =>
    obtain⟨x,hx,hx0⟩:=s0.start
    have:=(s0.walk _ _ hx).nonneg P
    have:x=0:=by left
    subst this
    exact absurd (hx.trans e.symm) hne
   | @snoc u _ l x w m =>
    obtain⟨y,hy,hyx⟩:=(dd u).2 _ w
    obtain⟨d',hd',hle⟩:=(dd v).2 _ (Walk.snoc ((dd u).1 _ hy) m)
    rw[e] at hd';cases hd'
    have yx:y=x:=by left
    subst yx
    by_cases c:get D0 u=δ u
    ·obtain⟨y',hy',hle'⟩:=r.arc _ _ _ _ (all _ m) c hy
     obtain⟨d',hd',hle2⟩:=(dd v).2 _ (r.snd.walk _ _ hy')
     rw[e] at hd';cases hd'
     have:y'=y+l:=by left
     subst this
     exact⟨v,hv,hne,hy'.trans e.symm⟩
    ·have l1:=P _ _ _ m
     have y0:=((dd u).1 _ hy).nonneg P
     refine ih (k-1) (by left) u (inn _ _ _ m).1 c λ d hd=>?_
     rw[hy] at hd;cases hd;left
end
theorem zc3 {α:Type}{p q:α->Bool}:∀ {xs:List α},(∀ x∈xs,p x=true->q x=true)->(∃ x∈xs,q x=true/\p x=false)->xs.countP p<xs.countP q
 | [],_,⟨x,h,_⟩=>by cases h
 | a::r,h,⟨x,hx,e1,e2⟩=>by
  rw[ufi,ufi]
  have le:r.countP p<=r.countP q:=uei λ x hx=>h x (uam _ hx)
  rcases uar.mp hx with rfl | hx
  ·rw[e1,e2];simp;left
  ·have:=zc3 (xs:=r) (λ x hx=>h x (uam _ hx)) ⟨x,hx,e1,e2⟩
   have:=h a uan
   cases e:p a <;> cases e':q a <;> simp_all <;> left
def cnt (n:Nat)(δ:Nat->Option Int)(D:List (Option Int)):Nat:=(uac n).countP λ v=>decide (get D v=δ v)
def Done (n:Nat)(δ:Nat->Option Int)(D:List (Option Int))(k:Nat):Prop:=(∀ v,v<n->get D v=δ v)\/k+1<=cnt n δ D
theorem Done.round {n:Nat}{δ:Nat->Option Int}{D0 D:List (Option Int)}{B:(Nat × Nat × Int)->Prop}{k:Nat}(dd:∀ v,Dst A s v (δ v))(P:Pos A)(inn:∀ u v l,(u,v,l)∈A->u<n/\v<n)(s0:Snd A n s D0)(r:Rnd A n s δ D0 B D)(all:∀ a∈A,B a)(h:Done n δ D0 k):Done n δ D (k+1):=by
 by_cases c:∀ v,v<n->get D0 v=δ v
 ·exact .inl λ v hv=>r.keep v (c v hv)
 ·rcases h with h | h
  ·exact absurd h c
  ·have ⟨v,z⟩:=Classical.not_forall.mp c
   have ⟨hv,hne⟩:=Classical.not_imp.mp z
   obtain⟨v',hv',n0,n1⟩:=r.next dd P inn s0 all ((δ v).getD 0).toNat v hv hne λ d e=>by rw[e];exact uai _
   refine .inr (ucb h (zc3 (λ x _ e=>?_) ⟨v',uaj.mpr hv',decide_eq_true n1,decide_eq_false n0⟩))
   exact decide_eq_true (r.keep x (of_decide_eq_true e))
theorem Done.first {n:Nat}{δ:Nat->Option Int}{D:List (Option Int)}{v:Nat}(hv:v<n)(h:get D v=δ v):Done n δ D 0:=by
 refine .inr ?_
 exact List.countP_pos_iff.mpr ⟨v,uaj.mpr hv,decide_eq_true h⟩
theorem Done.all {n:Nat}{δ:Nat->Option Int}{D:List (Option Int)}(h:Done n δ D n):∀ v,v<n->get D v=δ v:=by
 rcases h with h | h
 ·exact h
 ·have:cnt n δ D<=n:=by
   have:=List.countP_le_length (p:=λ v=>decide (get D v=δ v)) (l:=uac n)
   rw[ua8] at this;exact this
  left
def PSt (c0:List (Option (Int × Int)))(B:(Nat × Nat × Int)->Prop)(cs:List (Option (Int × Int)))(ag:Bool):Prop :=
 (ag=false/\cs=c0/\∀ u v l c,B (u,v,l)->get c0 u=some c->∃ c',get c0 v=some c'/\c'.1<=c.1+l)\/(ag=true/\mu cs<mu c0)
section
variable {c0 cs:List (Option (Int × Int))}{B B':(Nat × Nat × Int)->Prop}{ag:Bool}{u v:Nat}{l w:Int}
end
theorem zc1 {α:Type}(n v:Nat):get (uay n (none:Option α)) v=none:=by
 unfold get
 rw[uah,uea]
 split <;> rfl
theorem zsd {α:Type}:∀ n:Nat,ct (uay n (none:Option α))=0
 | 0=>rfl
 | n+1=>zsd n
theorem Good.first {n:Nat}(hs:s<n):Good A n s ((uay n none).set s (some (0,0))):=by
 have hl:s<(uay n (none:Option (Int × Int))).length:=by rw[ubg];exact hs
 have cases':∀ v c,get ((uay n (none:Option (Int × Int))).set s (some (0,0))) v=some c->v=s/\c=(0,0):=λ v c e=>by
  rw[za5 hl,zc1] at e
  split at e
  ·rename_i z;cases e;exact⟨z,rfl⟩
  ·cases e
 refine⟨by rw[uce,ubg],λ v c e=>?_,λ v c e=>?_,λ v c e=>?_,⟨(0,0),?_,ub2 _⟩⟩
 ·obtain⟨rfl,rfl⟩:=cases' _ _ e;exact .nil
 ·obtain⟨rfl,rfl⟩:=cases' _ _ e;exact⟨ub2 _,by decide⟩
 ·obtain⟨rfl,rfl⟩:=cases' _ _ e
  rw[zme hl,zsd,zc1];decide
 ·rw[za5 hl,if_pos rfl]
theorem Snd.first {n:Nat}(hs:s<n):Snd A n s ((uay n none).set s (some 0)):=by
 have hl:s<(uay n (none:Option Int)).length:=by rw[ubg];exact hs
 refine⟨by rw[uce,ubg],λ v c e=>?_,⟨0,?_,ub2 _⟩⟩
 ·rw[za5 hl,zc1] at e
  split at e
  ·rename_i z;subst z;cases e;exact .nil
  ·cases e
 ·rw[za5 hl,if_pos rfl]
theorem Rnd.start {n:Nat}{δ:Nat->Option Int}{D:List (Option Int)}(h:Snd A n s D):Rnd A n s δ D (λ _=>False) D:=⟨h,λ _ e=>e,λ _ _ _ _ z=>z.elim⟩
theorem Rnd.less {n:Nat}{δ:Nat->Option Int}{D0 D:List (Option Int)}{B B':(Nat × Nat × Int)->Prop}(h:Rnd A n s δ D0 B D)(k:∀ a,B' a->B a):Rnd A n s δ D0 B' D:=⟨h.snd,h.keep,λ u v l x z=>h.arc u v l x (k _ z)⟩
theorem zmu {n:Nat}{δ:Nat->Option Int}{D:List (Option Int)}(P:Pos A)(hs:s<n)(dd:∀ v,Dst A s v (δ v))(h:Snd A n s D):Done n δ D 0:=by
 obtain⟨x,hx,hx0⟩:=h.start
 obtain⟨y,hy,hyl⟩:=(dd s).2 0 .nil
 have:=((dd s).1 _ hy).nonneg P
 have:=(h.walk _ _ hx).nonneg P
 exact Done.first hs (by rw[hx,hy,show x=y by left])
end Far
namespace L3
open PySem PySem.Spec PyProof.Rows L2
def tieAt (ts:List Tie)(k:Nat):Tie:=ts.getD k (0,0,0)
def arcs2 (t:Tie):List (Nat × Nat × Int):=[(t.1.toNat,t.2.1.toNat,t.2.2),(t.2.1.toNat,t.1.toNat,t.2.2)]
def arcs (ts:List Tie)(ks:List Nat):List (Nat × Nat × Int):=ks.flatMap λ k=>arcs2 (tieAt ts k)
theorem arcs_mem {ts:List Tie}{ks:List Nat}{a:Nat × Nat × Int}:a∈arcs ts ks↔∃ k,k∈ks/\a∈arcs2 (tieAt ts k):=by
 unfold arcs;rw[uck]
theorem arcs2_mem {t:Tie}{a:Nat × Nat × Int}:a∈arcs2 t↔a=(t.1.toNat,t.2.1.toNat,t.2.2)\/a=(t.2.1.toNat,t.1.toNat,t.2.2):=by
 unfold arcs2;simp
theorem zav {ts:List Tie}{k:Nat}(h:k<ts.length):ts[k]?=some (tieAt ts k)/\tieAt ts k∈ts:=by
 have e:ts[k]?=some (tieAt ts k):=by unfold tieAt;rw[uah,uaf h];rfl
 exact⟨e,uat e⟩
theorem ztk {a b c d:Int}(h1:0<=a)(h2:a<b)(h3:0<=c)(h4:c<d)(h:a.toNat=c.toNat/\b.toNat=d.toNat\/a.toNat=d.toNat/\b.toNat=c.toNat):a=c/\b=d:=by left
theorem zmb {s t:Tie}(h:endLt s t)(e1:s.1=t.1)(e2:s.2.1=t.2.1):False:=by
 rcases h with h | h
 ·exact uf8 _ (e1 ▸ h)
 ·exact uf8 _ (e2 ▸ h.2)
theorem zli {n:Int}{ts:List Tie}(ok:WebOk n ts){k k':Nat}(hk:k<ts.length)(hk':k'<ts.length)(e1:(tieAt ts k).1=(tieAt ts k').1)(e2:(tieAt ts k).2.1=(tieAt ts k').2.1):k=k':=by
 have pw:∀ i j (hi:i<ts.length) (hj:j<ts.length),i<j->endLt (tieAt ts i) (tieAt ts j):=λ i j hi hj z=>by
  have q:=ucd.mp ok.rise i j hi hj z
  have g:∀ {i:Nat}(hi:i<ts.length),ts[i]=tieAt ts i:=λ {i} hi=>ua3 ((uaf hi).symm.trans (zav hi).1)
  rwa [g hi,g hj] at q
 rcases udx k k' with z | z | z
 ·exact (zmb (pw k k' hk hk' z) e1 e2).elim
 ·exact z
 ·exact (zmb (pw k' k hk' hk z) e1.symm e2.symm).elim
section
variable {n:Int}{ts:List Tie}{ks:List Nat}
theorem zrs:Far.Sym (arcs ts ks):=λ u v l h=>by
 obtain⟨k,hk,h⟩:=arcs_mem.mp h
 refine arcs_mem.mpr ⟨k,hk,arcs2_mem.mpr ?_⟩
 rcases arcs2_mem.mp h with h | h <;> cases h
 ·exact .inr rfl
 ·exact .inl rfl
theorem zmp (ok:WebOk n ts)(ko:KeepOk ts.length ks):Far.Pos (arcs ts ks):=λ u v l h=>by
 obtain⟨k,hk,h⟩:=arcs_mem.mp h
 have:=ok.tie _ (zav (ko.2 k hk)).2
 rcases arcs2_mem.mp h with h | h <;> cases h <;> left
theorem zpx (ok:WebOk n ts)(ko:KeepOk ts.length ks):∀ u v l,(u,v,l)∈arcs ts ks->u<n.toNat/\v<n.toNat:=λ u v l h=>by
 obtain⟨k,hk,h⟩:=arcs_mem.mp h
 have:=ok.tie _ (zav (ko.2 k hk)).2
 rcases arcs2_mem.mp h with h | h <;> cases h <;> left
end
def CV (H:Hp)(v:V):Option (Int × Int)->Prop
 | none=>v=.non
 | some e=>∃ t,v=.ref t/\H t=some (.tup [.int e.1,.int e.2])
theorem CV.keep {H H':Hp}(k:TupKeep H H'){v:V}:∀ {o:Option (Int × Int)},CV H v o->CV H' v o
 | none,h=>h
 | some e,⟨t,h1,h2⟩=>⟨t,h1,k _ _ h2⟩
def CostL (H:Hp)(vs:List V)(cs:List (Option (Int × Int))):Prop:=vs.length=cs.length/\∀ i v,vs[i]?=some v->CV H v (Far.get cs i)
section
variable {H H' J J':Hp}{vs cvs avs ws:List V}{cs:List (Option (Int × Int))}{lw lc la t:Addr}{n k:Nat}{x y:Int}
theorem CostL.keep (h:CostL H vs cs)(k:TupKeep H H'):CostL H' vs cs:=⟨h.1,λ i v e=>(h.2 i v e).keep k⟩
theorem CostL.set {v:V}{c:Int × Int}(h:CostL H vs cs)(hk:k<vs.length)(hv:CV H v (some c)):CostL H (vs.set k v) (cs.set k (some c)):=by
 refine⟨by rw[uce,uce];exact h.1,λ i u e=>?_⟩
 rw[Far.za5 (by rw[← h.1];exact hk)]
 rw[List.getElem?_set] at e
 by_cases z:k=i
 ·subst z;rw[if_pos rfl,if_pos hk] at e;cases e;rw[if_pos rfl];exact hv
 ·rw[if_neg z] at e;rw[if_neg (Ne.symm z)];exact h.2 i u e
theorem CostL.first (n:Nat):CostL H (uay n .non) (uay n none):=by
 refine⟨by rw[ubg,ubg],λ i v e=>?_⟩
 rw[Far.zc1]
 rw[uea] at e
 split at e
 ·cases e;rfl
 ·cases e
theorem zio {p:Addr}{xs:List V}{o:HO}(h:J p=some (.lst xs)):TupKeep J (upd J p o):=λ a ys e=>by
 rw[zas (λ z=>by rw[z,h] at e;cases e)];exact e
theorem znm (s:Same J J'):TupKeep J J':=λ a xs e=>s _ _ e
structure RH (H J:Hp)(lw lc la:Addr)(ws:List V)(n:Nat)(cs:List (Option (Int × Int))):Prop where
 same:Same H J
 fc:H lc=none
 fa:H la=none
 nwc:lw≠lc
 nwa:lw≠la
 nca:lc≠la
 wl:J lw=some (.lst ws)
 co:∃ cvs,J lc=some (.lst cvs)/\CostL J cvs cs
 ah:∃ avs,J la=some (.lst avs)/\avs.length=n
end
theorem znz {α:Type}(x:α):∀ k:Nat,(uay k [x]).flatten=uay k x
 | 0=>rfl
 | k+1=>by rw[udg,uef,znz x k];rfl
def ov:Option Int->V
 | none=>.non
 | some x=>.int x
theorem zkn {D:List (Option Int)}{i:Nat}(h:i<D.length):(D.map ov)[i]?=some (ov (Far.get D i)):=by
 rw[uak,uaf h]
 unfold Far.get
 rw[uah,uaf h];rfl
theorem zaw {α:Type}{xs:List α}{i:Int}{x:α}(h0:0<=i)(h:xs[i.toNat]?=some x):atI xs i=some x:=by
 have hl:=(ual.mp h).1
 unfold atI ixN
 rw[if_pos h0,if_pos (by left)]
 exact h
theorem zco {n:Nat}{i:Int}(h0:0<=i)(h:i<n):ixN n i=some i.toNat:=by
 unfold ixN;rw[if_pos h0,if_pos h]
inductive rRep1_i  (x:V) (y:V) (H:Hp) (Q:VK):Prop
 | mk:∀ l k z,(x=.ref l)->(y=.int k)->(H l=some (.lst [z]))->(0<=k)->(k<=1000)->(∀ p H',Same H H'->H p=none->H' p=some (.lst (uay k.toNat z))->Q (.ref p) H')->rRep1_i x y H Q
def rRep1 :R2:=λ x y H Q=>rRep1_i x y H Q
theorem zg7 {X:Cx}:OpR X (binaryOp .Mult) rRep1:=by
 intro pins s σ H x y v u Q I rx ry h
 obtain⟨l,k,z,rfl,rfl,hH,h1,h2,q⟩:=h
 refine zt5 (X:=X) pins s σ H _ _ v u Q I rx ry ⟨l,k,_,rfl,rfl,hH,by left,by left,?_,λ p hp=>q p _ (zam hp) hp (by rw[zaj,znz])⟩
 exact ubr (by show 1*k.toNat<=1000;left) (by decide:1000<=sizeLine)
theorem zbu {K:uad}{H:Hp}:∀ {ts:List Tie}{ws:List V}{k:Nat},IsAll K H (ts.map tieD) ws->k<ts.length->∃ a,ws[k]?=some (.ref a)/\H a=some (.tup [.int (tieAt ts k).1,.int (tieAt ts k).2.1,.int (tieAt ts k).2.2])
 | t::r,ws,0,h,_=>by
  obtain⟨v,vs,rfl,h1,_⟩:=h
  obtain⟨a,xs,rfl,ha,hx⟩:=h1
  have e:xs=(tieI t).map V.int:=IsAll.of_ints (ns:=tieI t) hx
  subst e
  exact⟨a,rfl,ha⟩
 | t::r,ws,k+1,h,hk=>by
  obtain⟨v,vs,rfl,_,h2⟩:=h
  obtain⟨a,e,ha⟩:=zbu (ts:=r) (ws:=vs) (k:=k) h2 (by simpa using hk)
  exact⟨a,e,ha⟩
theorem zca {K:uad}{H:Hp}{ks:List Nat}{v:V}(h:Is K H (keepD ks) v):∃ p,v=.ref p/\H p=some (.tup ((keepI ks).map V.int)):=by
 obtain⟨p,vs,rfl,hp,hx⟩:=h
 have e:=IsAll.of_ints hx
 subst e
 exact⟨p,rfl,hp⟩
theorem zeh {ks:List Nat}{i:Nat}{x:V}(h:((keepI ks).map V.int)[i]?=some x):∃ k,ks[i]?=some k/\x=.int (k:Int):=by
 unfold keepI at h
 rw[uci,uak] at h
 cases e:ks[i]? with
 | none=>rw[e] at h;cases h
 | some k=>rw[e] at h;cases h;exact⟨k,rfl,rfl⟩
theorem zpf {H:Hp}{vs:List V}{cs:List (Option (Int × Int))}{i:Int}(h:CostL H vs cs)(h0:0<=i)(hi:i.toNat<cs.length):∃ v,atI vs i=some v/\CV H v (Far.get cs i.toNat):=by
 have hl:i.toNat<vs.length:=by rw[h.1];exact hi
 have e:vs[i.toNat]?=some vs[i.toNat]:=uaf hl
 exact⟨_,zaw h0 e,h.2 _ _ e⟩
def pows (m:Nat):List V:=(uac m).map λ i=>V.int (2^i)
theorem zs0 {m i:Nat}(h:i<m):(pows m)[i]?=some (.int (2^i)):=by unfold pows;rw[uak,ufu h];rfl
theorem zn3 (m:Nat):pows (m+1)=pows m++[.int (2^m)]:=by unfold pows;rw[ucz,ubc];rfl
theorem zrw {i:Nat}(h:i<60):(0:Int)<=2^i/\(2:Int)^i<=2^60:=by
 have e:((2^i:Nat):Int)=(2:Int)^i:=by norm_cast
 have:2^i<=2^60:=Nat.pow_le_pow_right (by decide) (by left)
 constructor
 ·rw[← e];exact uaw _
 ·rw[← e];exact_mod_cast this
def spWeights (K:uad):Sp:=λ vs H Q _=>∃ n ts v,vs=[v]/\Is K H (webD n ts) v/\ts.length<=60/\∀ l H',Same H H'->H l=none->H' l=some (.lst (pows ts.length))->Q (.ref l) H'
def spCost (K:uad):Sp:=λ vs H Q _=>∃ c x y l w,vs=[.ref c,.int l,.int w]/\H c=some (.tup [.int x,.int y])/\∀ t H',Same H H'->H' t=some (.tup [.int (x+l),.int (y+w)])->Q (.ref t) H'
def WK (K:uad)(H:Hp)(n:Int)(ts:List Tie)(ks:List Nat)(wv kv:V):Prop:=Is K H (webD n ts) wv/\WebOk n ts/\Is K H (keepD ks) kv/\KeepOk ts.length ks
theorem WK.same {K:uad}{H H':Hp}{n:Int}{ts:List Tie}{ks:List Nat}{wv kv:V}(h:WK K H n ts ks wv kv)(s:Same H H'):WK K H' n ts ks wv kv:=⟨Is.same s _ h.1,h.2.1,Is.same s _ h.2.2.1,h.2.2.2⟩
def spReached (K:uad):Sp:=λ vs H Q _=>∃ n ts ks wv kv r,vs=[wv,kv,.int r]/\WK K H n ts ks wv kv/\0<=r/\r<n /\
 ∀ p lc la cvs avs cs H',Same H H'->H' p=some (.tup [.ref lc,.ref la])->H' lc=some (.lst cvs)->H' la=some (.lst avs)->CostL H' cvs cs->Far.Good (arcs ts ks) n.toNat r.toNat cs->Far.Stab (arcs ts ks) cs->Q (.ref p) H'
def spFars (K:uad):Sp:=λ vs H Q _=>∃ n ts ks wv kv r,vs=[wv,kv,.int r]/\WK K H n ts ks wv kv/\0<=r/\r<n /\
 ∀ l D H',Same H H'->H l=none->H' l=some (.lst (D.map ov))->D.length=n.toNat->(∀ v,v<n.toNat->Far.Dst (arcs ts ks) r.toNat v (Far.get D v))->Q (.ref l) H'
end L3
namespace HT
open PySem PyProof.Rows
open Sem (wp)
section
variable {prog:Program}{w:World}{A:Around}{E:Value->Shared->Prop}{s:Shared}
end
end HT
namespace L3
open PySem PySem.Spec PyProof.Rows L2
def hAt (hs:List Int)(a:Int):Int:=hs.getD a.toNat 0
def absI (i:Int):Int:=if i<0 then -i else i
def acrossI (ts:List Tie)(hs:List Int)(k:Nat):Int:=absI (hAt hs (tieAt ts k).1-hAt hs (tieAt ts k).2.1)
def holdB (n:Int)(ts:List Tie)(ks:List Nat)(hs:List Int):Bool:=decide (hs.length=n.toNat)&&ks.all λ k=>decide (acrossI ts hs k<=(tieAt ts k).2.2)
def capO (roof:Int):Option Int->Int
 | none=>roof
 | some x=>if roof<x then roof else x
theorem zr8 {hs:List Int}{a:Int}(h0:0<=a)(h:a.toNat<hs.length):atI (hs.map V.int) a=some (.int (hAt hs a)):=by
 refine zaw h0 ?_
 rw[uak,uaf h]
 unfold hAt
 rw[uah,uaf h];rfl
theorem zj9:∀ hs:List Int,wholesB (.tuple (hs.map .int))=true:=λ hs=>by
 show (hs.map PyData.int).all wholeB=true
 rw[udf]
 exact ubo.mpr λ _ _=>rfl
def IntT (H:Hp)(p:Addr)(hs:List Int):Prop:=H p=some (.tup (hs.map V.int))/\hs.length<=1000
theorem IntT.same {H H':Hp}{p:Addr}{hs:List Int}(h:IntT H p hs)(s:Same H H'):IntT H' p hs:=⟨s _ _ h.1,h.2⟩
theorem IntT.is {K:uad}{H:Hp}{p:Addr}{hs:List Int}(h:IntT H p hs):Is K H (.tuple (hs.map .int)) (.ref p):=⟨p,_,rfl,h.1,IsAll.ints _⟩
def AllI (xs:List V):Prop:=∃ ns:List Int,xs=ns.map V.int
theorem zro {n:Int}{ts:List Tie}{ks:List Nat}{D:List (Option Int)}{s:Nat}{roof:Int}(ok:WebOk n ts)(ko:KeepOk ts.length ks)(lD:D.length=n.toNat)(hD:∀ v,v<n.toNat->Far.Dst (arcs ts ks) s v (Far.get D v)):holdB n ts ks (D.map (capO roof))=true:=by
 unfold holdB
 rw[ubd]
 refine⟨decide_eq_true (by rw[uae];exact lD),ubo.mpr λ k hk=>decide_eq_true ?_⟩
 have hin:=zpx ok ko
 have tk:=ok.tie _ (zav (ko.2 k hk)).2
 have m1:((tieAt ts k).1.toNat,(tieAt ts k).2.1.toNat,(tieAt ts k).2.2)∈arcs ts ks:=arcs_mem.mpr ⟨k,hk,arcs2_mem.mpr (.inl rfl)⟩
 have m2:=zrs _ _ _ m1
 have va:∀ a:Int,0<=a->a<n->hAt (D.map (capO roof)) a=capO roof (Far.get D a.toNat):=λ a h0 h1=>by
  unfold hAt Far.get
  rw[uah,uak,uaf (by left),uah,uaf (by left)]
  rfl
 have step:∀ u v l,(u,v,l)∈arcs ts ks->∀ x,Far.get D u=some x->∃ y,Far.get D v=some y/\y<=x+l:=λ u v l m x e=>(hD v (hin _ _ _ m).2).2 _ (.snoc ((hD u (hin _ _ _ m).1).1 x e) m)
 unfold acrossI
 rw[va _ (by left) (by left),va _ (by left) (by left)]
 cases e1:Far.get D (tieAt ts k).1.toNat with
 | none =>
  cases e2:Far.get D (tieAt ts k).2.1.toNat with
  | none=>show absI (roof-roof)<=_;unfold absI;split <;> left
  | some y=>obtain⟨z,hz,_⟩:=step _ _ _ m2 y e2;rw[e1] at hz;cases hz
 | some x =>
  obtain⟨y,e2,h2⟩:=step _ _ _ m1 x e1
  obtain⟨z,hz,h1⟩:=step _ _ _ m2 y e2
  rw[e1] at hz;cases hz
  rw[e2]
  show absI ((if roof<x then roof else x)-(if roof<y then roof else y))<=_
  unfold absI
  by_cases c1:roof<x
  ·rw[if_pos c1]
   by_cases c2:roof<y
   ·rw[if_pos c2];split <;> left
   ·rw[if_neg c2];split <;> left
  ·rw[if_neg c1]
   by_cases c2:roof<y
   ·rw[if_pos c2];split <;> left
   ·rw[if_neg c2];split <;> left
theorem zd1:∀ hs:List Int,PyData.canLayAll0 (hs.map .int)=true
 | []=>rfl
 | t::r=>by
  show (PyData.canLay0 (.int t)&&PyData.canLayAll0 (r.map .int))=true
  rw[zd1 r]
  rfl
theorem zfk:∀ hs:List Int,PyData.depthAll (hs.map .int)<=1
 | []=>ubj _
 | t::r=>by
  show max (PyData.depth (.int t)) (PyData.depthAll (r.map .int))<=1
  have h1:=zfk r
  have h2:PyData.depth (.int t)<=1:=ubr (uey (by rfl:PyData.depth (.int t)=0)) (by decide)
  left
def spAcross (K:uad):Sp:=λ vs H Q _=>∃ (n:Int)(ts:List Tie)(wv:V)(k:Nat)(p:Addr)(hs:List Int),vs=[wv,.int (k:Int),.ref p]/\Is K H (webD n ts) wv/\WebOk n ts/\k<ts.length/\IntT H p hs/\hs.length=n.toNat/\Q (.int (acrossI ts hs k)) H
def spHold (K:uad):Sp:=λ vs H Q _=>∃ n ts ks wv kv p hs,vs=[wv,kv,.ref p]/\WK K H n ts ks wv kv/\IntT H p hs/\∀ H',Same H H'->Q (.bl (holdB n ts ks hs)) H'
def spHFrom (K:uad):Sp:=λ vs H Q _=>∃ n ts ks wv kv a roof,vs=[wv,kv,.int a,.int roof]/\WK K H n ts ks wv kv/\0<=a/\a<n /\
 ∀ (p:Addr)(D:List (Option Int))(H':Hp),Same H H'->H' p=some (.tup ((D.map (capO roof)).map V.int))->D.length=n.toNat->(∀ v,v<n.toNat->Far.Dst (arcs ts ks) a.toNat v (Far.get D v))->Q (.ref p) H'
section
variable {g:TG}{te:TE}{own:List Str}{js:List Nat}{σ:L2.St}{H1:Hp}{Q:VK}
end
section
variable {J:It}{g:TG}{tt:TT}{te:TE}{own:List Str}{js:List Nat}{σ:L2.St}{H1:Hp}{Q:VK}
theorem zew (n:Nat)(Sg:L2.St->Prop)(sel:Nat->Option V)(hn:n<=1000)(h0:Sg (start3 own js σ))
  (go:∀ i H',i<n->Same H1 H'->J.go i H') (stop:∀ H',Same H1 H'->J.stop n H')
  (step:∀ i x σ' H' H2,i<n->Same H1 H'->J.yld i H' x H2->Sg σ'->∀ (C:L2.St->V->Hp->Prop)(L:L2.St->Hp->Prop),(∀ σ3 v H5,Sg σ3->Same H' H5->sel i=some v->C σ3 v H5)->(∀ σ3 H5,Sg σ3->Same H' H5->sel i=none->L σ3 H5) ->
   g x σ' H2 λ σ3 H3=>tt σ3 H3 λ b H4=>if b=true then te σ3 H4 λ v H5=>C σ3 v H5 else L σ3 H4)
  (fin:∀ D H',H1 D=none->Same H1 H'->H' D=some (.lst ((uac n).filterMap sel))->Q (.ref D) H'):CompGo own js g tt te σ Q J H1:=by
 intro D hD
 refine⟨λ i m ys σ' H'=>m=n-i/\i<=n/\Sg σ'/\Same H1 H'/\ys=(uac i).filterMap sel,⟨n,rfl,ubj _,h0,zam hD,rfl⟩,?_⟩
 rintro i m ys σ' H' ⟨rfl,hi,sg,sm,rfl⟩ hd
 have len:((uac i).filterMap sel).length<=i:=by have:=udc sel (uac i);rw[ua8] at this;exact this
 by_cases hlt:i<n
 ·refine .inr ⟨go i H' hlt sm,λ x H2 hy=>?_⟩
  refine step i x σ' H' H2 hlt sm hy sg
   (λ σ3 v H5=>H5 D=some (.lst ((uac i).filterMap sel))/\((uac i).filterMap sel).length<sizeLine/\∃ m',m'<n-i/\(m'=n-(i+1)/\i+1<=n/\Sg σ3/\Same H1 (upd H5 D (.lst ((uac i).filterMap sel++[v])))/\(uac i).filterMap sel++[v]=(uac (i+1)).filterMap sel))
   (λ σ3 H5=>H5 D=some (.lst ((uac i).filterMap sel))/\∃ m',m'<n-i/\(m'=n-(i+1)/\i+1<=n/\Sg σ3/\Same H1 H5/\(uac i).filterMap sel=(uac (i+1)).filterMap sel)) (λ σ3 v H5 sg3 s5 e=>?_) (λ σ3 H5 sg3 s5 e=>?_)
  ·refine⟨s5 _ _ hd,ucb (by left:((uac i).filterMap sel).length<=1000) (by decide),n-(i+1),by left,rfl,hlt,sg3,λ b o z=>?_,?_⟩
   ·rw[zas (zal z hD)];exact s5 _ _ (sm _ _ z)
   ·rw[ucz,uc7];simp [e]
  ·refine⟨s5 _ _ hd,n-(i+1),by left,rfl,hlt,sg3,sm.trans s5,?_⟩
   rw[ucz,uc7];simp [e]
 ·have e:i=n:=by left
  subst e
  exact .inl ⟨stop H' sm,fin D H' hD sm hd⟩
theorem zji {lo:Int}{n:Nat}(Sg:L2.St->Prop)(sel:Nat->Option V)(hn:n<=1000)(h0:Sg (start3 own js σ))
  (step:∀ i σ' H',i<n->Same H1 H'->Sg σ'->∀ (C:L2.St->V->Hp->Prop)(L:L2.St->Hp->Prop),(∀ σ3 v H5,Sg σ3->Same H' H5->sel i=some v->C σ3 v H5)->(∀ σ3 H5,Sg σ3->Same H' H5->sel i=none->L σ3 H5) ->
   g (.int (lo+i)) σ' H' λ σ3 H3=>tt σ3 H3 λ b H4=>if b=true then te σ3 H4 λ v H5=>C σ3 v H5 else L σ3 H4)
  (fin:∀ D H',H1 D=none->Same H1 H'->H' D=some (.lst ((uac n).filterMap sel))->Q (.ref D) H'):CompGo own js g tt te σ Q (Itr lo n) H1:=by
 refine zew n Sg sel hn h0 (λ i H' hi s=>hi) (λ H' s=>uai _) (λ i x σ' H' H2 hi s hy sg C L hC hL=>?_) fin
 obtain⟨rfl,rfl⟩:=hy
 exact step i σ' _ hi s sg C L hC hL
theorem zjj {t:Bool}{K:uad}{a:Addr}{xs:List V}(hx:H1 a=some (if t=true then .tup xs else .lst xs))(Sg:L2.St->Prop)(sel:Nat->Option V)(hn:xs.length<=1000)(h0:Sg (start3 own js σ))
  (step:∀ i x T σ' H',xs[i]?=some x->Same H1 H'->H' T=none->Sg σ'->∀ (C:L2.St->V->Hp->Prop)(L:L2.St->Hp->Prop),(∀ σ3 v H5,Sg σ3->Same H' H5->sel i=some v->C σ3 v H5)->(∀ σ3 H5,Sg σ3->Same H' H5->sel i=none->L σ3 H5) ->
   g (.ref T) σ' (upd H' T (.tup [.int (i:Nat),x])) λ σ3 H3=>tt σ3 H3 λ b H4=>if b=true then te σ3 H4 λ v H5=>C σ3 v H5 else L σ3 H4)
  (fin:∀ D H',H1 D=none->Same H1 H'->H' D=some (.lst ((uac xs.length).filterMap sel))->Q (.ref D) H'):CompGo own js g tt te σ Q (Itn t K a) H1:=by
 have s1:∀ H',Same H1 H'->SqX t K H' a xs:=λ H' s=>SqX.of (s _ _ hx)
 refine zew xs.length Sg sel hn h0 (λ i H' hi s=>⟨xs,xs[i],s1 H' s,by simp [hi]⟩) (λ H' s=>⟨xs,s1 H' s,uai _⟩) (λ i x σ' H' H2 hi s hy sg C L hC hL=>?_) fin
 obtain⟨T,y,hT,rfl,rfl,e⟩:=hy
 exact step i y T σ' H' (e _ (s1 H' s)) s hT sg C L hC hL
end
end L3
namespace Far
variable {A:List (Nat × Nat × Int)}{s:Nat}
theorem Walk.trans {u v:Nat}{x y:Int}(h:Walk A s u x)(k:Walk A u v y):Walk A s v (x+y):=by
 induction k with
 | nil=>rw[Int.add_zero];exact h
 | snoc _ m ih=>rw[← Int.add_assoc];exact .snoc ih m
def Con (A:List (Nat × Nat × Int))(s v:Nat):Prop:=∃ x,Walk A s v x
noncomputable def rB (A:List (Nat × Nat × Int))(s v:Nat):Bool:=@decide (Con A s v) (Classical.propDecidable _)
theorem Con.symm (S:Sym A){v:Nat}(h:Con A s v):Con A v s:=let ⟨x,w⟩:=h;⟨x,w.back S⟩
end Far
namespace L3
open PySem PySem.Spec PyProof.Rows L2
def natV (ns:List Nat):List V:=ns.map λ v:Nat=>V.int (v:Int)
theorem za4 (ns:List Nat):natV ns=(keepI ns).map V.int:=by unfold natV keepI;rw[uci];rfl
theorem zdt (p:Nat->Bool):∀ is:List Nat,is.filterMap (λ i=>if p i=true then some (V.int (i:Int)) else none)=natV (is.filter p)
 | []=>rfl
 | i::r=>by
  rw[ucf,List.filter_cons]
  cases e:p i with
  | true=>rw[if_pos rfl,if_pos rfl,zdt p r];rfl
  | false=>rw[if_neg uas,if_neg uas,zdt p r]
theorem IsAll.snoc {K:uad}{H:Hp}{d:PyData}{v:V}(hv:Is K H d v):∀ {ds:List PyData}{vs:List V},IsAll K H ds vs->IsAll K H (ds++[d]) (vs++[v])
 | [],_,h=>by
  have e:_=[]:=h
  subst e
  exact⟨v,[],rfl,hv,rfl⟩
 | _::_,_,⟨u,r,e,h1,h2⟩=>by
  subst e
  exact⟨u,r++[v],rfl,h1,IsAll.snoc hv h2⟩
theorem zc0 {a:Int}(h:0<=a)(ns:List Nat):inV (.int a) (natV ns)=decide (a.toNat∈ns):=by
 unfold inV natV
 rw[List.any_map,ucq,ub4,decide_eq_true_iff]
 constructor
 ·rintro ⟨v,hv,e⟩
  have e':((v:Int)==a)=true:=e
  have:(v:Int)=a:=by simpa using e'
  have e2:a.toNat=v:=by left
  rw[e2];exact hv
 ·intro m
  exact⟨_,m,show (((a.toNat:Nat):Int)==a)=true by rw[ua9 h];simp⟩
theorem zci (ns:List Nat):(natV ns).all flatV=true:=by
 unfold natV;rw[udf];exact ubo.mpr λ _ _=>rfl
end L3
namespace Srt
open PySem PySem.Spec PyProof.Rows PySem.W
section
variable {prog:Program}{w:World}{A:Around}{E:Value->Shared->Prop}{s:Shared}
end
end Srt
namespace HT
open PySem PyProof.Rows
section
variable {prog:Program}{w:World}{A:Around}{E:Value->Shared->Prop}{s:Shared}
theorem zk8 {Q:List Value->Shared->Prop}{r:Addr}{a b c:Int}{t u v:Tok}{n:Nat}(hh:A.handled=none)(hr:IsRange s.heap r a b c t u v)(hsmall:Builtin.Range.small a b c=true)
  (hn:Builtin.Range.rangeSize a b c=n) (hlen:n<=2^24)
  (hQ:∀ h' tk acc',(∀ b o,s.heap.get? b=some o->h'.get? b=some o)->ItemsOf (λ i v=>∃ t,v=.int (a+i*c) t) acc' n->Q acc'.toList { s with heap:=h',toks:=tk }) :
  wpAny (model prog w) A (collect (.ref r)) Q E s:=by
 unfold collect
 refine uab (ufd (ucu ugj ?_))
 rw[Around.under_plainId ugi _]
 show wpAny _ A.in1 (newList [] >>= λ l=>again (.builtin "list.__iadd__" ⟨[l,.ref r],[]⟩)) _ _ s
 refine uab (uby ?_)
 refine uag ⟨ufn ud6 _,ucu ug1 ?_⟩
 rw[Around.under_plainId ud6 _]
 show wpAny _ A.in1 (Builtin.List.listExtendWith (.ref s.heap.objs.size) (.ref r) (.ref s.heap.objs.size)) _ _ _
 have hS:(s.heap.push { cls:=.type "list",data:=.seq ([]:List Value).toArray }).get? s.heap.objs.size=some { cls:=.type "list",data:=.seq #[] }:=Heap.get?_push_size _ rfl
 have fin' : ∀ (h' : Heap)(tk : Nat)(acc' : Array Value)(c' : Nat), (∀ b o, s.heap.get? b = some o → h'.get? b = some o) → h'.get? s.heap.objs.size = some { cls := .type "list", dict := none, data := .seq acc' c', slots := #[] } → ItemsOf (λ i v => ∃ t, v = .int (a+i*c) t) acc' n →
     wpAny (model prog w) A (load s.heap.objs.size >>= λ o=>match o.data with | .seq xs _=>pure xs.toList | _=>unsupported "internal:collect") Q E { s with heap:=h',toks:=tk }:=λ h' tk acc' c' hk hS' hacc=>uab (wpAny_load hS' (uag (hQ h' tk acc' hk hacc)))
 refine udm (wpAny_extend_range (A:=A) (R:=λ r s'=>r=.ok (.ret (.ref s.heap.objs.size))/\∃ (h':Heap)(tk:Nat)(acc':Array Value)(c':Nat),s'={ s with heap:=h',toks:=tk }/\(∀ b o,s.heap.get? b=some o->h'.get? b=some o)/\h'.get? s.heap.objs.size=some { cls:=.type "list",dict:=none,data:=.seq acc' c',slots:=#[] }/\ItemsOf (λ i v=>∃ t,v=.int (a+i*c) t) acc' n)
  (s:={ s with heap:=s.heap.push { cls:=.type "list",data:=.seq ([]:List Value).toArray } }) hh (Heap.get?_push_of_some _ hr) hsmall hn hlen s.heap.objs.size (.ref s.heap.objs.size) 0 hS λ h' tk acc' c' hk hS' hacc=>⟨rfl,h',tk,acc',c',rfl,λ b o e=>hk b o (uau (Heap.lt_size e)) (Heap.get?_push_of_some _ e),hS',hacc⟩) (λ fin s' h=>?_) (λ e s' h=>?_)
 ·cases fin with
  | done f =>
   obtain⟨e,h',tk,acc',c',rfl,h1,h2,h3⟩:=h
   cases e
   exact fin' h' tk acc' c' h1 h2 h3
  | again c'=>exact⟨h.1,udr h.2 λ r s'' hr=>by obtain⟨rfl,h',tk,acc',c',rfl,h1,h2,h3⟩:=hr;exact fin' h' tk acc' c' h1 h2 h3⟩
 ·exact absurd h.1 (by simp)
end
theorem zdn (r:Addr)(a b c:Int)(t u v:Tok)(n:Nat)(hsmall:Builtin.Range.small a b c=true)(hn:Builtin.Range.rangeSize a b c=n)(hlen:n<=1000) :
  Meets (Builtin.«tuple.__new__» ⟨[.type "tuple",.ref r],[]⟩)
   (λ A R s=>A.handled=none/\IsRange s.heap r a b c t u v/\∀ (h':Heap)(tk:Nat)(acc':Array Value),(∀ b o',s.heap.get? b=some o'->h'.get? b=some o')->ItemsOf (λ i v=>∃ t,v=.int (a+i*c) t) acc' n->R (.ok (.ret (.ref h'.objs.size))) { s with heap:=h'.push { cls:=.type "tuple",data:=.seq acc' },toks:=tk }) :=
 .of_wp λ prog w A R s h=>by
  obtain⟨hp,g,d,tk,os⟩:=s;obtain⟨hh,hr,h⟩:=h
  have hsub:=sub_tuple_self
  have hinit:=init_tuple_lookup
  have hmh:=madeHere_tuple
  have hT:Shared.TypeIs ⟨hp,g,d,tk,os⟩ (.ref r) "range":=⟨_,hr,rfl⟩
  wp_walk using ufa hT,zk8 (A:=A.in1) hh hr hsmall hn (ubr hlen (by decide))
  intro h' tk' acc' hk hacc
  show wpAny _ _ (Builtin.Tuple.tupleExact acc'.toList.toArray >>= λ v=>ret v) _ _ _
  unfold Builtin.Tuple.tupleExact
  have sz:acc'.size=n:=hacc.1
  refine uab (uby ?_ (by show acc'.toList.toArray.size<=sizeLine;rw[show acc'.toList.toArray=acc' by simp,sz,ucr];left))
  refine uag ⟨_,rfl,?_⟩
  have e:acc'.toList.toArray=acc':=by simp
  rw[e]
  exact h h' tk' acc' hk hacc
section
variable {prog:Program}{w:World}{A:Around}{E:Value->Shared->Prop}{s:Shared}
theorem zet {Q:Value->Shared->Prop}{r:Addr}{a b c:Int}{t u v:Tok}{n:Nat}(hh:A.handled=none)(hr:IsRange s.heap r a b c t u v)(hsmall:Builtin.Range.small a b c=true)
  (hn:Builtin.Range.rangeSize a b c=n) (hlen:n<=1000)
  (hQ:∀ (h':Heap)(tk:Nat)(acc':Array Value),(∀ b o,s.heap.get? b=some o->h'.get? b=some o)->ItemsOf (λ i v=>∃ t,v=.int (a+i*c) t) acc' n->Q (.ref h'.objs.size) { s with heap:=h'.push { cls:=.type "tuple",data:=.seq acc' },toks:=tk }) :
  wpAny (model prog w) A (call (.type "tuple") [.ref r]) Q E s :=
 callType_new PySem.F.called_tuple (by decide) (PySem.F.typeCall_tuple_1 _) (PySem.F.newCall_tuple_1 _) (λ obj=>PySem.F.args_object_init_2 obj _) PySem.F.entry_tuple_new
  (zdn r a b c t u v n hsmall hn hlen) ⟨hh,hr,λ h' tk acc' hk hacc=>⟨⟨_,Heap.get?_push_size _ rfl,rfl⟩,hQ h' tk acc' hk hacc⟩⟩
end
end HT
namespace L3
open PySem PySem.Spec PyProof.Rows L2
section
variable {X:Cx}
inductive call_tuple_rng_i  (xs:List V) (H:Hp) (Q:VK):Prop
 | mk:∀ (p:Addr)(j:Int),(xs=[.ref p])->(H p=some (.rng 0 j))->(0<=j)->(j<=1000)->(∀ l H',Same H H'->H l=none->H' l=some (.tup (natV (uac j.toNat)))->Q (.ref l) H')->call_tuple_rng_i xs H Q
theorem zdh (hh:X.calm=true):CallR X (.type "tuple") (call_tuple_rng_i):=by
 intro pins s σ H xs us Q I r h
 obtain⟨p,j,rfl,hp,hj0,hj,q⟩:=h
 obtain⟨u,rfl,rx⟩:=vals1 r
 cases rx
 obtain⟨t,u,v,e⟩:=(show ObjOk X.prog X.w H s.heap p (.rng 0 j) from I.hok p _ hp)
 refine HT.zet (n:=j.toNat) (I.ok.hd hh) (show IsRange s.heap p 0 j 1 t u v from e) (small_one (by left) (by left) (by left) (by left)) (by rw[rangeSize_one];split <;> left) (by left) λ h' tk acc hk hacc=>?_
 have I1:Inv X pins σ H { s with heap:=h',toks:=tk }:=I.kept (t':=tk) hk
 have fr:H h'.objs.size=none:=I1.hok.fresh (uai _)
 refine⟨.ref h'.objs.size,upd H h'.objs.size (.tup (natV (uac j.toNat))),I1.laid (t':=tk) (o:=.tup (natV (uac j.toNat))) (λ b o e=>Heap.get?_push_of_some _ e) (uai _) ⟨?_,acc.toList,?_,(by rw[show acc.toList.toArray=acc by simp];exact⟨_,Heap.get?_push_size _ rfl,rfl,⟨_,rfl⟩,rfl⟩)⟩,rfl,q _ _ (zam fr) fr zaj⟩
 ·unfold natV;rw[uae,ua8,ucr];left
 ·have go:∀ (n:Nat)(l:List Value),l.length=n->(∀ (k:Nat)(v:Value),l[k]?=some v->∃ t,v=Value.int (0+(k:Int)*1) t)->Vals ((uac n).map λ i:Nat=>V.int (i:Int)) l:=by
   intro n l hl hv
   have gen:∀ (l:List Value)(o:Nat),(∀ (k:Nat)(v:Value),l[k]?=some v->∃ t,v=Value.int ((o+k:Nat):Int) t)->Vals ((ufb o l.length).map λ i:Nat=>V.int (i:Int)) l:=by
    intro l
    induction l with
    | nil=>intro o _;exact .nil
    | cons x r ih =>
     intro o h
     rw[ua5,ugn,udw]
     obtain⟨t,ht⟩:=h 0 x rfl
     refine .cons ⟨t,by simpa using ht⟩ (ih (o+1) λ k v hk=>?_)
     obtain⟨t,ht⟩:=h (k+1) v (by simpa using hk)
     exact⟨t,by rw[ht];congr 1;left⟩
   have:=gen l 0 λ k v hk=>by
    obtain⟨t,ht⟩:=hv k v hk
    exact⟨t,by rw[ht];congr 1;left⟩
   rw[hl,← List.range_eq_range'] at this
   exact this
  exact go j.toNat acc.toList (by rw[ubl];exact hacc.1) λ k v hv=>hacc.2 k v (by simpa using hv)
end
section
variable {g:TG}{tt:TT}{te:TE}{own:List Str}{js:List Nat}{σ:L2.St}{H1:Hp}{Q:VK}
theorem zjh {K:uad}{a:Addr}{xs:List V}(hx:H1 a=some (.tup xs))(Sg:L2.St->Prop)(sel:Nat->Option V)(hn:xs.length<=1000)(h0:Sg (start3 own js σ))
  (step:∀ i x σ' H',xs[i]?=some x->Same H1 H'->Sg σ'->∀ (C:L2.St->V->Hp->Prop)(L:L2.St->Hp->Prop),(∀ σ3 v H5,Sg σ3->Same H' H5->sel i=some v->C σ3 v H5)->(∀ σ3 H5,Sg σ3->Same H' H5->sel i=none->L σ3 H5) ->
   g x σ' H' λ σ3 H3=>tt σ3 H3 λ b H4=>if b=true then te σ3 H4 λ v H5=>C σ3 v H5 else L σ3 H4)
  (fin:∀ D H',H1 D=none->Same H1 H'->H' D=some (.lst ((uac xs.length).filterMap sel))->Q (.ref D) H'):CompGo own js g tt te σ Q (Itt K a) H1:=by
 refine zew xs.length Sg sel hn h0 (λ i H' hi s=>⟨xs,xs[i],SqT.of (s _ _ hx),by simp [hi]⟩) (λ H' s=>⟨xs,SqT.of (s _ _ hx),uai _⟩) (λ i x σ' H' H2 hi s hy sg C L hC hL=>?_) fin
 obtain⟨rfl,hy⟩:=hy
 exact step i x σ' _ (hy xs (SqT.of (s _ _ hx))) s sg C L hC hL
end
def outs (m:Nat)(ks:List Nat):List Nat:=(uac m).filter λ k=>decide (k∉ks)
noncomputable def gO (ts:List Tie)(ks:List Nat)(k:Nat):Option Int :=
 @dite (Option Int) (∃ o,Far.Dst (arcs ts ks) (tieAt ts k).1.toNat (tieAt ts k).2.1.toNat o) (Classical.propDecidable _) (λ h=>Classical.choose h) λ _=>none
def spWhole (K:uad):Sp:=λ vs H Q _=>∃ n ts v,vs=[v]/\Is K H (webD n ts) v/\ts.length<=60/\∀ l H',Same H H'->H l=none->H' l=some (.tup (natV (uac ts.length)))->Q (.ref l) H'
theorem zdx {ns:List Nat}{i:Nat}{x:V}(h:(natV ns)[i]?=some x):∃ k,ns[i]?=some k/\x=.int (k:Int):=by
 rw[za4] at h;exact zeh h
end L3
namespace Far
variable {A:List (Nat × Nat × Int)}{s:Nat}
structure Ahd (A:List (Nat × Nat × Int))(s:Nat)(cs:List (Option (Int × Int)))(as:List (Option Nat)):Prop where
 len:as.length=cs.length
 root:get as s=none
 has:∀ v c,get cs v=some c->v≠s->get as v≠none
 arc:∀ v u,get as v=some u->∃ l cu cv,(u,v,l)∈A/\get cs u=some cu/\get cs v=some cv/\cu.1+l<=cv.1
inductive Tr (A:List (Nat × Nat × Int))(a:Nat):List Nat->Nat->Int->Prop
 | one:Tr A a [a] a 0
 | snoc {ws:List Nat} {u v:Nat} {x l:Int}:Tr A a ws u x->(u,v,l)∈A->Tr A a (ws++[v]) v (x+l)
end Far
namespace L3
open PySem PySem.Spec PyProof.Rows L2
def oa:Option Nat->V
 | none=>.non
 | some u=>.int (u:Int)
structure RA (H J:Hp)(lw lc la:Addr)(ws:List V)(cs:List (Option (Int × Int)))(as:List (Option Nat)):Prop where
 same:Same H J
 fc:H lc=none
 fa:H la=none
 nwc:lw≠lc
 nwa:lw≠la
 nca:lc≠la
 wl:J lw=some (.lst ws)
 co:∃ cvs,J lc=some (.lst cvs)/\CostL J cvs cs
 ah:J la=some (.lst (as.map oa))
section
variable {H H' J J':Hp}{vs cvs ws:List V}{cs:List (Option (Int × Int))}{as:List (Option Nat)}{lw lc la t:Addr}{k:Nat}{x y:Int}
theorem RA.step (h:RA H J lw lc la ws cs as)(s:Same J J'):RA H J' lw lc la ws cs as :=
 ⟨h.same.trans s,h.fc,h.fa,h.nwc,h.nwa,h.nca,s _ _ h.wl,let ⟨c,e,z⟩:=h.co;⟨c,s _ _ e,z.keep (znm s)⟩,s _ _ h.ah⟩
theorem RA.put (h:RA H J lw lc la ws cs as)(hc:J lc=some (.lst cvs))(hk:k<cvs.length)(ht:J t=some (.tup [.int x,.int y])):RA H (upd J lc (.lst (cvs.set k (.ref t)))) lw lc la ws (cs.set k (some (x,y))) as:=by
 obtain⟨c,e,z⟩:=h.co
 rw[hc] at e;cases e
 refine⟨λ b o eb=>?_,h.fc,h.fa,h.nwc,h.nwa,h.nca,?_,⟨_,zaj,CostL.set (z.keep (zio hc)) hk ⟨t,rfl,zio hc _ _ ht⟩⟩,?_⟩
 ·rw[zas (zal eb h.fc)];exact h.same _ _ eb
 ·rw[zas h.nwc];exact h.wl
 ·rw[zas h.nca.symm];exact h.ah
theorem RA.mark {u:Nat}(h:RA H J lw lc la ws cs as):RA H (upd J la (.lst ((as.map oa).set k (.int (u:Int))))) lw lc la ws cs (as.set k (some u)):=by
 obtain⟨c,e,z⟩:=h.co
 refine⟨λ b o eb=>?_,h.fc,h.fa,h.nwc,h.nwa,h.nca,?_,⟨c,?_,z.keep (zio h.ah)⟩,?_⟩
 ·rw[zas (zal eb h.fa)];exact h.same _ _ eb
 ·rw[zas h.nwa];exact h.wl
 ·rw[zas h.nca];exact e
 ·rw[zaj,ugl];rfl
end
theorem zs6 {D:List (Option Nat)}{i:Nat}(h:i<D.length):(D.map oa)[i]?=some (oa (Far.get D i)):=by
 rw[uak,uaf h]
 unfold Far.get
 rw[uah,uaf h];rfl
def WayV (H:Hp)(A:List (Nat × Nat × Int))(a b:Nat)(v:V):Prop:=(v=.non/\Far.Dst A a b none)\/∃ t ws x,v=.ref t/\H t=some (.tup (natV ws))/\ws.length<=24/\Far.Tr A a ws b x/\Far.Dst A a b (some x)
def isTB (ts:List Tie)(u v:Nat)(k:Nat):Bool:=decide ((tieAt ts k).1=min (u:Int) v)&&decide ((tieAt ts k).2.1=max (u:Int) v)
def tbN (ts:List Tie)(u v:Nat):Option Nat:=(uac ts.length).find? (isTB ts u v)
theorem zno {n:Int}{ts:List Tie}{ks:List Nat}(ok:WebOk n ts)(ko:KeepOk ts.length ks){u v:Nat}{l:Int}(h:(u,v,l)∈arcs ts ks):∃ k,tbN ts u v=some k/\k<ts.length/\(tieAt ts k).2.2=l:=by
 obtain⟨k,hk,m⟩:=arcs_mem.mp h
 have hkl:=ko.2 k hk
 have tk:=ok.tie _ (zav hkl).2
 have isk:isTB ts u v k=true/\(tieAt ts k).2.2=l:=by
  unfold isTB
  rcases arcs2_mem.mp m with e | e
  ·have e1:u=(tieAt ts k).1.toNat:=congrArg (·.1) e
   have e2:v=(tieAt ts k).2.1.toNat:=congrArg (·.2.1) e
   have e3:l=(tieAt ts k).2.2:=congrArg (·.2.2) e
   have eu:(u:Int)=(tieAt ts k).1:=by rw[e1];exact ua9 tk.1
   have ev:(v:Int)=(tieAt ts k).2.1:=by rw[e2];exact ua9 (udj (Int.lt_of_le_of_lt tk.1 tk.2.1))
   rw[eu,ev,Int.min_eq_left (udj tk.2.1),Int.max_eq_right (udj tk.2.1)]
   exact⟨by rw[decide_eq_true rfl,decide_eq_true rfl];rfl,e3.symm⟩
  ·have e1:u=(tieAt ts k).2.1.toNat:=congrArg (·.1) e
   have e2:v=(tieAt ts k).1.toNat:=congrArg (·.2.1) e
   have e3:l=(tieAt ts k).2.2:=congrArg (·.2.2) e
   have eu:(u:Int)=(tieAt ts k).2.1:=by rw[e1];exact ua9 (udj (Int.lt_of_le_of_lt tk.1 tk.2.1))
   have ev:(v:Int)=(tieAt ts k).1:=by rw[e2];exact ua9 tk.1
   rw[eu,ev,Int.min_eq_right (udj tk.2.1),Int.max_eq_left (udj tk.2.1)]
   exact⟨by rw[decide_eq_true rfl,decide_eq_true rfl];rfl,e3.symm⟩
 cases e:tbN ts u v with
 | none =>
  have:=uf1.mp e k (uaj.mpr hkl)
  exact absurd isk.1 this
 | some k' =>
  have p:=uec e
  have hk':k'<ts.length:=uaj.mp (uez e)
  refine⟨k',rfl,hk',?_⟩
  have same:k'=k:=by
   have q1:=p
   have q2:=isk.1
   unfold isTB at q1 q2
   rw[ubd] at q1 q2
   have a1:=of_decide_eq_true q1.1
   have a2:=of_decide_eq_true q1.2
   have b1:=of_decide_eq_true q2.1
   have b2:=of_decide_eq_true q2.2
   have ri:=ucd.mp ok.rise
   have g:∀ j (hj:j<ts.length),ts[j]=tieAt ts j:=λ j hj=>by
    have:=(zav hj).1
    rw[uaf hj] at this
    exact ua3 this
   rcases udx k' k with z | z | z
   ·have:=ri k' k hk' hkl z
    rw[g k' hk',g k hkl] at this
    exact (this.elim (λ z=>ugo z (a1.trans b1.symm)) λ z=>ugo z.2 (a2.trans b2.symm)).elim
   ·exact z
   ·have:=ri k k' hkl hk' z
    rw[g k' hk',g k hkl] at this
    exact (this.elim (λ z=>ugo z (b1.trans a1.symm)) λ z=>ugo z.2 (b2.trans a2.symm)).elim
  rw[same];exact isk.2
def tlen (ts:List Tie)(u v:Nat):Int:=(tieAt ts ((tbN ts u v).getD 0)).2.2
def wl (ts:List Tie):List Nat->Int
 | u::v::r=>tlen ts u v+wl ts (v::r)
 | _=>0
def linked (ts:List Tie):List Nat->Prop
 | u::v::r=>(∃ k,tbN ts u v=some k/\k<ts.length)/\linked ts (v::r)
 | _=>True
def spTB (K:uad):Sp:=λ vs H Q _=>∃ (n:Int)(ts:List Tie)(wv:V)(u v:Nat),vs=[wv,.int (u:Int),.int (v:Int)]/\Is K H (webD n ts) wv/\ts.length<=60/\∀ H',Same H H'->Q (oa (tbN ts u v)) H'
theorem zq0 (a b x y:Int):PyData.eqv (.tuple (([a,b]:List Int).map .int)) (.tuple (([x,y]:List Int).map .int))=(decide (a=x)&&decide (b=y)):=by
 show (_&&(_&&true))=_
 rw[uhh]
 rfl
def but (ks:List Nat)(k:Nat):List Nat:=ks.filter λ j=>decide (j≠k)
theorem zg3 (p:Nat->Bool)(ks:List Nat):(uac ks.length).filterMap (λ i=>if p (ks.getD i 0)=true then some (V.int ((ks.getD i 0:Nat):Int)) else none)=natV (ks.filter p):=by
 have e:=congrArg (uft λ j:Nat=>if p j=true then some (V.int (j:Int)) else none) (zbd ks 0)
 rw[uf2] at e
 exact e.trans (zdt p ks)
def withinB (t l:Int):Option Int->Bool
 | none=>false
 | some x=>decide (x<=t*l)
end L3
namespace Far
def sumP:List Nat->Nat
 | []=>0
 | k::r=>2^k+sumP r
theorem zdr {S S':List Nat}(h:S.Perm S'):sumP S=sumP S':=by
 induction h with
 | nil=>rfl
 | cons x _ ih=>show _+_=_+_;rw[ih]
 | swap x y l=>show 2^y+(2^x+sumP l)=2^x+(2^y+sumP l);left
 | trans _ _ h1 h2=>exact h1.trans h2
theorem zke (S:List Nat):∀ T:List Nat,sumP (S++T)=sumP S+sumP T:=by
 intro T
 induction S with
 | nil=>show sumP T=0+sumP T;left
 | cons k r ih=>show 2^k+sumP (r++T)=2^k+sumP r+sumP T;rw[ih];left
theorem zgz:∀ (m:Nat){S:List Nat},S.Nodup->(∀ k∈S,k<m)->sumP S<2^m
 | 0,S,_,h=>by
  cases S with
  | nil=>exact Nat.zero_lt_one
  | cons k r=>exact absurd (h k uan) (ueu _)
 | m+1,S,nd,h=>by
  have e:2^(m+1)=2^m+2^m:=by rw[Nat.pow_succ];left
  by_cases c:m∈S
  ·have p:=udy c
   have nd':(m::S.erase m).Nodup:=p.nodup_iff.mp nd
   have:=zgz m (S:=S.erase m) (ubw.mp nd').2 λ k hk=>by
    have h1:=h k (ufl hk)
    have h2:k≠m:=λ z=>(ubw.mp nd').1 (z ▸ hk)
    left
   rw[zdr p,e]
   show 2^m+sumP (S.erase m)<_
   left
  ·have:=zgz m nd λ k hk=>by
    have h1:=h k hk
    have h2:k≠m:=λ z=>c (z ▸ hk)
    left
   left
theorem zg0:∀ (m:Nat){S S':List Nat},S.Nodup->S'.Nodup->(∀ k∈S,k<m)->(∀ k∈S',k<m)->sumP S=sumP S'->∀ k,k∈S->k∈S'
 | 0,S,S',_,_,h,_,_,k,hk=>absurd (h k hk) (ueu _)
 | m+1,S,S',nd,nd',h,h',e,k,hk=>by
  have lower:∀ {T:List Nat},T.Nodup->(∀ k∈T,k<m+1)->m∉T->sumP T<2^m:=λ {T} n1 n2 n3=>zgz m n1 λ j hj=>by
   have h1:=n2 j hj
   have h2:j≠m:=λ z=>n3 (z ▸ hj)
   left
  by_cases c:m∈S
  ·have p:=udy c
   have ndp:(m::S.erase m).Nodup:=p.nodup_iff.mp nd
   have e1:sumP S=2^m+sumP (S.erase m):=zdr p
   by_cases c':m∈S'
   ·have p':=udy c'
    have ndp':(m::S'.erase m).Nodup:=p'.nodup_iff.mp nd'
    have e2:sumP S'=2^m+sumP (S'.erase m):=zdr p'
    by_cases z:k=m
    ·rw[z];exact c'
    ·have lt:∀ {T:List Nat},(m::T.erase m).Nodup->(∀ k∈T,k<m+1)->∀ j∈T.erase m,j<m:=λ {T} n1 n2 j hj=>by
      have h1:=n2 j (ufl hj)
      have h2:j≠m:=λ y=>(ubw.mp n1).1 (y ▸ hj)
      left
     have:=zg0 m (ubw.mp ndp).2 (ubw.mp ndp').2 (lt ndp h) (lt ndp' h') (by left) k ((uen z).mpr hk)
     exact ufl this
   ·have:=lower nd' h' c'
    left
  ·by_cases c':m∈S'
   ·have e2:sumP S'=2^m+sumP (S'.erase m):=zdr (udy c')
    have:=lower nd h c
    left
   ·have lt:∀ {T:List Nat},(∀ k∈T,k<m+1)->m∉T->∀ j∈T,j<m:=λ {T} n1 n2 j hj=>by
     have h1:=n1 j hj
     have h2:j≠m:=λ y=>n2 (y ▸ hj)
     left
    exact zg0 m nd nd' (lt h c) (lt h' c') e k hk
abbrev Arc:=Nat × Nat × Int × Nat
inductive Rt (B:List Arc)(a:Nat):List Nat->List Nat->Nat->Int->Int->Prop
 | one:Rt B a [a] [] a 0 0
 | snoc {ws S:List Nat} {u v:Nat} {x y l:Int} {k:Nat}:Rt B a ws S u x y->(u,v,l,k)∈B->v∉ws->Rt B a (ws++[v]) (S++[k]) v (x+l) (y+2^k)
structure Keys (B:List Arc):Prop where
 sym:∀ u v l k,(u,v,l,k)∈B->(v,u,l,k)∈B
 key:∀ u v l u' v' l' k,(u,v,l,k)∈B->(u',v',l',k)∈B->l'=l/\((u'=u/\v'=v)\/(u'=v/\v'=u))
 ne:∀ u v l k,(u,v,l,k)∈B->u≠v
 pos:∀ u v l k,(u,v,l,k)∈B->1<=l
 few:∀ u v l k,(u,v,l,k)∈B->k<60
variable {B:List Arc}{a b:Nat}{ws S:List Nat}{x y:Int}
theorem Rt.last (h:Rt B a ws S b x y):b∈ws:=by
 cases h with
 | one=>exact uav.mpr rfl
 | snoc _ _ _=>exact ubm _ (uav.mpr rfl)
theorem Rt.ends (K:Keys B)(h:Rt B a ws S b x y):∀ k∈S,∃ u v l,(u,v,l,k)∈B/\u∈ws/\v∈ws:=by
 induction h with
 | one=>intro k hk;cases hk
 | @snoc ws S u v x y l k r m nv ih =>
  intro j hj
  rcases ua6.mp hj with hj | hj
  ·obtain⟨p,q,l',h1,h2,h3⟩:=ih j hj
   exact⟨p,q,l',h1,ucv _ h2,ucv _ h3⟩
  ·rw[uav.mp hj]
   exact⟨u,v,l,m,ucv _ r.last,ubm _ (uav.mpr rfl)⟩
theorem Rt.fresh (K:Keys B)(h:Rt B a ws S b x y){u v:Nat}{l:Int}{k:Nat}(m:(u,v,l,k)∈B)(nv:v∉ws):k∉S:=λ hk=>by
 obtain⟨p,q,l',m',hp,hq⟩:=h.ends K k hk
 rcases (K.key _ _ _ _ _ _ _ m m').2 with ⟨e1,e2⟩ | ⟨e1,e2⟩
 ·exact nv (e2 ▸ hq)
 ·exact nv (e1 ▸ hp)
theorem Rt.nodup (K:Keys B)(h:Rt B a ws S b x y):S.Nodup:=by
 induction h with
 | one=>exact ud1
 | @snoc ws S u v x y l k r m nv ih =>
  refine uch.mpr ⟨ih,by simp,λ p hp q hq z=>?_⟩
  rw[uav.mp hq] at z
  exact r.fresh K m nv (z ▸ hp)
theorem Rt.small (K:Keys B)(h:Rt B a ws S b x y):∀ k∈S,k<60:=λ k hk=>let ⟨u,v,l,m,_⟩:=h.ends K k hk;K.few u v l k m
theorem Rt.sum (h:Rt B a ws S b x y):y=(sumP S:Nat):=by
 induction h with
 | one=>rfl
 | @snoc ws S u v x y l k r m nv ih =>
  rw[zke,ih]
  show ((sumP S:Nat):Int)+2^k=((sumP S+(2^k+0):Nat):Int)
  have:((2^k:Nat):Int)=(2:Int)^k:=by norm_cast
  left
theorem Rt.lt (K:Keys B)(h:Rt B a ws S b x y):0<=y/\y<2^60:=by
 have e:=h.sum
 have:=zgz 60 (h.nodup K) (h.small K)
 have e2:((2^60:Nat):Int)=(2:Int)^60:=by norm_cast
 left
theorem Rt.unique (K:Keys B)(h:Rt B a ws S b x y):∀ {ws' S':List Nat}{x':Int},Rt B a ws' S' b x' y->ws'=ws/\x'=x:=by
 induction h with
 | one =>
  intro ws' S' x' r
  generalize ey:(0:Int)=yy at r
  cases r with
  | one=>exact⟨rfl,rfl⟩
  | @snoc ws0 S0 u _ x0 y0 l k r m nv =>
   have p:=r.lt K
   have:(0:Int)<2^k:=Int.pow_pos (by decide)
   left
 | @snoc ws0 S0 u v x0 y0 l k r m nv ih =>
  intro ws' S' x' r'
  have full:Rt B a (ws0++[v]) (S0++[k]) v (x0+l) (y0+2^k):=.snoc r m nv
  have se:sumP S'=sumP (S0++[k]):=by
   have e1:=r'.sum
   have e2:=full.sum
   left
  have sub:=zg0 60 (r'.nodup K) (full.nodup K) (r'.small K) (full.small K) se
  generalize ey:y0+2^k=yy at r'
  cases r' with
  | one =>
   have p:=r.lt K
   have:(0:Int)<2^k:=Int.pow_pos (by decide)
   left
  | @snoc ws1 S1 u1 _ x1 y1 l1 k1 r1 m1 nv1 =>
   have in1:=sub k1 (ubm _ (uav.mpr rfl))
   have k1k:k1=k:=by
    rcases ua6.mp in1 with z | z
    ·exact absurd z (r.fresh K m1 nv)
    ·exact uav.mp z
   subst k1k
   obtain⟨el,eu⟩:=K.key _ _ _ _ _ _ _ m m1
   have uu:u1=u:=by
    rcases eu with ⟨e,_⟩ | ⟨e,e'⟩
    ·exact e
    ·exact absurd e' (K.ne _ _ _ _ m).symm
   subst uu
   have yy1:y1=y0:=by left
   subst yy1
   obtain⟨e1,e2⟩:=ih r1
   exact⟨by rw[e1],by rw[e2,el]⟩
theorem Rt.cons (K:Keys B){u:Nat}{l:Int}{k:Nat}(m:(u,a,l,k)∈B)(h:Rt B a ws S b x y):u∉ws->Rt B u (u::ws) (k::S) b (x+l) (y+2^k):=by
 induction h with
 | one =>
  intro nu
  have:Rt B u ([u]++[a]) ([]++[k]) a (0+l) (0+2^k):=.snoc .one m (λ z=>nu (by rw[uav] at z ⊢;exact z.symm))
  exact this
 | @snoc ws S w v x y l' k' r m' nv ih =>
  intro nu
  have r2:=ih λ z=>nu (ucv _ z)
  have:Rt B u ((u::ws)++[v]) ((k::S)++[k']) v (x+l+l') (y+2^k+2^k'):=.snoc r2 m' λ z=>by
   rcases uar.mp z with z | z
   ·exact nu (ubm _ (uav.mpr z.symm))
   ·exact nv z
  rw[uf9 x l l',uf9 y] at this
  exact this
theorem Rt.back (K:Keys B)(h:Rt B a ws S b x y):Rt B b ws.reverse S.reverse a x y:=by
 induction h with
 | one=>exact .one
 | @snoc ws S u v x y l k r m nv ih =>
  rw[List.reverse_append,List.reverse_append]
  exact ih.cons K (K.sym _ _ _ _ m) (λ z=>nv (List.mem_reverse.mp z))
end Far
namespace Far
structure Best (B:List Arc)(n s:Nat)(cs:List (Option (Int × Int)))(as:List (Option Nat)):Prop where
 len:cs.length=n
 alen:as.length=n
 start:get cs s=some (0,0)
 root:get as s=none
 has:∀ v c,get cs v=some c->v≠s->get as v≠none
 nn:∀ v c,get cs v=some c->0<=c.1
 stab:∀ u v l k c,(u,v,l,k)∈B->get cs u=some c->∃ c',get cs v=some c'/\¬ lt2 (c.1+l,c.2+2^k) c'
 arc:∀ v u,get as v=some u->∃ l k cu,(u,v,l,k)∈B/\get cs u=some cu/\get cs v=some (cu.1+l,cu.2+2^k)
inductive TPw (as:List (Option Nat))(s:Nat):List Nat->Nat->Prop
 | root:TPw as s [s] s
 | step {ws:List Nat} {u v:Nat}:get as v=some u->TPw as s ws u->TPw as s (ws++[v]) v
section
variable {B:List Arc}{n s:Nat}{cs:List (Option (Int × Int))}{as:List (Option Nat)}
theorem Best.route (K:Keys B)(h:Best B n s cs as):∀ (m:Nat)(v:Nat)(c:Int × Int),get cs v=some c->c.1.toNat<=m->∃ ws S,Rt B s ws S v c.1 c.2/\TPw as s ws v/\∀ w∈ws,∃ cw,get cs w=some cw/\cw.1<=c.1:=by
 intro m
 induction m using ufp with
 | ind m ih =>
  intro v c e hm
  by_cases vs:v=s
  ·subst vs
   rw[h.start] at e;cases e
   exact⟨[v],[],.one,.root,λ w hw=>by rw[uav.mp hw];exact⟨_,h.start,ub2 _⟩⟩
  ·cases ea:get as v with
   | none=>exact absurd ea (h.has v c e vs)
   | some u =>
    obtain⟨l,k,cu,ma,eu,ev⟩:=h.arc v u ea
    rw[e] at ev;cases ev
    have l1:=K.pos _ _ _ _ ma
    have c0:=h.nn _ _ eu
    simp only at hm
    obtain⟨ws,S,r,tp,all⟩:=ih cu.1.toNat (by left) u cu eu (uai _)
    have nv:v∉ws:=λ z=>by
     obtain⟨cw,e1,h1⟩:=all v z
     rw[e] at e1;cases e1
     simp only at h1;left
    refine⟨ws++[v],S++[k],.snoc r ma nv,.step ea tp,λ w hw=>?_⟩
    rcases ua6.mp hw with hw | hw
    ·obtain⟨cw,e1,h1⟩:=all w hw
     exact⟨cw,e1,by show cw.1<=cu.1+l;left⟩
    ·rw[uav.mp hw]
     exact⟨_,e,ub2 _⟩
theorem Best.small (K:Keys B)(h:Best B n s cs as){v:Nat}{c:Int × Int}(e:get cs v=some c):0<=c.2/\c.2<2^60:=by
 obtain⟨ws,S,r,_⟩:=h.route K _ v c e (uai _)
 exact r.lt K
theorem Best.tree (K:Keys B)(h:Best B n s cs as){u v:Nat}{l:Int}{k:Nat}{cu:Int × Int}(m:(u,v,l,k)∈B)(eu:get cs u=some cu)(ev:get cs v=some (cu.1+l,cu.2+2^k)):get as v=some u:=by
 have l1:=K.pos _ _ _ _ m
 have c0:=h.nn _ _ eu
 have vs:v≠s:=λ z=>by
  rw[z,h.start] at ev
  have:(0:Int)=cu.1+l:=congrArg (λ o:Option (Int × Int)=>(o.getD (0,0)).1) ev
  left
 cases ea:get as v with
 | none=>exact absurd ea (h.has v _ ev vs)
 | some u0 =>
  obtain⟨l0,k0,c0',m0,e0,ev0⟩:=h.arc v u0 ea
  have mk:∀ {u:Nat}{l:Int}{k:Nat}{cu:Int × Int},(u,v,l,k)∈B->get cs u=some cu->get cs v=some (cu.1+l,cu.2+2^k)->∃ r S,Rt B s (r++[u]++[v]) S v (cu.1+l) (cu.2+2^k):=λ {u l k cu} m eu ev=>by
   obtain⟨ws,S,r,tp,all⟩:=h.route K _ u cu eu (uai _)
   have nv:v∉ws:=λ z=>by
    obtain⟨cw,e1,h1⟩:=all v z
    rw[ev] at e1;cases e1
    have:=K.pos _ _ _ _ m
    simp only at h1;left
   obtain⟨q,rfl⟩:∃ q,ws=q++[u]:=by
    cases tp with
    | root=>exact⟨[],rfl⟩
    | step _ _=>exact⟨_,rfl⟩
   exact⟨q,_,.snoc r m nv⟩
  obtain⟨r1,S1,t1⟩:=mk m eu ev
  obtain⟨r2,S2,t2⟩:=mk m0 e0 ev0
  have e2:c0'.2+2^k0=cu.2+2^k:=congrArg (λ o:Option (Int × Int)=>(o.getD (0,0)).2) (ev0.symm.trans ev)
  rw[e2] at t2
  have:=(t1.unique K t2).1
  have z1:(r2++[u0])=(r1++[u]):=List.append_cancel_right this
  have z2:=congrArg List.getLast? z1
  simp at z2
  rw[z2]
end
def comb (c:Int × Int):Int:=c.1*2^61+c.2
def arcsC (B:List Arc):List (Nat × Nat × Int):=B.map λ b=>(b.1,b.2.1,b.2.2.1*2^61+2^b.2.2.2)
theorem arcsC_mem {B:List Arc}{u v:Nat}{L:Int}:(u,v,L)∈arcsC B↔∃ l k,(u,v,l,k)∈B/\L=l*2^61+2^k:=by
 unfold arcsC
 rw[ube]
 constructor
 ·rintro ⟨⟨a,b,l,k⟩,h,e⟩
  cases e
  exact⟨l,k,h,rfl⟩
 ·rintro ⟨l,k,h,rfl⟩
  exact⟨(u,v,l,k),h,rfl⟩
section
variable {B:List Arc}{n s:Nat}{cs:List (Option (Int × Int))}{as:List (Option Nat)}
theorem zgw (k:Nat):(1:Int)<=2^k:=Int.pow_pos (by decide)
theorem zpz (K:Keys B):Pos (arcsC B):=λ u v L h=>by
 obtain⟨l,k,m,rfl⟩:=arcsC_mem.mp h
 have:=K.pos _ _ _ _ m
 have:=zgw k
 left
theorem zpy (K:Keys B):Sym (arcsC B):=λ u v L h=>by
 obtain⟨l,k,m,rfl⟩:=arcsC_mem.mp h
 exact arcsC_mem.mpr ⟨l,k,K.sym _ _ _ _ m,rfl⟩
theorem Best.dst (K:Keys B)(h:Best B n s cs as)(v:Nat):Dst (arcsC B) s v ((get cs v).map comb):=by
 refine⟨λ y e=>?_,λ L w=>?_⟩
 ·cases ec:get cs v with
  | none=>rw[ec] at e;cases e
  | some c =>
   rw[ec] at e;cases e
   obtain⟨ws,S,r,_⟩:=h.route K _ v c ec (uai _)
   have go:∀ {ws S:List Nat}{v:Nat}{x y:Int},Rt B s ws S v x y->Walk (arcsC B) s v (comb (x,y)):=by
    intro ws S v x y r
    induction r with
    | one=>exact .nil
    | @snoc ws S u v x y l k r m nv ih =>
     have:=Walk.snoc ih (arcsC_mem.mpr ⟨l,k,m,rfl⟩)
     have e:comb (x+l,y+2^k)=comb (x,y)+(l*2^61+2^k):=by unfold comb;simp only;left
     rw[e];exact this
   exact go r
 ·have:∃ c,get cs v=some c/\comb c<=L:=by
   induction w with
   | nil=>exact⟨_,h.start,by decide⟩
   | @snoc u v l x w m ih =>
    obtain⟨c,e,hc⟩:=ih
    obtain⟨l',k,m',rfl⟩:=arcsC_mem.mp m
    obtain⟨c',e',hc'⟩:=h.stab _ _ _ _ _ m' e
    refine⟨c',e',?_⟩
    have s1:=h.small K e
    have s2:=h.small K e'
    have:=zgw k
    unfold comb at *
    unfold lt2 at hc'
    simp only at hc'
    left
  obtain⟨c,e,hc⟩:=this
  exact⟨comb c,by rw[e];rfl,hc⟩
theorem zmg {c d:Int × Int}(hc:0<=c.2/\c.2<2^61)(hd:0<=d.2/\d.2<2^61)(e:comb c=comb d):c=d:=by
 unfold comb at e
 exact Prod.ext (by left) (by left)
end
end Far
namespace Far
variable {B:List Arc}{A:List (Nat × Nat × Int)}{n s:Nat}
structure Run (B:List Arc)(s:Nat)(cs:List (Option (Int × Int)))(as:List (Option Nat)):Prop where
 len:as.length=cs.length
 start:get cs s=some (0,0)
 root:get as s=none
 has:∀ v c,get cs v=some c->v≠s->get as v≠none
 arc:∀ v u,get as v=some u->∃ l k cu cv,(u,v,l,k)∈B/\get cs u=some cu/\get cs v=some cv/\¬ lt2 cv (cu.1+l,cu.2+2^k)
theorem Run.step {u v:Nat}{l:Int}{k:Nat}{cs:List (Option (Int × Int))}{as:List (Option Nat)}{c:Int × Int}(P:Pos A)(g:Good A n s cs)(a:Run B s cs as)(m:(u,v,l)∈A)(mB:(u,v,l,k)∈B)(hv:v<n)(hu:get cs u=some c)
  (h:get cs v=none\/∃ c',get cs v=some c'/\lt2 (c.1+l,c.2+2^k) c'):Run B s (cs.set v (some (c.1+l,c.2+2^k))) (as.set v (some u)):=by
 have hc:v<cs.length:=by rw[g.len];exact hv
 have ha:v<as.length:=by rw[a.len];exact hc
 have l1:=P _ _ _ m
 have c0:=(g.walk _ _ hu).nonneg P
 have vs:v≠s:=λ z=>by
  rw[z] at h
  rcases h with h | ⟨c',h,hl⟩
  ·rw[a.start] at h;cases h
  ·rw[a.start] at h;cases h
   unfold lt2 at hl;simp only at hl;left
 have uv:u≠v:=λ z=>by
  rcases h with h | ⟨c',h,hl⟩
  ·rw[← z,hu] at h;cases h
  ·rw[← z,hu] at h;cases h
   unfold lt2 at hl;simp only at hl;left
 refine⟨by rw[uce,uce];exact a.len,by rw[za5 hc,if_neg (Ne.symm vs)];exact a.start,?_,λ x d e hx=>?_,λ x y e=>?_⟩
 ·rw[za5 ha,if_neg (Ne.symm vs)];exact a.root
 ·rw[za5 ha]
  split
  ·exact λ z=>by cases z
  ·rename_i xv
   rw[za5 hc,if_neg xv] at e
   exact a.has x d e hx
 ·rw[za5 ha] at e
  split at e
  ·rename_i z;subst z;cases e
   refine⟨l,k,c,_,mB,by rw[za5 hc,if_neg uv];exact hu,by rw[za5 hc,if_pos rfl],λ z=>?_⟩
   unfold lt2 at z;left
  ·rename_i xv
   obtain⟨l',k',cu,cv,m',e1,e2,hle⟩:=a.arc x y e
   by_cases yv:y=v
   ·subst yv
    refine⟨l',k',_,cv,m',by rw[za5 hc,if_pos rfl],by rw[za5 hc,if_neg xv];exact e2,λ z=>?_⟩
    rcases h with h | ⟨c',h,hl⟩
    ·rw[h] at e1;cases e1
    ·rw[h] at e1;cases e1
     unfold lt2 at hl hle z
     simp only at hl hle z
     left
   ·exact⟨l',k',cu,cv,m',by rw[za5 hc,if_neg yv];exact e1,by rw[za5 hc,if_neg xv];exact e2,hle⟩
theorem Run.first (hs:s<n):Run B s ((uay n none).set s (some (0,0))) (uay n none):=by
 have hl:s<(uay n (none:Option (Int × Int))).length:=by rw[ubg];exact hs
 refine⟨by rw[uce,ubg,ubg],by rw[za5 hl,if_pos rfl],zc1 _ _,λ v c e hv=>?_,λ v u e=>?_⟩
 ·rw[za5 hl,if_neg hv,zc1] at e;cases e
 ·rw[zc1] at e;cases e
def Stab2 (B:List Arc)(cs:List (Option (Int × Int))):Prop:=∀ u v l k c,(u,v,l,k)∈B->get cs u=some c->∃ c',get cs v=some c'/\¬ lt2 (c.1+l,c.2+2^k) c'
def PS2 (c0:List (Option (Int × Int)))(R:Arc->Prop)(cs:List (Option (Int × Int)))(ag:Bool):Prop :=
 (ag=false/\cs=c0/\∀ u v l k c,R (u,v,l,k)->get c0 u=some c->∃ c',get c0 v=some c'/\¬ lt2 (c.1+l,c.2+2^k) c')\/(ag=true/\mu cs<mu c0)
def plusA (R:Arc->Prop)(a:Arc):Arc->Prop:=λ b=>R b\/b=a
section
variable {c0 cs:List (Option (Int × Int))}{R R':Arc->Prop}{ag:Bool}{u v k:Nat}{l:Int}
theorem PS2.less (h:PS2 c0 R cs ag)(z:∀ a,R' a->R a):PS2 c0 R' cs ag:=h.elim (λ ⟨a,b,c⟩=>.inl ⟨a,b,λ u v l k c' y=>c u v l k c' (z _ y)⟩) .inr
theorem PS2.no (h:PS2 c0 R cs ag)(hu:get cs u=none):PS2 c0 (plusA R (u,v,l,k)) cs ag:=by
 rcases h with ⟨a,b,c⟩ | h
 ·refine .inl ⟨a,b,λ u' v' l' k' c' z e=>?_⟩
  rcases z with z | z
  ·exact c _ _ _ _ _ z e
  ·cases z;rw[← b,hu] at e;cases e
 ·exact .inr h
theorem PS2.old (h:PS2 c0 R cs ag){c d:Int × Int}(hu:get cs u=some c)(hv:get cs v=some d)(hn:¬ lt2 (c.1+l,c.2+2^k) d):PS2 c0 (plusA R (u,v,l,k)) cs ag:=by
 rcases h with ⟨a,b,z⟩ | h
 ·refine .inl ⟨a,b,λ u' v' l' k' c' y e=>?_⟩
  rcases y with y | y
  ·exact z _ _ _ _ _ y e
  ·cases y
   subst b
   rw[hu] at e;cases e
   exact⟨d,hv,hn⟩
 ·exact .inr h
theorem PS2.put (h:PS2 c0 R cs ag){cs':List (Option (Int × Int))}(hm:mu cs'<mu cs):PS2 c0 (plusA R (u,v,l,k)) cs' true:=by
 rcases h with ⟨a,b,c⟩ | h
 ·exact .inr ⟨rfl,by rw[← b];exact hm⟩
 ·exact .inr ⟨rfl,Nat.lt_trans hm h.2⟩
end
theorem Run.best {cs:List (Option (Int × Int))}{as:List (Option Nat)}(P:Pos A)(g:Good A n s cs)(r:Run B s cs as)(st:Stab2 B cs):Best B n s cs as:=by
 refine⟨g.len,by rw[r.len];exact g.len,r.start,r.root,r.has,λ v c e=>(g.walk v c e).nonneg P,st,λ v u e=>?_⟩
 obtain⟨l,k,cu,cv,m,e1,e2,n1⟩:=r.arc v u e
 obtain⟨c',e3,n2⟩:=st _ _ _ _ _ m e1
 rw[e2] at e3;cases e3
 refine⟨l,k,cu,m,e1,?_⟩
 rw[e2]
 congr 1
 unfold lt2 at n1 n2
 simp only at n1 n2
 exact Prod.ext (by show cv.1=cu.1+l;left) (by show cv.2=cu.2+2^k;left)
end Far
namespace Far
def arcsF (B:List Arc):List (Nat × Nat × Int):=B.map λ b=>(b.1,b.2.1,b.2.2.1)
theorem arcsF_mem {B:List Arc}{u v:Nat}{l:Int}:(u,v,l)∈arcsF B↔∃ k,(u,v,l,k)∈B:=by
 unfold arcsF
 rw[ube]
 constructor
 ·rintro ⟨⟨a,b,l',k⟩,h,e⟩
  cases e
  exact⟨k,h⟩
 ·rintro ⟨k,h⟩
  exact⟨(u,v,l,k),h,rfl⟩
section
variable {B:List Arc}{n s:Nat}{cs:List (Option (Int × Int))}{as:List (Option Nat)}{a b:Nat}{ws S:List Nat}{x y:Int}
theorem Rt.walk (r:Rt B a ws S b x y):Walk (arcsF B) a b x:=by
 induction r with
 | one=>exact .nil
 | snoc r m nv ih=>exact .snoc ih (arcsF_mem.mpr ⟨_,m⟩)
theorem Best.dst1 (K:Keys B)(h:Best B n s cs as)(v:Nat):Dst (arcsF B) s v ((get cs v).map (·.1)):=by
 refine⟨λ y e=>?_,λ L w=>?_⟩
 ·cases ec:get cs v with
  | none=>rw[ec] at e;cases e
  | some c =>
   rw[ec] at e;cases e
   obtain⟨ws,S,r,_⟩:=h.route K _ v c ec (uai _)
   exact r.walk
 ·have:∃ c,get cs v=some c/\c.1<=L:=by
   induction w with
   | nil=>exact⟨_,h.start,ub2 _⟩
   | @snoc u v l x w m ih =>
    obtain⟨c,e,hc⟩:=ih
    obtain⟨k,m'⟩:=arcsF_mem.mp m
    obtain⟨c',e',hc'⟩:=h.stab _ _ _ _ _ m' e
    refine⟨c',e',?_⟩
    unfold lt2 at hc'
    simp only at hc'
    left
  obtain⟨c,e,hc⟩:=this
  exact⟨c.1,by rw[e];rfl,hc⟩
structure Uni (B:List Arc)(a b:Nat)(ws S:List Nat)(x y:Int):Prop where
 rt:Rt B a ws S b x y
 least:∀ ws' S' x' y',Rt B a ws' S' b x' y'->¬ lt2 (x',y') (x,y)
end
end Far
namespace L3
open PySem PySem.Spec PyProof.Rows L2
def arcs2B (t:Tie)(k:Nat):List Far.Arc:=[(t.1.toNat,t.2.1.toNat,t.2.2,k),(t.2.1.toNat,t.1.toNat,t.2.2,k)]
def arcsB (ts:List Tie)(ks:List Nat):List Far.Arc:=ks.flatMap λ k=>arcs2B (tieAt ts k) k
theorem arcsB_mem {ts:List Tie}{ks:List Nat}{a:Far.Arc}:a∈arcsB ts ks↔∃ k,k∈ks/\a∈arcs2B (tieAt ts k) k:=by
 unfold arcsB;rw[uck]
theorem arcs2B_mem {t:Tie}{k:Nat}{a:Far.Arc}:a∈arcs2B t k↔a=(t.1.toNat,t.2.1.toNat,t.2.2,k)\/a=(t.2.1.toNat,t.1.toNat,t.2.2,k):=by
 unfold arcs2B;simp
theorem zgv {ts:List Tie}{ks:List Nat}{i k:Nat}(h:ks[i]?=some k){a:Far.Arc}(m:a∈arcsB ts (ks.take (i+1))):a∈arcsB ts (ks.take i)\/a∈arcs2B (tieAt ts k) k:=by
 obtain⟨j,hj,m⟩:=arcsB_mem.mp m
 rw[ziq h] at hj
 rcases ua6.mp hj with hj | hj
 ·exact .inl (arcsB_mem.mpr ⟨j,hj,m⟩)
 ·rw[uav.mp hj] at m;exact .inr m
theorem zbj {n:Int}{ts:List Tie}{ks:List Nat}(ok:WebOk n ts)(ko:KeepOk ts.length ks):Far.Keys (arcsB ts ks):=by
 have at_:∀ {u v l k},(u,v,l,k)∈arcsB ts ks->k<ts.length/\((u=(tieAt ts k).1.toNat/\v=(tieAt ts k).2.1.toNat)\/(u=(tieAt ts k).2.1.toNat/\v=(tieAt ts k).1.toNat))/\l=(tieAt ts k).2.2/\k∈ks:=λ {u v l k} h=>by
  obtain⟨j,hj,m⟩:=arcsB_mem.mp h
  rcases arcs2B_mem.mp m with e | e <;> cases e
  ·exact⟨ko.2 _ hj,.inl ⟨rfl,rfl⟩,rfl,hj⟩
  ·exact⟨ko.2 _ hj,.inr ⟨rfl,rfl⟩,rfl,hj⟩
 refine⟨λ u v l k h=>?_,λ u v l u' v' l' k h h'=>?_,λ u v l k h=>?_,λ u v l k h=>?_,λ u v l k h=>?_⟩
 ·obtain⟨_,e,rfl,hk⟩:=at_ h
  refine arcsB_mem.mpr ⟨k,hk,arcs2B_mem.mpr ?_⟩
  rcases e with ⟨rfl,rfl⟩ | ⟨rfl,rfl⟩
  ·exact .inr rfl
  ·exact .inl rfl
 ·obtain⟨_,e,rfl,_⟩:=at_ h
  obtain⟨_,e',rfl,_⟩:=at_ h'
  refine⟨rfl,?_⟩
  rcases e with ⟨rfl,rfl⟩ | ⟨rfl,rfl⟩ <;> rcases e' with ⟨rfl,rfl⟩ | ⟨rfl,rfl⟩
  ·exact .inl ⟨rfl,rfl⟩
  ·exact .inr ⟨rfl,rfl⟩
  ·exact .inr ⟨rfl,rfl⟩
  ·exact .inl ⟨rfl,rfl⟩
 ·obtain⟨hk,e,_,_⟩:=at_ h
  have:=ok.tie _ (zav hk).2
  rcases e with ⟨rfl,rfl⟩ | ⟨rfl,rfl⟩ <;> left
 ·obtain⟨hk,_,e,_⟩:=at_ h
  have:=ok.tie _ (zav hk).2
  left
 ·obtain⟨hk,_⟩:=at_ h
  have:=ok.few
  left
theorem zcr {n:Int}{ts:List Tie}{ks:List Nat}(ok:WebOk n ts)(ko:KeepOk ts.length ks){u v k:Nat}{l:Int}(h:(u,v,l,k)∈arcsB ts ks):u<n.toNat/\v<n.toNat:=by
 obtain⟨j,hj,m⟩:=arcsB_mem.mp h
 have:=ok.tie _ (zav (ko.2 j hj)).2
 rcases arcs2B_mem.mp m with e | e <;> cases e <;> left
def wOf (ts:List Tie)(k:Nat):Int:=(tieAt ts k).2.2*2^61+2^k
def arcs2W (ts:List Tie)(k:Nat):List (Nat × Nat × Int):=[((tieAt ts k).1.toNat,(tieAt ts k).2.1.toNat,wOf ts k),((tieAt ts k).2.1.toNat,(tieAt ts k).1.toNat,wOf ts k)]
def arcsW (ts:List Tie)(ks:List Nat):List (Nat × Nat × Int):=ks.flatMap λ k=>arcs2W ts k
theorem zij (ts:List Tie)(ks:List Nat):arcsW ts ks=Far.arcsC (arcsB ts ks):=by
 unfold arcsW Far.arcsC arcsB
 rw[List.map_flatMap]
 rfl
theorem arcsW_mem {ts:List Tie}{ks:List Nat}{a:Nat × Nat × Int}:a∈arcsW ts ks↔∃ k,k∈ks/\a∈arcs2W ts k:=by
 unfold arcsW;rw[uck]
theorem znd {ts:List Tie}{ks:List Nat}{i k:Nat}(h:ks[i]?=some k){a:Nat × Nat × Int}(m:a∈arcsW ts (ks.take (i+1))):a∈arcsW ts (ks.take i)\/a∈arcs2W ts k:=by
 obtain⟨j,hj,m⟩:=arcsW_mem.mp m
 rw[ziq h] at hj
 rcases ua6.mp hj with hj | hj
 ·exact .inl (arcsW_mem.mpr ⟨j,hj,m⟩)
 ·rw[uav.mp hj] at m;exact .inr m
def wts (ts:List Tie)(m:Nat):List V:=(uac m).map λ k=>V.int (wOf ts k)
theorem zts {ts:List Tie}{m i:Nat}(h:i<m):(wts ts m)[i]?=some (.int (wOf ts i)):=by unfold wts;rw[uak,ufu h];rfl
theorem zng {ts:List Tie}{m k:Nat}(h:k<m):atI (wts ts m) (k:Int)=some (.int (wOf ts k)):=zaw (uaw _) (by rw[ubf];exact zts h)
theorem zp6 (ts:List Tie)(m:Nat):wts ts (m+1)=wts ts m++[.int (wOf ts m)]:=by unfold wts;rw[ucz,ubc];rfl
def spReachedB (K:uad):Sp:=λ vs H Q _=>∃ n ts ks wv kv r,vs=[wv,kv,.int r]/\WK K H n ts ks wv kv/\0<=r/\r<n /\
 ∀ (p lc la:Addr)(cvs:List V)(as:List (Option Nat))(cs:List (Option (Int × Int)))(H':Hp),Same H H'->H' p=some (.tup [.ref lc,.ref la])->H' lc=some (.lst cvs)->H' la=some (.lst (as.map oa))->CostL H' cvs cs->Far.Best (arcsB ts ks) n.toNat r.toNat cs as->Q (.ref p) H'
def spTreeB (K:uad):Sp:=λ vs H Q _=>∃ n ts ks wv kv r,vs=[wv,kv,.int r]/\WK K H n ts ks wv kv/\0<=r/\r<n /\
 ∀ (p:Addr)(as:List (Option Nat))(cs:List (Option (Int × Int)))(H':Hp),Same H H'->H' p=some (.tup (as.map oa))->Far.Best (arcsB ts ks) n.toNat r.toNat cs as->Q (.ref p) H'
def spLWeights (K:uad):Sp:=λ vs H Q _=>∃ n ts v,vs=[v]/\Is K H (webD n ts) v/\WebOk n ts/\∀ l H',Same H H'->H l=none->H' l=some (.lst (wts ts ts.length))->Q (.ref l) H'
def spWeighed (K:uad):Sp:=λ vs H Q _=>∃ n ts ks wv kv r,vs=[wv,kv,.int r]/\WK K H n ts ks wv kv/\0<=r/\r<n /\
 ∀ l D H',Same H H'->H l=none->H' l=some (.lst (D.map ov))->D.length=n.toNat->(∀ v,v<n.toNat->Far.Dst (arcsW ts ks) r.toNat v (Far.get D v))->Q (.ref l) H'
def spLTree (K:uad):Sp:=λ vs H Q _=>∃ n ts ks wv kv r,vs=[wv,kv,.int r]/\WK K H n ts ks wv kv/\0<=r/\r<n /\
 ∀ (p:Addr)(F:List (Option Nat))(H':Hp),Same H H'->H' p=some (.tup (F.map oa))->(∀ cs as,Far.Best (arcsB ts ks) n.toNat r.toNat cs as->F=as)->Q (.ref p) H'
def oaD:Option Nat->PyData
 | none=>.none
 | some u=>.int (u:Int)
end L3
namespace HT
open PySem PyProof.Rows
section
variable {prog:Program}{w:World}{A:Around}{E:Value->Shared->Prop}{s:Shared}
abbrev setS (ns:List Int)(m:Nat):Int->Bool:=λ x=>(firstMet (λ i=>ns.getD i 0) m).any λ y=>y==x
abbrev setN (ns:List Int)(m:Nat):Nat:=(firstMet (λ i=>ns.getD i 0) m).length
theorem zlg {h:Heap}{t:Addr}{xs:Array Value}(it:h.IsTuple t xs)(o:Obj):(h.push o).IsTuple t xs:=let ⟨ob,e,r⟩:=it;⟨ob,Heap.get?_push_of_some _ e,r⟩
abbrev seto (led:Bool):Obj:={ cls:=.type "set",dict:=none,data:=.set #[] 0 (.fresh 0 0 led) }
theorem zjp {t:Addr}{xs:Array Value}{ns:List Int}{Q:Value->Shared->Prop}(hh:A.handled=none)(ht:s.heap.IsTuple t xs)(hi:IntsAre xs.toList ns)(hb:xs.size+1<scanBound)
  (h:∀ (h':Heap)(tk:Nat),h'.SetOf (intKind prog w) s.heap.objs.size (setS ns xs.size) (setN ns xs.size)->(∀ b o,b<s.heap.objs.size->s.heap.get? b=some o->h'.get? b=some o)->Q (.ref s.heap.objs.size) { s with heap:=h',toks:=tk }) :
  wpAny (model prog w) A (call (.type "set") [.ref t]) Q E s:=by
 obtain⟨c,tl,hmro⟩:=ua2.mro
 have hmade:=ua2.made;have hsub:=ua2.sub
 refine wpAny_call (ufw ?_);show wpAny _ _ (callAny (.type "set") _) _ _ _
 refine uag ⟨Code.quiet_builtin _ (by symm),ucu ue2 ?_⟩
 rw[Around.under_plain (ueq "set" [.ref t] []) rfl]
 have h1:=ua2.notType;have h2:=ua2.canCreate;have hct:=ue7 (.ref t)
 repeat (any_goals (first | assumption | wp_step))
 refine udr (PySem.code_set_new_1 (.ref t) (E:=E) (Q₁:=λ obj s₁=>∃ led:Bool,obj=.ref s.heap.objs.size/\s₁={ s with heap:=s.heap.push (seto led) }) λ led=>⟨led,rfl,rfl⟩) λ r s₁ hr=>?_
 match r,hr with
 | .error e,hr=>exact hr
 | .ok .next,hr=>exact hr.elim
 | .ok .brk,hr=>exact hr.elim
 | .ok .cont,hr=>exact hr.elim
 | .ok (.ret obj),hr =>
  obtain⟨led,rfl,rfl⟩:=hr
  have gS:(s.heap.push (seto led)).get? s.heap.objs.size=some (seto led):=Heap.get?_push_size _ rfl
  have hT:Shared.TypeIs { s with heap:=s.heap.push (seto led) } (.ref s.heap.objs.size) "set":=⟨_,gS,rfl⟩
  have hli:=ua2.init.lookup;have hbi:=ua2.init.bind (.ref s.heap.objs.size)
  repeat (any_goals (first | assumption | wp_step))
  refine udr (uf4 (R:=wants (λ r s₂=>r=.none/\∃ h' tk,s₂={ s with heap:=h',toks:=tk }/\h'.SetOf (intKind prog w) s.heap.objs.size (setS ns xs.size) (setN ns xs.size)/\(∀ b o,b<s.heap.objs.size->s.heap.get? b=some o->h'.get? b=some o)) E) ua2.init.plain ue8 (uff hT ?_)) λ r₂ s₂ hr₂=>?_
  ·obtain⟨ot,ho,hc,m,hd⟩:=id ht
   obtain⟨ocls,odict,odata,oslots⟩:=ot
   simp only at hc hd;subst hc hd
   have ho':(s.heap.push (seto led)).get? t=some { cls:=.type "tuple",dict:=odict,data:=.seq xs m,slots:=oslots }:=Heap.get?_push_of_some _ ho
   have f1:=uha;have f2:=ugh
   have f3:(Value.type "tuple"==Value.type "dict")=false:=by decide
   have it1:(s.heap.push (seto led)).IsTuple t xs:=⟨_,ho',rfl,m,rfl⟩
   unfold Builtin.«set.__init__» noKeywords Builtin.Frozenset.updateFrom
   generalize hPI:pyIter=PI
   wp_walk;subst hPI
   refine ueg it1 (uab (ufd ?_))
   have lt:t<s.heap.objs.size:=Heap.lt_size ho
   have hh3:A.in1.in1.in1.handled=none:=by simp [hh]
   have sz1:(s.heap.push (seto led)).objs.size=s.heap.objs.size+1:=Heap.size_push ..
   have tI:t≠(s.heap.push (seto led)).objs.size:=by rw[sz1];exact uau (ub1 lt)
   have Sfp:s.heap.objs.size∉[(s.heap.push (seto led)).objs.size,t]:=by
    rw[sz1];simp only [uar,ua1,or_false,not_or];exact⟨uau (uc5 _),(uau lt).symm⟩
   have vals:∀ (i:Nat)(v:Value),xs[i]?=some v->∃ u,v=.int ((λ i=>ns.getD i 0) i) u:=λ i v hv=>IntsAre.int_at hi i v (by rw[ucg];exact hv)
   refine codeAny_set_update_loopS ((Walks.tuple hh3 _ t tI xs).toS) s.heap.objs.size Sfp (λ i=>ns.getD i 0) vals hb (xs.size-0) 0 _ (by left) (ubj _) ?st ?s0 ?fin
   case st=>exact⟨⟨_,Heap.get?_push_size _ rfl,rfl,rfl⟩,zlg it1 _⟩
   case s0=>exact SetOf_congr ((setObjOf_fresh (knd:=intKind prog w) led).setOf (Heap.get?_push_of_some _ gS) (by unfold scanBound;left)) (λ _=>rfl) rfl
   case fin =>
    rintro ⟨h',g',d',tk',os'⟩ hm hS'
    obtain rfl:g'=s.gens:=hm.gens
    obtain rfl:d'=s.drawn:=hm.drawn
    obtain rfl:os'=s.os:=hm.os
    refine uag (uag ⟨rfl,h',tk',rfl,hS',λ b o hlt e=>hm.heap b o ?_ (Heap.get?_push_of_some _ (Heap.get?_push_of_some _ e))⟩)
    rw[sz1];simp only [uar,ua1,or_false,not_or]
    exact⟨uau hlt,uau (ub1 hlt)⟩
  ·match r₂,hr₂ with
   | .error e,hr₂=>exact hr₂
   | .ok .next,hr₂=>exact hr₂.elim
   | .ok .brk,hr₂=>exact hr₂.elim
   | .ok .cont,hr₂=>exact hr₂.elim
   | .ok (.ret v),hr₂ =>
    obtain⟨rfl,h',tk,rfl,hS',hk⟩:=hr₂
    repeat (any_goals (first | assumption | wp_step))
    exact h h' tk hS' hk
end
end HT
namespace L3
open PySem PySem.Spec PyProof.Rows L2
theorem zd5 (val:Nat->Int):∀ i,(firstMet val i).length=i↔((uac i).map val).Nodup
 | 0=>by rw[firstMet_zero];simp
 | i+1=>by
  have ih:=zd5 val i
  have le:=firstMet_length_le val i
  have an:=firstMet_any val i (val i)
  rw[firstMet_succ,ucz,ubc,uch]
  unfold step_dedup
  by_cases c:(firstMet val i).any (λ y=>y==val i)=true
  ·rw[if_pos c]
   constructor
   ·intro z;left
   ·rintro ⟨_,_,z⟩
    rw[an,ub4] at c
    obtain⟨y,hy,e⟩:=c
    exact absurd (by simpa using e) (z y hy (val i) (by simp))
  ·rw[if_neg c,uaq,ubn]
   constructor
   ·intro z
    refine⟨ih.mp (by left),by simp,λ a ha b hb e=>c ?_⟩
    rw[an,ub4]
    have:b=val i:=by simpa using hb
    exact⟨a,ha,by rw[e,this];simp⟩
   ·rintro ⟨z,_⟩
    rw[ih.mpr z]
theorem zed (ns:List Int):HT.setN ns ns.length=ns.length↔ns.Nodup:=by
 have:=zd5 (λ i=>ns.getD i 0) ns.length
 rw[zbd] at this
 exact this
section
variable {X:Cx}
inductive call_setT_i  (xs:List V) (H:Hp) (Q:VK):Prop
 | mk:∀ (p:Addr)(ns:List Int),(xs=[.ref p])->(H p=some (.tup (ns.map V.int)))->(ns.length<=1000)->(∀ q H',Same H H'->H q=none->H' q=some (.set (HT.setS ns ns.length) (HT.setN ns ns.length))->Q (.ref q) H')->call_setT_i xs H Q
theorem zpl (hh:X.calm=true):CallR X (.type "set") (call_setT_i):=by
 intro pins s σ H xs us Q I r h
 obtain⟨p,ns,rfl,hp,hl,q⟩:=h
 obtain⟨u,rfl,rx⟩:=vals1 r
 cases rx
 obtain⟨its,rv,pt,hz⟩:=I.tuple (SqT.of hp)
 have hlen:=rv.length
 rw[uae] at hlen
 have fr:H s.heap.objs.size=none:=I.hok.fresh (uai _)
 have esz:its.toArray.size=ns.length:=by rw[uao,← hlen]
 refine HT.zjp (ns:=ns) (I.ok.hd hh) (show s.heap.IsTuple p its.toArray from pt) (by simpa using zbw rv) (by rw[esz];unfold scanBound;left) λ h' tk hS hk=>?_
 rw[esz] at hS
 exact⟨.ref s.heap.objs.size,_,I.laid (a:=s.heap.objs.size) (o:=.set (HT.setS ns ns.length) (HT.setN ns ns.length)) (t':=tk) (λ b o e=>hk b o (Heap.lt_size e) e) (uai _) hS,rfl,q _ _ (zam fr) fr zaj⟩
inductive call_lenS_i  (xs:List V) (H:Hp) (Q:VK):Prop
 | mk:∀ (p:Addr)(S:Int->Bool)(n:Nat),(xs=[.ref p])->(H p=some (.set S n))->(Q (.int (n:Int)) H)->call_lenS_i xs H Q
theorem zfn:CallR X (.builtin "len") (call_lenS_i):=by
 intro pins s σ H xs us Q I r h
 obtain⟨p,S,n,rfl,hp,q⟩:=h
 obtain⟨u,rfl,rx⟩:=vals1 r
 cases rx
 obtain⟨o,es,ep,t,ho,hex,hd,_,_,hb,hf,hn⟩:=(show ObjOk X.prog X.w H s.heap p (.set S n) from I.hok p _ hp)
 refine call_len_set ho hex hd hf (by unfold scanBound at hb;left) ⟨.int (n:Int),H,I.tok _,⟨s.toks+1,by rw[hn]⟩,q⟩
end
def iAny (K:uad)(tl:TE):TI:=λ σ H R=>tl σ H λ x H1=>ERef x λ a=>∃ t:Bool,(∃ xs,SqX t K H1 a xs)/\R (if t=true then Itt K a else Itl K a) H1
theorem zt2 {X:Cx}{tg l:Expr}{tl:TE}(hl:PE X l tl):PI X tg l (iAny X.K tl):=by
 intro pins s σ H R I h
 refine thn (hl pins s σ H _ I h) λ v s1 ⟨x,H1,I1,r1,q1⟩=>?_
 obtain⟨a,rfl,t,⟨xs,hq⟩,q⟩:=q1
 cases r1
 have fp:∀ b∈[s1.heap.objs.size],FpOk X pins H1 b:=λ b hb=>by
  rw[uav.mp hb];exact I1.fpOk (uai _) (I1.hok.fresh (uai _))
 cases t with
 | true =>
  obtain⟨its,_,p,_⟩:=I1.tuple (xs:=xs) hq
  exact ueg (show s1.heap.IsTuple a its.toArray from p) ⟨_,_,_,_,H1,rfl,I1.kept (t':=s1.toks) λ b o e=>Heap.get?_push_of_some _ e,zgi a _,⟨_,Heap.get?_push_size _ rfl,rfl,rfl⟩,fp,q⟩
 | false =>
  obtain⟨its,_,p,_⟩:=I1.list (xs:=xs) hq
  exact ud3 p.isList ⟨_,_,_,_,H1,rfl,I1.kept (t':=s1.toks) λ b o e=>Heap.get?_push_of_some _ e,zin a _,⟨_,Heap.get?_push_size _ rfl,rfl,rfl⟩,fp,q⟩
theorem zk1 {K:uad}{a:Addr}{xs:List V}{t:Bool}{g:TG}{tb:TS}{D:Ends}{σ:L2.St}{H:Hp}(Pv:Nat->L2.St->Hp->Prop)(h0:Pv 0 σ H)(hl:∀ i σ H,i<=xs.length->Pv i σ H->SqX t K H a xs)
  (hs:∀ i x σ H,xs[i]?=some x->Pv i σ H->g x σ H λ σ2 H2=>tb { D with nx:=Pv (i+1),ct:=Pv (i+1),bk:=D.nx } σ2 H2) (hd:∀ σ H,Pv xs.length σ H->D.nx σ H) :
  ∃ W:Nat->Nat->L2.St->Hp->Prop,(∃ m,W 0 m σ H)/\∀ i m σ H,W i m σ H ->
   ((if t=true then Itt K a else Itl K a).stop i H/\D.nx σ H)\/((if t=true then Itt K a else Itl K a).go i H/\∃ N:L2.St->Hp->Prop,(∀ σ' H',N σ' H'->∃ m',m'<m/\W (i+1) m' σ' H')/\∀ x H',(if t=true then Itt K a else Itl K a).yld i H x H'->g x σ H' λ σ2 H2=>tb { D with nx:=N,ct:=N,bk:=D.nx } σ2 H2):=by
 cases t with
 | true=>exact zc2 Pv h0 hl hs hd
 | false=>exact zd4 Pv h0 hl hs hd
theorem zec (ts:List Tie)(ks:List Nat):Far.arcsF (arcsB ts ks)=arcs ts ks:=by
 unfold arcs Far.arcsF arcsB
 rw[List.map_flatMap]
 rfl
theorem zj8 {n:Int}{ts:List Tie}{ks:List Nat}(ok:WebOk n ts)(ko:KeepOk ts.length ks):Far.Sym (arcs ts ks):=λ u v l h=>by
 rw[← zec] at h ⊢
 obtain⟨k,m⟩:=Far.arcsF_mem.mp h
 exact Far.arcsF_mem.mpr ⟨k,(zbj ok ko).sym _ _ _ _ m⟩
def spReachedC (K:uad):Sp:=λ vs H Q _=>∃ n ts ks wv kv r,vs=[wv,kv,.int r]/\WK K H n ts ks wv kv/\0<=r/\r<n /\
 ∀ (p lc la:Addr)(cvs:List V)(as:List (Option Nat))(cs:List (Option (Int × Int)))(H':Hp),Same H H'->H' p=some (.tup [.ref lc,.ref la])->H' lc=some (.lst cvs)->H' la=some (.lst (as.map oa))->CostL H' cvs cs->Far.Best (arcsB ts ks) n.toNat r.toNat cs as->Far.Good (arcs ts ks) n.toNat r.toNat cs->Far.Stab (arcs ts ks) cs->Q (.ref p) H'
theorem zn1 {K:uad}(vs:List V)(H:Hp)(Q:VK)(E:XK)(h:spReachedB K vs H Q E):spReachedC K vs H Q E:=by
 obtain⟨n,ts,ks,wv,kv,r,e,wk,r0,r1,q⟩:=h
 exact⟨n,ts,ks,wv,kv,r,e,wk,r0,r1,λ p lc la cvs as cs H' S h1 h2 h3 cl B _ _=>q p lc la cvs as cs H' S h1 h2 h3 cl B⟩
theorem zn0 {K:uad}(vs:List V)(H:Hp)(Q:VK)(E:XK)(h:spReached K vs H Q E):spReachedC K vs H Q E:=by
 obtain⟨n,ts,ks,wv,kv,r,e,wk,r0,r1,q⟩:=h
 exact⟨n,ts,ks,wv,kv,r,e,wk,r0,r1,λ p lc la cvs as cs H' S h1 h2 h3 cl _ g st=>q p lc la cvs _ cs H' S h1 h2 h3 cl g st⟩
theorem zsr {ts:List Tie}{ks:List Nat}{cs:List (Option (Int × Int))}(h:Far.Stab2 (arcsB ts ks) cs):Far.Stab (arcs ts ks) cs:=λ u v l c m e=>by
 rw[← zec] at m
 obtain⟨k,m⟩:=Far.arcsF_mem.mp m
 obtain⟨c',e',n'⟩:=h _ _ _ _ _ m e
 refine⟨c',e',?_⟩
 unfold Far.lt2 at n'
 simp only at n'
 left
theorem zsn {n:Int}{ts:List Tie}{ks:List Nat}(ok:WebOk n ts)(ko:KeepOk ts.length ks){u v k:Nat}{l:Int}(h:(u,v,l,k)∈arcsB ts ks):ks.filter (isTB ts u v)=[k]:=by
 have hk:k∈ks/\isTB ts u v k=true:=by
  obtain⟨j,hj,m⟩:=arcsB_mem.mp h
  have tk:=ok.tie _ (zav (ko.2 j hj)).2
  unfold isTB
  rcases arcs2B_mem.mp m with e | e <;> cases e
  ·exact⟨hj,by rw[decide_eq_true (by left),decide_eq_true (by left)];rfl⟩
  ·exact⟨hj,by rw[decide_eq_true (by left),decide_eq_true (by left)];rfl⟩
 have one:∀ j∈ks,isTB ts u v j=true->j=k:=λ j hj p=>by
  have q:=hk.2
  have hjl:=ko.2 j hj
  have hkl:=ko.2 k hk.1
  unfold isTB at p q
  rw[ubd] at p q
  have a1:=of_decide_eq_true p.1
  have a2:=of_decide_eq_true p.2
  have b1:=of_decide_eq_true q.1
  have b2:=of_decide_eq_true q.2
  exact zli ok hjl hkl (a1.trans b1.symm) (a2.trans b2.symm)
 have nd:ks.Nodup:=ko.1.imp λ h=>uau h
 have nf:(ks.filter (isTB ts u v)).Nodup:=nd.sublist uco
 have mk:k∈ks.filter (isTB ts u v):=uaz.mpr hk
 have all:∀ j∈ks.filter (isTB ts u v),j=k:=λ j hj=>one j (uaz.mp hj).1 (uaz.mp hj).2
 match e:ks.filter (isTB ts u v) with
 | []=>rw[e] at mk;cases mk
 | [j]=>rw[all j (by rw[e];exact uan)]
 | i::j::r =>
  rw[e] at nf all
  have h1:=all i uan
  have h2:=all j (uam _ uan)
  exact absurd (h1.trans h2.symm) (λ z=>(ubw.mp nf).1 (by rw[z];exact uan))
section
variable {own:List Str}{js:List Nat}{g:TG}{te:TE}{σ:L2.St}{Q:VK}{H1:Hp}
end
end L3
namespace HT
open PySem PyProof.Rows
section
variable {prog:Program}{w:World}{A:Around}{R:Result->Shared->Prop}{I:Addr}{fp wr:List Addr}{G:Array GenState->Array GenState->Prop}{St:Nat->Shared->Prop}{its:List Value}{ns:List Int}
end
section
variable {prog:Program}{w:World}{A:Around}{E:Value->Shared->Prop}{s:Shared}
end
end HT
namespace L3
open PySem PySem.Spec PyProof.Rows L2
theorem IsAll.at_ {K:uad}{H:Hp}:∀ {ds:List PyData}{vs:List V}{i:Nat}{d:PyData},IsAll K H ds vs->ds[i]?=some d->∃ v,vs[i]?=some v/\Is K H d v
 | [],vs,i,d,_,h=>by cases h
 | d0::ds,vs,0,d,⟨v,r,e,h1,_⟩,h=>by
  cases h
  exact⟨v,by rw[e];rfl,h1⟩
 | d0::ds,vs,i+1,d,⟨v,r,e,_,h2⟩,h=>by
  obtain⟨u,e1,e2⟩:=IsAll.at_ (i:=i) h2 h
  exact⟨u,by rw[e];exact e1,e2⟩
theorem IsAll.from_ {K:uad}{H:Hp}:∀ {ds:List PyData}{vs:List V}{i:Nat}{v:V},IsAll K H ds vs->vs[i]?=some v->∃ d,ds[i]?=some d/\Is K H d v
 | [],vs,i,v,h,e=>by
  have:vs=[]:=h
  rw[this] at e;cases e
 | d0::ds,vs,0,v,⟨u,r,e0,h1,_⟩,e=>by
  rw[e0] at e;cases e
  exact⟨d0,rfl,h1⟩
 | d0::ds,vs,i+1,v,⟨u,r,e0,_,h2⟩,e=>by
  rw[e0] at e
  exact IsAll.from_ (i:=i) h2 e
section
variable {own:List Str}{js:List Nat}{g:TG}{tt:TT}{te:TE}{σ:L2.St}{Q:VK}{H1:Hp}
end
def lvl (ls:List (List Nat))(i:Nat):List Nat:=ls.getD i []
structure LevOk (n:Nat)(ls:List (List Nat)):Prop where
 one:1<=ls.length
 six:ls.length<=6
 first:lvl ls 0=uac n
 rise:∀ i,(lvl ls i).Pairwise (·<·)
 inn:∀ i,∀ p∈lvl ls i,p<n
 down:∀ i,∀ p∈lvl ls (i+1),p∈lvl ls i
def IsTop (ls:List (List Nat))(w b:Nat):Prop:=b<ls.length/\w∈lvl ls b/\∀ i,i<ls.length->w∈lvl ls i->i<=b
def Bun (ls:List (List Nat))(D:List (Option Int))(w:Nat):Prop:=∃ x,Far.get D w=some x/\∀ b p y,IsTop ls w b->p∈lvl ls (b+1)->Far.get D p=some y->x<y
noncomputable def bunB (ls:List (List Nat))(D:List (Option Int))(w:Nat):Bool:=@decide (Bun ls D w) (Classical.propDecidable _)
def FarsOf (ts:List Tie)(n s:Nat)(D:List (Option Int)):Prop:=D.length=n/\∀ u,u<n->Far.Dst (arcs ts (uac ts.length)) s u (Far.get D u)
def FarsT (H:Hp)(p lf:Addr)(n:Nat)(ts:List Tie):Prop:=∃ ys,H lf=some (.lst ys)/\lf≠p/\ys.length=n/\∀ i v,ys[i]?=some v->∃ l D,v=.ref l/\l≠p/\H l=some (.lst (D.map ov))/\FarsOf ts n i D
def spMost:Sp:=λ vs H Q _=>∃ (p:Addr)(k:Int),vs=[.ref p,.int k]/\Pot H p/\∀ m H',But p H H'->Pot H' p->1<=m->m<=24->Q (.int m) H'
theorem zny {l:List Nat}(h:l.Pairwise (·<·)):risI (keepI l)=true:=by
 unfold risI
 rw[udf]
 refine ubo.mpr λ i hi=>?_
 have hi':=uaj.mp hi
 have ll:(keepI l).length=l.length:=by unfold keepI;rw[uae]
 rw[ufg,ll] at hi'
 have g:∀ j (hj:j<l.length),(keepI l).getD j 0=((l[j]:Nat):Int):=λ j hj=>by
  unfold keepI;rw[uah,uak,uaf hj];rfl
 have g2:((keepI l).drop 1).getD i 0=(keepI l).getD (i+1) 0:=by rw[uah,uah,List.getElem?_drop,Nat.add_comm]
 show decide ((keepI l).getD i 0<((keepI l).drop 1).getD i 0)=true
 rw[g2,g i (by left),g (i+1) (by left)]
 have:=ucd.mp h i (i+1) (by left) (by left) (by left)
 exact decide_eq_true (by left)
end L3
namespace HT
open PySem PyProof.Rows
section
variable {prog:Program}{w:World}{A:Around}{R:Result->Shared->Prop}{I:Addr}{fp wr:List Addr}{G:Array GenState->Array GenState->Prop}{St:Nat->Shared->Prop}{its:List Value}{ks:List (List Int)}
end
section
variable {prog:Program}{w:World}{A:Around}{E:Value->Shared->Prop}{s:Shared}
end
end HT
namespace L3
open PySem PySem.Spec PyProof.Rows L2
theorem zp9 {xs:List V}{us:List Value}(r:Vals xs us):∀ {i:Nat}{u:Value},us[i]?=some u->∃ x,xs[i]?=some x/\RelV x u:=by
 induction r with
 | nil=>intro i u e;cases e
 | cons r _ ih =>
  intro i u e
  cases i with
  | zero=>cases e;exact⟨_,rfl,r⟩
  | succ i=>exact ih (i:=i) e
noncomputable def topN (ls:List (List Nat))(w:Nat):Nat:=@dite _ (∃ b,IsTop ls w b) (Classical.propDecidable _) (λ h=>Classical.choose h) (λ _=>0)
structure IsPiv (ls:List (List Nat))(m:Nat)(D:List (Option Int))(o:Option Nat):Prop where
 no:o=none->∀ q∈lvl ls m,Far.get D q=none
 yes:∀ p,o=some p->p∈lvl ls m/\∃ x,Far.get D p=some x/\∀ q∈lvl ls m,∀ y,Far.get D q=some y->x<=y/\(y=x->topN ls q<=topN ls p/\(topN ls q=topN ls p->p<=q))
def tupI (k:List Int):PyData:=.tuple (k.map .int)
section
variable {own:List Str}{js:List Nat}{g:TG}{tt:TT}{te:TE}{σ:L2.St}{Q:VK}{H1:Hp}
end
noncomputable def pivN (ls:List (List Nat))(m:Nat)(D:List (Option Int)):Nat:=@dite _ (∃ p,IsPiv ls m D (some p)) (Classical.propDecidable _) (λ h=>Classical.choose h) (λ _=>0)
noncomputable def clN (ls:List (List Nat)):Nat->Nat->Nat->Nat->List (Option Int)->List (Option Int)->Int->List (List Int)
 | 0,w,a,b,_,_,x=>[[(w:Int),(a:Int),(b:Int),x]]
 | f+1,w,a,b,Da,Db,x=>[(w:Int),(a:Int),(b:Int),x]::(if bunB ls Db w=true then [] else clN ls f (pivN ls (topN ls w+1) Db) b a Db Da ((Far.get Db (pivN ls (topN ls w+1) Db)).getD 0))
structure Cs (ts:List Tie)(n:Nat)(ls:List (List Nat))(d:Int)(j w a b:Nat)(Da Db:List (Option Int))(x:Int):Prop where
 fa:FarsOf ts n a Da
 fb:FarsOf ts n b Db
 wn:w<n
 an:a<n
 bn:b<n
 xa:Far.get Da w=some x
 lim:x<=j*d
 ab:Far.get Da b=some d
 ba:Far.get Db a=some d
 yb:∃ y,Far.get Db w=some y
 tp:j<=topN ls w
 bu:bunB ls Da w=true
section
variable {n:Int}{ts:List Tie}{ls:List (List Nat)}{d x:Int}{j w a b:Nat}{Da Db:List (Option Int)}
theorem allOk (ts:List Tie):KeepOk ts.length (uac ts.length):=⟨ubk,λ k hk=>uaj.mp hk⟩
end
structure RowsOk (ls:List (List Nat))(n:Nat)(d:Int)(Du Dv:List (Option Int))(rows:List (List Int)):Prop where
 few:rows.length<=ls.length
 lim:∀ (i:Nat)(r:List Int),rows[i]?=some r->∃ p a b x:Int,r=[p,a,b,x]/\x<=i*d
 last:∃ (pre:List (List Int))(w:Nat)(a b x:Int),rows=pre++[[(w:Int),a,b,x]]/\w<n/\bunB ls Du w=true/\bunB ls Dv w=true
def ClimbV (K:uad)(H:Hp)(ls:List (List Nat))(n u v:Nat)(Du Dv:List (Option Int))(r:V):Prop:=(r=.non/\Far.get Du v=none)\/∃ t ys d,r=.ref t/\Far.get Du v=some d/\H t=some (.tup ys)/\IsAll K H ((clN ls ls.length u u v Du Dv 0).map tupI) ys/\RowsOk ls n d Du Dv (clN ls ls.length u u v Du Dv 0)
def FarsM (H:Hp)(lf:Addr)(n:Nat)(ts:List Tie):Prop:=∃ ys,H lf=some (.lst ys)/\ys.length=n/\∀ i v,ys[i]?=some v->∃ l D,v=.ref l/\H l=some (.lst (D.map ov))/\FarsOf ts n i D
structure Clb (ts:List Tie)(n:Int)(ls:List (List Nat))(d:Int)(u v:Nat)(Du Dv:List (Option Int))(pre:List (List Int))(w a b:Nat)(Da Db:List (Option Int))(x:Int):Prop where
 cs:Cs ts n.toNat ls d pre.length w a b Da Db x
 sides:(Da=Du/\Db=Dv)\/(Da=Dv/\Db=Du)
 lim:∀ (i:Nat)(r:List Int),(pre++[[(w:Int),(a:Int),(b:Int),x]])[i]?=some r->∃ p a b x:Int,r=[p,a,b,x]/\x<=i*d
 rest:pre++clN ls (ls.length-pre.length) w a b Da Db x=clN ls ls.length u u v Du Dv 0
section
variable {n:Int}{ts:List Tie}{ls:List (List Nat)}{d x:Int}{u v w a b:Nat}{Du Dv Da Db:List (Option Int)}{pre:List (List Int)}
end
section
variable {K:uad}{J J':Hp}{ls:List (List Nat)}{n u v:Nat}{Du Dv:List (Option Int)}{r r1 r2:V}
end
end L3
namespace PySem.SeqAt
open PySem.Spec PySem.MeetsSeq PySem.MeetsSeq2 PySem.MeetsSeq3 PySem.SeqRoads2
open AutoSeq1 (wpAny_loadPart')
end PySem.SeqAt
namespace L3
open PySem PySem.Spec PyProof.Rows L2
section
variable {X:Cx}{o e:Expr}{es:List Expr}{to:TE}{t:TA}{name:Str}{apos cpos:Pos}{id:String}{r:V->List V->Hp->VK->Prop}
end
def bk (hi:Option Int)(n j:Nat):Prop:=(hi=none/\j=0)\/(hi=some 0/\j=1/\1<=n)
section
variable {prog:Program}{w:World}{A:Around}{E:Value->Shared->Prop}{s:Shared}
end
section
variable {X:Cx}{e st:Expr}{te ts:TE}{lo hi:Option Expr}{th:TO}{pos p2:Pos}
end
end L3
namespace Far
section
variable {B:List Arc}{n s a b:Nat}{ws S:List Nat}{x y:Int}{cs:List (Option (Int × Int))}{as:List (Option Nat)}
def MinW (B:List Arc)(a b:Nat)(ws:List Nat):Prop:=∃ S x y,Rt B a ws S b x y/\∀ L,Walk (arcsC B) a b L->comb (x,y)<=L
theorem MinW.back (K:Keys B)(h:MinW B a b ws):MinW B b a ws.reverse:=by
 obtain⟨S,x,y,r,l⟩:=h
 exact⟨S.reverse,x,y,r.back K,λ L w=>l L (w.back (zpy K))⟩
end
def Shr (W1 W2:List Nat):Prop:=(∀ x∈W1,x∉W2)\/∃ p m q p2 q2,W1=p++m++q/\m≠[]/\(∀ x∈p,x∉W2)/\(∀ x∈q,x∉W2)/\(W2=p2++m++q2\/W2=p2++m.reverse++q2)
end Far
namespace L3
open PySem PySem.Spec PyProof.Rows L2
def WayM (H:Hp)(ts:List Tie)(ks:List Nat)(a b:Nat)(v:V):Prop:=(v=.non/\Far.Dst (arcs ts ks) a b none)\/∃ t ws x,v=.ref t/\H t=some (.tup (natV ws))/\ws.length<=24/\Far.MinW (arcsB ts ks) a b ws/\Far.Tr (arcs ts ks) a ws b x/\Far.Dst (arcs ts ks) a b (some x)
theorem zkd {n:Int}{ts:List Tie}{ks:List Nat}(ok:WebOk n ts)(ko:KeepOk ts.length ks){u v k:Nat}{l:Int}(h:(u,v,l,k)∈arcsB ts ks):tbN ts u v=some k:=by
 have h2:(u,v,l,k)∈arcsB ts (uac ts.length):=by
  obtain⟨k',hk',m⟩:=arcsB_mem.mp h
  exact arcsB_mem.mpr ⟨k',uaj.mpr (ko.2 k' hk'),m⟩
 have e:=zsn ok (allOk ts) h2
 unfold tbN
 rw[← List.head?_filter,e];rfl
inductive op_inL_i (K:uad)(uu:Nat)(x:V)(y:V)(H:Hp)(Q:VK):Prop
 | mk:∀ (p:Addr)(ds:List PyData)(vs:List V)(dx:PyData),(y=.ref p)->(H p=some (.lst vs))->(IsAll K H ds vs)->(Is K H dx x)->((∀ d∈ds,d.canLay0=true))->(dx.canLay0=true)->(uu+1+dx.depth<cLine)->(Q (.bl (ds.any λ d=>PyData.eqv d dx)) H)->op_inL_i K uu x y H Q
theorem zt8 {X:Cx}:OpR X (compareOp .In) (op_inL_i X.K X.A.units):=by
 intro pins s σ H x y v u Q I rx ry h
 obtain⟨p,ds,vs,dx,rfl,hp,hA,hx,lay,layx,hu,q⟩:=h
 cases ry
 obtain⟨its,r,pl,hz⟩:=I.list (SqL.of hp)
 obtain⟨xs,rdx⟩:=zdu I dx hx rx
 have room:∀ d:PyData,X.A.in1.units+min d.depth dx.depth<cLine:=λ d=>by
  have:X.A.in1.units=X.A.units+1:=rfl
  have:=Nat.min_le_right d.depth dx.depth
  left
 have rd:∀ {i:Nat}{w:Value},its[i]?=some w->∃ d as,ds[i]?=some d/\Reads s.heap w d as/\d.canLay0=true:=λ {i w} e=>by
  obtain⟨x',hi,rel⟩:=zp9 r e
  obtain⟨d,hd,hI⟩:=IsAll.from_ hA hi
  obtain⟨as,ra⟩:=zdu I d hI rel
  exact⟨d,as,hd,ra,lay d (uat hd)⟩
 let e:Value->Bool:=λ w=>@decide (∃ (i:Nat)(d:PyData),its[i]?=some w/\ds[i]?=some d/\PyData.eqv d dx=true) (Classical.propDecidable _)
 refine SeqAt.in_listAt e pl.isList (λ w hw=>?_) ⟨.bl _,H,I,rfl,?_⟩
 ·have hw':w∈its:=by simpa using hw
  by_cases c:∃ (i:Nat)(d:PyData),its[i]?=some w/\ds[i]?=some d/\PyData.eqv d dx=true
  ·have ec:e w=true:=@decide_eq_true _ (Classical.propDecidable _) c
   obtain⟨i,d,ei,ed,eq⟩:=c
   obtain⟨d',as,ed',ra,ld⟩:=rd ei
   rw[ed] at ed';cases ed'
   rw[ec,← eq]
   exact SeqAt.eqAt_reads d dx _ s _ _ _ _ ra rdx ld layx (room d)
  ·have ec:e w=false:=@decide_eq_false _ (Classical.propDecidable _) c
   obtain⟨i,ei⟩:=List.getElem?_of_mem hw'
   obtain⟨d,as,ed,ra,ld⟩:=rd ei
   have eq:PyData.eqv d dx=false:=udd.mpr λ z=>c ⟨i,d,ei,ed,z⟩
   rw[ec,← eq]
   exact SeqAt.eqAt_reads d dx _ s _ _ _ _ ra rdx ld layx (room d)
 ·have any:its.toArray.any e=ds.any λ d=>PyData.eqv d dx:=by
   rw[ucq]
   simp only [List.any_toArray]
   rw[ub4,ub4]
   constructor
   ·rintro ⟨w,hw,ew⟩
    obtain⟨i,d,_,ed,eq⟩:=(@decide_eq_true_iff _ (Classical.propDecidable _)).mp ew
    exact⟨d,uat ed,eq⟩
   ·rintro ⟨d,hd,eq⟩
    obtain⟨i,hi⟩:=List.getElem?_of_mem hd
    obtain⟨v',hv',hI⟩:=IsAll.at_ hA hi
    have hil:i<its.length:=by
     have:=(ual.mp hv').1
     have:=r.length
     left
    exact⟨its[i],uel hil,@decide_eq_true _ (Classical.propDecidable _) ⟨i,d,uaf hil,hi,eq⟩⟩
  rw[any];exact q
theorem zs4 {X:Cx}{own fr:List Str}{scope:Scope}{fp:List Addr}{pins:List (Addr × Obj)}{s3:Shared}{H3:Hp}:OpR (cxComp X own fr scope fp pins s3 H3) (compareOp .In) (op_inL_i X.K X.A.units):=zt8 (X:=cxComp X own fr scope fp pins s3 H3)
def spShare (K:uad):Sp:=λ vs H Q _=>∃ (t1 t2:Addr)(W1 W2:List Nat),vs=[.ref t1,.ref t2]/\H t1=some (.tup (natV W1))/\H t2=some (.tup (natV W2))/\W1.length<=24/\W2.length<=24/\W1.Nodup/\Far.Shr W1 W2/\∀ H',Same H H'->Q (.bl true) H'
def WaysL (J:Hp)(ts:List Tie)(ks:List Nat)(ys:List V):Prop:=∀ v∈ys,∃ t W a b,v=.ref t/\J t=some (.tup (natV W))/\W.length<=24/\Far.MinW (arcsB ts ks) a b W
theorem sb2 {H J J':Hp}{l:Addr}(s:Same H J)(b:But l J J')(f:H l=none):Same H J':=λ c o e=>b _ _ (zal e f) (s _ _ e)
end L3
namespace Far
inductive W2 (B:List Arc)(s:Nat):Nat->Int->Int->Prop
 | nil:W2 B s s 0 0
 | snoc {u v:Nat} {x y l:Int} {k:Nat}:W2 B s u x y->(u,v,l,k)∈B->W2 B s v (x+l) (y+2^k)
theorem W2.nonneg {B:List Arc}(K:Keys B){s v:Nat}{x y:Int}(h:W2 B s v x y):0<=x/\0<=y:=by
 induction h with
 | nil=>exact⟨ub2 _,ub2 _⟩
 | @snoc u v x y l k h m ih =>
  have h1:=K.pos _ _ _ _ m
  have h2:=zgw k
  left
theorem zjd {P:Nat->Prop}:∀ n,P n->∃ m,P m/\∀ i,P i->m<=i:=by
 intro n
 induction n using ufp with
 | ind n ih =>
  intro h
  by_cases c:∃ i,P i/\i<n
  ·obtain⟨i,hi,lt⟩:=c
   exact ih i lt hi
  ·exact⟨n,h,λ i hi=>Nat.le_of_not_lt λ z=>c ⟨i,hi,z⟩⟩
theorem zor {P:Int->Int->Prop}(nn:∀ x y,P x y->0<=x/\0<=y){x y:Int}(h:P x y):∃ x y,P x y/\∀ x' y',P x' y'->¬ lt2 (x',y') (x,y):=by
 obtain⟨m,⟨y0,hm⟩,lm⟩:=zjd (P:=λ m=>∃ y,P (m:Int) y) x.toNat ⟨y,by rw[ua9 (nn x y h).1];exact h⟩
 obtain⟨k,hk,lk⟩:=zjd (P:=λ k=>P (m:Int) (k:Int)) y0.toNat (by rw[ua9 (nn _ _ hm).2];exact hm)
 refine⟨m,k,hk,λ x' y' h' z=>?_⟩
 have n':=nn x' y' h'
 have h1:=lm x'.toNat ⟨y',by rw[ua9 n'.1];exact h'⟩
 unfold lt2 at z
 simp only at z
 rcases z with z | ⟨z1,z2⟩
 ·left
 ·have h2:=lk y'.toNat (by rw[← z1,ua9 n'.2];exact h')
  left
theorem zfo {B:List Arc}(K:Keys B){n s:Nat}(inn:∀ u v l k,(u,v,l,k)∈B->u<n/\v<n)(hs:s<n):∃ cs as,Best B n s cs as:=by
 have ex:∀ v,∃ o:Option (Int × Int),(o=none->∀ x y,¬ W2 B s v x y)/\∀ c,o=some c->W2 B s v c.1 c.2/\∀ x' y',W2 B s v x' y'->¬ lt2 (x',y') c:=λ v=>by
  by_cases c:∃ x y,W2 B s v x y
  ·obtain⟨x,y,h⟩:=c
   obtain⟨x,y,h,l⟩:=zor (P:=W2 B s v) (λ x y h=>h.nonneg K) h
   exact⟨some (x,y),(λ e=>by cases e),λ c e=>by cases e;exact⟨h,l⟩⟩
  ·exact⟨none,λ _ x y h=>c ⟨x,y,h⟩,λ c e=>by cases e⟩
 let f:Nat->Option (Int × Int):=λ v=>Classical.choose (ex v)
 have hf:∀ v,(f v=none->∀ x y,¬ W2 B s v x y)/\∀ c,f v=some c->W2 B s v c.1 c.2/\∀ x' y',W2 B s v x' y'->¬ lt2 (x',y') c:=λ v=>Classical.choose_spec (ex v)
 have eA:∀ v,∃ o:Option Nat,(v=s->o=none)/\(v≠s->f v≠none->o≠none)/\∀ u,o=some u->∃ l k cu,(u,v,l,k)∈B/\f u=some cu/\f v=some (cu.1+l,cu.2+2^k):=λ v=>by
  by_cases c1:v=s
  ·exact⟨none,λ _=>rfl,λ z=>absurd c1 z,λ u e=>by cases e⟩
  ·cases ev:f v with
   | none=>exact⟨none,λ z=>absurd z c1,λ _ z=>absurd rfl z,λ u e=>by cases e⟩
   | some c =>
    obtain⟨w,lw⟩:=(hf v).2 c ev
    obtain⟨cx,cy⟩:=c
    have w':W2 B s v cx cy:=w
    cases w' with
    | nil=>exact absurd rfl c1
    | @snoc u _ x y l k w1 m =>
     cases eu:f u with
     | none=>exact absurd w1 ((hf u).1 eu x y)
     | some cu =>
      obtain⟨wu,lu⟩:=(hf u).2 cu eu
      have n1:=lu x y w1
      have n2:=lw _ _ (wu.snoc m)
      refine⟨some u,λ z=>absurd z c1,(λ _ _ z=>by cases z),λ u' e=>?_⟩
      cases e
      refine⟨l,k,cu,m,eu,?_⟩
      unfold lt2 at n1 n2
      simp only at n1 n2
      have:cu=(x,y):=Prod.ext (by simp only;left) (by simp only;left)
      rw[this]
 let g:Nat->Option Nat:=λ v=>Classical.choose (eA v)
 have hg:∀ v,(v=s->g v=none)/\(v≠s->f v≠none->g v≠none)/\∀ u,g v=some u->∃ l k cu,(u,v,l,k)∈B/\f u=some cu/\f v=some (cu.1+l,cu.2+2^k):=λ v=>Classical.choose_spec (eA v)
 have wn:∀ {v x y},W2 B s v x y->v<n:=λ {v x y} h=>by
  cases h with
  | nil=>exact hs
  | snoc _ m=>exact (inn _ _ _ _ m).2
 have fo:∀ v,n<=v->f v=none:=λ v hv=>by
  cases e:f v with
  | none=>rfl
  | some c=>exact absurd (wn ((hf v).2 c e).1) (by left)
 have getf:∀ v,get ((uac n).map f) v=f v:=λ v=>by
  unfold get
  by_cases hv:v<n
  ·simp [hv]
  ·rw[fo v (by left)]
   simp [hv]
 have go:∀ v,n<=v->g v=none:=λ v hv=>by
  cases e:g v with
  | none=>rfl
  | some u =>
   obtain⟨l,k,cu,m,_⟩:=(hg v).2.2 u e
   exact absurd (inn _ _ _ _ m).2 (by left)
 have getg:∀ v,get ((uac n).map g) v=g v:=λ v=>by
  unfold get
  by_cases hv:v<n
  ·simp [hv]
  ·rw[go v (by left)]
   simp [hv]
 refine⟨(uac n).map f,(uac n).map g,by simp,by simp,?_,?_,?_,?_,?_,?_⟩
 ·rw[getf]
  cases e:f s with
  | none=>exact absurd W2.nil ((hf s).1 e 0 0)
  | some c =>
   obtain⟨w,l⟩:=(hf s).2 c e
   have nn:=w.nonneg K
   have:=l 0 0 .nil
   unfold lt2 at this
   simp only at this
   have:c=(0,0):=Prod.ext (by simp only;left) (by simp only;left)
   rw[this]
 ·rw[getg];exact (hg s).1 rfl
 ·intro v c e ne
  rw[getf] at e
  rw[getg]
  exact (hg v).2.1 ne (by rw[e];exact λ z=>by cases z)
 ·intro v c e
  rw[getf] at e
  exact (((hf v).2 c e).1.nonneg K).1
 ·intro u v l k c m e
  rw[getf] at e
  have w:=((hf u).2 c e).1.snoc m
  cases ev:f v with
  | none=>exact absurd w ((hf v).1 ev _ _)
  | some c' =>
   refine⟨c',by rw[getf,ev],((hf v).2 c' ev).2 _ _ w⟩
 ·intro v u e
  rw[getg] at e
  obtain⟨l,k,cu,m,e1,e2⟩:=(hg v).2.2 u e
  exact⟨l,k,cu,m,by rw[getf];exact e1,by rw[getf];exact e2⟩
end Far
namespace L3
open PySem PySem.Spec PyProof.Rows L2
def WKL (K:uad)(H:Hp)(n:Int)(ts:List Tie)(ks:List Nat)(wv:V)(kp:Addr):Prop:=Is K H (webD n ts) wv/\WebOk n ts/\H kp=some (.lst ((keepI ks).map V.int))/\KeepOk ts.length ks
def ovD:Option Int->PyData
 | none=>.none
 | some x=>.int x
theorem zox {K:uad}{H:Hp}:∀ D:List (Option Int),IsAll K H (D.map ovD) (D.map ov)
 | []=>rfl
 | none::r=>⟨_,_,rfl,rfl,zox r⟩
 | some x::r=>⟨_,_,rfl,rfl,zox r⟩
theorem zr6 {K:uad}{H:Hp}{l:Addr}{D:List (Option Int)}(h:H l=some (.lst (D.map ov))):Is K H (.list (D.map ovD)) (.ref l):=⟨l,_,rfl,h,zox D⟩
theorem zhs:∀ D:List (Option Int),PyData.canLayAll0 (D.map ovD)=true
 | []=>rfl
 | none::r=>by show (true&&PyData.canLayAll0 (r.map ovD))=true;rw[zhs r];rfl
 | some x::r=>by show (true&&PyData.canLayAll0 (r.map ovD))=true;rw[zhs r];rfl
theorem zh0:∀ D:List (Option Int),PyData.depthAll (D.map ovD)<=1
 | []=>ubj _
 | none::r=>by
  show max (PyData.depth .none) (PyData.depthAll (r.map ovD))<=1
  have:=zh0 r
  have e:PyData.depth .none=0:=rfl
  left
 | some x::r=>by
  show max (PyData.depth (.int x)) (PyData.depthAll (r.map ovD))<=1
  have:=zh0 r
  have e:PyData.depth (.int x)=0:=rfl
  left
theorem zo9:∀ {D E:List (Option Int)},PyData.eqvAll (D.map ovD) (E.map ovD)=true->D=E
 | [],[],_=>rfl
 | [],_::_,h=>by cases h
 | _::_,[],h=>by cases h
 | a::r,b::s,h=>by
  have h':(PyData.eqv (ovD a) (ovD b)&&PyData.eqvAll (r.map ovD) (s.map ovD))=true:=h
  rw[ubd] at h'
  rw[zo9 h'.2]
  congr 1
  cases a with
  | none=>cases b with
   | none=>rfl
   | some y=>cases h'.1
  | some x=>cases b with
   | none=>cases h'.1
   | some y =>
    have:(x==y)=true:=h'.1
    rw[eq_of_beq this]
end L3
namespace Far
def chn (R:Nat->Nat->Prop):List Nat->Prop
 | []=>True
 | [_]=>True
 | a::b::r=>R a b/\chn R (b::r)
section
variable {R:Nat->Nat->Prop}
theorem zcq:∀ {l m:List Nat}{x y:Nat},chn R (l++[x])->R x y->chn R (y::m)->chn R (l++[x]++y::m)
 | [],m,x,y,_,r,h=>⟨r,h⟩
 | [a],m,x,y,h1,r,h=>⟨h1.1,zcq (l:=[]) (x:=x) (y:=y) h1.2 r h⟩
 | a::b::l,m,x,y,h1,r,h=>⟨h1.1,zcq (l:=b::l) (x:=x) (y:=y) h1.2 r h⟩
theorem zcc:∀ {l m:List Nat}{x:Nat},chn R (l++x::m)->chn R (l++[x])/\chn R (x::m)
 | [],m,x,h=>⟨trivial,h⟩
 | [a],m,x,h=>⟨⟨h.1,trivial⟩,h.2⟩
 | a::b::l,m,x,h=>⟨⟨h.1,(zcc (l:=b::l) (x:=x) h.2).1⟩,(zcc (l:=b::l) (x:=x) h.2).2⟩
theorem zfl (sy:∀ u v,R u v->R v u):∀ {l:List Nat},chn R l->chn R l.reverse
 | [],_=>trivial
 | [_],_=>trivial
 | a::b::r,h=>by
  have ih:=zfl sy h.2
  rw[uee] at ih
  rw[uee,uee]
  exact zcq (l:=r.reverse) (m:=[]) ih (sy _ _ h.1) trivial
theorem zjn:∀ {l:List Nat}{i u v:Nat},chn R l->l[i]?=some u->l[i+1]?=some v->R u v
 | [],i,u,v,_,e,_=>by cases e
 | [a],i,u,v,_,_,e=>by cases e
 | a::b::r,0,u,v,h,e1,e2=>by cases e1;cases e2;exact h.1
 | a::b::r,i+1,u,v,h,e1,e2=>zjn (l:=b::r) h.2 e1 e2
def RingOf (ws:List Nat)(h:Nat)(tl:List Nat):Prop:=∃ p q,ws=p++h::q/\(tl=q++p\/tl=(q++p).reverse)
end
end Far
namespace L3
open PySem PySem.Spec PyProof.Rows L2
def adjK (ts:List Tie)(ks:List Nat)(u v:Nat):Prop:=∃ k,k∈ks/\tbN ts u v=some k
theorem zex (ts:List Tie)(u v:Nat):tbN ts u v=tbN ts v u:=by
 unfold tbN
 congr 1
 funext k
 unfold isTB
 rw[Int.min_comm,Int.max_comm]
theorem adjK.sym {ts:List Tie}{ks:List Nat}(u v:Nat)(h:adjK ts ks u v):adjK ts ks v u:=by
 obtain⟨k,hk,e⟩:=h
 exact⟨k,hk,by rw[zex];exact e⟩
def Turn (h:Nat)(tl:List Nat):Prop:=(∀ x∈tl,h<=x)/\∀ u v p q,tl=u::p->tl=q++[v]->u<=v
end L3
namespace Stb
open PySem
def Asc (xs:Array Nat):Prop:=∀ i j,i<j->j<xs.size->xs.getD i 0<xs.getD j 0
theorem zky (xs:Array Nat)(j:Nat)(asc:Asc xs):∀ (fuel lo hi:Nat),lo<=hi->hi<=xs.size->hi-lo<=fuel->(∀ i,i<lo->xs.getD i 0<j)->(∀ i,hi<=i->i<xs.size->j<=xs.getD i 0) ->
  (∀ i,i<SetTable.below.go xs j fuel lo hi->xs.getD i 0<j)/\(∀ i,SetTable.below.go xs j fuel lo hi<=i->i<xs.size->j<=xs.getD i 0)/\SetTable.below.go xs j fuel lo hi<=xs.size
 | 0,lo,hi,h1,h2,h3,a,b=>by
  have e:lo=hi:=by left
  subst e
  exact⟨a,b,h2⟩
 | fuel+1,lo,hi,h1,h2,h3,a,b=>by
  unfold SetTable.below.go
  by_cases c:lo<hi
  ·rw[if_pos c]
   have hm:(lo+hi) / 2<xs.size:=by left
   have eg:xs.getD ((lo+hi) / 2) j=xs.getD ((lo+hi) / 2) 0:=by rw[ubt,ubt,ucc hm];rfl
   by_cases d:xs.getD ((lo+hi) / 2) j<j
   ·simp only [if_pos d]
    refine zky xs j asc fuel _ hi (by left) h2 (by left) (λ i hi'=>?_) b
    rcases uf5 (Nat.le_of_lt_succ hi') with z | z
    ·have:=asc i _ z hm;left
    ·rw[z];left
   ·simp only [if_neg d]
    refine zky xs j asc fuel lo _ (by left) (by left) (by left) a (λ i hi' hs=>?_)
    rcases uf5 hi' with z | z
    ·have:=asc _ i z hs;left
    ·rw[← z];left
  ·rw[if_neg c]
   have e:lo=hi:=by left
   subst e
   exact⟨a,b,h2⟩
theorem zem (xs:Array Nat)(j:Nat)(asc:Asc xs):(∀ i,i<SetTable.below xs j->xs.getD i 0<j)/\(∀ i,SetTable.below xs j<=i->i<xs.size->j<=xs.getD i 0)/\SetTable.below xs j<=xs.size:=by
 unfold SetTable.below
 exact zky xs j asc _ 0 xs.size (ubj _) (uai _) (by left) (λ i h=>by left) (λ i h1 h2=>by left)
theorem zna (xs:Array Nat)(asc:Asc xs){i p:Nat}(h:xs[i]?=some p):SetTable.below xs (p+1)=i+1:=by
 obtain⟨hi,e⟩:=ugz.mp h
 have eg:xs.getD i 0=p:=by rw[ubt,h];rfl
 obtain⟨h1,h2,h3⟩:=zem xs (p+1) asc
 rcases udx (SetTable.below xs (p+1)) (i+1) with z | z | z
 ·have:=h2 i (by left) hi;left
 ·exact z
 ·have a:=h1 (i+1) z
  have b:=asc i (i+1) (by left) (by left)
  left
theorem zm9 (xs:Array Nat)(asc:Asc xs):SetTable.below xs 0=0:=by
 obtain⟨h1,_,_⟩:=zem xs 0 asc
 rcases uf6 (SetTable.below xs 0) with z | z
 ·exact z
 ·have:=h1 0 z;left
theorem Asc.list {xs:Array Nat}:Asc xs↔xs.toList.Pairwise (·<·):=by
 rw[ucd]
 have g:∀ i (h:i<xs.toList.length),xs.getD i 0=xs.toList[i]:=λ i h=>by
  have h':i<xs.size:=by simpa using h
  rw[ubt,ucc h'];simp
 constructor
 ·intro a i j hi hj ij
  have:=a i j ij (by simpa using hj)
  rw[g i hi,g j hj] at this
  exact this
 ·intro a i j ij hj
  have hj':j<xs.toList.length:=by simpa using hj
  have:=a i j (by left) hj' ij
  rw[g i (by left),g j hj']
  exact this
theorem znc {xs:Array Nat}{j:Nat}(asc:Asc xs)(new:xs[SetTable.below xs j]?≠some j):Asc (SetTable.insertAt xs (SetTable.below xs j) j):=by
 obtain⟨h1,h2,h3⟩:=zem xs j asc
 rw[Asc.list,SetTable.toList_insertAt]
 have al:=Asc.list.mp asc
 have g:∀ i (h:i<xs.size),xs.getD i 0=xs[i]:=λ i h=>by rw[ubt,ucc h];rfl
 have lo:∀ x∈xs.toList.take (SetTable.below xs j),x<j:=λ x hx=>by
  obtain⟨i,hi,e⟩:=ues hx
  rw[ud5] at hi
  have hs:i<xs.size:=by simp at hi;left
  have:=h1 i (by left)
  rw[g i hs] at this
  rw[List.getElem_take] at e
  have e':xs[i]=x:=by simpa using e
  left
 have hi:∀ x∈xs.toList.drop (SetTable.below xs j),j<x:=λ x hx=>by
  obtain⟨i,hi,e⟩:=ues hx
  rw[ufg] at hi
  have hs:SetTable.below xs j+i<xs.size:=by simp at hi;left
  have:=h2 (SetTable.below xs j+i) (by left) hs
  rw[g _ hs] at this
  rw[List.getElem_drop] at e
  have e':xs[SetTable.below xs j+i]=x:=by simpa using e
  rcases uf5 this with z | z
  ·left
  ·exfalso
   rcases uf6 i with i0 | i0
   ·subst i0
    apply new
    rw[ucc (by left)]
    simp at z
    rw[← z]
   ·have b0:SetTable.below xs j<xs.size:=by left
    have q1:=h2 (SetTable.below xs j) (uai _) b0
    have q2:=asc (SetTable.below xs j) (SetTable.below xs j+i) (by left) hs
    rw[g _ hs] at q2
    left
 refine List.pairwise_append.mpr ⟨al.sublist (List.take_sublist _ _),ud9.mpr ⟨λ x hx=>hi x hx,al.sublist (List.drop_sublist _ _)⟩,λ a ha b hb=>?_⟩
 rcases uar.mp hb with z | z
 ·rw[z];exact lo a ha
 ·have:=lo a ha;have:=hi b z;left
theorem zpv (n:Nat):Asc (Array.range n):=by
 rw[Asc.list]
 simpa using ubk
def TI (b:Bool)(t:SetTable):Prop:=Asc t.place/\t.led=b
theorem zqk (b:Bool):TI b (.fresh 0 0 b):=⟨λ i j _ h=>by simp [SetTable.fresh] at h,rfl⟩
theorem zc7 {b:Bool}{t:SetTable}(h:TI b t)(n:Nat):TI b (t.standIn n):=⟨zpv n,h.2⟩
theorem zuq {b:Bool}{t:SetTable}(h:TI b t)(n:Nat):TI b (t.orStandIn n):=by
 unfold SetTable.orStandIn
 split
 ·exact h
 ·exact zc7 h n
theorem zqj {b:Bool}{t:SetTable}(h:TI b t):TI b { t with plain:=false }:=h
theorem zlm {t:SetTable}{j:Nat}(h:t.slot j=.empty\/t.slot j=.dummy):t.place[SetTable.below t.place j]?≠some j:=λ e=>by
 unfold SetTable.slot at h
 have c:(t.place[SetTable.below t.place j]?==some j)=true:=by rw[e];simp
 simp only [c,if_true] at h
 rcases h with h | h <;> cases h
theorem zee (t:SetTable)(hashAt:Nat->Int)(h:Int):∀ (f:Nat)(p:SetTable.Probe),(∀ d,p.dummy=some d->t.slot d=.dummy)->∀ j dm,SetTable.probe.go t hashAt h f p=some (.empty j dm)->t.slot j=.empty/\∀ d,dm=some d->t.slot d=.dummy
 | 0,p,_,j,dm,e=>by cases e
 | f+1,p,hp,j,dm,e=>by
  have adv:∀ q:SetTable.Probe,(t.advance q).dummy=q.dummy:=λ q=>by
   unfold SetTable.advance
   split <;> rfl
  unfold SetTable.probe.go at e
  split at e
  ·rename_i hs
   injection e with e
   injection e with e1 e2
   subst e1;subst e2
   exact⟨hs,hp⟩
  ·rename_i hs
   refine zee t hashAt h f _ (λ d hd=>?_) j dm e
   rw[adv] at hd
   have:p.j=d:=by simpa using hd
   rw[← this];exact hs
  ·split at e
   ·cases e
   ·refine zee t hashAt h f _ (λ d hd=>?_) j dm e
    rw[adv] at hd
    exact hp d hd
theorem zrf {t:SetTable}{h:Int}{s:Nat}{w:Bool}(e:t.freeSlot h=some (s,w)):t.place[SetTable.below t.place s]?≠some s:=by
 unfold SetTable.freeSlot at e
 split at e
 ·rename_i j dm hm
  unfold SetTable.probe at hm
  obtain⟨h1,h2⟩:=zee t _ h _ _ (λ d hd=>by cases hd) j dm hm
  injection e with e
  injection e with e1 _
  cases dm with
  | none=>exact zlm (.inl (by rw[← e1];exact h1))
  | some d=>exact zlm (.inr (by rw[← e1];exact h2 d rfl))
 ·cases e
theorem znn {b:Bool}{t:SetTable}(h:TI b t)(es:Array (Int × Value))(k:Int)(x:Value):TI b (layNew t es k x).2.1:=by
 unfold layNew
 split
 ·rename_i s w e
  exact zuq (t:=(t.put s).1) ⟨znc h.1 (zrf e),h.2⟩ _
 ·exact zc7 h _
theorem zo7 {f:Nat->Option Nat}(hf:∀ j y,f j=some y->y=j):∀ l:List Nat,(l.filterMap f).Sublist l
 | []=>.slnil
 | j::l=>by
  rw[ucf]
  cases e:f j with
  | none=>exact (zo7 hf l).cons j
  | some y=>rw[hf j y e];exact (zo7 hf l).cons₂ j
theorem zqi {b:Bool}{t:SetTable}(h:TI b t)(es:Array (Int × Value))(wanted:Nat):TI b (relayAll t es wanted).2.1:=by
 unfold relayAll
 split
 ·rename_i t' order e
  dsimp only
  split
  ·unfold SetTable.relaid SetTable.laid at e
   simp only [Option.bind_eq_bind,ud7] at e
   obtain⟨owner,_,e⟩:=e
   injection e with e
   injection e with e1 _
   rw[← e1]
   refine⟨?_,h.2⟩
   rw[Asc.list]
   simp only [uex]
   refine ubk.sublist (zo7 (λ j y hy=>?_) _)
   cases c:owner.getD j none with
   | none=>rw[c] at hy;cases hy
   | some z=>rw[c] at hy;exact (ua3 hy).symm
  ·exact zc7 h _
 ·exact zc7 h _
end Stb
namespace Stb
open PySem PyProof.Rows
def ledOf (w:World):Bool:=!w.params.followText "set-order"
def TIat (w:World)(h:Heap)(a:Addr):Prop:=∃ o es ep t,h.get? a=some o/\o.data=.set es ep t/\TI (ledOf w) t
abbrev SetT (P:Program)(w:World)(h:Heap)(a:Addr)(S:Int->Bool)(n:Nat):Prop:=h.SetOf (intKind P w) a S n/\TIat w h a
section
variable {prog:Program}{w:World}{A:Around}{E:Value->Shared->Prop}{s:Shared}
theorem SetT.keep {h h':Heap}{a:Addr}{S:Int->Bool}{n:Nat}(x:SetT prog w h a S n)(k:∀ o,h.get? a=some o->h'.get? a=some o):SetT prog w h' a S n:=by
 obtain⟨⟨o,es,ep,t,ho,r⟩,o',es',ep',t',ho',r'⟩:=x
 exact⟨⟨o,es,ep,t,k _ ho,r⟩,o',es',ep',t',k _ ho',r'⟩
theorem zl1 {g:Bool->Sem Unit}(gp:∀ (b:Bool) (z:Shared) (U:Unit->Shared->Prop),U () z->wpAny (model prog w) A (g b) U E z){S':Int->Bool}
  {a:Addr} {o:Obj} {es es1:Array (Int × Value)} {ep:Nat} {t t2:SetTable} (ho:s.heap.get? a=some o) (ox:o.ExactSet) (od:o.data=.set es ep t)
  (el:ElemsOf (intKind prog w) es1.toList) (me:∀ k,S' k=true↔∃ e∈es1.toList,(intKind prog w).is k e.2=true) (small:es1.size<scanBound) (fit:t2.fits es1.size=true) (ti:TI (ledOf w) t2) {dum:Bool} {R:Option Bool->Shared->Prop}
  (fin:∀ h',Heap.SameBut a s.heap h'->SetT prog w h' a S' es1.size->R (some true) { s with heap:=h' }) :
  wpAny (model prog w) A (do
      storeSet a es1 t2
      if (!dum&&t2.tooFull) = true then do
          g (relayAll t2 es1 (SetTable.grown es1.size)).2.2
          storeSet a (relayAll t2 es1 (SetTable.grown es1.size)).1 (relayAll t2 es1 (SetTable.grown es1.size)).2.1
          pure (some true)
        else pure (some true)) R E s:=by
 refine uab (udl ho od ?_ (udn small))
 obtain⟨g1,s1⟩:=ufo (knd:=intKind prog w) ho ox od el me small fit
 have sb:=Heap.SameBut.update s.heap a (Obj.putSet es1 t2)
 split
 ·have pm:=relayAll_perm t2 es1 (SetTable.grown es1.size)
  have fr:=relayAll_fits t2 es1 (SetTable.grown es1.size)
  have tr:=zqi ti es1 (SetTable.grown es1.size)
  generalize relayAll t2 es1 (SetTable.grown es1.size)=Rl at pm fr tr ⊢
  obtain⟨es2,t3,gv⟩:=Rl
  dsimp only at pm fr tr ⊢
  have sz:es2.size=es1.size:=by rw[← ubl,pm.length_eq,ubl]
  have sm2:es2.size<scanBound:=sz ▸ small
  refine uab (gp _ _ _ (uab (udl g1 rfl ?_ (udn sm2))))
  obtain⟨g2,s2⟩:=ufo (knd:=intKind prog w) g1 ox rfl (el.perm pm) (λ k=>(me k).trans ⟨λ ⟨e,he,q⟩=>⟨e,pm.mem_iff.mpr he,q⟩,λ ⟨e,he,q⟩=>⟨e,pm.mem_iff.mp he,q⟩⟩) sm2 fr
  rw[sz] at s2
  exact uag (fin _ (sb.trans (Heap.SameBut.update _ a _)) ⟨s2,_,_,_,_,g2,rfl,tr⟩)
 ·exact uag (fin _ sb ⟨s1,_,_,_,_,g1,rfl,ti⟩)
theorem zup {a:Addr}{S:Int->Bool}{n:Nat}{k:Int}{x:Value}{Q:Bool->Shared->Prop}(kx:(intKind prog w).is k x=true)(sx:x.scannable=true)(st:SetT prog w s.heap a S n)(room:n+1<scanBound)
  (fin:∀ h',Heap.SameBut a s.heap h'->SetT prog w h' a (λ y=>S y||decide (y=k)) (if S k then n else n+1)->Q (!S k) { s with heap:=h' }) :
  wpAny (model prog w) A (setAddHashed a x ((intKind prog w).hash k)) Q E s:=by
 obtain⟨⟨o,es,ep,t,ho,ox,od,el,me,small,fit,en⟩,o',es',ep',t',ho',od',ti⟩:=st
 rw[ho] at ho';cases ho'
 rw[od] at od';cases od'
 have small1:es.size+1<scanBound:=en ▸ room
 unfold setAddHashed setAddHashedIn
 refine ubz (uab (ubh ho od fit ?_))
 dsimp only
 rw[byScan_of sx small el,if_pos rfl]
 unfold setAddByScan
 refine uab (uab (ud2 (uab (wpAny_setScan_of kx ho od fit el ?_))))
 cases fd:List.findIdx? (λ e=>(intKind prog w).is k e.2) es.toList with
 | some j =>
  dsimp only
  obtain⟨jl,jp,_⟩:=List.findIdx?_eq_some_iff_getElem.mp fd
  have sk:S k=true:=(me k).mpr ⟨es.toList[j],uel jl,jp⟩
  refine uag (uag ?_)
  have es0:s={ s with heap:=s.heap }:=by cases s;rfl
  have q:=fin s.heap (Heap.SameBut.refl a s.heap) ⟨⟨o,es,ep,t,ho,ox,od,el,λ y=>by
   rw[uc0,decide_eq_true_eq,← me y]
   exact⟨λ z=>z.elim id (λ e=>e ▸ sk),.inl⟩,small,fit,by rw[sk];exact en⟩,o,es,ep,t,ho,od,ti⟩
  rw[sk] at q;rw[es0];exact q
 | none =>
  dsimp only
  have sk:S k=false:=by
   cases c:S k with
   | false=>rfl
   | true=>obtain⟨e,he,hp⟩:=(me k).mp c;have:=List.findIdx?_eq_none_iff.mp fd e he;rw[hp] at this;cases this
  have pm:=layNew_perm t es ((intKind prog w).hash k) x
  have ft:=layNew_fits t es ((intKind prog w).hash k) x
  have tl:=znn ti es ((intKind prog w).hash k) x
  generalize layNew t es ((intKind prog w).hash k) x=L at pm ft tl ⊢
  obtain⟨es1,t1,dum,gv⟩:=L
  dsimp only at pm ft tl ⊢
  rw[Array.toList_push] at pm
  have el1:ElemsOf (intKind prog w) es1.toList:=(el.push kx sx).perm pm
  have me1:∀ y,(S y||decide (y=k))=true↔∃ e∈es1.toList,(intKind prog w).is y e.2=true:=mem_push_iff kx me pm
  have ez:es1.size=es.size+1:=by rw[← ubl,pm.length_eq,uaq,ubl];rfl
  have small2:es1.size<scanBound:=ez ▸ small1
  have gw:∀ (b:Bool)(z:Shared)(U:Unit->Shared->Prop),U () z->wpAny (model prog w) A (match b with | true=>rule "set.scan.the-table-gave-way" | false=>pure ()) U E z :=
   λ b z U hq=>by cases b <;> first | exact uag hq | exact ud2 hq
  refine uab (gw _ _ _ ?_)
  have last:∀ h',Heap.SameBut a s.heap h'->SetT prog w h' a (λ y=>S y||decide (y=k)) es1.size->Q true { s with heap:=h' }:=λ h' sb z=>by
   have q:=fin h' sb;rw[sk] at q;rw[ez,en] at z;exact q z
  split
  ·refine uab ?_
   rw[hashByValue_scannable 8 sx]
   refine uag (zl1 (λ b z U hq=>?_) ho ox od el1 me1 small2 ?_ ?_ λ h' sb z=>?_)
   ·cases b <;> first | exact uag hq | exact ud2 hq
   ·split
    ·exact ft
    ·exact SetTable.fits_plain_off ft
   ·split
    ·exact tl
    ·exact zqj tl
   ·dsimp only;exact uag (last h' sb z)
  ·refine uab (uag ?_)
   simp only [↓reduceIte]
   refine zl1 (λ b z U hq=>?_) ho ox od el1 me1 small2 ft tl λ h' sb z=>?_
   ·cases b <;> first | exact uag hq | exact ud2 hq
   ·dsimp only;exact uag (last h' sb z)
theorem zsa {R:Result->Shared->Prop}{I:Addr}{fp wr:List Addr}{G:Array GenState->Array GenState->Prop}{n:Nat}{P:Nat->Value->Prop}{St:Nat->Shared->Prop}(W:WalksS prog w A.in1 I fp wr G n P St)(a:Addr)(af:a∉fp)
  (val:Nat->Int) (hv:∀ i v,P i v->∃ t,v=.int (val i) t) (hb:n+1<scanBound) :
  ∀ (k i:Nat)(s:Shared),n-i=k->i<=n->St i s->SetT prog w s.heap a (λ y=>(firstMet val i).any (·==y)) (firstMet val i).length ->
   (∀ s',Moved (a::wr) G s s'->SetT prog w s'.heap a (λ y=>(firstMet val n).any (·==y)) (firstMet val n).length->R (.ok (.ret .none)) s') ->
   codeAny (model prog w) A (.builtin "set.update.loop" ⟨[.ref a,.ref I],[]⟩) R s:=by
 have aw:a∉wr:=λ h=>af (W.sub _ h)
 have up:∀ b∈wr,b∈a::wr:=λ b hb=>uam _ hb
 intro k
 induction k with
 | zero =>
  intro i s hk hi st x fin
  obtain rfl:i=n:=by left
  refine ucu ue3 ?_
  rw[Around.under_plainId uds _]
  show wpAny _ A.in1 (pyNext (.ref I) >>= _) _ _ s
  refine uab (W.done s _ _ st λ s' hm=>?_)
  show wpAny _ A.in1 (ret Value.none) _ _ s'
  exact uag (fin s' (hm.mono up) (x.keep λ o e=>hm.heap a o aw e))
 | succ k ih =>
  intro i s hk hi st x fin
  have lt:i<n:=by left
  refine ucu ue3 ?_
  rw[Around.under_plainId uds _]
  show wpAny _ A.in1 (pyNext (.ref I) >>= _) _ _ s
  refine uab (W.item i s _ _ lt st λ v s' hP st' hm=>?_)
  obtain⟨t,rfl⟩:=hv i v hP
  have x':=x.keep (prog:=prog) λ o e=>hm.heap a o aw e
  show wpAny _ A.in1 (holding [Value.int (val i) t] (setAdd a (.int (val i) t)) >>= _) _ _ s'
  refine uab (ubz ?_)
  unfold setAdd
  refine ubz (uab ((intKind prog w).pyHash (k:=val i) (intKind_is _ _ _ _) ?_))
  refine zup (s:={ s' with toks:=s'.toks+1 }) (intKind_is _ _ _ _) rfl x' (by have:=firstMet_length_le val i;left) λ h' sb x2=>?_
  have x3:SetT prog w h' a (λ y=>(firstMet val (i+1)).any (·==y)) (firstMet val (i+1)).length :=
   ⟨SetOf_congr x2.1 (λ y=>by rw[firstMet_succ,step_any]) (by rw[firstMet_succ,step_length]),x2.2⟩
  refine uag ⟨ufn uds _,ih (i+1) _ (by left) lt (W.frame _ s' _ _ st' (udo _) λ b hb o e=>?_) x3 λ s'' hm2 x4=>?_⟩
  ·rw[sb.2 b (λ h:b=a=>af (by rw[← h];exact hb))];exact e
  ·refine fin s'' (Moved.trans W.gtrans ((hm.mono up).then_heap (udo _) λ b o hb e=>?_) hm2) x4
   rw[sb.2 b (λ h:b=a=>hb (by rw[h];exact uan))];exact e
end
end Stb
namespace Stb
open PySem PyProof.Rows
section
variable {prog:Program}{w:World}{A:Around}{E:Value->Shared->Prop}{s:Shared}
abbrev emp (w:World):Obj:={ cls:=.type "set",dict:=none,data:=.set #[] 0 (.fresh 0 0 (ledOf w)) }
theorem zuc (x:Value){U:Value->Shared->Prop}(fin:U (.ref s.heap.objs.size) { s with heap:=s.heap.push (emp w) }) :
  codeAny (model prog w) A (.call (.builtin "set.__new__") ⟨[.type "set",x],[]⟩) (wants U E) s:=by
 refine ufw ?_
 show wpAny _ A.in1 (checkBuiltinCall "set.__new__" ⟨[.type "set",x],[]⟩ >>= λ _=>again (.builtin "set.__new__" ⟨[.type "set",x],[]⟩)) _ _ s
 refine uab (wpAny_of_eq (PySem.F.newCall_set_1 x) (uag ⟨ufn uhd _,ucu PySem.F.entry_set_new ?_⟩))
 rw[Around.under_plainId uhd _]
 unfold Builtin.«set.__new__» Builtin.Frozenset.newClass
 have sub1:=PySem.sub_set_self
 obtain⟨hp,g,d,tk,os⟩:=s
 dsimp only
 wp_walk
 refine ucm (uag ?_)
 simp only [newObj]
 exact uab (wpAny_alloc (uag (uag fin)))
theorem zum (h:Heap):SetT prog w (h.push (emp w)) h.objs.size (λ y=>(firstMet (λ i=>([]:List Int).getD i 0) 0).any (·==y)) 0 :=
 ⟨SetOf_congr ((setObjOf_fresh (knd:=intKind prog w) (ledOf w)).setOf (Heap.get?_push_size _ rfl) (by unfold scanBound;left)) (λ _=>rfl) rfl,_,_,_,_,Heap.get?_push_size _ rfl,rfl,zqk _⟩
theorem zub {t:Addr}{xs:Array Value}{ns:List Int}{Q:Value->Shared->Prop}(hh:A.handled=none)(ht:s.heap.IsTuple t xs)(hi:IntsAre xs.toList ns)(hb:xs.size+1<scanBound)
  (fin:∀ (h':Heap)(tk:Nat),SetT prog w h' s.heap.objs.size (HT.setS ns xs.size) (HT.setN ns xs.size)->(∀ b o,b<s.heap.objs.size->s.heap.get? b=some o->h'.get? b=some o)->Q (.ref s.heap.objs.size) { s with heap:=h',toks:=tk }) :
  wpAny (model prog w) A (call (.type "set") [.ref t]) Q E s:=by
 obtain⟨c,tl,hmro⟩:=ua2.mro
 have hmade:=ua2.made;have hsub:=ua2.sub
 refine wpAny_call (ufw ?_);show wpAny _ _ (callAny (.type "set") _) _ _ _
 refine uag ⟨Code.quiet_builtin _ (by symm),ucu ue2 ?_⟩
 rw[Around.under_plain (ueq "set" [.ref t] []) rfl]
 have h1:=ua2.notType;have h2:=ua2.canCreate;have hct:=ue7 (.ref t)
 repeat (any_goals (first | assumption | wp_step))
 refine udr (zuc (.ref t) (E:=E) (U:=λ obj s₁=>obj=.ref s.heap.objs.size/\s₁={ s with heap:=s.heap.push (emp w) }) ⟨rfl,rfl⟩) λ r s₁ hr=>?_
 match r,hr with
 | .error e,hr=>exact hr
 | .ok .next,hr=>exact hr.elim
 | .ok .brk,hr=>exact hr.elim
 | .ok .cont,hr=>exact hr.elim
 | .ok (.ret obj),hr =>
  obtain⟨rfl,rfl⟩:=hr
  have gS:(s.heap.push (emp w)).get? s.heap.objs.size=some (emp w):=Heap.get?_push_size _ rfl
  have hT:Shared.TypeIs { s with heap:=s.heap.push (emp w) } (.ref s.heap.objs.size) "set":=⟨_,gS,rfl⟩
  have hli:=ua2.init.lookup;have hbi:=ua2.init.bind (.ref s.heap.objs.size)
  repeat (any_goals (first | assumption | wp_step))
  refine udr (uf4 (R:=wants (λ r s₂=>r=.none/\∃ h' tk,s₂={ s with heap:=h',toks:=tk }/\SetT prog w h' s.heap.objs.size (HT.setS ns xs.size) (HT.setN ns xs.size)/\(∀ b o,b<s.heap.objs.size->s.heap.get? b=some o->h'.get? b=some o)) E) ua2.init.plain ue8 (uff hT ?_)) λ r₂ s₂ hr₂=>?_
  ·obtain⟨ot,ho,hc,m,hd⟩:=id ht
   obtain⟨ocls,odict,odata,oslots⟩:=ot
   simp only at hc hd;subst hc hd
   have ho':(s.heap.push (emp w)).get? t=some { cls:=.type "tuple",dict:=odict,data:=.seq xs m,slots:=oslots }:=Heap.get?_push_of_some _ ho
   have f1:=uha;have f2:=ugh
   have f3:(Value.type "tuple"==Value.type "dict")=false:=by decide
   have it1:(s.heap.push (emp w)).IsTuple t xs:=⟨_,ho',rfl,m,rfl⟩
   unfold Builtin.«set.__init__» noKeywords Builtin.Frozenset.updateFrom
   generalize hPI:pyIter=PI
   wp_walk;subst hPI
   refine ueg it1 (uab (ufd ?_))
   have lt:t<s.heap.objs.size:=Heap.lt_size ho
   have hh3:A.in1.in1.in1.handled=none:=by simp [hh]
   have sz1:(s.heap.push (emp w)).objs.size=s.heap.objs.size+1:=Heap.size_push ..
   have tI:t≠(s.heap.push (emp w)).objs.size:=by rw[sz1];exact uau (ub1 lt)
   have Sfp:s.heap.objs.size∉[(s.heap.push (emp w)).objs.size,t]:=by
    rw[sz1];simp only [uar,ua1,or_false,not_or];exact⟨uau (uc5 _),(uau lt).symm⟩
   have vals:∀ (i:Nat)(v:Value),xs[i]?=some v->∃ u,v=.int ((λ i=>ns.getD i 0) i) u:=λ i v hv=>IntsAre.int_at hi i v (by rw[ucg];exact hv)
   refine zsa ((Walks.tuple hh3 _ t tI xs).toS) s.heap.objs.size Sfp (λ i=>ns.getD i 0) vals hb (xs.size-0) 0 _ (by left) (ubj _) ?st ?s0 ?fin
   case st=>exact⟨⟨_,Heap.get?_push_size _ rfl,rfl,rfl⟩,HT.zlg it1 _⟩
   case s0=>exact (zum s.heap).keep λ o e=>Heap.get?_push_of_some _ e
   case fin =>
    rintro ⟨h',g',d',tk',os'⟩ hm hS'
    obtain rfl:g'=s.gens:=hm.gens
    obtain rfl:d'=s.drawn:=hm.drawn
    obtain rfl:os'=s.os:=hm.os
    refine uag (uag ⟨rfl,h',tk',rfl,hS',λ b o hlt e=>hm.heap b o ?_ (Heap.get?_push_of_some _ (Heap.get?_push_of_some _ e))⟩)
    rw[sz1];simp only [uar,ua1,or_false,not_or]
    exact⟨uau hlt,uau (ub1 hlt)⟩
  ·match r₂,hr₂ with
   | .error e,hr₂=>exact hr₂
   | .ok .next,hr₂=>exact hr₂.elim
   | .ok .brk,hr₂=>exact hr₂.elim
   | .ok .cont,hr₂=>exact hr₂.elim
   | .ok (.ret v),hr₂ =>
    obtain⟨rfl,h',tk,rfl,hS',hk⟩:=hr₂
    repeat (any_goals (first | assumption | wp_step))
    exact fin h' tk hS' hk
end
end Stb
namespace Stb
open PySem PyProof.Rows
theorem sl_next:Slot "set_iterator" "__next__" "set_iterator.__next__":=.of (owner:="set_iterator") (n:="__next__") (by rw[typeLookup_type,builtinLookup_eq_fast];kernel_rfl) (by symm) (by symm) (by symm) (by first | exact .inl (by symm) | exact .inr (by symm)) (by rw[ufe];kernel_rfl)
theorem zhw:entryFor table "set_iterator.__next__"=some Builtin.«set_iterator.__next__»:=entryFor_of_tree (by kernel_rfl)
theorem zoa:Manifest.owners.lookup (String.ofList ['r','o','t','a','r','e','t','i','_','t','e','s'].reverse)=some Manifest.sig_set_iterator:=by kernel_rfl
theorem zik (a:Value):argsOk "set_iterator.__next__" ⟨[a],[]⟩:=by
 unfold argsOk;rw[signature?_of (id:="set_iterator.__next__") (n:=['_','_','t','x','e','n','_','_']) (o:=['r','o','t','a','r','e','t','i','_','t','e','s']) (by kernel_rfl) zoa];kernel_rfl
theorem ztl:entryFor table "set.__iter__"=some Builtin.«frozenset.__iter__»:=entryFor_alias (id':="frozenset.__iter__") (by kernel_rfl) rfl (by symm) (by kernel_rfl)
theorem zry {α:Type}{l:List α}{i:Nat}(h:i<l.length):(l[i]::l.eraseIdx i).Perm l:=by
 rw[List.eraseIdx_eq_take_drop_succ]
 refine List.perm_middle.symm.trans ?_
 rw[← ug7 h,ueh]
theorem zn5 {α:Type}(next:Nat->Nat):∀ (f k:Nat)(left:List α)(out:Array α),left.length=f->(pickOrder.go next f k left out).toList.Perm (out.toList++left)
 | 0,k,left,out,h=>by
  have:left=[]:=ufc.mp h
  subst this
  unfold pickOrder.go
  simp
 | f+1,k,left,out,h=>by
  have lt:next k%left.length<left.length:=uhf _ (by left)
  unfold pickOrder.go
  rw[uaf lt]
  dsimp only
  refine (zn5 next f (k+1) _ _ (by rw[uev lt];left)).trans ?_
  rw[Array.toList_push,ugf]
  refine ug4 _ ?_
  exact zry lt
theorem ziu {α:Type}(next:Nat->Nat)(xs:Array α):(pickOrder next xs).toList.Perm xs.toList:=by
 unfold pickOrder
 simpa using zn5 next xs.size 0 xs.toList #[] (by simp)
section
variable {prog:Program}{w:World}{A:Around}{E:Value->Shared->Prop}{s:Shared}
theorem znh {M:Model}{src:Source}{n:Nat}{Q:Nat->Shared->Prop}(hn:n≠0)(h:∀ i,i<n->Q i { s with drawn:=s.drawn.bump src }):wpAny M A (choose src n) Q E s:=λ Γ p hΓ=>by
 unfold choose
 rw[Sem.wp_choose]
 exact⟨hn,by exact h _ (uhf _ (Nat.pos_of_ne_zero hn))⟩
theorem zeo {α:Type}{M:Model}(n:Nat):∀ (xs:List α)(s:Shared)(Q:List α->Shared->Prop),xs.length=n->(∀ ys d',ys.Perm xs->Q ys { s with drawn:=d' })->wpAny M A (drawOrder n xs) Q E s:=by
 induction n with
 | zero =>
  intro xs s Q h hQ
  have:xs=[]:=ufc.mp h
  subst this
  unfold drawOrder
  exact uag (hQ [] s.drawn .nil)
 | succ n ih =>
  intro xs s Q h hQ
  cases xs with
  | nil=>cases h
  | cons x xs =>
   unfold drawOrder
   refine uab (znh (by simp) λ i hi=>?_)
   rw[uaf hi]
   refine uab (ih _ _ _ (by rw[uev hi];simp at h ⊢;left) λ ys d' pm=>uag (hQ _ d' ?_))
   exact (List.Perm.cons _ pm).trans (zry hi)
end
end Stb
namespace Stb
open PySem PyProof.Rows
inductive Knd where
 | text
 | drawn (p:Addr) (pl:List Nat)
 | places
def First (w:World)(a:Addr)(es:Array (Int × Value))(ep:Nat)(t:SetTable)(ord:List (Int × Value))(i:Nat)(h:Heap)(first:Value):Knd->Prop
 | .text=>ledOf w=false/\ord=(pickOrder (w.params.setOrder a ep) es).toList/\∃ z:Nat,first=.int z 0
 | .drawn p pl=>first=.ref p/\h.IsTuple p (pl.map λ i=>rawInt (i:Nat)).toArray/\ord.length=pl.length/\∀ j k:Nat,pl[j]?=some k->∃ e,es[k]?=some e/\ord[j]?=some e
 | .places=>ledOf w=true/\(t.plain=true\/es.size<=1)/\ord=es.toList/\∃ z:Nat,first=.int z 0/\SetTable.below t.place z=i
def IsSet (h:Heap)(a:Addr)(es:Array (Int × Value))(ep:Nat)(t:SetTable):Prop:=∃ o,h.get? a=some o/\o.cls=.type "set"/\o.data=.set es ep t
def IsIt (h:Heap)(I a:Addr)(n ep i:Nat)(first:Value):Prop:=∃ o,h.get? I=some o/\o.cls=.type "set_iterator"/\o.data=.fields #[first,.int i 0,.ref a,.int n 0,.int ep 0]
section
variable {prog:Program}{w:World}{A:Around}{E:Value->Shared->Prop}{s:Shared}{a I:Addr}{es:Array (Int × Value)}{ep:Nat}{t:SetTable}
theorem zi9 {Q:Option (Value × Nat)->Shared->Prop}{z i:Nat}(hs:IsSet s.heap a es ep t)(fit:t.fits es.size=true)(hl:ledOf w=false)
  (h:Q (((pickOrder (w.params.setOrder a ep) es)[i]?).map λ e=>(e.2,z)) s):wpAny (model prog w) A (setNext a z i ep) Q E s:=by
 obtain⟨o,ho,_,od⟩:=hs
 have ft:w.params.followText "set-order"=true:=by simpa [ledOf] using hl
 unfold setNext setsByText
 refine uab (ubh ho od fit ?_)
 refine uab (uab (ucm (uag ?_)))
 show wpAny _ _ (if w.params.followText "set-order"=true then _ else _) _ _ _
 rw[if_pos ft]
 dsimp only
 rw[if_neg (by simp)]
 refine uab ?_
 unfold setWalk setsByText
 refine uab (ubh ho od fit ?_)
 refine uab (uab (ucm (uag ?_)))
 show wpAny _ _ (if w.params.followText "set-order"=true then _ else _) _ _ _
 rw[if_pos ft]
 exact uab (ucm (uag (uag h)))
theorem zfa {Q:Option (Value × Nat)->Shared->Prop}{z i:Nat}(hs:IsSet s.heap a es ep t)(fit:t.fits es.size=true)(ti:TI (ledOf w) t)(hl:ledOf w=true)(hp:t.plain=true\/es.size<=1)
  (h:Q (match es[SetTable.below t.place z]?,t.place[SetTable.below t.place z]? with | some (_,x),some j=>some (x,j+1) | _,_=>none) s):wpAny (model prog w) A (setNext a z i ep) Q E s:=by
 obtain⟨o,ho,_,od⟩:=hs
 have ft:w.params.followText "set-order"=false:=by simpa [ledOf] using hl
 unfold setNext setsByText
 refine uab (ubh ho od fit ?_)
 refine uab (uab (ucm (uag ?_)))
 show wpAny _ _ (if w.params.followText "set-order"=true then _ else _) _ _ _
 rw[if_neg (by rw[ft];exact uas)]
 dsimp only
 show wpAny _ _ (if (!t.plain&&decide (es.size>1))=true then _ else _) _ _ _
 rw[if_neg (by rcases hp with z | z <;> simp [z])]
 show wpAny _ _ ((if (!t.led&&!es.isEmpty)=true then unsupported "set:maker-not-led" else pure ()) >>= _) _ _ _
 rw[if_neg (by rw[ti.2,hl];simp)]
 exact uab (uag (uag h))
theorem IsIt.set0 {h:Heap}{n ep i:Nat}{first:Value}(x:IsIt h I a n ep i first)(v:Value):IsIt (h.update I (Obj.mapFields (·.setIfInBounds 0 v))) I a n ep i v:=by
 obtain⟨o,ho,hc,hd⟩:=x
 exact⟨_,Heap.get?_update_self _ ho (Obj.isFreed_of_fields (Obj.data_mapFields hd _)),(Obj.cls_mapFields ..).trans hc,by rw[Obj.data_mapFields hd];simp⟩
theorem IsIt.set1 {h:Heap}{n ep i:Nat}{first:Value}(x:IsIt h I a n ep i first):IsIt (h.update I (Obj.mapFields (·.setIfInBounds 1 (rawInt ((i:Int)+1))))) I a n ep (i+1) first:=by
 obtain⟨o,ho,hc,hd⟩:=x
 exact⟨_,Heap.get?_update_self _ ho (Obj.isFreed_of_fields (Obj.data_mapFields hd _)),(Obj.cls_mapFields ..).trans hc,by rw[Obj.data_mapFields hd];simp [rawInt]⟩
theorem zll {Q:PySem.Fin->Shared->Prop}(hh:A.handled=none)(hE:∀ (e:Value) (h':Heap),(∀ b o,s.heap.get? b=some o->h'.get? b=some o)->Shared.TypeIs { s with heap:=h' } e "StopIteration"->E e { s with heap:=h' }) :
  wpAny (model prog w) A (newExc (.type "StopIteration") [] >>= λ e=>raiseNew e) Q E s:=by
 refine uab ?_
 simp only [newExc,newTuple]
 refine uab (uby ?_ (by size_fits))
 refine uab (m:=firstArgMember _ _) (wpAny_of_eq (a:=Value.none) (by first | rfl | (simp only [firstArgMember];rfl)) (uby ?_ (by size_fits)))
 simp only [raiseNew]
 refine uab (wpAny_handled ?_)
 rw[hh]
 refine uab (uag (wpAny_throw ?_))
 refine hE _ _ (λ b o e=>Heap.get?_push_of_some _ (Heap.get?_push_of_some _ e)) ?_
 exact⟨_,Heap.get?_push_size _ rfl,rfl⟩
section
variable {Q:Option Value->Shared->Prop}{i:Nat}
theorem zl5 {x:Value}{z nx:Nat}(hs:IsSet s.heap a es ep t)(fit:t.fits es.size=true)(hit:IsIt s.heap I a es.size ep i (.int z 0))
  (hn:∀ (A':Around)(Q':Option (Value × Nat)->Shared->Prop)(E':Value->Shared->Prop),Q' (some (x,nx)) s->wpAny (model prog w) A' (setNext a z i ep) Q' E' s)
  (hQ:∀ h',IsIt h' I a es.size ep (i+1) (.int nx 0)->Heap.SameBut I s.heap h'->Q (some x) { s with heap:=h' }):wpAny (model prog w) A (pyNext (.ref I)) Q E s:=by
 obtain⟨oi,hi,ci,di⟩:=id hit
 obtain⟨o,ho,_,od⟩:=hs
 unfold pyNext
 refine uab (ud4 (ubp (name:=Str.ofString "__next__") ⟨oi,hi,ci⟩ sl_next (ubs sl_next ⟨oi,hi,ci⟩ zhw ?_ (zik _))))
 show wpAny _ _ (fieldsOf (.ref I) >>= _) _ _ s
 refine uab (uga hi di ?_)
 show wpAny _ _ (setEntries a >>= _) _ _ s
 refine uab (uc3 ho od fit ?_)
 dsimp only
 rw[if_neg (by simp)]
 show wpAny _ _ (setNext a z i ep >>= _) _ _ s
 refine uab (hn _ _ _ ?_)
 dsimp only
 refine uab (udu hi di (by simp) ?_)
 obtain⟨o1,hi1,ci1,di1⟩:=id (hit.set0 (rawInt nx))
 refine uab (udu hi1 di1 (by simp) (uag ⟨x,rfl,uag (hQ _ ?_ ((Heap.SameBut.update ..).trans (Heap.SameBut.update ..)))⟩))
 exact (hit.set0 (rawInt nx)).set1
theorem zo0 {z:Nat}(hh:A.handled=none)(hs:IsSet s.heap a es ep t)(fit:t.fits es.size=true)(hit:IsIt s.heap I a es.size ep i (.int z 0))
  (hn:∀ (A':Around)(Q':Option (Value × Nat)->Shared->Prop)(E':Value->Shared->Prop),Q' none s->wpAny (model prog w) A' (setNext a z i ep) Q' E' s)
  (hQ:∀ h',(∀ b o,b≠I->s.heap.get? b=some o->h'.get? b=some o)->Q none { s with heap:=h' }):wpAny (model prog w) A (pyNext (.ref I)) Q E s:=by
 obtain⟨oi,hi,ci,di⟩:=id hit
 obtain⟨o,ho,_,od⟩:=hs
 unfold pyNext
 refine uab (ud4 (ubp (name:=Str.ofString "__next__") ⟨oi,hi,ci⟩ sl_next (ubs sl_next ⟨oi,hi,ci⟩ zhw ?_ (zik _))))
 show wpAny _ _ (fieldsOf (.ref I) >>= _) _ _ s
 refine uab (uga hi di ?_)
 show wpAny _ _ (setEntries a >>= _) _ _ s
 refine uab (uc3 ho od fit ?_)
 dsimp only
 rw[if_neg (by simp)]
 show wpAny _ _ (setNext a z i ep >>= _) _ _ s
 refine uab (hn _ _ _ ?_)
 dsimp only
 refine uab (udu hi di (by simp) (zll hh λ e h' hk ty=>?_))
 refine uab (udt (T:="StopIteration") (b:=true) ty ugb (uag (hQ _ λ b o hb e=>hk b o ?_)))
 exact (Heap.get?_update_other _ _ (Ne.symm hb)).trans e
theorem zqt {x:Value}{p:Addr}{pl:List Nat}{k:Nat}{hx:Int}(hs:IsSet s.heap a es ep t)(fit:t.fits es.size=true)(hit:IsIt s.heap I a es.size ep i (.ref p))(hp:s.heap.IsTuple p (pl.map λ i=>rawInt (i:Nat)).toArray)
  (hk:pl[i]?=some k) (he:es[k]?=some (hx,x)) (hQ:∀ h',IsIt h' I a es.size ep (i+1) (.ref p)->Heap.SameBut I s.heap h'->Q (some x) { s with heap:=h' }):wpAny (model prog w) A (pyNext (.ref I)) Q E s:=by
 obtain⟨oi,hi,ci,di⟩:=id hit
 obtain⟨o,ho,_,od⟩:=hs
 obtain⟨ol,hol,_,nl,hdl⟩:=hp
 unfold pyNext
 refine uab (ud4 (ubp (name:=Str.ofString "__next__") ⟨oi,hi,ci⟩ sl_next (ubs sl_next ⟨oi,hi,ci⟩ zhw ?_ (zik _))))
 show wpAny _ _ (fieldsOf (.ref I) >>= _) _ _ s
 refine uab (uga hi di ?_)
 show wpAny _ _ (setEntries a >>= _) _ _ s
 refine uab (uc3 ho od fit ?_)
 dsimp only
 rw[if_neg (by simp)]
 show wpAny _ _ (seqItems? (.ref p) >>= _) _ _ s
 refine uab (uc1 hol hdl ?_)
 have ek:(pl.map λ i=>rawInt (i:Nat)).toArray[i]?=some (.int k 0):=by rw[List.getElem?_toArray,uak,hk];rfl
 simp only [ubf,ek]
 show wpAny _ _ (setNextDrawn a k ep >>= _) _ _ s
 refine uab ?_
 unfold setNextDrawn
 refine uab (ubh ho od fit ?_)
 dsimp only
 rw[if_neg (by simp),he]
 refine uag (uab (udu hi di (by simp) (uag ⟨x,rfl,uag (hQ _ hit.set1 (Heap.SameBut.update ..))⟩)))
theorem zsx {p:Addr}{pl:List Nat}(hh:A.handled=none)(hs:IsSet s.heap a es ep t)(fit:t.fits es.size=true)(hit:IsIt s.heap I a es.size ep i (.ref p))(hp:s.heap.IsTuple p (pl.map λ i=>rawInt (i:Nat)).toArray)
  (hk:pl[i]?=none) (hQ:∀ h',(∀ b o,b≠I->s.heap.get? b=some o->h'.get? b=some o)->Q none { s with heap:=h' }):wpAny (model prog w) A (pyNext (.ref I)) Q E s:=by
 obtain⟨oi,hi,ci,di⟩:=id hit
 obtain⟨o,ho,_,od⟩:=hs
 obtain⟨ol,hol,_,nl,hdl⟩:=hp
 unfold pyNext
 refine uab (ud4 (ubp (name:=Str.ofString "__next__") ⟨oi,hi,ci⟩ sl_next (ubs sl_next ⟨oi,hi,ci⟩ zhw ?_ (zik _))))
 show wpAny _ _ (fieldsOf (.ref I) >>= _) _ _ s
 refine uab (uga hi di ?_)
 show wpAny _ _ (setEntries a >>= _) _ _ s
 refine uab (uc3 ho od fit ?_)
 dsimp only
 rw[if_neg (by simp)]
 show wpAny _ _ (seqItems? (.ref p) >>= _) _ _ s
 refine uab (uc1 hol hdl ?_)
 have ek:(pl.map λ i=>rawInt (i:Nat)).toArray[i]?=none:=by rw[List.getElem?_toArray,uak,hk];rfl
 simp only [ubf,ek]
 refine uab (udu hi di (by simp) ?_)
 obtain⟨o1,hi1,ci1,di1⟩:=id (hit.set0 (rawInt 0))
 refine uab (udu hi1 di1 (by simp) (zll hh λ e h' hk ty=>?_))
 refine uab (udt (T:="StopIteration") (b:=true) ty ugb (uag (hQ _ λ b o hb e=>hk b o ?_)))
 exact (Heap.get?_update_other _ _ (Ne.symm hb)).trans ((Heap.get?_update_other _ _ (Ne.symm hb)).trans e)
end
end
end Stb
namespace Stb
open PySem PyProof.Rows
theorem znr:Slot "set_iterator" "__iter__" "set_iterator.__iter__":=.of (owner:="set_iterator") (n:="__iter__") (by rw[typeLookup_type,builtinLookup_eq_fast];kernel_rfl) (by symm) (by symm) (by symm) (by first | exact .inl (by symm) | exact .inr (by symm)) (by rw[ufe];kernel_rfl)
theorem zri:entryFor table "set_iterator.__iter__"=some Builtin.«dict_keyiterator.__iter__»:=entryFor_alias (id':="dict_keyiterator.__iter__") (by kernel_rfl) (by first | rfl | decide +kernel | (unfold String.splitOn;simp +decide [String.splitOnAux])) (by symm) (by kernel_rfl)
theorem ztq (a:Value):argsOk "set_iterator.__iter__" ⟨[a],[]⟩:=by
 unfold argsOk;rw[signature?_of (id:="set_iterator.__iter__") (n:=['_','_','r','e','t','i','_','_']) (o:=['r','o','t','a','r','e','t','i','_','t','e','s']) (by kernel_rfl) zoa];kernel_rfl
section
variable {prog:Program}{w:World}{A:Around}{E:Value->Shared->Prop}{s:Shared}{a I:Addr}{es:Array (Int × Value)}{ep:Nat}{t:SetTable}
theorem zov {Q:Value->Shared->Prop}{n i:Nat}{f:Value}(hit:IsIt s.heap I a n ep i f)(h:Q (.ref I) s):wpAny (model prog w) A (pyIter (.ref I)) Q E s:=by
 obtain⟨oi,hi,ci,di⟩:=id hit
 refine wpAny_pyIter_slot ⟨oi,hi,ci⟩ znr (ubs znr ⟨oi,hi,ci⟩ zri ?_ (ztq _))
 show wpAny _ _ (ret (.ref I)) _ _ s
 exact uag ⟨_,rfl,"set_iterator",_,⟨oi,hi,ci⟩,sl_next.lookup,h⟩
def fpK (I a:Addr):Knd->List Addr
 | .drawn p _=>[I,a,p]
 | _=>[I,a]
def StK (w:World)(a I:Addr)(es:Array (Int × Value))(ep:Nat)(t:SetTable)(ord:List (Int × Value))(kd:Knd)(i:Nat)(h:Heap):Prop :=
 IsSet h a es ep t/\∃ first,IsIt h I a es.size ep i first/\First w a es ep t ord i h first kd
theorem zut (I a:Addr):∀ kd,I∈fpK I a kd/\a∈fpK I a kd
 | .text=>by simp [fpK]
 | .drawn _ _=>by simp [fpK]
 | .places=>by simp [fpK]
theorem zp7 {ord:List (Int × Value)}{kd:Knd}(hh:A.handled=none)(aI:a≠I)(fit:t.fits es.size=true)(ti:TI (ledOf w) t)(hpI:∀ p pl,kd=.drawn p pl->p≠I)(pm:ord.Perm es.toList) :
  Walks prog w A I (fpK I a kd) [I] ord.length (λ i v=>∃ e,ord[i]?=some e/\v=e.2) (StK w a I es ep t ord kd) where
 sub:=λ b hb=>by simp at hb;rw[hb];exact (zut I a kd).1
 frame:=λ i h h' st hk=>by
  obtain⟨⟨o,ho,r⟩,f,⟨oi,hi,ri⟩,fk⟩:=st
  refine⟨⟨o,hk a (zut I a kd).2 o ho,r⟩,f,⟨oi,hk I (zut I a kd).1 oi hi,ri⟩,?_⟩
  cases kd with
  | text=>exact fk
  | places=>exact fk
  | drawn p pl =>
   obtain⟨e,⟨op,hp,rp⟩,rest⟩:=fk
   exact⟨e,⟨op,hk p (by simp [fpK]) op hp,rp⟩,rest⟩
 self:=λ i s Q E st hQ=>by
  obtain⟨_,f,hit,_⟩:=st
  exact zov hit hQ
 item:=λ i s Q E hi st hQ=>by
  obtain⟨hs,f,hit,fk⟩:=st
  have hsK:∀ h',Heap.SameBut I s.heap h'->IsSet h' a es ep t:=λ h' sb=>by
   obtain⟨o,ho,r⟩:=hs
   exact⟨o,sb.extBut a o aI ho,r⟩
  have kp:∀ h',Heap.SameBut I s.heap h'->∀ b o,b∉[I]->s.heap.get? b=some o->h'.get? b=some o:=λ h' sb b o hb e=>sb.extBut b o (λ z=>hb (by simp [z])) e
  have oi:ord[i]?=some ord[i]:=uaf hi
  cases kd with
  | text =>
   obtain⟨hl,eo,z,rfl⟩:=fk
   have ei:(pickOrder (w.params.setOrder a ep) es)[i]?=some ord[i]:=by rw[← ucg,← eo];exact oi
   refine zl5 (x:=ord[i].2) (nx:=z) hs fit hit (λ A' Q' E' q=>zi9 hs fit hl ?_) λ h' hit' sb=>hQ _ h' s.toks ⟨_,oi,rfl⟩ ⟨hsK h' sb,_,hit',hl,eo,z,rfl⟩ (kp h' sb)
   rw[ei];exact q
  | places =>
   obtain⟨hl,hp,eo,z,rfl,eb⟩:=fk
   have ei:es[i]?=some ord[i]:=by rw[← ucg,← eo];exact oi
   have szp:t.place.size=es.size:=by
    simp only [SetTable.fits,ubd,beq_iff_eq] at fit
    exact fit.1
   have il:i<t.place.size:=by rw[szp];exact (ugz.mp ei).1
   have ep':t.place[i]?=some t.place[i]:=ucc il
   refine zl5 (x:=ord[i].2) (nx:=t.place[i]+1) hs fit hit (λ A' Q' E' q=>zfa hs fit ti hl hp ?_) λ h' hit' sb=>hQ _ h' s.toks ⟨_,oi,rfl⟩ ⟨hsK h' sb,_,hit',hl,hp,eo,_,rfl,zna _ ti.1 ep'⟩ (kp h' sb)
   rw[eb,ei,ep'];exact q
  | drawn p pl =>
   obtain⟨rfl,hp,el,hj⟩:=fk
   have il:i<pl.length:=el ▸ hi
   obtain⟨e,ek,eo⟩:=hj i _ (uaf il)
   obtain⟨hx,x⟩:=e
   refine zqt (x:=x) hs fit hit hp (uaf il) ek λ h' hit' sb=>hQ _ h' s.toks ⟨_,eo,rfl⟩ ⟨hsK h' sb,_,hit',rfl,?_,el,hj⟩ (kp h' sb)
   obtain⟨op,hop,rp⟩:=hp
   exact⟨op,sb.extBut p op (hpI p pl rfl) hop,rp⟩
 done:=λ s Q E st hQ=>by
  obtain⟨hs,f,hit,fk⟩:=st
  have lo:ord.length=es.size:=by rw[pm.length_eq,ubl]
  have kp:∀ h':Heap,(∀ b o,b≠I->s.heap.get? b=some o->h'.get? b=some o)->∀ b o,b∉[I]->s.heap.get? b=some o->h'.get? b=some o:=λ h' k b o hb e=>k b o (λ z=>hb (by simp [z])) e
  cases kd with
  | text =>
   obtain⟨hl,eo,z,rfl⟩:=fk
   refine zo0 hh hs fit hit (λ A' Q' E' q=>zi9 hs fit hl ?_) λ h' k=>hQ h' s.toks (kp h' k)
   have:(pickOrder (w.params.setOrder a ep) es)[ord.length]?=none:=by rw[← ucg,← eo,uba (uai _)]
   rw[this];exact q
  | places =>
   obtain⟨hl,hp,eo,z,rfl,eb⟩:=fk
   refine zo0 hh hs fit hit (λ A' Q' E' q=>zfa hs fit ti hl hp ?_) λ h' k=>hQ h' s.toks (kp h' k)
   have:es[ord.length]?=none:=by rw[lo];simp
   rw[eb,this];exact q
  | drawn p pl =>
   obtain⟨rfl,hp,el,hj⟩:=fk
   exact zsx hh hs fit hit hp (by rw[el,uba (uai _)]) λ h' k=>hQ h' s.toks (kp h' k)
end
end Stb
namespace Stb
open PySem PyProof.Rows
section
variable {prog:Program}{w:World}{A:Around}{E:Value->Shared->Prop}{s:Shared}{a:Addr}{es:Array (Int × Value)}{ep:Nat}{t:SetTable}
theorem zq9 {Q:Bool->Shared->Prop}(hs:IsSet s.heap a es ep t)(fit:t.fits es.size=true)(h:Q (ledOf w&&(!t.plain&&decide (es.size>1))) s):wpAny (model prog w) A (setDrawn a) Q E s:=by
 obtain⟨o,ho,_,od⟩:=hs
 unfold setDrawn setsByText
 refine uab (ubh ho od fit ?_)
 exact uab (uab (ucm (uag (uag h))))
theorem zq8 {Q:Value->Shared->Prop}(hs:IsSet s.heap a es ep t)(fit:t.fits es.size=true)(ti:TI (ledOf w) t)(small:es.size<=4096)
  (h:∀ (I:Addr)(h':Heap)(d':Drawn)(ord:List (Int × Value))(kd:Knd),(∀ b o,s.heap.get? b=some o->h'.get? b=some o)->s.heap.objs.size<=I->(∀ p pl,kd=.drawn p pl->p≠I/\s.heap.objs.size<=p)->ord.Perm es.toList->StK w a I es ep t ord kd 0 h' ->
   Q (.ref I) { s with heap:=h',drawn:=d' }):wpAny (model prog w) A (pyIter (.ref a)) Q E s:=by
 obtain⟨o,ho,oc,od⟩:=id hs
 refine wpAny_pyIter_slot ⟨o,ho,oc⟩ uhb (ubs uhb ⟨o,ho,oc⟩ ztl ?_ (PySem.F.args_set_iter_1 _))
 unfold Builtin.«frozenset.__iter__» Builtin.Frozenset.sizeOf
 show wpAny _ _ ((setEntries a >>= λ x=>pure x.size) >>= _) _ _ s
 refine uab (uab (uc3 ho od fit (uag (uab (zq9 hs fit ?_)))))
 have lastT : ∀ (h1 : Heap)(first : Value)(d' : Drawn)(ord : List (Int × Value))(kd : Knd), (∀ b o, s.heap.get? b = some o → h1.get? b = some o) → s.heap.objs.size <= h1.objs.size → (∀ p pl, kd = .drawn p pl → p<h1.objs.size /\ s.heap.objs.size <= p) → ord.Perm es.toList → (∀ h', (∀ b o, h1.get? b = some o → h'.get? b = some o) → First w a es ep t ord 0 h' first kd) →
     wpAny (model prog w) A.in1 (setEpoch a >>= λ e=>newFields "set_iterator" [first,rawInt 0,.ref a,rawInt es.size,rawInt e] >>= λ v=>ret v) (λ fin s'=>∃ v,fin=.done (.ret v)/\∃ T' r,s'.TypeIs v T'/\typeLookup (.type T') (Str.ofString "__next__")=pure (some r)/\Q v s') E { s with heap:=h1,drawn:=d' }:=λ h1 first d' ord kd hk sz hp pm hf=>by
  refine uab (ug0 (hk a o ho) od fit (uab (uby (uag ⟨_,rfl,"set_iterator",_,⟨_,Heap.get?_push_size _ rfl,rfl⟩,sl_next.lookup,?_⟩))))
  exact h _ _ d' ord kd (λ b o e=>Heap.get?_push_of_some _ (hk b o e)) sz (λ p pl e=>⟨uau (hp p pl e).1,(hp p pl e).2⟩) pm ⟨⟨o,Heap.get?_push_of_some _ (hk a o ho),oc,od⟩,first,⟨_,Heap.get?_push_size _ rfl,rfl,rfl⟩,hf _ λ b o e=>Heap.get?_push_of_some _ e⟩
 dsimp only
 have es0:s={ s with heap:=s.heap,drawn:=s.drawn }:=by cases s;rfl
 by_cases c:(ledOf w&&(!t.plain&&decide (es.size>1)))=true
 ·rw[if_pos c]
  refine uab (zeo _ _ _ _ (by simp) λ ys d' pm=>?_)
  have yl:ys.length=es.size:=by rw[pm.length_eq,ua8]
  have line:es.size<=sizeLine:=by rw[ucr];left
  refine uab (uby ?_ (by show (ys.map λ i=>rawInt (i:Nat)).toArray.size<=sizeLine;simpa [yl] using line))
  have ordE:∀ k∈ys,∃ e,es[k]?=some e:=λ k hk=>by
   have:k<es.size:=by simpa using pm.mem_iff.mp hk
   exact⟨_,ucc this⟩
  have fm:∀ l:List Nat,(∀ k∈l,∃ e,es[k]?=some e)->(l.filterMap (es[·]?)).length=l.length/\∀ j k:Nat,l[j]?=some k->∃ e,es[k]?=some e/\(l.filterMap (es[·]?))[j]?=some e:=λ l=>by
   induction l with
   | nil=>exact λ _=>⟨rfl,λ j k e=>by simp at e⟩
   | cons x l ih =>
    intro hx
    obtain⟨e,he⟩:=hx x (by simp)
    obtain⟨h1,h2⟩:=ih λ k hk=>hx k (uam _ hk)
    rw[List.filterMap_cons_some (b:=e) he]
    refine⟨by simp [h1],λ j k ej=>?_⟩
    cases j with
    | zero=>simp at ej;subst ej;exact⟨e,he,rfl⟩
    | succ j=>simp only [List.getElem?_cons_succ] at ej ⊢;exact h2 j k ej
  obtain⟨f1,f2⟩:=fm ys ordE
  refine lastT _ (.ref s.heap.objs.size) d' (ys.filterMap (es[·]?)) (.drawn s.heap.objs.size ys) (λ b o e=>Heap.get?_push_of_some _ e) (by rw[Heap.size_push];exact udo _) (λ p pl e=>by cases e;rw[Heap.size_push];exact⟨uc5 _,uai _⟩) ?_ λ h' k=>⟨rfl,⟨_,k _ _ (Heap.get?_push_size _ rfl),rfl,_,rfl⟩,f1,f2⟩
  exact (pm.filterMap _).trans (by rw[filterMap_getElem?_range])
 ·rw[if_neg c]
  refine uab (uag ?_)
  cases cl:ledOf w with
  | false =>
   rw[es0]
   exact lastT s.heap (rawInt 0) s.drawn _ .text (λ _ _ e=>e) (uai _) (λ p pl e=>nomatch e) (ziu _ es) λ h' k=>⟨cl,rfl,0,rfl⟩
  | true =>
   rw[es0]
   refine lastT s.heap (rawInt 0) s.drawn es.toList .places (λ _ _ e=>e) (uai _) (λ p pl e=>nomatch e) (.refl _) λ h' k=>⟨cl,?_,rfl,0,rfl,zm9 _ ti.1⟩
   rw[cl] at c
   cases pl:t.plain with
   | true=>exact .inl rfl
   | false=>rw[pl] at c;exact .inr (by simpa using c)
theorem zrc {Q:Bool->Shared->Prop}(hT:s.TypeIs (.ref a) "set")(h:Q false s):wpAny (model prog w) A (Builtin.List.listLengthHint (.ref a)) Q E s:=by
 unfold Builtin.List.listLengthHint
 refine uab (wpAny_specialOf hT PySem.F.slot_set_len.lookup ?_)
 generalize hid:("set.__len__":String)=id0
 wp_delta
 rw[show splitId id0=some ("set","__len__") from by subst hid;decide +kernel]
 subst hid
 refine uab (udt (T:="set") (b:=true) hT (by rw[ufe];kernel_rfl) (ubi (λ z=>absurd z (by decide)) λ _=>?_))
 refine ubi (λ _=>uab (ufa hT (uag h))) (λ z=>absurd (by symm) z)
theorem zkw:∀ l:List (Int × Value),ElemsOf (intKind prog w) l->∃ ks,IntsAre (l.map (·.2)) ks/\ks.length=l.length/\∀ k,k∈ks↔∃ e∈l,(intKind prog w).is k e.2=true
 | [],_=>⟨[],.nil,rfl,λ k=>by simp⟩
 | e::l,h=>by
  obtain⟨ks,h1,h2,h3⟩:=zkw l h.tail
  obtain⟨⟨k,hk,_⟩,_⟩:=h.head
  obtain⟨hx,x⟩:=e
  obtain⟨u,rfl⟩:=Value.isInt_shape hk
  refine⟨k::ks,.cons k u h1,by simp [h2],λ y=>?_⟩
  rw[uar,h3 y]
  constructor
  ·rintro (rfl | ⟨e,he,q⟩)
   ·exact⟨_,uan,hk⟩
   ·exact⟨e,uam _ he,q⟩
  ·rintro ⟨e,he,q⟩
   rcases uar.mp he with rfl | he
   ·exact .inl ((intKind prog w).inj _ _ _ q hk)
   ·exact .inr ⟨e,he,q⟩
theorem ztf {ord:List (Int × Value)}{acc:Array Value}(h:ItemsOf (λ i v=>∃ e,ord[i]?=some e/\v=e.2) acc ord.length):acc.toList=ord.map (·.2):=by
 refine ufh (by simp [h.1]) λ i h1 h2=>?_
 have hi:i<acc.size:=by simpa using h1
 obtain⟨e,e1,e2⟩:=h.2 i _ (ucc hi)
 have hi2:i<ord.length:=by simpa using h2
 rw[uaf hi2] at e1
 cases e1
 simpa using e2
theorem zk7 {Q:List Value->Shared->Prop}{S:Int->Bool}{n:Nat}(hh:A.handled=none)(st:SetT prog w s.heap a S n)
  (hQ:∀ (h':Heap)(tk:Nat)(d':Drawn)(vs:List Value)(ks:List Int),(∀ b o,s.heap.get? b=some o->h'.get? b=some o)->IntsAre vs ks->ks.length=n->(∀ k,S k=true↔k∈ks)->Q vs { s with heap:=h',toks:=tk,drawn:=d' }) :
  wpAny (model prog w) A (collect (.ref a)) Q E s:=by
 obtain⟨⟨o,es,ep,t,ho,ox,od,el,me,small,fit,en⟩,o',es',ep',t',ho',od',ti⟩:=st
 rw[ho] at ho';cases ho'
 rw[od] at od';cases od'
 unfold collect
 refine uab (ufd (ucu ugj ?_))
 rw[Around.under_plainId ugi _]
 show wpAny _ A.in1 (newList [] >>= λ l=>again (.builtin "list.__iadd__" ⟨[l,.ref a],[]⟩)) _ _ s
 refine uab (uby ?_)
 refine uag ⟨ufn ud6 _,ucu ug1 ?_⟩
 rw[Around.under_plainId ud6 _]
 show wpAny _ A.in1 (Builtin.List.listExtendWith (.ref s.heap.objs.size) (.ref a) (.ref s.heap.objs.size)) _ _ _
 have alt:a<s.heap.objs.size:=Heap.lt_size ho
 have hS:(s.heap.push { cls:=.type "list",data:=.seq ([]:List Value).toArray }).get? s.heap.objs.size=some { cls:=.type "list",data:=.seq #[] }:=Heap.get?_push_size _ rfl
 have szL:(s.heap.push { cls:=.type "list",data:=.seq ([]:List Value).toArray }).objs.size=s.heap.objs.size+1:=Heap.size_push ..
 unfold Builtin.List.listExtendWith
 have tS:Shared.TypeIs { s with heap:=s.heap.push { cls:=.type "list",data:=.seq ([]:List Value).toArray } } (.ref a) "set":=⟨o,Heap.get?_push_of_some _ ho,ox.1⟩
 refine uab (ufa (T:="set") tS ?_)
 have h1:Builtin.List.listSameRef (.ref s.heap.objs.size) (.ref a)=false:=by simp only [Builtin.List.listSameRef,beq_eq_false_iff_ne];exact ud8 alt
 have h2:(Value.type "set"==Value.type "list")=false:=by decide
 have h3:(Value.type "set"==Value.type "tuple")=false:=by decide
 simp only [h1,h2,h3,Bool.or_false,ucs,if_false]
 refine uab (zq8 (t:=t) ⟨o,Heap.get?_push_of_some _ ho,ox.1,od⟩ fit ti (ufq small) λ I h1 d1 ord kd hk lI hp pm stk=>?_)
 refine uab (ubz (zrc ⟨o,hk a o (Heap.get?_push_of_some _ ho),ox.1⟩ ?_))
 refine ubi (λ _=>?_) (λ z=>absurd (by decide) z)
 refine uab (ud2 ?_)
 refine uab ?_
 show wpAny _ _ (updateSeq s.heap.objs.size (·.push .none) >>= λ _=>updateSeq s.heap.objs.size (·.pop)) _ _ _
 have g1:=hk _ _ hS
 refine uab (wpAny_updateSeq g1 rfl ?_)
 have g2:=Heap.get?_update_self (Obj.mapSeq (·.push Value.none)) g1 rfl
 refine wpAny_updateSeq (hz:=by seq_fits) g2 rfl ?_
 have g3:=Heap.get?_update_self (Obj.mapSeq (·.pop)) g2 rfl
 have neI:s.heap.objs.size≠I:=uau (ua4 (by rw[szL];exact uc5 _) lI)
 have nfp:s.heap.objs.size∉fpK I a kd:=by
  cases kd with
  | text=>simp only [fpK,uar,ua1,or_false,not_or];exact⟨neI,ud8 alt⟩
  | places=>simp only [fpK,uar,ua1,or_false,not_or];exact⟨neI,ud8 alt⟩
  | drawn p pl =>
   simp only [fpK,uar,ua1,or_false,not_or]
   exact⟨neI,ud8 alt,uau (ua4 (by rw[szL];exact uc5 _) (hp p pl rfl).2)⟩
 have aI:a≠I:=uau (ua4 (by rw[szL];exact ub1 alt) lI)
 have W:=zp7 (prog:=prog) (w:=w) (A:=A.in1) (ep:=ep) (ord:=ord) (kd:=kd) hh aI fit ti (λ p pl e=>(hp p pl e).1) pm
 have kU:∀ b o,b≠s.heap.objs.size->h1.get? b=some o->((h1.update s.heap.objs.size (Obj.mapSeq (·.push Value.none))).update s.heap.objs.size (Obj.mapSeq (·.pop))).get? b=some o:=λ b o hb e =>
  (Heap.get?_update_other _ _ (Ne.symm hb)).trans ((Heap.get?_update_other _ _ (Ne.symm hb)).trans e)
 have st1:=W.frame 0 _ _ stk λ b hb o e=>kU b o (λ z=>nfp (z ▸ hb)) e
 have lo:ord.length=n:=by rw[pm.length_eq,ubl,en]
 refine uag ⟨ufn PySem.F.plain_extend_loop _,codeAny_extend_loopS W.toS (by rw[lo,← en];exact udn small) s.heap.objs.size nfp _ ord.length 0 _ #[] _ rfl (ubj _) st1 g3 (ItemsOf.nil _) λ s' acc' c' hm hS' hacc=>?_⟩
 rw[Moved.eq_with hm]
 refine uab (wpAny_load hS' (uag ?_))
 obtain⟨ks,i1,i2,i3⟩:=zkw (prog:=prog) (w:=w) ord (el.perm pm)
 rw[ztf hacc]
 refine hQ _ _ _ _ ks (λ b o e=>hm.heap b o ?_ (kU b o (uau (Heap.lt_size e)) (hk b o (Heap.get?_push_of_some _ e)))) i1 (i2.trans lo) λ k=>(me k).trans ?_
 ·simp only [uar,ua1,or_false,not_or]
  have:=Heap.lt_size e
  exact⟨uau this,uau (ua4 (by rw[szL];exact ub1 this) lI)⟩
 ·rw[i3 k]
  exact⟨λ ⟨e,he,q⟩=>⟨e,pm.mem_iff.mpr he,q⟩,λ ⟨e,he,q⟩=>⟨e,pm.mem_iff.mp he,q⟩⟩
end
end Stb
namespace Srt
open PySem PySem.Spec PyProof.Rows PySem.W
section
variable {prog:Program}{w:World}{A:Around}{E:Value->Shared->Prop}{s:Shared}
theorem zkh {x:Value}{Q:Value->Shared->Prop}{Good:List Value->Shared->Prop}
  (hcol:∀ (A':Around)(E':Value->Shared->Prop)(Q':List Value->Shared->Prop),A'.handled=A.handled->(∀ vs s',Good vs s'->Q' vs s')->wpAny (model prog w) A' (collect x) Q' E' s)
  (hg:∀ vs s1,Good vs s1->∃ (r:Nat->Int)(κ:SortKind),vs.length<64/\(2<=vs.length->∀ (A':Around)(s':Shared)(Q:SortKind->Shared->Prop),Q κ s'->wpAny (model prog w) A' (keyKind' vs.toArray) Q (λ _ _=>False) s') /\
   (∀ (A':Around)(s':Shared)(i j:Nat)(C:Bool->Shared->Prop),i<vs.length->j<vs.length->C (decide (r i<r j)) s'->kas_ask prog w A' κ vs i j C s') /\
   ∀ (p:Array Nat)(h':Heap)(c:Nat),Gd vs.length p->Up r p vs.length->(∀ b o,s1.heap.get? b=some o->h'.get? b=some o)->h'.get? s1.heap.objs.size=some (seqObj "list" (outOf vs p).toArray c)->Q (.ref s1.heap.objs.size) { s1 with heap:=h' }) :
  wpAny (model prog w) A (call (.builtin "sorted") [x]) Q E s:=by
 have line:(64:Nat)<=sizeLine:=by rw[ucr];decide
 refine Calls.call_function_entry kind_sorted plain_sorted entry_sorted (args_sorted1 _) ?_
 unfold Builtin.«sorted»
 refine uab (m:=checkCount "sorted" 1 1 _) (uag (uab (hcol _ _ _ rfl λ vs s1 g=>?_)))
 obtain⟨r,κ,h64,hk,hc,h⟩:=hg vs s1 g
 refine uab (ugs ?_ (by left))
 have hoL:(s1.heap.push { cls:=.type "list",data:=.seq vs.toArray }).get? s1.heap.objs.size=some (seqObj "list" vs.toArray 0):=Heap.get?_push_size _ rfl
 have ne2:∀ b o,s1.heap.get? b=some o->b≠s1.heap.objs.size:=λ b o q=>uau (Heap.lt_size q)
 show wpAny _ _ _ _ _ { s1 with heap:=s1.heap.push { cls:=.type "list",data:=.seq vs.toArray } }
 refine uab (ubz (ubs slot_list_sort ⟨_,hoL,rfl⟩ entry_list_sort ?_ (args_list_sort _)))
 refine lsort (s:={ s1 with heap:=s1.heap.push { cls:=.type "list",data:=.seq vs.toArray } }) (r:=r) (κ:=κ) hoL h64 (λ h2 s' Q' st q=>hk h2 _ s' Q' q) (λ s' i j C st hi hj q=>hc _ s' i j C hi hj q) λ p h' c g1 u1 st e=>⟨_,rfl,?_⟩
 exact uag ⟨_,rfl,h p h' c g1 u1 (λ b o q=>st b o (ne2 b o q) (Heap.get?_push_of_some _ q)) e⟩
end
end Srt
namespace L3
open PySem PySem.Spec PyProof.Rows L2
def SetO (P:Program)(w:World)(a:Addr)(S:Int->Bool)(n:Nat):HO:=.ext λ h=>Stb.SetT P w h a S n
section
variable {X:Cx}
theorem zpk (hh:X.calm=true):CallR X (.type "set") (λ xs H Q=>∃ (p:Addr)(ns:List Int),xs=[.ref p]/\H p=some (.tup (ns.map V.int))/\ns.length<=1000/\∀ q H',Same H H'->H q=none->H' q=some (SetO X.prog X.w q (HT.setS ns ns.length) (HT.setN ns ns.length))->Q (.ref q) H'):=by
 intro pins s σ H xs us Q I r h
 obtain⟨p,ns,rfl,hp,hl,q⟩:=h
 obtain⟨u,rfl,rx⟩:=vals1 r
 cases rx
 obtain⟨its,rv,pt,hz⟩:=I.tuple (SqT.of hp)
 have hlen:=rv.length
 rw[uae] at hlen
 have fr:H s.heap.objs.size=none:=I.hok.fresh (uai _)
 have esz:its.toArray.size=ns.length:=by rw[uao,← hlen]
 refine Stb.zub (ns:=ns) (I.ok.hd hh) (show s.heap.IsTuple p its.toArray from pt) (by simpa using zbw rv) (by rw[esz];unfold scanBound;left) λ h' tk hS hk=>?_
 rw[esz] at hS
 refine⟨.ref s.heap.objs.size,_,I.laid (a:=s.heap.objs.size) (o:=SetO X.prog X.w s.heap.objs.size (HT.setS ns ns.length) (HT.setN ns ns.length)) (t':=tk) (λ b o e=>hk b o (Heap.lt_size e) e) (uai _) ⟨hS,?_,λ h1 h2 x k=>x.keep k⟩,rfl,q _ _ (zam fr) fr zaj⟩
 obtain⟨⟨o,_,_,_,ho,_⟩,_⟩:=hS
 exact⟨o,ho⟩
theorem zc4 (hh:X.calm=true):CallR X (.builtin "sorted") (λ xs H Q=>∃ (p:Addr)(S:Int->Bool)(n:Nat),xs=[.ref p]/\H p=some (SetO X.prog X.w p S n)/\n<64/\∀ ms:List Int,ms.length=n->(∀ k,S k=true↔k∈ms)->ms.Pairwise (·<=·)->∀ l H',Same H H'->H l=none->H' l=some (.lst (ms.map V.int))->Q (.ref l) H'):=by
 intro pins s σ H xs us Q I r h
 obtain⟨p,S,n,rfl,hp,h64,q⟩:=h
 obtain⟨u,rfl,rx⟩:=vals1 r
 cases rx
 have hS:Stb.SetT X.prog X.w s.heap p S n:=(show ObjOk X.prog X.w H s.heap p (SetO X.prog X.w p S n) from I.hok p _ hp).1
 refine Srt.zkh (Good:=λ vs s1=>∃ (h1:Heap)(tk:Nat)(d':Drawn)(ns:List Int),s1={ s with heap:=h1,toks:=tk,drawn:=d' }/\(∀ b o,s.heap.get? b=some o->h1.get? b=some o)/\IntsAre vs ns/\ns.length=n/\∀ k,S k=true↔k∈ns)
  (λ A' E' Q' eh hQ=>Stb.zk7 (eh.trans (I.ok.hd hh)) hS λ h1 tk d' vs ns hk hI hl hm=>hQ vs _ ⟨h1,tk,d',ns,rfl,hk,hI,hl,hm⟩) λ its s1 g=>?_
 obtain⟨gg,tk,d',ns,rfl,kg,hI,hn,hm⟩:=g
 have hl:its.length=ns.length:=by
  clear hn hm
  induction hI with
  | nil=>rfl
  | cons n t _ ih=>simp [ih]
 refine⟨λ i=>ns.getD i 0,oneType',by left,λ h2 A' s' Q' q'=>Srt.zl4 hI h2 q',λ A' s' i j C hi hj q'=>Srt.zo1 hI hi hj q',λ pp h' c g u kp e=>?_⟩
 have g':Srt.Gd ns.length pp:=by rw[← hl];exact g
 have u':Srt.Up (λ i=>ns.getD i 0) pp ns.length:=by rw[← hl];exact u
 have pm:(pp.toList.map λ i=>ns.getD i 0).Perm ns:=by
  have:=zkz g' λ i=>ns.getD i 0
  rw[zbd] at this
  exact this
 have pw:(pp.toList.map λ i=>ns.getD i 0).Pairwise (·<=·):=by
  rw[ubx]
  exact zkb g' u' λ i j _ _ z=>z
 have I1:Inv X pins σ H { s with heap:=gg,toks:=tk,drawn:=d' }:=by
  have:=I.kept (t':=tk) kg
  exact⟨this.ok,this.os,this.bare,this.base,this.loc,this.cell,this.free,this.freeC,this.pin,this.hok,this.len⟩
 have fr:H gg.objs.size=none:=I1.hok.fresh (uai _)
 have ev:((pp.toList.map λ i=>ns.getD i 0).map V.int)=pp.toList.map λ i=>(ns.map V.int).getD i .non:=by
  rw[uci]
  refine udi λ i hi=>?_
  have:=zgr g' i hi
  simp [uc6,this]
 have rv:Vals (ns.map V.int) its:=by
  clear hn hm g' u' pm pw ev hl g u e kp
  induction hI with
  | nil=>exact .nil
  | cons n t _ ih=>exact .cons ⟨t,rfl⟩ ih
 refine⟨.ref gg.objs.size,_,I1.laid (a:=gg.objs.size) (o:=.lst ((pp.toList.map λ i=>ns.getD i 0).map V.int)) (t':=tk) kp (uai _) ⟨?_,Srt.outOf its pp,c,?_,e⟩,rfl,q _ (pm.length_eq.trans hn) (λ k=>(hm k).trans pm.mem_iff.symm) pw _ _ (zam fr) fr zaj⟩
 ·have:=pm.length_eq
  have line:(64:Nat)<=sizeLine:=by rw[ucr];decide
  rw[uae,this];left
 ·rw[ev]
  exact zeu rv pp.toList λ i hi=>by rw[uae];exact zgr g' i hi
end
theorem zbq (val:Nat->Int):∀ i,(firstMet val i).Nodup/\∀ k,k∈firstMet val i↔k∈(uac i).map val
 | 0=>⟨by rw[firstMet_zero];exact ud1,λ k=>by rw[firstMet_zero];simp⟩
 | i+1=>by
  obtain⟨h1,h2⟩:=zbq val i
  rw[firstMet_succ,ucz,ubc]
  unfold step_dedup
  by_cases c:(firstMet val i).any (λ y=>y==val i)=true
  ·rw[if_pos c]
   obtain⟨y,hy,e⟩:=ub4.mp c
   have e':y=val i:=by simpa using e
   refine⟨h1,λ k=>?_⟩
   rw[h2 k,ua6]
   refine⟨.inl,λ z=>z.elim id λ z=>?_⟩
   have:k=val i:=by simpa using z
   rw[this,← e',← h2 y];exact hy
  ·rw[if_neg c]
   refine⟨uch.mpr ⟨h1,by simp,λ a ha b hb e=>c (ub4.mpr ⟨a,ha,?_⟩)⟩,λ k=>by rw[ua6,ua6,h2 k];simp⟩
   have:b=val i:=by simpa using hb
   simp [e,this]
theorem zdj:∀ {l m:List Int},l.Nodup->(∀ x∈l,x∈m)->m.length<=l.length->m.Perm l
 | [],m,_,_,h=>by
  have:m=[]:=ufc.mp (by simpa using h)
  rw[this]
 | x::l,m,nd,sub,h=>by
  have hx:=sub x uan
  obtain⟨nx,nl⟩:=ubw.mp nd
  have pe:=udy hx
  refine pe.trans (List.Perm.cons x (zdj nl (λ y hy=>?_) ?_))
  ·exact (uen λ e=>nx (by rw[← e];exact hy)).mpr (sub y (uam _ hy))
  ·rw[ue5 hx];simp at h;left
theorem zds (ns:List Int)(k:Int):HT.setS ns ns.length k=true↔k∈ns:=by
 have:=(zbq (λ i=>ns.getD i 0) ns.length).2 k
 rw[zbd] at this
 rw[← this]
 unfold HT.setS
 rw[ub4]
 exact⟨λ ⟨y,hy,e⟩=>by rw[← show y=k by simpa using e];exact hy,λ h=>⟨k,h,by simp⟩⟩
theorem zmv {l m:List Int}(p:l.Perm m)(hl:l.Pairwise (·<=·))(hm:m.Pairwise (·<=·)):l=m :=
 p.eq_of_pairwise (λ a b _ _ h1 h2=>Int.le_antisymm h1 h2) hl hm
theorem zqn {ns ms:List Int}(hl:ms.length=HT.setN ns ns.length)(hm:∀ k,HT.setS ns ns.length k=true↔k∈ms):ms.Nodup/\∀ k,k∈ms↔k∈ns:=by
 obtain⟨n1,n2⟩:=zbq (λ i=>ns.getD i 0) ns.length
 rw[zbd] at n2
 have pm:=zdj (m:=ms) n1 (λ x hx=>(hm x).mp ((zds ns x).mpr ((n2 x).mp hx))) (uey hl)
 exact⟨pm.nodup_iff.mpr n1,λ k=>(hm k).symm.trans (zds ns k)⟩
theorem zma:∀ a b:List Int,PyData.eqvAll (a.map .int) (b.map .int)=decide (a=b)
 | [],[]=>rfl
 | [],_::_=>rfl
 | _::_,[]=>rfl
 | x::a,y::b=>by
  show (PyData.eqv (.int x) (.int y)&&PyData.eqvAll (a.map .int) (b.map .int))=_
  rw[zma a b,show PyData.eqv (.int x) (.int y)=decide (x=y) from rfl]
  by_cases e:x=y
  ·subst e;simp
  ·simp [e]
theorem zru {n:Int}{ts:List Tie}(ok:WebOk n ts){u v j k:Nat}(hj:j<ts.length)(hk:k<ts.length)(h1:isTB ts u v j=true)(h2:isTB ts u v k=true):j=k:=by
 unfold isTB at h1 h2
 obtain⟨a1,b1⟩:=(ubd _ _).mp h1
 obtain⟨a2,b2⟩:=(ubd _ _).mp h2
 have ea:(tieAt ts j).1=(tieAt ts k).1:=(of_decide_eq_true a1).trans (of_decide_eq_true a2).symm
 have eb:(tieAt ts j).2.1=(tieAt ts k).2.1:=(of_decide_eq_true b1).trans (of_decide_eq_true b2).symm
 clear a1 a2 b1 b2 h1 h2
 have pw:=ucd.mp ok.rise
 have g:∀ {i:Nat}(hi:i<ts.length),ts[i]=tieAt ts i:=λ {i} hi=>by
  have:=(zav hi).1
  rw[uaf hi] at this
  exact ua3 this
 rcases udx j k with z | z | z
 ·have q:=pw j k hj hk z
  rw[g hj,g hk] at q
  unfold endLt at q
  left
 ·exact z
 ·have q:=pw k j hk hj z
  rw[g hj,g hk] at q
  unfold endLt at q
  left
section
variable {g:TG}{tt:TT}{te:TE}{own:List Str}{js:List Nat}{σ:L2.St}{H1:Hp}{Q:VK}
end
def RowV (lo hi:Nat)(J:Hp)(v:V):Prop:=∃ (p:Addr)(ns:List Int),v=.ref p/\J p=some (.tup (ns.map V.int))/\lo<=ns.length/\ns.length<=hi
mutual
theorem Is.tk {K:uad}{H H':Hp}(e:TupKeep H H'):∀ (d:PyData){v:V},tupD d=true->Is K H d v->Is K H' d v
 | .none,_,_,h=>h
 | .bool _,_,_,h=>h
 | .int _,_,_,h=>h
 | .str _,_,_,h=>h
 | .tuple ds,_,t,h=>let ⟨q,vs,q1,q2,q3⟩:=h;⟨q,vs,q1,e _ _ q2,IsAll.tk e ds t q3⟩
 | .list ds,_,t,h=>by cases t
 | .dict _,_,t,h=>by cases t
theorem IsAll.tk {K:uad}{H H':Hp}(e:TupKeep H H'):∀ (ds:List PyData){vs:List V},tupAll ds=true->IsAll K H ds vs->IsAll K H' ds vs
 | [],_,_,h=>h
 | d::ds,_,t,h=>by
  have t':(tupD d&&tupAll ds)=true:=t
  rw[ubd] at t'
  obtain⟨v,r,q1,q2,q3⟩:=h
  exact⟨v,r,q1,Is.tk e d t'.1 q2,IsAll.tk e ds t'.2 q3⟩
end
end L3
namespace Peel
abbrev T2:=Nat × Nat
def hit (gone:List Nat)(p:Nat)(t:T2):Bool:=(t.1==p&&!gone.contains t.2)||(t.2==p&&!gone.contains t.1)
def deg (ts:List T2)(gone:List Nat)(p:Nat):Nat:=ts.countP (hit gone p)
def may (ts:List T2)(d:Int)(gone:List Nat)(p:Nat):Bool:=!gone.contains p&&decide ((deg ts gone p:Int)<=d)
def next (n:Nat)(ts:List T2)(d:Int)(gone:List Nat):Option Nat:=(uac n).find? (may ts d gone)
def run (n:Nat)(ts:List T2)(d:Int):Nat->List Nat->List Nat
 | 0,g=>g
 | f+1,g=>match next n ts d g with
  | none=>g
  | some p=>run n ts d f (g++[p])
section
variable {n:Nat}{ts:List T2}{d:Int}{g:List Nat}{p:Nat}
def Good (n:Nat)(g:List Nat):Prop:=g.Nodup/\∀ p∈g,p<n
theorem zd0:∀ (n:Nat)(g:List Nat),g.Nodup->(∀ p∈g,p<n)->g.length<=n
 | 0,[],_,_=>uai _
 | 0,p::_,_,h=>absurd (h p uan) (ueu _)
 | n+1,g,nd,h=>by
  have h1:=zd0 n (g.filter λ p=>p != n) (nd.filter _) λ p hp=>by
   have:=uaz.mp hp
   have a:=h p this.1
   have b:p≠n:=by simpa using this.2
   left
  have e:g.length=(g.filter λ p=>p != n).length+g.countP (λ p=>p==n):=by
   rw[← uep]
   have:=List.length_eq_countP_add_countP (λ p=>p==n) (l:=g)
   have e2:g.countP (λ p=>decide ¬(p==n)=true)=g.countP λ p=>p != n:=List.countP_congr λ x _=>by simp
   rw[e2] at this
   left
  have c:g.countP (λ p=>p==n)<=1:=by
   have:=List.nodup_iff_count.mp nd n
   exact this
  left
def gone (n:Nat)(ts:List T2)(d:Int):List Nat:=run n ts d n []
end
end Peel
namespace L3
open PySem PySem.Spec PyProof.Rows L2
def nb1 (ts:List Tie)(p:Int)(k:Nat):Option Nat:=if (tieAt ts k).1=p then some (tieAt ts k).2.1.toNat else none
def nb2 (ts:List Tie)(p:Int)(k:Nat):Option Nat:=if (tieAt ts k).2.1=p then some (tieAt ts k).1.toNat else none
def nbN (ts:List Tie)(ks:List Nat)(p:Int):List Nat:=ks.filterMap (nb1 ts p)++ks.filterMap (nb2 ts p)
def spNeigh (K:uad):Sp:=λ vs H Q _=>∃ n ts ks wv kv p,vs=[wv,kv,.int p]/\WK K H n ts ks wv kv/\∀ l H',Same H H'->H l=none->H' l=some (.lst (natV (nbN ts ks p)))->Q (.ref l) H'
def t2s (ts:List Tie)(ks:List Nat):List Peel.T2:=ks.map λ k=>((tieAt ts k).1.toNat,(tieAt ts k).2.1.toNat)
section
variable {g:TG}{tt:TT}{te:TE}{own:List Str}{js:List Nat}{σ:L2.St}{H1:Hp}{Q:VK}
theorem zd6 {K:uad}{a:Addr}{xs:List V}(hx:H1 a=some (.lst xs))(Sg:L2.St->Prop)(sel:Nat->Option V)(hn:xs.length<=1000)(h0:Sg (start3 own js σ))
  (step:∀ i x σ' H',xs[i]?=some x->Same H1 H'->Sg σ'->∀ (C:L2.St->V->Hp->Prop)(L:L2.St->Hp->Prop),(∀ σ3 v H5,Sg σ3->Same H' H5->sel i=some v->C σ3 v H5)->(∀ σ3 H5,Sg σ3->Same H' H5->sel i=none->L σ3 H5) ->
   g x σ' H' λ σ3 H3=>tt σ3 H3 λ b H4=>if b=true then te σ3 H4 λ v H5=>C σ3 v H5 else L σ3 H4)
  (fin:∀ D H',H1 D=none->Same H1 H'->H' D=some (.lst ((uac xs.length).filterMap sel))->Q (.ref D) H'):CompGo own js g tt te σ Q (Itl K a) H1:=by
 refine zew xs.length Sg sel hn h0 (λ i H' hi s=>⟨xs,xs[i],SqL.of (s _ _ hx),by simp [hi]⟩) (λ H' s=>⟨xs,SqL.of (s _ _ hx),uai _⟩) (λ i x σ' H' H2 hi s hy sg C L hC hL=>?_) fin
 obtain⟨rfl,hy⟩:=hy
 exact step i x σ' _ (hy xs (SqL.of (s _ _ hx))) s sg C L hC hL
end
theorem zit {α β:Type}(f:α->Option β)(d:α):∀ ks:List α,(uac ks.length).filterMap (λ i=>f (ks.getD i d))=ks.filterMap f:=λ ks=>by
 have e:=congrArg (uft f) (zbd ks d)
 rw[uf2] at e
 exact e
end L3
namespace Lr
open Far (chn zcq zcc zfl zjn RingOf)
section
variable {R:Nat->Nat->Prop}
structure Rg (R:Nat->Nat->Prop)(h:Nat)(tl:List Nat):Prop where
 len:2<=tl.length
 nd:(h::tl).Nodup
 ch:chn R (h::tl++[h])
def Cano (h:Nat)(tl:List Nat):Prop:=(∀ v∈tl,h<v)/\∃ x m y,tl=x::(m++[y])/\x<y
def stepW (rows:Nat->List Nat)(w:List Nat):List (List Nat):=((rows (w.getLast?.getD 0)).filter λ o=>decide (w.headD 0<o)&&!decide (o∈w)).map λ o=>w++[o]
def ways (rows:Nat->List Nat)(n:Nat):Nat->List (List Nat)
 | 0=>(uac n).map λ v=>[v]
 | s+1=>(ways rows n s).flatMap (stepW rows)
structure PW (R:Nat->Nat->Prop)(n:Nat)(w:List Nat):Prop where
 ne:w≠[]
 nd:w.Nodup
 ch:chn R w
 lt:∀ v∈w,v<n
 up:∀ h t,w=h::t->∀ v∈t,h<v
section
variable {rows:Nat->List Nat}{n:Nat}
end
end
end Lr
namespace Lr
open Far (chn zcq zcc zfl zjn RingOf)
def lle:List Nat->List Nat->Prop
 | [],_=>True
 | _::_,[]=>False
 | a::l,b::m=>a<b\/(a=b/\lle l m)
section
variable {R:Nat->Nat->Prop}
structure Sh (R:Nat->Nat->Prop)(z v:Nat)(l:List Nat):Prop where
 ch:chn R (v::l)
 last:(v::l).getLast?=some z
 min:∀ l',chn R (v::l')->(v::l').getLast?=some z->l.length<=l'.length
theorem zd3 {u v:Nat}{l:List Nat}:(v::u::l).getLast?=(u::l).getLast?:=by simp
theorem Sh.tail {z v u:Nat}{l:List Nat}(h:Sh R z v (u::l)):Sh R z u l :=
 ⟨h.ch.2,by rw[← zd3 (v:=v)];exact h.last,λ l' c e=>by
  have:=h.min (u::l') ⟨h.ch.1,c⟩ (by rw[zd3];exact e)
  simpa using this⟩
theorem Sh.nodup {z:Nat}:∀ {l:List Nat}{v:Nat},Sh R z v l->(v::l).Nodup
 | [],v,_=>by simp
 | u::l,v,h=>by
  refine ubw.mpr ⟨λ m=>?_,h.tail.nodup⟩
  obtain⟨p,q,e⟩:=List.append_of_mem m
  have c:=h.ch
  have la:=h.last
  rw[e] at c la
  have c2:chn R (v::q):=(zcc (l:=v::p) (x:=v) (m:=q) (by simpa using c)).2
  have l2:(v::q).getLast?=some z:=by
   rw[← la,← List.cons_append,List.getLast?_append]
   have:(v::q).getLast?=some ((v::q).getLast (by simp)):=List.getLast?_eq_some_getLast (by simp)
   rw[this];rfl
  have:=h.min q c2 l2
  have le:=congrArg List.length e
  simp only [uaq,ua5] at this le
  left
def Ds (R:Nat->Nat->Prop)(z:Nat)(D:Nat->Option Nat):Prop:=∀ v,(∀ m,D v=some m->∃ l,chn R (v::l)/\(v::l).getLast?=some z/\l.length=m)/\∀ l,chn R (v::l)->(v::l).getLast?=some z->∃ m,D v=some m/\m<=l.length
def Rm (R:Nat->Nat->Prop)(a b u v:Nat):Prop:=R u v/\¬ (u=a/\v=b)/\¬ (u=b/\v=a)
end
end Lr
namespace Lr
open Far (chn zcq zcc zfl zjn RingOf)
structure Ties (R:Nat->Nat->Prop)(ks:List Nat)(ends:Nat->Nat × Nat):Prop where
 sy:∀ u v,R u v->R v u
 of:∀ k∈ks,(ends k).1<(ends k).2/\R (ends k).1 (ends k).2
 to:∀ u v,R u v->u<v->∃ k∈ks,ends k=(u,v)
 up:∀ k∈ks,∀ j∈ks,k<=j->(ends k).1<(ends j).1\/((ends k).1=(ends j).1/\(ends k).2<=(ends j).2)
section
variable {R:Nat->Nat->Prop}{ks:List Nat}{ends:Nat->Nat × Nat}
end
section
variable {R:Nat->Nat->Prop}{rows:Nat->List Nat}{n:Nat}
end
end Lr
namespace L3
open PySem PySem.Spec PyProof.Rows L2
section
variable {own:List Str}{js:List Nat}{g:TG}{te:TE}{σ:L2.St}{Q:VK}{H1:Hp}
theorem zk6 {lo:Int}{n:Nat}(Sg:L2.St->Prop)(hn:n<=1000)(h0:Sg (start3 own js σ))
  (step:∀ i σ' H',i<n->Same H1 H'->Sg σ'->∀ C:L2.St->V->Hp->Prop,(∀ σ3 l H5,Sg σ3->Same H' H5->H' l=none->H5 l=some (.lst [])->C σ3 (.ref l) H5)->g (.int (lo+i)) σ' H' λ σ3 H3=>te σ3 H3 λ v H5=>C σ3 v H5)
  (fin:∀ D (as:List Addr) H',H1 D=none->Same H1 H'->H' D=some (.lst (as.map V.ref))->as.length=n->as.Nodup->D∉as->(∀ a∈as,H1 a=none/\H' a=some (.lst []))->Q (.ref D) H'):CompGo own js g tTrue te σ Q (Itr lo n) H1:=by
 intro D hD
 refine⟨λ i m ys σ' H'=>m=n-i/\i<=n/\Sg σ'/\Same H1 H'/\∃ as:List Addr,ys=as.map V.ref/\as.length=i/\as.Nodup/\D∉as/\∀ a∈as,H1 a=none/\H' a=some (.lst []),⟨n,rfl,ubj _,h0,zam hD,[],rfl,rfl,ud1,(by simp),λ a h=>by cases h⟩,?_⟩
 rintro i m ys σ' H' ⟨rfl,hi,sg,sm,as,rfl,hl,nd,nD,hr⟩ hd
 have lys:(as.map V.ref).length=as.length:=uae _
 by_cases hlt:i<n
 ·refine .inr ⟨hlt,λ x H2 hy=>?_⟩
  obtain⟨rfl,rfl⟩:=hy
  refine step i σ' _ hlt sm sg (λ σ3 v H5=>H5 D=some (.lst (as.map V.ref))/\(as.map V.ref).length<sizeLine/\∃ m',m'<n-i/\(m'=n-(i+1)/\i+1<=n/\Sg σ3/\Same H1 (upd H5 D (.lst (as.map V.ref++[v])))/\∃ bs:List Addr,as.map V.ref++[v]=bs.map V.ref/\bs.length=i+1/\bs.Nodup/\D∉bs/\∀ a∈bs,H1 a=none/\upd H5 D (.lst (as.map V.ref++[v])) a=some (.lst []))) λ σ3 l H5 sg3 s5 fl hL=>?_
  have hd5:=s5 _ _ hd
  have nlD:l≠D:=λ z=>by rw[z,hd] at fl;cases fl
  have nla:l∉as:=λ z=>by rw[(hr l z).2] at fl;cases fl
  refine⟨hd5,ucb (by left:(as.map V.ref).length<=1000) (by decide),n-(i+1),by left,rfl,hlt,sg3,λ b o e=>?_,as++[l],by rw[ubc];rfl,by rw[uaq,hl];rfl,?_,?_,λ a ha=>?_⟩
  ·rw[zas (zal e hD)];exact s5 _ _ (sm _ _ e)
  ·exact uch.mpr ⟨nd,(by simp),λ a ha b hb e=>by
    have:b=l:=by simpa using hb
    subst this;subst e;exact nla ha⟩
  ·intro z
   rcases ua6.mp z with z | z
   ·exact nD z
   ·exact nlD (uav.mp z).symm
  ·rcases ua6.mp ha with z | z
   ·have ne:a≠D:=λ x=>nD (x ▸ z)
    exact⟨(hr a z).1,by rw[zas ne];exact s5 _ _ (hr a z).2⟩
   ·have:a=l:=uav.mp z
    subst this
    exact⟨sm.free fl,by rw[zas nlD];exact hL⟩
 ·have e:i=n:=by left
  subst e
  exact .inl ⟨uai _,fin D as H' hD sm hd hl nd nD hr⟩
end
structure Bes (H:Hp)(l:Addr)(as:List Addr)(rows:Nat->List V):Prop where
 top:H l=some (.lst (as.map V.ref))
 nd:as.Nodup
 own:l∉as
 row:∀ i a,as[i]?=some a->H a=some (.lst (rows i))
theorem Bes.new {H:Hp}{l:Addr}{as:List Addr}(h:H l=some (.lst (as.map V.ref)))(nd:as.Nodup)(no:l∉as)(r:∀ a∈as,H a=some (.lst [])):Bes H l as λ _=>[]:=⟨h,nd,no,λ _ a e=>r a (uat e)⟩
theorem Bes.same {H H':Hp}{l:Addr}{as:List Addr}{rows:Nat->List V}(b:Bes H l as rows)(S:Same H H'):Bes H' l as rows:=⟨S _ _ b.top,b.nd,b.own,λ i a e=>S _ _ (b.row i a e)⟩
theorem Bes.ix {H:Hp}{l:Addr}{as:List Addr}{rows:Nat->List V}(b:Bes H l as rows){i:Nat}(h:i<as.length):∃ a,as[i]?=some a/\(as.map V.ref)[i]?=some (.ref a)/\H a=some (.lst (rows i)):=by
 refine⟨as[i],uaf h,by rw[uak,uaf h];rfl,b.row i _ (uaf h)⟩
theorem Bes.put {H H':Hp}{l:Addr}{as:List Addr}{rows:Nat->List V}(b:Bes H l as rows){i:Nat}{a:Addr}{xs:List V}(ha:as[i]?=some a)(B:But a H H')(e:H' a=some (.lst xs)):Bes H' l as λ j=>if j=i then xs else rows j:=by
 have nl:l≠a:=λ z=>b.own (z ▸ uat ha)
 refine⟨B _ _ nl b.top,b.nd,b.own,λ j c hc=>?_⟩
 by_cases z:j=i
 ·subst z
  rw[hc] at ha;cases ha
  rw[if_pos rfl];exact e
 ·rw[if_neg z]
  refine B _ _ (λ x=>z ?_) (b.row j c hc)
  subst x
  obtain⟨h1,e1⟩:=ual.mp hc
  obtain⟨h2,e2⟩:=ual.mp ha
  have pw:=ucd.mp b.nd
  rcases udx j i with z | z | z
  ·exact absurd (e1.trans e2.symm) (pw j i h1 h2 z)
  ·exact z
  ·exact absurd (e2.trans e1.symm) (pw i j h2 h1 z)
theorem zev {n:Int}{ts:List Tie}(ok:WebOk n ts){k k' a b:Nat}{l l':Int}(hk:k<ts.length)(hk':k'<ts.length)(h:(a,b,l)∈arcs2 (tieAt ts k))(h':(a,b,l')∈arcs2 (tieAt ts k')):k=k':=by
 have t1:=ok.tie _ (zav hk).2
 have t2:=ok.tie _ (zav hk').2
 have E:=λ z=>ztk t1.1 t1.2.1 t2.1 t2.2.1 z
 have e:(tieAt ts k).1=(tieAt ts k').1/\(tieAt ts k).2.1=(tieAt ts k').2.1:=by
  rcases arcs2_mem.mp h with e | e <;> rcases arcs2_mem.mp h' with e' | e' <;> injection e with e1 e2 <;> injection e2 with e2 _ <;> injection e' with e3 e4 <;> injection e4 with e4 _
  ·exact E (.inl ⟨e1.symm.trans e3,e2.symm.trans e4⟩)
  ·exact E (.inr ⟨e1.symm.trans e3,e2.symm.trans e4⟩)
  ·exact E (.inr ⟨e2.symm.trans e4,e1.symm.trans e3⟩)
  ·exact E (.inl ⟨e2.symm.trans e4,e1.symm.trans e3⟩)
 exact zli ok hk hk' e.1 e.2
def Uniq (ts:List Tie)(ks:List Nat)(j m:Nat):Prop:=∃ cs:List Nat,cs.Nodup/\cs.length=m/\∀ c∈cs,∃ k∈ks,∃ l,(j,c,l)∈arcs2 (tieAt ts k)
section
variable {X:Cx}
inductive rExtendB_i  (x:V) (vs:List V) (H:Hp) (Q:VK):Prop
 | mk:∀ l b xs zs,(x=.ref l)->(vs=[.ref b])->(H l=some (.lst xs))->(H b=some (.lst zs))->(xs.length+zs.length<=10^7)->(∀ H',But l H H'->H' l=some (.lst (xs++zs))->Q .non H')->rExtendB_i x vs H Q
def rExtendB :V->List V->Hp->VK->Prop:=λ x vs H Q=>rExtendB_i x vs H Q
theorem zgq:MtM X "list.extend" rExtendB:=by
 intro pins s σ H x vs v us Q I rx rv h
 obtain⟨l,b,xs,zs,rfl,rfl,hH,hB,hz,q⟩:=h
 exact zjb (X:=X) pins s σ H _ _ v us Q I rx rv ⟨l,b,xs,zs,rfl,rfl,hH,hB,ubr hz (by decide),q _ But.upd zaj⟩
end
def Adj (ts:List Tie)(ks:List Nat)(u v:Nat):Prop:=∃ k∈ks,(u,v,(tieAt ts k).2.2)∈arcs2 (tieAt ts k)
def en (ts:List Tie)(k:Nat):Nat × Nat:=((tieAt ts k).1.toNat,(tieAt ts k).2.1.toNat)
def ones (ts:List Tie):List Tie:=ts.map λ t=>(t.1,t.2.1,1)
section
variable {n:Int}{ts:List Tie}{ks:List Nat}{u v k:Nat}
theorem a2_iff {t:Tie}:(u,v,t.2.2)∈arcs2 t↔(u=t.1.toNat/\v=t.2.1.toNat)\/(u=t.2.1.toNat/\v=t.1.toNat):=by
 rw[arcs2_mem]
 refine or_congr ⟨λ e=>?_,λ e=>by rw[e.1,e.2]⟩ ⟨λ e=>?_,λ e=>by rw[e.1,e.2]⟩ <;> (injection e with e1 e2;injection e2 with e2 _;exact⟨e1,e2⟩)
theorem zp2 (u v:Nat)(h:Adj ts ks u v):Adj ts ks v u:=by
 obtain⟨k,hk,m⟩:=h
 exact⟨k,hk,a2_iff.mpr ((a2_iff.mp m).symm.imp (λ z=>⟨z.2,z.1⟩) λ z=>⟨z.2,z.1⟩)⟩
theorem zp3 (ok:WebOk n ts)(ko:KeepOk ts.length ks)(u v:Nat)(h:Adj ts ks u v):v<n.toNat:=by
 obtain⟨k,hk,m⟩:=h
 exact (zpx ok ko _ _ _ (arcs_mem.mpr ⟨k,hk,m⟩)).2
theorem zul (ok:WebOk n ts)(hk:k<ts.length):(en ts k).1<(en ts k).2/\(en ts k).2<n.toNat/\(((en ts k).1:Nat):Int)=(tieAt ts k).1/\(((en ts k).2:Nat):Int)=(tieAt ts k).2.1:=by
 have tk:=ok.tie _ (zav hk).2
 unfold en
 simp only
 left
theorem za0:(ones ts).length=ts.length:=uae _
theorem zg9 (h:k<ts.length):tieAt (ones ts) k=((tieAt ts k).1,(tieAt ts k).2.1,1):=by
 have h1:=(zav h).1
 have h2:=(zav (ts:=ones ts) (k:=k) (by rw[za0];exact h)).1
 unfold ones at h2 ⊢
 rw[uak,h1] at h2
 exact (ua3 h2).symm
theorem zcj (ok:WebOk n ts):WebOk n (ones ts):=by
 refine⟨ok.n1,ok.n24,?_,by rw[za0];exact ok.few,λ t ht=>?_⟩
 ·unfold ones
  exact List.Pairwise.map _ (λ _ _ h=>h) ok.rise
 ·obtain⟨t0,h0,rfl⟩:=ube.mp ht
  have:=ok.tie _ h0
  exact⟨this.1,this.2.1,this.2.2.1,by show (1:Int)<=1;decide,by show (1:Int)<=10^18;decide⟩
theorem zcn (ko:KeepOk ts.length ks){l:Int}:(u,v,l)∈arcs (ones ts) ks↔l=1/\Adj ts ks u v:=by
 rw[arcs_mem]
 constructor
 ·rintro ⟨k,hk,m⟩
  rw[zg9 (ko.2 k hk)] at m
  have el:l=1:=by rcases arcs2_mem.mp m with e | e <;> (injection e with _ e;injection e)
  subst el
  have:=(a2_iff (t:=((tieAt ts k).1,(tieAt ts k).2.1,1))).mp m
  exact⟨rfl,k,hk,a2_iff.mpr this⟩
 ·rintro ⟨rfl,k,hk,m⟩
  refine⟨k,hk,?_⟩
  rw[zg9 (ko.2 k hk)]
  have:=(a2_iff (t:=tieAt ts k)).mp m
  exact (a2_iff (t:=((tieAt ts k).1,(tieAt ts k).2.1,1))).mpr this
theorem zjm (ok:WebOk n ts)(ko:KeepOk ts.length ks):∀ {l:List Nat}{v:Nat},v<n.toNat->Far.chn (Adj ts ks) (v::l)->∀ x∈v::l,x<n.toNat
 | [],v,hv,_,x,hx=>by rw[uav.mp hx];exact hv
 | u::l,v,hv,c,x,hx=>by
  rcases uar.mp hx with z | z
  ·rw[z];exact hv
  ·exact zjm ok ko (zp3 ok ko _ _ c.1) c.2 x z
theorem zty (ok:WebOk n ts)(ko:KeepOk ts.length ks){z:Nat}{l:List Nat}(hv:v<n.toNat)(h:Lr.Sh (Adj ts ks) z v l):(v::l).length<=n.toNat:=Peel.zd0 _ _ h.nodup (zjm ok ko hv h.ch)
theorem zp8 (ko:KeepOk ts.length ks){z:Nat}{x:Int}(h:Far.Walk (arcs (ones ts) ks) z v x):∃ l,Far.chn (Adj ts ks) (v::l)/\(v::l).getLast?=some z/\(l.length:Int)=x:=by
 induction h with
 | nil=>exact⟨[],trivial,rfl,rfl⟩
 | @snoc u v l x _ m ih =>
  obtain⟨p,c,la,len⟩:=ih
  obtain⟨rfl,a⟩:=(zcn ko).mp m
  exact⟨u::p,⟨zp2 _ _ a,c⟩,by rw[Lr.zd3];exact la,by rw[ua5];left⟩
theorem zmk (ko:KeepOk ts.length ks){z:Nat}:∀ {l:List Nat}{v:Nat},Far.chn (Adj ts ks) (v::l)->(v::l).getLast?=some z->Far.Walk (arcs (ones ts) ks) z v (l.length:Int)
 | [],v,_,e=>by
  have:v=z:=by simpa using e
  subst this
  exact .nil
 | u::l,v,c,e=>by
  have:=zmk ko c.2 (by rw[← Lr.zd3 (v:=v)];exact e)
  have s:=Far.Walk.snoc this ((zcn ko).mpr ⟨rfl,zp2 _ _ c.1⟩)
  rw[ua5]
  rw[show ((l.length+1:Nat):Int)=(l.length:Int)+1 by left]
  exact s
theorem zpb (ko:KeepOk ts.length ks){z:Nat}{o:Option Int}(d:Far.Dst (arcs (ones ts) ks) z v o):(∀ x,o=some x->∃ l,Far.chn (Adj ts ks) (v::l)/\(v::l).getLast?=some z/\(l.length:Int)=x)/\∀ l,Far.chn (Adj ts ks) (v::l)->(v::l).getLast?=some z->∃ x,o=some x/\x<=(l.length:Int) :=
 ⟨λ x e=>zp8 ko (d.1 x e),λ l c e=>d.2 _ (zmk ko c e)⟩
theorem zoo (ok:WebOk n ts)(ko:KeepOk ts.length ks)(p q:Nat):q∈nbN ts ks (p:Int)↔Adj ts ks p q:=by
 unfold nbN
 rw[ua6,ub3,ub3]
 have e1:∀ k∈ks,(nb1 ts (p:Int) k=some q↔p=(tieAt ts k).1.toNat/\q=(tieAt ts k).2.1.toNat):=λ k hk=>by
  have tk:=ok.tie _ (zav (ko.2 k hk)).2
  unfold nb1
  by_cases c:(tieAt ts k).1=(p:Int)
  ·rw[if_pos c]
   exact⟨λ z=>⟨by left,(ua3 z).symm⟩,λ z=>by rw[z.2]⟩
  ·rw[if_neg c]
   exact⟨λ z=>(by cases z),λ z=>absurd (by left) c⟩
 have e2:∀ k∈ks,(nb2 ts (p:Int) k=some q↔p=(tieAt ts k).2.1.toNat/\q=(tieAt ts k).1.toNat):=λ k hk=>by
  have tk:=ok.tie _ (zav (ko.2 k hk)).2
  unfold nb2
  by_cases c:(tieAt ts k).2.1=(p:Int)
  ·rw[if_pos c]
   exact⟨λ z=>⟨by left,(ua3 z).symm⟩,λ z=>by rw[z.2]⟩
  ·rw[if_neg c]
   exact⟨λ z=>(by cases z),λ z=>absurd (by left) c⟩
 constructor
 ·rintro (⟨k,hk,h⟩ | ⟨k,hk,h⟩)
  ·exact⟨k,hk,a2_iff.mpr (.inl ((e1 k hk).mp h))⟩
  ·exact⟨k,hk,a2_iff.mpr (.inr ((e2 k hk).mp h))⟩
 ·rintro ⟨k,hk,h⟩
  rcases a2_iff.mp h with z | z
  ·exact .inl ⟨k,hk,(e1 k hk).mpr z⟩
  ·exact .inr ⟨k,hk,(e2 k hk).mpr z⟩
end
theorem zb4 {K:uad}{H:Hp}{p:Addr}{ks:List Nat}(h:H p=some (.tup (natV ks))):Is K H (keepD ks) (.ref p):=⟨p,_,rfl,h,by rw[za4];exact IsAll.ints _⟩
def IsLR (ts:List Tie)(ks:List Nat)(h:Nat)(tl:List Nat):Prop:=Lr.Rg (Adj ts ks) h tl/\Lr.Cano h tl/\(∀ h' tl',Lr.Rg (Adj ts ks) h' tl'->tl.length<=tl'.length)/\∀ h' tl',Lr.Rg (Adj ts ks) h' tl'->Lr.Cano h' tl'->tl'.length=tl.length->Lr.lle (h::tl) (h'::tl')
section
variable {J:It}{g:TG}{tt:TT}{te:TE}{own:List Str}{js:List Nat}{σ:L2.St}{H1:Hp}{Q:VK}
end
end L3
namespace Stb
open PySem PyProof.Rows
section
variable {prog:Program}{w:World}{A:Around}{E:Value->Shared->Prop}{s:Shared}
theorem zr0 {t:Addr}{xs:Array Value}{ns:List Int}{Q:Value->Shared->Prop}(hh:A.handled=none)(ht:s.heap.IsList t xs)(hi:IntsAre xs.toList ns)(hb:xs.size+1<scanBound)
  (fin:∀ (h':Heap)(tk:Nat),SetT prog w h' s.heap.objs.size (HT.setS ns xs.size) (HT.setN ns xs.size)->(∀ b o,b<s.heap.objs.size->s.heap.get? b=some o->h'.get? b=some o)->Q (.ref s.heap.objs.size) { s with heap:=h',toks:=tk }) :
  wpAny (model prog w) A (call (.type "set") [.ref t]) Q E s:=by
 obtain⟨c,tl,hmro⟩:=ua2.mro
 have hmade:=ua2.made;have hsub:=ua2.sub
 refine wpAny_call (ufw ?_);show wpAny _ _ (callAny (.type "set") _) _ _ _
 refine uag ⟨Code.quiet_builtin _ (by symm),ucu ue2 ?_⟩
 rw[Around.under_plain (ueq "set" [.ref t] []) rfl]
 have h1:=ua2.notType;have h2:=ua2.canCreate;have hct:=ue7 (.ref t)
 repeat (any_goals (first | assumption | wp_step))
 refine udr (zuc (.ref t) (E:=E) (U:=λ obj s₁=>obj=.ref s.heap.objs.size/\s₁={ s with heap:=s.heap.push (emp w) }) ⟨rfl,rfl⟩) λ r s₁ hr=>?_
 match r,hr with
 | .error e,hr=>exact hr
 | .ok .next,hr=>exact hr.elim
 | .ok .brk,hr=>exact hr.elim
 | .ok .cont,hr=>exact hr.elim
 | .ok (.ret obj),hr =>
  obtain⟨rfl,rfl⟩:=hr
  have gS:(s.heap.push (emp w)).get? s.heap.objs.size=some (emp w):=Heap.get?_push_size _ rfl
  have hT:Shared.TypeIs { s with heap:=s.heap.push (emp w) } (.ref s.heap.objs.size) "set":=⟨_,gS,rfl⟩
  have hli:=ua2.init.lookup;have hbi:=ua2.init.bind (.ref s.heap.objs.size)
  repeat (any_goals (first | assumption | wp_step))
  refine udr (uf4 (R:=wants (λ r s₂=>r=.none/\∃ h' tk,s₂={ s with heap:=h',toks:=tk }/\SetT prog w h' s.heap.objs.size (HT.setS ns xs.size) (HT.setN ns xs.size)/\(∀ b o,b<s.heap.objs.size->s.heap.get? b=some o->h'.get? b=some o)) E) ua2.init.plain ue8 (uff hT ?_)) λ r₂ s₂ hr₂=>?_
  ·obtain⟨ot,ho,hc,m,hd⟩:=id ht
   obtain⟨ocls,odict,odata,oslots⟩:=ot
   simp only at hc hd;subst hc hd
   have ho':(s.heap.push (emp w)).get? t=some { cls:=.type "list",dict:=odict,data:=.seq xs m,slots:=oslots }:=Heap.get?_push_of_some _ ho
   have f1:=PySem.F.sub_list_set;have f2:=PySem.F.sub_list_frozenset
   have f3:(Value.type "list"==Value.type "dict")=false:=by decide
   have it1:(s.heap.push (emp w)).IsList t xs:=⟨_,ho',rfl,m,rfl⟩
   unfold Builtin.«set.__init__» noKeywords Builtin.Frozenset.updateFrom
   generalize hPI:pyIter=PI
   wp_walk;subst hPI
   refine ud3 it1 (uab (ufd ?_))
   have lt:t<s.heap.objs.size:=Heap.lt_size ho
   have hh3:A.in1.in1.in1.handled=none:=by simp [hh]
   have sz1:(s.heap.push (emp w)).objs.size=s.heap.objs.size+1:=Heap.size_push ..
   have tI:t≠(s.heap.push (emp w)).objs.size:=by rw[sz1];exact uau (ub1 lt)
   have Sfp:s.heap.objs.size∉[(s.heap.push (emp w)).objs.size,t]:=by
    rw[sz1];simp only [uar,ua1,or_false,not_or];exact⟨uau (uc5 _),(uau lt).symm⟩
   have vals:∀ (i:Nat)(v:Value),xs[i]?=some v->∃ u,v=.int ((λ i=>ns.getD i 0) i) u:=λ i v hv=>IntsAre.int_at hi i v (by rw[ucg];exact hv)
   refine zsa ((Walks.list hh3 _ t tI xs).toS) s.heap.objs.size Sfp (λ i=>ns.getD i 0) vals hb (xs.size-0) 0 _ (by left) (ubj _) ?st ?s0 ?fin
   case st=>exact⟨⟨_,Heap.get?_push_size _ rfl,rfl,rfl⟩,it1.push _⟩
   case s0=>exact (zum s.heap).keep λ o e=>Heap.get?_push_of_some _ e
   case fin =>
    rintro ⟨h',g',d',tk',os'⟩ hm hS'
    obtain rfl:g'=s.gens:=hm.gens
    obtain rfl:d'=s.drawn:=hm.drawn
    obtain rfl:os'=s.os:=hm.os
    refine uag (uag ⟨rfl,h',tk',rfl,hS',λ b o hlt e=>hm.heap b o ?_ (Heap.get?_push_of_some _ (Heap.get?_push_of_some _ e))⟩)
    rw[sz1];simp only [uar,ua1,or_false,not_or]
    exact⟨uau hlt,uau (ub1 hlt)⟩
  ·match r₂,hr₂ with
   | .error e,hr₂=>exact hr₂
   | .ok .next,hr₂=>exact hr₂.elim
   | .ok .brk,hr₂=>exact hr₂.elim
   | .ok .cont,hr₂=>exact hr₂.elim
   | .ok (.ret v),hr₂ =>
    obtain⟨rfl,h',tk,rfl,hS',hk⟩:=hr₂
    repeat (any_goals (first | assumption | wp_step))
    exact fin h' tk hS' hk
end
end Stb
namespace L3
open PySem PySem.Spec PyProof.Rows L2
section
variable {X:Cx}
theorem zek (hh:X.calm=true):CallR X (.type "set") (λ xs H Q=>∃ (p:Addr)(ns:List Int),xs=[.ref p]/\H p=some (.lst (ns.map V.int))/\ns.length<=1000/\∀ q H',Same H H'->H q=none->H' q=some (SetO X.prog X.w q (HT.setS ns ns.length) (HT.setN ns ns.length))->Q (.ref q) H'):=by
 intro pins s σ H xs us Q I r h
 obtain⟨p,ns,rfl,hp,hl,q⟩:=h
 obtain⟨u,rfl,rx⟩:=vals1 r
 cases rx
 obtain⟨its,rv,pt,hz⟩:=I.list (SqL.of hp)
 have hlen:=rv.length
 rw[uae] at hlen
 have fr:H s.heap.objs.size=none:=I.hok.fresh (uai _)
 have esz:its.toArray.size=ns.length:=by rw[uao,← hlen]
 refine Stb.zr0 (ns:=ns) (I.ok.hd hh) (show s.heap.IsList p its.toArray from pt.isList) (by simpa using zbw rv) (by rw[esz];unfold scanBound;left) λ h' tk hS hk=>?_
 rw[esz] at hS
 refine⟨.ref s.heap.objs.size,_,I.laid (a:=s.heap.objs.size) (o:=SetO X.prog X.w s.heap.objs.size (HT.setS ns ns.length) (HT.setN ns ns.length)) (t':=tk) (λ b o e=>hk b o (Heap.lt_size e) e) (uai _) ⟨hS,?_,λ h1 h2 x k=>x.keep k⟩,rfl,q _ _ (zam fr) fr zaj⟩
 obtain⟨⟨o,_,_,_,ho,_⟩,_⟩:=hS
 exact⟨o,ho⟩
end
end L3
namespace Far
variable {A:List (Nat × Nat × Int)}{s:Nat}
def Unit1 (A:List (Nat × Nat × Int)):Prop:=∀ u v l,(u,v,l)∈A->l=1
def AtK (A:List (Nat × Nat × Int))(s k v:Nat):Prop:=Walk A s v (k:Int)/\∀ x,Walk A s v x->(k:Int)<=x
theorem Unit1.pos (U:Unit1 A):Pos A:=λ u v l h=>by rw[U u v l h];exact ub2 1
structure Bfs (A:List (Nat × Nat × Int))(s i:Nat)(D:Nat->Option Nat)(ring:List Nat):Prop where
 found:∀ v d,D v=some d↔AtK A s d v/\d<i
 ring:∀ v,v∈ring↔AtK A s i v
end Far
namespace L3
open PySem PySem.Spec PyProof.Rows L2
theorem zqo {ns:List Int}{m:Nat}(h:∀ x∈ns,0<=x/\x<m):HT.setN ns ns.length<=m:=by
 obtain⟨h1,h2⟩:=zbq (λ i=>ns.getD i 0) ns.length
 rw[L3.zbd ns 0] at h2
 have e:(firstMet (λ i=>ns.getD i 0) ns.length).length=((firstMet (λ i=>ns.getD i 0) ns.length).map uf7).length:=(uae _).symm
 show (firstMet (λ i=>ns.getD i 0) ns.length).length<=m
 rw[e]
 refine Peel.zd0 m _ ?_ λ p hp=>?_
 ·rw[ua0,ubx]
  refine ub5 ?_ h1
  intro a b ha hb ne z
  have:=h a ((h2 a).mp ha)
  have:=h b ((h2 b).mp hb)
  exact ne (by left)
 ·obtain⟨x,hx,rfl⟩:=ube.mp hp
  have:=h x ((h2 x).mp hx)
  left
theorem zhv:∀ {ms:List Int},(∀ x∈ms,0<=x)->ms.map V.int=natV (ms.map uf7)
 | [],_=>rfl
 | x::ms,h=>by
  have e:((x.toNat:Nat):Int)=x:=ua9 (h x uan)
  have ih:=zhv (ms:=ms) λ y hy=>h y (uam _ hy)
  show V.int x::ms.map V.int=V.int ((x.toNat:Nat):Int)::natV (ms.map uf7)
  rw[e,ih]
theorem zim {ts:List Tie}{ks:List Nat}(ko:KeepOk ts.length ks):Far.Unit1 (arcs (ones ts) ks):=λ u v l h=>((zcn ko).mp h).1
theorem zdm (a b:List Nat):natV (a++b)=natV a++natV b:=by unfold natV;rw[ubc]
theorem zak (a:List Nat):(natV a).length=a.length:=by unfold natV;rw[uae]
theorem zo8 {f:Nat->List Nat}{m:Nat}:∀ (l:List Nat),(∀ x∈l,(f x).length<=m)->(l.flatMap f).length<=l.length*m
 | [],_=>by simp
 | x::l,h=>by
  have ih:=zo8 l λ y hy=>h y (uam _ hy)
  have:=h x uan
  rw[ugd,uaq,ua5,Nat.succ_mul]
  left
theorem za5 (E:List (Option Nat)){i v:Nat}(x:Nat)(h:i<E.length):Far.get (E.set i (some x)) v=if v=i then some x else Far.get E v:=by
 unfold Far.get
 rw[uah,uah]
 by_cases z:v=i
 ·subst z
  rw[if_pos rfl,ufk h];rfl
 ·rw[if_neg z,ufr (Ne.symm z)]
theorem zmm (r x:Int):capO r (some x)=if r<x then r else x:=rfl
section
variable {n g:Int}{ts:List Tie}{ks:List Nat}{k:Nat}
end
def tupH (hs:List Int):PyData:=.tuple (hs.map .int)
end L3
namespace HT
open PySem PyProof.Rows
open Sem (wp)
section
variable {prog:Program}{w:World}{A:Around}{E:Value->Shared->Prop}{s:Shared}
end
end HT
namespace L3
open PySem PySem.Spec PyProof.Rows L2
def PapV (H:Hp)(lo hi m:Nat)(v:V):Prop:=∃ p xs,v=.ref p/\H p=some (.tup xs)/\xs.length<=m/\∀ u∈xs,RowV lo hi H u
end L3
namespace Far
theorem Best.one {B:List Arc}(K:Keys B){n s:Nat}{cs cs':List (Option (Int × Int))}{as as':List (Option Nat)}(h:Best B n s cs as)(h':Best B n s cs' as'):as=as':=by
 have ec:∀ v,get cs v=get cs' v:=λ v=>by
  have e:=(h.dst K v).unique (h'.dst K v)
  cases e1:get cs v with
  | none =>
   cases e2:get cs' v with
   | none=>rfl
   | some c=>rw[e1,e2] at e;cases e
  | some c =>
   cases e2:get cs' v with
   | none=>rw[e1,e2] at e;cases e
   | some d =>
    rw[e1,e2] at e
    have a:=h.small K e1
    have b:=h'.small K e2
    rw[zmg ⟨a.1,Int.lt_trans a.2 (by decide)⟩ ⟨b.1,Int.lt_trans b.2 (by decide)⟩ (ua3 e)]
 have ea:∀ {cs cs':List (Option (Int × Int))}{as as':List (Option Nat)},Best B n s cs as->Best B n s cs' as'->(∀ v,get cs v=get cs' v)->∀ v u,get as v=some u->get as' v=some u:=λ h h' ec v u e=>by
  obtain⟨l,k,cu,m,e1,e2⟩:=h.arc v u e
  exact h'.tree K m (by rw[← ec];exact e1) (by rw[← ec];exact e2)
 refine ucx λ v=>?_
 by_cases hv:v<n
 ·have g:get as v=get as' v:=by
   cases e1:get as v with
   | some u=>exact (ea h h' ec v u e1).symm
   | none =>
    cases e2:get as' v with
    | none=>rfl
    | some u=>rw[ea h' h (λ v=>(ec v).symm) v u e2] at e1;cases e1
  have l1:=h.alen
  have l2:=h'.alen
  unfold get at g
  rw[uah,uah,uaf (by left),uaf (by left)] at g
  rw[uaf (by left),uaf (by left)]
  exact congrArg some g
 ·rw[uba (by have:=h.alen;left),uba (by have:=h'.alen;left)]
end Far
namespace L3
open PySem PySem.Spec PyProof.Rows L2
section
variable {n:Int}{ts:List Tie}
theorem za6 (ts:List Tie):KeepOk ts.length (uac ts.length):=⟨ubk,λ k hk=>uaj.mp hk⟩
noncomputable def trA (n:Int)(ts:List Tie)(r:Nat):List (Option Nat):=Classical.epsilon λ as=>∃ cs,Far.Best (arcsB ts (uac ts.length)) n.toNat r cs as
theorem zc6 (ok:WebOk n ts){r:Nat}(hr:r<n.toNat):∃ cs,Far.Best (arcsB ts (uac ts.length)) n.toNat r cs (trA n ts r):=by
 have ko:=za6 ts
 obtain⟨cs,as,B⟩:=Far.zfo (zbj ok ko) (λ u v l k m=>zcr ok ko m) hr
 exact Classical.epsilon_spec (p:=λ as=>∃ cs,Far.Best (arcsB ts (uac ts.length)) n.toNat r cs as) ⟨as,cs,B⟩
theorem ztw (ok:WebOk n ts){r:Nat}(hr:r<n.toNat){cs:List (Option (Int × Int))}{as:List (Option Nat)}(B:Far.Best (arcsB ts (uac ts.length)) n.toNat r cs as):as=trA n ts r:=by
 obtain⟨cs',B'⟩:=zc6 ok hr
 exact B.one (zbj ok (za6 ts)) B'
noncomputable def trT (n:Int)(ts:List Tie)(r:Nat):List Nat:=(uac n.toNat).filterMap λ v=>(Far.get (trA n ts r) v).bind λ u=>tbN ts v u
def Edge (n:Int)(ts:List Tie)(r:Nat)(a b:Int):Prop:=∃ v u:Nat,Far.get (trA n ts r) v=some u/\a=min (v:Int) u/\b=max (v:Int) u
theorem zqh (ok:WebOk n ts){r v u:Nat}(hr:r<n.toNat)(e:Far.get (trA n ts r) v=some u):∃ k l,tbN ts v u=some k/\k<ts.length/\(u,v,l,k)∈arcsB ts (uac ts.length)/\v<n.toNat/\u<n.toNat:=by
 obtain⟨cs,B⟩:=zc6 ok hr
 obtain⟨l,k,cu,m,_⟩:=B.arc v u e
 have z:=zcr ok (za6 ts) m
 have t:=zkd ok (za6 ts) m
 rw[zex] at t
 exact⟨k,l,t,uaj.mp (uez t),m,z.2,z.1⟩
theorem zkc (ok:WebOk n ts){r k:Nat}(hr:r<n.toNat):k∈trT n ts r↔k<ts.length/\Edge n ts r (tieAt ts k).1 (tieAt ts k).2.1:=by
 unfold trT
 rw[ub3]
 constructor
 ·rintro ⟨v,hv,e⟩
  obtain⟨u,e1,e2⟩:=ud7.mp e
  have m:=uez e2
  have b:=uec e2
  unfold isTB at b
  rw[ubd] at b
  exact⟨uaj.mp m,v,u,e1,of_decide_eq_true b.1,of_decide_eq_true b.2⟩
 ·rintro ⟨hk,v,u,e,e1,e2⟩
  obtain⟨k',l,t,hk',_,hv,hu⟩:=zqh ok hr e
  refine⟨v,uaj.mpr hv,ud7.mpr ⟨u,e,?_⟩⟩
  rw[t]
  refine congrArg some (zru ok hk' hk (uec t) ?_)
  unfold isTB
  rw[decide_eq_true e1,decide_eq_true e2];rfl
theorem znl (ok:WebOk n ts){r:Nat}(hr:r<n.toNat):(trT n ts r).length<=n.toNat-1:=by
 obtain⟨cs,B⟩:=zc6 ok hr
 have root:=B.root
 have h:∀ m:Nat,((uac m).filterMap λ v=>(Far.get (trA n ts r) v).bind λ u=>tbN ts v u).length<=m-(if r<m then 1 else 0):=λ m=>by
  induction m with
  | zero=>simp
  | succ m ih =>
   rw[ucz,uc7,uaq]
   by_cases z:r=m
   ·subst z
    have e:([r].filterMap λ v=>(Far.get (trA n ts r) v).bind λ u=>tbN ts v u)=[]:=by simp [root]
    rw[e,if_pos (by left)]
    rw[if_neg (by left)] at ih
    simp;left
   ·have e:=udc (λ v=>(Far.get (trA n ts r) v).bind λ u=>tbN ts v u) [m]
    rw[ubn] at e
    by_cases y:r<m
    ·rw[if_pos y] at ih
     rw[if_pos (by left)]
     left
    ·rw[if_neg y] at ih
     rw[if_neg (by left)]
     left
 have:=h n.toNat
 rw[if_pos hr] at this
 exact this
noncomputable def ptK (n:Int)(ts:List Tie)(rs:List Nat):List Nat:=(uac ts.length).filter λ k=>rs.any λ r=>(trT n ts r).contains k
theorem zkj (ok:WebOk n ts){rs:List Nat}(h:∀ r∈rs,r<n.toNat){k:Nat}:k∈ptK n ts rs↔∃ r∈rs,k∈trT n ts r:=by
 unfold ptK
 rw[uaz,uaj,ub4]
 constructor
 ·rintro ⟨_,r,hr,c⟩
  exact⟨r,hr,uej.mp c⟩
 ·rintro ⟨r,hr,c⟩
  exact⟨((zkc ok (h r hr)).mp c).1,r,hr,uej.mpr c⟩
theorem zep (n:Int)(ts:List Tie)(rs:List Nat):KeepOk ts.length (ptK n ts rs):=⟨udq _ ubk,λ k hk=>uaj.mp (uaz.mp hk).1⟩
theorem zc8:∀ {a b:List Nat},a.Pairwise (·<·)->b.Pairwise (·<·)->(∀ k,k∈a↔k∈b)->a=b
 | [],[],_,_,_=>rfl
 | [],y::b,_,_,h=>by have:=(h y).mpr uan;cases this
 | x::a,[],_,_,h=>by have:=(h x).mp uan;cases this
 | x::a,y::b,pa,pb,h=>by
  obtain⟨p1,p2⟩:=ud9.mp pa
  obtain⟨q1,q2⟩:=ud9.mp pb
  have e:x=y:=by
   rcases uar.mp ((h x).mp uan) with z | z
   ·exact z
   ·rcases uar.mp ((h y).mpr uan) with y' | y'
    ·exact y'.symm
    ·have:=q1 x z;have:=p1 y y';left
  subst e
  rw[zc8 p2 q2 λ k=>?_]
  constructor
  ·intro hk
   rcases uar.mp ((h k).mp (uam _ hk)) with z | z
   ·have:=p1 k hk;left
   ·exact z
  ·intro hk
   rcases uar.mp ((h k).mpr (uam _ hk)) with z | z
   ·have:=q1 k hk;left
   ·exact z
theorem zkg {ms:List Int}{xs ks:List Nat}(hl:ms.length=HT.setN (keepI xs) (keepI xs).length)(hm:∀ k,HT.setS (keepI xs) (keepI xs).length k=true↔k∈ms)(pw:ms.Pairwise (·<=·))(rk:ks.Pairwise (·<·))(h:∀ k,k∈ks↔k∈xs):ms.map V.int=natV ks:=by
 obtain⟨nd,mem⟩:=zqn hl hm
 have nn:∀ x∈ms,0<=x:=λ x hx=>by
  obtain⟨c,_,rfl⟩:=ube.mp ((mem x).mp hx)
  exact uaw c
 rw[zhv nn]
 congr 1
 have lt:ms.Pairwise (·<·):=(pw.and nd).imp λ ⟨a,b⟩=>by left
 refine zc8 ?_ rk λ k=>?_
 ·rw[ubx]
  refine ub5 ?_ lt
  intro a b ha hb ab
  have:=nn a ha
  left
 ·rw[h k,ube]
  constructor
  ·rintro ⟨x,hx,rfl⟩
   obtain⟨c,hc,rfl⟩:=ube.mp ((mem x).mp hx)
   rw[ubf];exact hc
  ·intro hk
   exact⟨(k:Int),(mem _).mpr (ube.mpr ⟨k,hk,rfl⟩),ubf k⟩
theorem zch:∀ {a b:List Nat},a.Nodup->(∀ x∈a,x∈b)->a.length<=b.length
 | [],_,_,_=>ubj _
 | x::a,b,nd,h=>by
  obtain⟨n1,n2⟩:=ubw.mp nd
  have hx:=h x uan
  have ih:=zch (a:=a) (b:=b.erase x) n2 λ y hy=>(uen (λ e=>n1 (by rw[← e];exact hy))).mpr (h y (uam _ hy))
  have le:=ue5 hx
  have pos:=List.length_pos_of_mem hx
  rw[ua5]
  left
theorem zqv (ok:WebOk n ts){rs:List Nat}(h:∀ r∈rs,r<n.toNat){r v:Nat}(hr:r∈rs){o:Option Int}(d:Far.Dst (arcs ts (ptK n ts rs)) r v o):Far.Dst (arcs ts (uac ts.length)) r v o:=by
 have ko:=za6 ts
 have KB:=zbj ok ko
 obtain⟨cs,B⟩:=zc6 ok (h r hr)
 have sub:∀ u w l,(u,w,l)∈arcs ts (ptK n ts rs)->(u,w,l)∈arcs ts (uac ts.length):=λ u w l m=>by
  obtain⟨k,hk,m'⟩:=arcs_mem.mp m
  exact arcs_mem.mpr ⟨k,uaj.mpr ((zep n ts rs).2 k hk),m'⟩
 have up:∀ {x:Int}{w:Nat},Far.Walk (arcs ts (ptK n ts rs)) r w x->Far.Walk (arcs ts (uac ts.length)) r w x:=λ {x w} hw=>by
  induction hw with
  | nil=>exact .nil
  | snoc _ m ih=>exact .snoc ih (sub _ _ _ m)
 have tree:∀ (m w:Nat)(c:Int × Int),Far.get cs w=some c->c.1.toNat<=m->Far.Walk (arcs ts (ptK n ts rs)) r w c.1:=λ m=>by
  induction m with
  | zero =>
   intro w c e le
   have nn:=B.nn w c e
   by_cases z:w=r
   ·subst z
    have:=B.start
    rw[e] at this
    cases this
    exact .nil
   ·cases ea:Far.get (trA n ts r) w with
    | none=>exact absurd ea (B.has w c e z)
    | some u =>
     obtain⟨l,k,cu,m,e1,e2⟩:=B.arc w u ea
     rw[e] at e2
     have:=B.nn u cu e1
     have lp:=KB.pos _ _ _ _ m
     have:c.1=cu.1+l:=by injection e2 with e2;rw[e2]
     left
  | succ m ih =>
   intro w c e le
   by_cases z:w=r
   ·subst z
    have:=B.start
    rw[e] at this
    cases this
    exact .nil
   ·cases ea:Far.get (trA n ts r) w with
    | none=>exact absurd ea (B.has w c e z)
    | some u =>
     obtain⟨l,k,cu,mm,e1,e2⟩:=B.arc w u ea
     rw[e] at e2
     have nu:=B.nn u cu e1
     have lp:=KB.pos _ _ _ _ mm
     have ec:c.1=cu.1+l:=by injection e2 with e2;rw[e2]
     rw[ec]
     refine .snoc (ih u cu e1 (by left)) ?_
     obtain⟨k',l',t,hk',m',hv,hu⟩:=zqh ok (h r hr) ea
     have tk:=zkd ok ko mm
     rw[zex,t] at tk
     have ek:k'=k:=ua3 tk
     subst ek
     have m2:(u,w,l)∈arcs2 (tieAt ts k'):=by
      obtain⟨j,_,m2⟩:=arcsB_mem.mp mm
      rcases arcs2B_mem.mp m2 with z | z
      ·cases z;exact arcs2_mem.mpr (.inl rfl)
      ·cases z;exact arcs2_mem.mpr (.inr rfl)
     refine arcs_mem.mpr ⟨k',(zkj ok h).mpr ⟨r,hr,?_⟩,m2⟩
     unfold trT
     exact ub3.mpr ⟨w,uaj.mpr hv,ud7.mpr ⟨u,ea,t⟩⟩
 have d1:=B.dst1 KB v
 rw[zec] at d1
 refine⟨λ y e=>up (d.1 y e),λ L hL=>?_⟩
 obtain⟨x,e,le⟩:=d1.2 L hL
 obtain⟨c,ec,rfl⟩:=ub0.mp e
 obtain⟨y,ey,le2⟩:=d.2 _ (tree _ v c ec (uai _))
 exact⟨y,ey,by left⟩
end
def lmF (near kept:Nat->Nat->Option Int):List (Nat × Nat)->Int × Int × Int->Option (Int × Int × Int)
 | [],m=>some m
 | (u,v)::r,m =>
  match near u v with
  | none=>lmF near kept r m
  | some x =>
   match kept u v with
   | none=>none
   | some y=>if m.1<y-x then lmF near kept r (y-x,(u:Int),(v:Int)) else lmF near kept r m
section
variable {near kept:Nat->Nat->Option Int}{u v:Nat}{r:List (Nat × Nat)}{m:Int × Int × Int}{x y:Int}
theorem zho (h:near u v=none):lmF near kept ((u,v)::r) m=lmF near kept r m:=by rw[lmF,h]
theorem zkv (h:near u v=some x)(h':kept u v=none):lmF near kept ((u,v)::r) m=none:=by rw[lmF,h,h']
theorem zlz (h:near u v=some x)(h':kept u v=some y):lmF near kept ((u,v)::r) m=if m.1<y-x then lmF near kept r (y-x,(u:Int),(v:Int)) else lmF near kept r m:=by rw[lmF,h,h']
end
def rowP (n u v:Nat):List (Nat × Nat):=(ufb v (n-v)).map λ v=>(u,v)
def allP (n u:Nat):List (Nat × Nat):=(ufb u (n-u)).flatMap λ u=>rowP n u (u+1)
theorem zey {n u:Nat}(h:u<n):ufb u (n-u)=u::ufb (u+1) (n-(u+1)):=by
 have e:n-u=(n-(u+1))+1:=by left
 rw[e,ugn]
theorem znx {n u v:Nat}(h:v<n):rowP n u v=(u,v)::rowP n u (v+1):=by unfold rowP;rw[zey h];rfl
theorem zqr {n u v:Nat}(h:n<=v):rowP n u v=[]:=by unfold rowP;rw[Nat.sub_eq_zero_of_le h];rfl
theorem zp1 {n u:Nat}(h:u<n):allP n u=rowP n u (u+1)++allP n (u+1):=by unfold allP;rw[zey h,ugd]
theorem zrt {n u:Nat}(h:n<=u):allP n u=[]:=by unfold allP;rw[Nat.sub_eq_zero_of_le h];rfl
def LmV (H:Hp)(o:Option (Int × Int × Int))(v:V):Prop:=(v=.non/\o=none)\/∃ t m,v=.ref t/\o=some m/\H t=some (.tup (([m.1,m.2.1,m.2.2]:List Int).map V.int))
noncomputable def dstF (ts:List Tie)(ks:List Nat)(u v:Nat):Option Int:=Classical.epsilon λ o=>Far.Dst (arcs (ones ts) ks) u v o
theorem zfi {ts:List Tie}{ks:List Nat}(ko:KeepOk ts.length ks){u v:Nat}{o:Option Int}(d:Far.Dst (arcs (ones ts) ks) u v o):o=dstF ts ks u v :=
 d.unique (Classical.epsilon_spec (p:=λ o=>Far.Dst (arcs (ones ts) ks) u v o) ⟨o,d⟩)
theorem zmy (ts:List Tie):((ones ts).all λ t=>decide (t.2.2=1))=true:=by
 unfold ones
 rw[udf,ubo]
 intro t _
 show decide ((1:Int)=1)=true
 rfl
def WKE (K:uad)(H:Hp)(n:Int)(ts:List Tie)(ks:List Nat)(wv:V)(kp:Addr)(tp:Bool):Prop:=Is K H (webD n ts) wv/\WebOk n ts/\H kp=some (if tp=true then .tup (natV ks) else .lst (natV ks))/\KeepOk ts.length ks
section
variable {g:TG}{tt:TT}{te:TE}{own:List Str}{js:List Nat}{σ:L2.St}{H1:Hp}{Q:VK}
end
theorem zh7 {X:Cx}{own fr:List Str}{scope:Scope}{fp:List Addr}{pins:List (Addr × Obj)}{s3:Shared}{H3:Hp}:CallR (cxComp X own fr scope fp pins s3 H3) (.builtin "sorted") (call_sortedI_i X.K):=zb5 (X:=cxComp X own fr scope fp pins s3 H3)
section
variable {n:Int}{ts:List Tie}{ks:List Nat}
noncomputable def trK (n:Int)(ts:List Tie)(ks:List Nat)(r:Nat):List (Option Nat):=Classical.epsilon λ as=>∃ cs,Far.Best (arcsB ts ks) n.toNat r cs as
theorem zgy (ok:WebOk n ts)(ko:KeepOk ts.length ks){r:Nat}(hr:r<n.toNat):∃ cs,Far.Best (arcsB ts ks) n.toNat r cs (trK n ts ks r):=by
 obtain⟨cs,as,B⟩:=Far.zfo (zbj ok ko) (λ u v l k m=>zcr ok ko m) hr
 exact Classical.epsilon_spec (p:=λ as=>∃ cs,Far.Best (arcsB ts ks) n.toNat r cs as) ⟨as,cs,B⟩
theorem ztv (ok:WebOk n ts)(ko:KeepOk ts.length ks){r:Nat}(hr:r<n.toNat){cs:List (Option (Int × Int))}{as:List (Option Nat)}(B:Far.Best (arcsB ts ks) n.toNat r cs as):as=trK n ts ks r:=by
 obtain⟨cs',B'⟩:=zgy ok ko hr
 exact B.one (zbj ok ko) B'
theorem zcp (ko:KeepOk ts.length ks)(u v:Nat):Far.Dst (arcs (ones ts) ks) u v (dstF ts ks u v) :=
 Classical.epsilon_spec (p:=λ o=>Far.Dst (arcs (ones ts) ks) u v o) (Far.zdb (zim ko).pos u v)
theorem zpw (ko:KeepOk ts.length ks):Far.Sym (arcs (ones ts) ks):=λ u v l m=>by
 obtain⟨e,a⟩:=(zcn ko).mp m
 exact (zcn ko).mpr ⟨e,zp2 _ _ a⟩
theorem zjg (ko:KeepOk ts.length ks)(u v:Nat):dstF ts ks u v=dstF ts ks v u:=zfi ko ((zcp ko u v).back (zpw ko))
theorem zfh (ko:KeepOk ts.length ks)(u:Nat):dstF ts ks u u=some 0 :=
 (zcp ko u u).unique ⟨λ y e=>by cases e;exact Far.Walk.nil,λ L hL=>⟨0,rfl,hL.nonneg (zim ko).pos⟩⟩
theorem zk3 (ok:WebOk n ts)(ko:KeepOk ts.length ks){u v:Nat}{x:Int}(hu:u<n.toNat)(hv:v<n.toNat)(e:dstF ts ks u v=some x):x<n:=by
 have d:=zcp ko u v
 obtain⟨l,c,la,len⟩:=(zpb ko d).1 x e
 have sh:Lr.Sh (Adj ts ks) u v l:=⟨c,la,λ l' c' la'=>by
  obtain⟨y,e',le⟩:=(zpb ko d).2 l' c' la'
  rw[e] at e'
  cases e'
  left⟩
 have:=zty ok ko hv sh
 rw[ua5] at this
 left
noncomputable def dstL (n:Int)(ts:List Tie)(ks:List Nat)(u:Nat):List (Option Int):=(uac n.toNat).map (dstF ts ks u)
theorem zhx (n:Int)(ts:List Tie)(ks:List Nat)(u:Nat):(dstL n ts ks u).length=n.toNat:=by unfold dstL;rw[uae,ua8]
theorem zk2 {u v:Nat}(hv:v<n.toNat):(dstL n ts ks u)[v]?=some (dstF ts ks u v):=by unfold dstL;rw[uak,ufu hv];rfl
theorem zrj {u v:Nat}(hv:v<n.toNat):Far.get (dstL n ts ks u) v=dstF ts ks u v:=by unfold Far.get;rw[uah,zk2 hv];rfl
theorem ztm (ko:KeepOk ts.length ks){u:Nat}{DD:List (Option Int)}(lD:DD.length=n.toNat)(hD:∀ v,v<n.toNat->Far.Dst (arcs (ones ts) ks) u v (Far.get DD v)):DD=dstL n ts ks u:=by
 refine ucx λ v=>?_
 by_cases hv:v<n.toNat
 ·have e:=zfi ko (hD v hv)
  unfold Far.get at e
  rw[uah,uaf (by left)] at e
  rw[uaf (by left),zk2 hv,← e];rfl
 ·rw[uba (by left),uba (by rw[zhx];left)]
noncomputable def htW (n:Int)(ts:List Tie)(u:Nat):List Int:=(dstL n ts (uac ts.length) u).map (capO n)
theorem zte (n:Int)(ts:List Tie)(u:Nat):(htW n ts u).length=n.toNat:=by unfold htW;rw[uae,zhx]
theorem zr7 {u v:Nat}(hv:v<n.toNat):(htW n ts u)[v]?=some (capO n (dstF ts (uac ts.length) u v)):=by unfold htW;rw[uak,zk2 hv];rfl
theorem zkx (ok:WebOk n ts){u v:Nat}(hu:u<n.toNat)(hv:v<n.toNat):capO n (dstF ts (uac ts.length) u v)=(dstF ts (uac ts.length) u v).getD n:=by
 cases e:dstF ts (uac ts.length) u v with
 | none=>rfl
 | some x =>
  have:=zk3 ok (za6 ts) hu hv e
  rw[zmm,if_neg (by left)];rfl
theorem zrb (ok:WebOk n ts)(u:Nat):holdB n (ones ts) (uac ts.length) (htW n ts u)=true:=by
 refine zro (s:=u) (zcj ok) (by rw[za0];exact za6 ts) (zhx n ts _ u) λ v hv=>?_
 rw[zrj hv]
 exact zcp (za6 ts) u v
def pairD (hs:List Int)(as:List (Option Nat)):PyData:=.tuple [tupH hs,.tuple (as.map oaD)]
noncomputable def mpD (n:Int)(ts:List Tie)(ks:List Nat):PyData:=.tuple ((uac n.toNat).map λ u=>pairD (htW n ts u) (trK n (ones ts) ks u))
theorem zm8 (ok:WebOk n ts)(ko:KeepOk ts.length ks){r:Nat}{cs:List (Option (Int × Int))}{as:List (Option Nat)}(B:Far.Best (arcsB (ones ts) ks) n.toNat r cs as)(v:Nat):(Far.get cs v).map (·.1)=dstF ts ks r v:=by
 have ko':KeepOk (ones ts).length ks:=by rw[za0];exact ko
 have d:=B.dst1 (zbj (zcj ok) ko') v
 rw[zec] at d
 exact zfi ko d
def ledB (o:Option Int)(h m:Int):Bool:=match o with | none=>false | some x=>decide (x<=h+m)
noncomputable def moreB (n:Int)(ts:List Tie)(ks:List Nat)(m:Int):Bool:=(uac n.toNat).all λ u=>(uac n.toNat).all λ v=>(dstF ts (uac ts.length) u v).isNone||ledB (dstF ts ks u v) ((dstF ts (uac ts.length) u v).getD n) m
def Pair1 (near kept:Nat->Nat->Option Int)(m:Int)(u v:Nat):Prop:=∀ x,near u v=some x->∃ y,kept u v=some y/\y-x<=m
theorem zfb {near kept:Nat->Nat->Option Int}{m:Int}:∀ {ps:List (Nat × Nat)}{t:Int × Int × Int},t.1<=m->((∃ t',lmF near kept ps t=some t'/\t'.1<=m)↔∀ u v,(u,v)∈ps->Pair1 near kept m u v)
 | [],t,h=>⟨λ _ u v hm=>(by cases hm),λ _=>⟨t,rfl,h⟩⟩
 | (u,v)::r,t,h=>by
  cases en:near u v with
  | none =>
   rw[zho en,zfb h]
   constructor
   ·intro z u' v' hm
    rcases uar.mp hm with e | e
    ·cases e;intro x ex;rw[en] at ex;cases ex
    ·exact z u' v' e
   ·exact λ z u' v' hm=>z u' v' (uam _ hm)
  | some x =>
   cases ek:kept u v with
   | none =>
    rw[zkv en ek]
    constructor
    ·rintro ⟨t',e,_⟩;cases e
    ·intro z
     obtain⟨y,ey,_⟩:=z u v uan x en
     rw[ek] at ey;cases ey
   | some y =>
    rw[zlz en ek]
    by_cases c:t.1<y-x
    ·rw[if_pos c]
     by_cases le:y-x<=m
     ·rw[zfb (t:=(y-x,(u:Int),(v:Int))) le]
      constructor
      ·intro z u' v' hm
       rcases uar.mp hm with e | e
       ·cases e;intro x' ex;rw[en] at ex;cases ex;exact⟨y,ek,le⟩
       ·exact z u' v' e
      ·exact λ z u' v' hm=>z u' v' (uam _ hm)
     ·constructor
      ·rintro ⟨t',e,lt⟩
       have:=lm_up e
       exact absurd (show y-x<=m by have h2:(y-x,(u:Int),(v:Int)).1=y-x:=rfl;left) le
      ·intro z
       obtain⟨y',ey,h2⟩:=z u v uan x en
       rw[ek] at ey;cases ey
       exact absurd h2 le
    ·rw[if_neg c,zfb h]
     constructor
     ·intro z u' v' hm
      rcases uar.mp hm with e | e
      ·cases e;intro x' ex;rw[en] at ex;cases ex;exact⟨y,ek,by left⟩
      ·exact z u' v' e
     ·exact λ z u' v' hm=>z u' v' (uam _ hm)
where
 lm_up {near kept:Nat->Nat->Option Int}:∀ {ps:List (Nat × Nat)}{t t':Int × Int × Int},lmF near kept ps t=some t'->t.1<=t'.1
  | [],t,t',e=>by cases e;exact ub2 _
  | (u,v)::r,t,t',e=>by
   cases en:near u v with
   | none=>rw[zho en] at e;exact lm_up e
   | some x =>
    cases ek:kept u v with
    | none=>rw[zkv en ek] at e;cases e
    | some y =>
     rw[zlz en ek] at e
     by_cases c:t.1<y-x
     ·rw[if_pos c] at e
      have:=lm_up e
      exact ugp (udj c) this
     ·rw[if_neg c] at e;exact lm_up e
theorem allP_mem {n u v:Nat}:(u,v)∈allP n 0↔u<v/\v<n:=by
 unfold allP rowP
 rw[uck]
 constructor
 ·rintro ⟨w,hw,hm⟩
  obtain⟨v',hv',e⟩:=ube.mp hm
  cases e
  rw[ugc] at hv'
  left
 ·rintro ⟨h1,h2⟩
  exact⟨u,ugc.mpr (by left),ube.mpr ⟨v,ugc.mpr (by left),rfl⟩⟩
theorem zq5 (ko:KeepOk ts.length ks){m:Int}(hm:0<=m):moreB n ts ks m=true↔∃ t',lmF (dstF ts (uac ts.length)) (dstF ts ks) (allP n.toNat 0) (0,0,0)=some t'/\t'.1<=m:=by
 rw[zfb (t:=(0,0,0)) hm]
 have ka:=za6 ts
 unfold moreB
 rw[ubo]
 have one:∀ u v,((dstF ts (uac ts.length) u v).isNone||ledB (dstF ts ks u v) ((dstF ts (uac ts.length) u v).getD n) m)=true↔Pair1 (dstF ts (uac ts.length)) (dstF ts ks) m u v:=λ u v=>by
  unfold Pair1 ledB
  cases dstF ts (uac ts.length) u v with
  | none=>simp
  | some x =>
   cases dstF ts ks u v with
   | none=>simp
   | some y=>simp;left
 constructor
 ·intro h u v huv
  obtain⟨h1,h2⟩:=allP_mem.mp huv
  have:=h u (uaj.mpr (by left))
  rw[ubo] at this
  exact (one u v).mp (this v (uaj.mpr h2))
 ·intro h u hu
  rw[ubo]
  intro v hv
  have hu':=uaj.mp hu
  have hv':=uaj.mp hv
  refine (one u v).mpr ?_
  rcases udx u v with z | z | z
  ·exact h u v (allP_mem.mpr ⟨z,hv'⟩)
  ·subst z
   intro x ex
   rw[zfh ka] at ex
   cases ex
   exact⟨0,zfh ko u,by left⟩
  ·intro x ex
   rw[zjg ka] at ex
   obtain⟨y,ey,le⟩:=h v u (allP_mem.mpr ⟨z,hu'⟩) x ex
   exact⟨y,by rw[zjg ko];exact ey,le⟩
end
section
variable {own:List Str}{js:List Nat}{g:TG}{te:TE}{σ:L2.St}{Q:VK}{H1:Hp}
theorem zm6 {K:uad}{a:Addr}{xs:List V}(hx:H1 a=some (.tup xs))(Sg:L2.St->Prop)(R:Nat->V->Hp->Prop)(hn:xs.length<=1000)(h0:Sg (start3 own js σ))(mono:∀ i v H H',TupKeep H H'->R i v H->R i v H')
  (step:∀ i x T σ' H',xs[i]?=some x->Same H1 H'->H' T=none->Sg σ'->∀ C:L2.St->V->Hp->Prop,(∀ σ3 v H5,Sg σ3->Same H' H5->R i v H5->C σ3 v H5)->g (.ref T) σ' (upd H' T (.tup [.int (i:Nat),x])) λ σ3 H3=>te σ3 H3 λ v H5=>C σ3 v H5)
  (fin:∀ D ys H',H1 D=none->Same H1 H'->H' D=some (.lst ys)->ys.length=xs.length->(∀ i v,ys[i]?=some v->R i v H')->Q (.ref D) H'):CompGo own js g tTrue te σ Q (Itn true K a) H1:=by
 have s1:∀ H',Same H1 H'->SqX true K H' a xs:=λ H' s=>SqX.of (t:=true) (s _ _ hx)
 refine zd7 xs.length Sg R hn h0 mono (λ i H' hi s=>⟨xs,xs[i],s1 H' s,by simp [hi]⟩) (λ H' s=>⟨xs,s1 H' s,uai _⟩) (λ i x σ' H' H2 hi s hy sg C hC=>?_) fin
 obtain⟨T,y,hT,rfl,rfl,e⟩:=hy
 exact step i y T σ' H' (e _ (s1 H' s)) s hT sg C hC
end
end L3
namespace Far
section
variable {A B:List (Nat × Nat × Int)}{s u v:Nat}{x y:Int}
end
end Far
namespace Far
section
variable {G:Nat->Option Int}{len:Nat->Int}
end
end Far
namespace Far
section
variable {A:List (Nat × Nat × Int)}{s:Nat}
end
end Far
namespace L2
open PySem PySem.Spec PyProof.Rows
section
variable {X:Cx}{k v:Expr}{pos:Pos}{tk tv:TE}
end
end L2
namespace L3
open PySem PySem.Spec PyProof.Rows L2
section
variable {n:Int}{ts:List Tie}
def hN (hs:List Int)(v:Nat):Int:=hs.getD v 0
end
end L3
namespace Srt
open PySem PyProof.Rows
section
variable {prog:Program}{w:World}{A:Around}{E:Value->Shared->Prop}{s:Shared}{a:Addr}
end
end Srt
namespace L3
open PySem PySem.Spec PyProof.Rows L2
section
variable {X:Cx}
end
section
variable {n:Int}{ts:List Tie}
def WyV (H:Hp)(ts:List Tie)(o:Option (List Nat))(v:V):Prop:=(o=none/\v=.non)\/∃ t ws,o=some ws/\v=.ref t/\H t=some (.tup (natV ws))/\ws.length<=24/\linked ts ws
def wyD:Option (List Nat)->PyData
 | none=>.none
 | some ws=>tupH (keepI ws)
end
theorem zoy {n:Int}{ts:List Tie}(ok:WebOk n ts){k:Nat}(hk:k<ts.length):isTB ts (tieAt ts k).1.toNat (tieAt ts k).2.1.toNat k=true:=by
 have tk:=ok.tie _ (zav hk).2
 unfold isTB
 rw[decide_eq_true (show (tieAt ts k).1=min (((tieAt ts k).1.toNat:Nat):Int) ((tieAt ts k).2.1.toNat:Nat) by left),decide_eq_true (show (tieAt ts k).2.1=max (((tieAt ts k).1.toNat:Nat):Int) ((tieAt ts k).2.1.toNat:Nat) by left)]
 rfl
theorem zsq {ts:List Tie}{u v k:Nat}(h:tbN ts u v=some k):(tieAt ts k).1=min (u:Int) v/\(tieAt ts k).2.1=max (u:Int) v:=by
 have b:=uec h
 unfold isTB at b
 rw[ubd] at b
 exact⟨of_decide_eq_true b.1,of_decide_eq_true b.2⟩
def allIn (ts:List Tie)(ks:List Nat)(t:Int):Prop:=∀ k,k∈outs ts.length ks->withinB t (tieAt ts k).2.2 (gO ts ks k)=true
section
variable {n:Int}{ts:List Tie}{ks:List Nat}{prs:List (Option Int × Int)}
end
end L3
namespace Z3
open PySem
section
variable {prog:Program}{w:World}{A:Around}{E:Value->Shared->Prop}{s:Shared}
end
end Z3
namespace L3
open PySem PySem.Spec PyProof.Rows L2
section
variable {n:Int}{ts:List Tie}{ks:List Nat}
noncomputable def wyK (ts:List Tie)(ks:List Nat)(a b:Nat):Option (List Nat):=@dite _ (∃ ws,Far.MinW (arcsB ts ks) a b ws) (Classical.propDecidable _) (λ h=>some (Classical.choose h)) (λ _=>none)
noncomputable def dK (ts:List Tie)(ks:List Nat)(u v:Nat):Option Int:=Classical.epsilon λ o=>Far.Dst (arcs ts ks) u v o
noncomputable def dKL (n:Int)(ts:List Tie)(ks:List Nat)(u:Nat):List (Option Int):=(uac n.toNat).map λ v=>dK ts ks u v
noncomputable def htK (n:Int)(ts:List Tie)(ks:List Nat)(t:Int)(k:Nat):List Int:=(dKL n ts ks (tieAt ts k).1.toNat).map (capO (t*(tieAt ts k).2.2+1))
end
def winK (ts:List Tie)(ks:List Nat)(t:Int)(k:Nat):Prop:=withinB t (tieAt ts k).2.2 (gO ts ks k)=true
noncomputable def wyT (ts:List Tie)(ks:List Nat)(k:Nat):Option (List Nat):=wyK ts ks (tieAt ts k).1.toNat (tieAt ts k).2.1.toNat
def FirstOut (ts:List Tie)(ks:List Nat)(t:Int)(i k:Nat):Prop:=(outs ts.length ks)[i]?=some k/\¬ winK ts ks t k/\∀ j k',j<i->(outs ts.length ks)[j]?=some k'->winK ts ks t k'
inductive TdD (n:Int)(ts:List Tie)(ks:List Nat)(t:Int):PyData->Prop
 | keeps:allIn ts ks t->TdD n ts ks t (.tuple [.str "keeps",.tuple ((outs ts.length ks).map λ k=>wyD (wyT ts ks k))])
 | far {i k:Nat}:FirstOut ts ks t i k->TdD n ts ks t (.tuple [.str "far",.int (k:Int),tupH (htK n ts ks t k)])
end L3
namespace Lay9
open PySem
def it (m:Nat):Nat->Nat->Nat
 | 0,i=>i
 | n+1,i=>it m n ((i*5+1)%m)
def Full (m:Nat):Prop:=∀ i,i<m->∀ j,j<m->∃ n,n<m/\it m n i=j
theorem ze9 {mask:Nat}{ow:Array (Option Nat)}{f i p:Nat}(h:SetTable.layClean.free mask ow (f+1) i p=none):(ow.getD i (some 0)).isNone=false/\SetTable.layClean.free mask ow f ((i*5+1+p / 32)%(mask+1)) (p / 32)=none:=by
 unfold SetTable.layClean.free at h
 split at h
 ·cases h
 ·rename_i e
  refine⟨?_,h⟩
  have r:i<=SetTable.runEnd mask i:=by unfold SetTable.runEnd;split <;> left
  have:=uf1.mp e 0 (uaj.mpr (by left))
  rw[Nat.add_zero] at this
  exact udd.mpr this
theorem zi6 {mask:Nat}{ow:Array (Option Nat)}:∀ {n f i:Nat},SetTable.layClean.free mask ow (f+n+1) i 0=none->(ow.getD (it (mask+1) n i) (some 0)).isNone=false
 | 0,f,i,h=>(ze9 h).1
 | n+1,f,i,h=>zi6 (n:=n) (f:=f) (by have:=(ze9 h).2;rw[Nat.add_zero] at this;exact this)
theorem zi5 {mask:Nat}{ow:Array (Option Nat)}:∀ {k f i p:Nat},p<32^k->SetTable.layClean.free mask ow (f+k) i p=none->i<mask+1->∃ i',i'<mask+1/\SetTable.layClean.free mask ow f i' 0=none
 | 0, f, i, p, hp, h, hi => ⟨i, hi, by have : p = 0 := by simpa using hp
                                       subst this;exact h⟩
 | k+1,f,i,p,hp,h,hi=>zi5 (k:=k) (f:=f) (p:=p / 32) (by rw[Nat.pow_succ] at hp;exact (Nat.div_lt_iff_lt_mul (by decide)).mpr hp) (ze9 h).2 (uhf _ (by left))
theorem zo5 {mask:Nat}{ow:Array (Option Nat)}(full:Full (mask+1)){j:Nat}(hj:j<mask+1)(free:ow.getD j (some 0)=none){i p:Nat}(hi:i<mask+1)(hp:p<2^64):∃ k,SetTable.layClean.free mask ow (SetTable.turns mask) i p=some k:=by
 cases e:SetTable.layClean.free mask ow (SetTable.turns mask) i p with
 | some k=>exact⟨k,rfl⟩
 | none =>
  have t:SetTable.turns mask=(mask+2)+13:=by unfold SetTable.turns;left
  rw[t] at e
  obtain⟨i',hi',e'⟩:=zi5 (k:=13) (ua4 hp (by decide)) e hi
  obtain⟨n,hn,en⟩:=full i' hi' j hj
  have:=zi6 (n:=n) (f:=mask+1-n) (by rw[show mask+1-n+n+1=mask+2 by left];exact e')
  rw[en,free] at this
  cases this
theorem zo6 {mask:Nat}{ow:Array (Option Nat)}:∀ {f i p k:Nat},SetTable.layClean.free mask ow f i p=some k->ow.getD k (some 0)=none
 | 0,i,p,k,h=>by cases h
 | f+1,i,p,k,h=>by
  unfold SetTable.layClean.free at h
  split at h
  ·rename_i d e
   cases h
   have:=uec e
   simpa using this
  ·exact zo6 h
theorem zl3 {m:Nat}:∀ {a b i:Nat},it m (a+b) i=it m b (it m a i)
 | 0,b,i=>by rw[Nat.zero_add];rfl
 | a+1,b,i=>by rw[Nat.add_right_comm];exact zl3 (a:=a)
def orb (m:Nat):Nat->Nat->List Nat
 | 0,_=>[]
 | n+1,i=>i::orb m n ((i*5+1)%m)
theorem zod {m:Nat}:∀ {n i j:Nat},j∈orb m n i->∃ b,b<n/\it m b i=j
 | 0,i,j,h=>by cases h
 | n+1,i,j,h=>by
  rcases uar.mp h with rfl | h
  ·exact⟨0,by left,rfl⟩
  ·obtain⟨b,hb,e⟩:=zod h
   exact⟨b+1,by left,e⟩
theorem zdp {m:Nat}(h1:((uac m).all λ j=>(orb m m 0).contains j)=true)(h2:it m m 0=0):Full m:=by
 have at0:∀ j,j<m->∃ b,b<m/\it m b 0=j:=λ j hj=>zod (uej.mp (ubo.mp h1 j (uaj.mpr hj)))
 intro i hi j hj
 obtain⟨a,ha,ea⟩:=at0 i hi
 obtain⟨b,hb,eb⟩:=at0 j hj
 by_cases c:a<=b
 ·refine⟨b-a,by left,?_⟩
  rw[← ea,← zl3,show a+(b-a)=b by left];exact eb
 ·refine⟨m-a+b,by left,?_⟩
  rw[← ea,← zl3,show a+(m-a+b)=m+b by left,zl3,h2];exact eb
theorem full8:Full 8:=zdp (by symm) (by symm)
theorem full16:Full 16:=zdp (by symm) (by symm)
theorem full32:Full 32:=zdp (by symm) (by symm)
theorem full64:Full 64:=zdp (by symm) (by symm)
theorem full128:Full 128:=zdp (by symm) (by symm)
theorem full256:Full 256:=zdp (by symm) (by symm)
theorem full512:Full 512:=zdp (by symm) (by symm)
theorem size_full {n:Nat}(h:n<512):Full (SetTable.sizeAbove n)/\n<SetTable.sizeAbove n/\SetTable.sizeAbove n<=512:=by
 have go:∀ f s,SetTable.sizeAbove.go n (f+1) s=if s<=n then SetTable.sizeAbove.go n f (s*2) else s:=λ _ _=>rfl
 unfold SetTable.sizeAbove
 rw[go 63];split
 ·rw[go 62];split
  ·rw[go 61];split
   ·rw[go 60];split
    ·rw[go 59];split
     ·rw[go 58];split
      ·rw[go 57];split
       ·left
       ·exact⟨full512,by left,by decide⟩
      ·exact⟨full256,by left,by decide⟩
     ·exact⟨full128,by left,by decide⟩
    ·exact⟨full64,by left,by decide⟩
   ·exact⟨full32,by left,by decide⟩
  ·exact⟨full16,by left,by decide⟩
 ·exact⟨full8,by left,by decide⟩
theorem zi7:∀ {l m:List Nat},l.Nodup->(∀ x∈l,x∈m)->l.length<=m.length
 | [],_,_,_=>ubj _
 | a::l,m,nd,h=>by
  have ha:=h a (uan ..)
  have nc:=ubw.mp nd
  have:=zi7 (l:=l) (m:=m.erase a) nc.2 λ x hx=>by
   have ne:x≠a:=λ z=>nc.1 (by rw[← z];exact hx)
   exact (uen ne).mpr (h x (uam _ hx))
  rw[ue5 ha] at this
  have pos:0<m.length:=List.length_pos_of_mem ha
  rw[ua5]
  left
structure Own (mask:Nat)(ow:Array (Option Nat))(k:Nat):Prop where
 size:ow.size=mask+1
 lt:∀ j v,ow.getD j none=some v->v<k
 has:∀ v,v<k->∃ j,ow.getD j none=some v
 one:∀ j j' v,ow.getD j none=some v->ow.getD j' none=some v->j=j'
theorem zo4 {ow:Array (Option Nat)}{j:Nat}:ow.getD j (some 0)=none->j<ow.size/\ow.getD j none=none:=λ h=>by
 by_cases c:j<ow.size
 ·refine⟨c,?_⟩
  simp only [ue4,c,dif_pos] at h ⊢
  exact h
 ·simp only [ue4,c,dif_neg,not_false_eq_true] at h
  cases h
theorem Own.free {mask k:Nat}{ow:Array (Option Nat)}(o:Own mask ow k)(hk:k<=mask):∃ j,j<mask+1/\ow.getD j (some 0)=none:=by
 by_cases c:∃ j,j<mask+1/\ow.getD j (some 0)=none
 ·exact c
 ·exfalso
  have all:∀ j,j<mask+1->∃ v,ow.getD j none=some v:=λ j hj=>by
   have hs:j<ow.size:=by rw[o.size];exact hj
   cases e:ow.getD j none with
   | some v=>exact⟨v,rfl⟩
   | none =>
    refine absurd ⟨j,hj,?_⟩ c
    simp only [ue4,hs,dif_pos] at e ⊢
    exact e
  have l:=zi7 (l:=(uac (mask+1)).map λ j=>(ow.getD j none).getD 0) (m:=uac k) ?_ ?_
  ·rw[uae,ua8,ua8] at l;left
  ·rw[ug3,ubx]
   refine ub5 ?_ (ubk (n:=mask+1))
   intro a b ha hb lt e
   obtain⟨va,ea⟩:=all a (uaj.mp ha)
   obtain⟨vb,eb⟩:=all b (uaj.mp hb)
   rw[ea,eb] at e
   have e:va=vb:=e
   rw[← e] at eb
   have:=o.one _ _ _ ea eb
   left
  ·intro x hx
   obtain⟨j,hj,rfl⟩:=ube.mp hx
   obtain⟨v,ev⟩:=all j (uaj.mp hj)
   rw[ev]
   exact uaj.mpr (o.lt _ _ ev)
theorem Own.next {mask k j:Nat}{ow:Array (Option Nat)}(o:Own mask ow k)(hj:ow.getD j (some 0)=none):Own mask (ow.setIfInBounds j (some k)) (k+1):=by
 obtain⟨hs,hn⟩:=zo4 hj
 have at_:∀ i,(ow.setIfInBounds j (some k)).getD i none=if i=j then some k else ow.getD i none:=λ i=>by
  rw[ubt,ubt,Array.getElem?_setIfInBounds]
  by_cases c:j=i
  ·subst c
   rw[if_pos rfl,if_pos hs,if_pos rfl];rfl
  ·rw[if_neg c,if_neg (Ne.symm c)]
 refine⟨by rw[Array.size_setIfInBounds];exact o.size,λ i v h=>?_,λ v hv=>?_,λ i i' v h h'=>?_⟩
 ·rw[at_] at h
  split at h
  ·cases h;left
  ·have:=o.lt _ _ h;left
 ·by_cases c:v=k
  ·exact⟨j,by rw[at_,if_pos rfl,c]⟩
  ·obtain⟨i,hi⟩:=o.has v (by left)
   refine⟨i,?_⟩
   rw[at_,if_neg (λ z=>by rw[z,hn] at hi;cases hi)];exact hi
 ·rw[at_] at h h'
  split at h
  ·rename_i e
   cases h
   split at h'
   ·rename_i e';rw[e,e']
   ·exact absurd (o.lt _ _ h') (by left)
  ·split at h'
   ·cases h';exact absurd (o.lt _ _ h) (by left)
   ·exact o.one _ _ _ h h'
theorem zto (h:Int):SetTable.bits h<2^64:=by
 unfold SetTable.bits
 have:=uc8 h (show (0:Int)<2^64 by decide)
 have:=ude h (show (2:Int)^64≠0 by decide)
 left
theorem zl2 {mask:Nat}(full:Full (mask+1)):∀ (hs:List Int)(ow:Array (Option Nat))(k:Nat),Own mask ow k->k+hs.length<=mask+1 ->
  ∃ ow',hs.foldl (λ (acc:Option (Array (Option Nat) × Nat)) h=>do
   let (owner,k) ← acc
   let j ← SetTable.layClean.free mask owner (SetTable.turns mask) (SetTable.bits h%(mask+1)) (SetTable.bits h)
   pure (owner.setIfInBounds j (some k),k+1)) (some (ow,k))=some (ow',k+hs.length)/\Own mask ow' (k+hs.length)
 | [],ow,k,o,_=>⟨ow,rfl,o⟩
 | h::hs,ow,k,o,hk=>by
  rw[ua5] at hk
  obtain⟨j,hj,fj⟩:=o.free (by left)
  obtain⟨i,ei⟩:=zo5 full hj fj (i:=SetTable.bits h%(mask+1)) (p:=SetTable.bits h) (uhf _ (by left)) (zto h)
  have fi:=zo6 ei
  obtain⟨ow',e,o'⟩:=zl2 full hs _ (k+1) (o.next fi) (by left)
  refine⟨ow',?_,by rw[ua5,show k+(hs.length+1)=k+1+hs.length by left];exact o'⟩
  rw[List.foldl_cons,ua5,show k+(hs.length+1)=k+1+hs.length by left,← e]
  show uhe _ (do let j ← SetTable.layClean.free mask ow (SetTable.turns mask) (SetTable.bits h%(mask+1)) (SetTable.bits h);pure (ow.setIfInBounds j (some k),k+1)) hs=_
  rw[ei];rfl
theorem zn9 (mask:Nat):Own mask (Array.replicate (mask+1) none) 0:=by
 have n:∀ j:Nat,(Array.replicate (mask+1) (none:Option Nat)).getD j none=none:=λ j=>by
  rw[ubt,Array.getElem?_replicate]
  split <;> rfl
 exact⟨by simp,λ j v h=>(by rw[n] at h;cases h),λ v h=>(by left),λ j j' v h=>(by rw[n] at h;cases h)⟩
theorem zht {mask:Nat}(full:Full (mask+1)){hs:Array Int}(h:hs.size<=mask+1):∃ ow,SetTable.layClean mask hs=some ow/\Own mask ow hs.size:=by
 obtain⟨ow,e,o⟩:=zl2 full hs.toList _ 0 (zn9 mask) (by simpa using h)
 refine⟨ow,?_,by simpa using o⟩
 unfold SetTable.layClean
 rw[← Array.foldl_toList]
 have:=congrArg (Option.map (·.1)) e
 exact this
theorem laid_some {mask finger moves:Nat}{led plain:Bool}(full:Full (mask+1)){hs:Array Int}(h:hs.size<=mask+1) :
  ∃ t order,SetTable.laid mask finger moves led plain hs=some (t,order)/\order.toList.Perm (uac hs.size)/\t.place.toList.Pairwise (·<·)/\t.place.size=hs.size/\t.led=led/\t.plain=plain/\t.mask=mask/\t.dummies=#[]/\t.finger=finger/\t.moves=moves:=by
 obtain⟨ow,e,o⟩:=zht full h
 have pm:(((uac (mask+1)).filterMap λ j=>(ow.getD j none).map (j,·)).map (·.2)).Perm (uac hs.size):=by
  have e2:((uac (mask+1)).filterMap λ j=>(ow.getD j none).map (j,·)).map (·.2)=(uac (mask+1)).filterMap λ j=>ow.getD j none:=by
   rw[uex]
   refine congrArg (λ g=>uft g _) (funext λ j=>?_)
   cases ow.getD j none <;> rfl
  rw[e2]
  refine (ug2 ?_ uek).mpr λ v=>?_
  ·rw[ug3,udh]
   refine ubk.imp λ lt v hv v' hv' z=>?_
   subst z
   have:=o.one _ _ _ hv hv'
   left
  ·rw[ub3,uaj]
   constructor
   ·rintro ⟨j,_,hj⟩
    exact o.lt _ _ hj
   ·intro hv
    obtain⟨j,hj⟩:=o.has v hv
    refine⟨j,uaj.mpr ?_,hj⟩
    rcases Nat.lt_or_ge j (mask+1) with z | z
    ·exact z
    ·rw[ubt,Array.getElem?_eq_none (by rw[o.size];exact z)] at hj
     cases hj
 refine⟨_,_,by unfold SetTable.laid;rw[e];rfl,pm,?_,?_,rfl,rfl,rfl,rfl,rfl,rfl⟩
 ·show (((uac (mask+1)).filterMap λ j=>(ow.getD j none).map (j,·)).map (·.1)).Pairwise (·<·)
  rw[ubx,udh]
  refine ubk.imp λ lt v hv v' hv'=>?_
  cases e1:ow.getD _ none with
  | none=>rw[e1] at hv;cases hv
  | some x =>
   rw[e1] at hv;cases hv
   rename_i b
   cases e3:ow.getD b none with
   | none=>rw[e3] at hv';cases hv'
   | some y=>rw[e3] at hv';cases hv';exact lt
 ·have:=pm.length_eq
  simpa using this
end Lay9
namespace Stb
open PySem PyProof.Rows
section
variable {prog:Program}{w:World}{A:Around}{E:Value->Shared->Prop}{s:Shared}
theorem zgm {es:Array (Int × Value)}{order:Array Nat}(pm:order.toList.Perm (uac es.size)):(order.filterMap (es[·]?)).toList.Perm es.toList:=by
 have h:=pm.filterMap (es[·]?)
 rw[filterMap_getElem?_range] at h
 simpa using h
theorem zsw {a:Addr}{S:Int->Bool}{n wanted:Nat}{Q:Unit->Shared->Prop}(st:SetT prog w s.heap a S n)(hw:n<wanted)(hl:wanted<512)
  (fin:∀ h',Heap.SameBut a s.heap h'->SetT prog w h' a S n->Q () { s with heap:=h' }):wpAny (model prog w) A (setRelay a wanted) Q E s:=by
 obtain⟨⟨o,es,ep,t,ho,ox,od,el,me,small,fit,en⟩,o',es',ep',t',ho',od',ti⟩:=st
 rw[ho] at ho';cases ho'
 rw[od] at od';cases od'
 obtain⟨full,gt,le⟩:=Lay9.size_full hl
 have hm:SetTable.sizeAbove wanted-1+1=SetTable.sizeAbove wanted:=by left
 obtain⟨t2,order,e,pm,asc,sz,eled,eplain,emask,edum,_,_⟩:=Lay9.laid_some (mask:=SetTable.sizeAbove wanted-1) (finger:=t.finger) (moves:=t.movedTo (SetTable.sizeAbove wanted-1)) (led:=t.led) (plain:=t.plain) (hm ▸ full) (hs:=es.map (·.1)) (by rw[ufs,hm];left)
 rw[ufs] at pm sz
 have pe:=zgm pm
 have esz:(order.filterMap (es[·]?)).size=es.size:=by rw[← ubl,pe.length_eq,ubl]
 have fit2:t2.fits (order.filterMap (es[·]?)).size=true:=by
  unfold SetTable.fits SetTable.fill
  rw[esz,sz,emask,edum]
  simp
  left
 unfold setRelay
 refine uab (ubh ho od fit ?_)
 have line:¬ SetTable.sizeAbove wanted>sizeLine:=by rw[ucr];left
 have er:t.relaid (es.map (·.1)) wanted=some (t2,order):=e
 dsimp only
 rw[if_neg line,er]
 refine uab ?_
 wp_delta
 have nb:((order.filterMap (es[·]?)).size != es.size)=false:=by rw[esz];simp
 dsimp only
 rw[nb]
 refine ubi (λ z=>absurd z (by decide)) λ _=>?_
 refine uag (udl ho od ?_ (udn (esz ▸ small)))
 obtain⟨g1,s1⟩:=ufo (knd:=intKind prog w) ho ox od (el.perm pe) (λ k=>(me k).trans ⟨λ ⟨e,he,q⟩=>⟨e,pe.mem_iff.mpr he,q⟩,λ ⟨e,he,q⟩=>⟨e,pe.mem_iff.mp he,q⟩⟩) (esz ▸ small) fit2
 rw[esz,en] at s1
 exact fin _ (Heap.SameBut.update s.heap a _) ⟨s1,_,_,_,_,g1,rfl,Asc.list.mpr asc,eled.trans ti.2⟩
theorem zt1 {a:Addr}{S:Int->Bool}{n more:Nat}{Q:Unit->Shared->Prop}(st:SetT prog w s.heap a S n)(hm:0<more)(hl:(n+more)*2<512)
  (fin:∀ h',Heap.SameBut a s.heap h'->SetT prog w h' a S n->Q () { s with heap:=h' }):wpAny (model prog w) A (setRoomFor a more) Q E s:=by
 obtain⟨o,es,ep,t,ho,ox,od,el,me,small,fit,en⟩:=st.1
 have psz:t.place.size=n:=by
  simp only [SetTable.fits,ubd,beq_iff_eq] at fit
  rw[fit.1];exact en
 unfold setRoomFor
 refine uab (ubh ho od fit ?_)
 dsimp only
 unfold SetTable.roomFor
 split
 ·rename_i wanted e
  split at e
  ·cases e
   exact zsw st (by left) (by left) fin
  ·cases e
 ·have e0:s={ s with heap:=s.heap }:=by cases s;rfl
  exact uag (by rw[e0];exact fin _ (Heap.SameBut.refl _ _) st)
end
end Stb
namespace Stb
open PySem PyProof.Rows
section
variable {prog:Program}{w:World}{A:Around}{E:Value->Shared->Prop}{s:Shared}
def Fr (w:World)(h:Heap)(a:Addr)(m:Nat):Prop:=∃ o ep t,h.get? a=some o/\o.ExactSet/\o.data=.set #[] ep t/\t.place=#[]/\t.dummies=#[]/\Lay9.Full (t.mask+1)/\t.led=ledOf w/\m<=t.mask
theorem zk0 {t:SetTable}(h1:t.place=#[])(h2:t.dummies=#[]):t.fits 0=true:=by
 unfold SetTable.fits SetTable.fill
 rw[h1,h2];simp
theorem zsu {a:Addr}{more:Nat}{Q:Unit->Shared->Prop}(fr:Fr w s.heap a 0)(hm:0<more)(hl:more*2<512)
  (fin:∀ h',Heap.SameBut a s.heap h'->Fr w h' a more->Q () { s with heap:=h' }):wpAny (model prog w) A (setRoomFor a more) Q E s:=by
 obtain⟨o,ep,t,ho,ox,od,pl,du,full,led,_⟩:=fr
 have fit:=zk0 pl du
 unfold setRoomFor
 refine uab (ubh ho od fit ?_)
 dsimp only
 unfold SetTable.roomFor
 have f0:t.fill=0:=by unfold SetTable.fill;rw[pl,du];rfl
 split
 ·rename_i wanted e
  rw[f0,pl] at e
  split at e
  ·cases e
   have ew:((#[]:Array Nat).size+more)*2=more*2:=by simp
   rw[ew]
   obtain⟨full2,gt,le⟩:=Lay9.size_full hl
   have hm':SetTable.sizeAbove (more*2)-1+1=SetTable.sizeAbove (more*2):=by left
   obtain⟨t2,order,e,pm,asc,sz,eled,eplain,emask,edum,_,_⟩:=Lay9.laid_some (mask:=SetTable.sizeAbove (more*2)-1) (finger:=t.finger) (moves:=t.movedTo (SetTable.sizeAbove (more*2)-1)) (led:=t.led) (plain:=t.plain) (hm' ▸ full2) (hs:=(#[]:Array (Int × Value)).map (·.1)) (by simp)
   have er:t.relaid ((#[]:Array (Int × Value)).map (·.1)) (more*2)=some (t2,order):=e
   unfold setRelay
   refine uab (ubh ho od fit ?_)
   have line:¬ SetTable.sizeAbove (more*2)>sizeLine:=by rw[ucr];left
   dsimp only
   rw[if_neg line,er]
   refine uab ?_
   wp_delta
   have o0:order=#[]:=by
    have:=pm.length_eq
    simp at this
    exact this
   subst o0
   dsimp only
   refine ubi (λ z=>absurd z (by decide)) λ _=>?_
   refine uag (udl ho od ?_ (ubj _))
   have hg:(s.heap.update a (Obj.putSet #[] t2)).get? a=some { o with data:=.set #[] (ep+1) t2 }:=by
    have:=Heap.get?_update_self (Obj.putSet #[] t2) ho (by rw[putSet_of #[] t2 od];rfl)
    rw[putSet_of #[] t2 od] at this;exact this
   have p0:t2.place=#[]:=by
    have:=sz
    simp at this
    exact this
   exact fin _ (Heap.SameBut.update s.heap a _) ⟨_,_,_,hg,ox,rfl,p0,edum,by rw[emask,hm'];exact full2,eled.trans led,by rw[emask];left⟩
  ·cases e
 ·rename_i e
  rw[f0,pl] at e
  by_cases c:(0+more)*5 ≥ t.mask*3
  ·rw[if_pos c] at e
   exact (e _ rfl).elim
  ·have e0:s={ s with heap:=s.heap }:=by cases s;rfl
   exact uag (by rw[e0];exact fin _ (Heap.SameBut.refl _ _) ⟨o,ep,t,ho,ox,od,pl,du,full,led,by left⟩)
theorem zly {a b:Addr}{S:Int->Bool}{n:Nat}{each:Sem Unit}{Q:Unit->Shared->Prop}(ne:a≠b)(fr:Fr w s.heap a 0)(st:SetT prog w s.heap b S n)(hl:n*2<512)
  (fin:∀ h',Heap.SameBut a s.heap h'->SetT prog w h' a S n->Q () { s with heap:=h' }):wpAny (model prog w) A (setMerge a b each) Q E s:=by
 obtain⟨⟨o,es,ep,t,ho,ox,od,el,me,small,fit,en⟩,o',es',ep',t',ho',od',ti⟩:=id st
 rw[ho] at ho';cases ho'
 rw[od] at od';cases od'
 unfold setMerge
 have nb:(a==b)=false:=by simpa using ne
 rw[nb]
 refine ubi (λ z=>absurd z (by decide)) λ _=>?_
 refine uab (ubh ho od fit ?_)
 dsimp only
 refine ubi (λ z=>?_) λ z=>?_
 ·have e0:es=#[]:=by simpa using z
  subst e0
  obtain⟨oa,epa,ta,hoa,oxa,oda,pla,dua,_,leda,_⟩:=fr
  have e1:s={ s with heap:=s.heap }:=by cases s;rfl
  have asc:Asc ta.place:=by
   rw[pla]
   intro i j _ h
   simp at h
  exact uag (by rw[e1];exact fin _ (Heap.SameBut.refl _ _) ⟨⟨oa,#[],epa,ta,hoa,oxa,oda,el,me,small,zk0 pla dua,en⟩,oa,#[],epa,ta,hoa,oda,asc,leda⟩)
 ·have pos:0<es.size:=by
   have:es≠#[]:=by simpa using z
   exact Array.size_pos_iff.mpr this
  refine uab (zsu fr pos (by left) λ h1 sb1 fr1=>?_)
  obtain⟨oa,epa,ta,hoa,oxa,oda,pla,dua,fulla,leda,room⟩:=fr1
  refine uab (ubh hoa oda (zk0 pla dua) ?_)
  dsimp only
  have f0:ta.fill=0:=by unfold SetTable.fill;rw[pla,dua];rfl
  have rd:ta.road t=if ta.mask==t.mask&&t.dummies.isEmpty then .slotForSlot else .clean:=by
   unfold SetTable.road
   rw[f0];rfl
  rw[rd]
  have ledB:(ta.led&&t.led)=ledOf w:=by rw[leda,ti.2,Bool.and_self]
  by_cases c:(ta.mask==t.mask&&t.dummies.isEmpty)=true
  ·rw[if_pos c]
   dsimp only
   refine udl hoa oda ?_ (udn small)
   have fit2:SetTable.fits { t with finger:=ta.finger,led:=ta.led&&t.led,moves:=ta.moves,plain:=ta.plain&&t.plain } es.size=true:=fit
   obtain⟨g1,s1⟩:=ufo (knd:=intKind prog w) hoa oxa oda el me small fit2
   rw[en] at s1
   exact fin _ (sb1.trans (Heap.SameBut.update _ a _)) ⟨s1,_,_,_,_,g1,rfl,ti.1,ledB⟩
  ·rw[if_neg c]
   dsimp only
   obtain⟨t2,order,e,pm,asc,sz,eled,eplain,emask,edum,_,_⟩:=Lay9.laid_some (mask:=ta.mask) (finger:=ta.finger) (moves:=ta.moves) (led:=ta.led&&t.led) (plain:=ta.plain&&t.plain) fulla (hs:=es.map (·.1)) (by rw[ufs];left)
   rw[ufs] at pm sz
   have pe:=zgm pm
   have esz:(order.filterMap (es[·]?)).size=es.size:=by rw[← ubl,pe.length_eq,ubl]
   have fit2:t2.fits (order.filterMap (es[·]?)).size=true:=by
    unfold SetTable.fits SetTable.fill
    rw[esz,sz,emask,edum]
    simp
    left
   rw[e]
   refine uab ?_
   wp_delta
   have nb:((order.filterMap (es[·]?)).size != es.size)=false:=by rw[esz];simp
   dsimp only
   rw[nb]
   refine ubi (λ z=>absurd z (by decide)) λ _=>?_
   refine uag (udl hoa oda ?_ (udn (esz ▸ small)))
   obtain⟨g1,s1⟩:=ufo (knd:=intKind prog w) hoa oxa oda (el.perm pe) (λ k=>(me k).trans ⟨λ ⟨e,he,q⟩=>⟨e,pe.mem_iff.mpr he,q⟩,λ ⟨e,he,q⟩=>⟨e,pe.mem_iff.mp he,q⟩⟩) (esz ▸ small) fit2
   rw[esz,en] at s1
   exact fin _ (sb1.trans (Heap.SameBut.update _ a _)) ⟨s1,_,_,_,_,g1,rfl,Asc.list.mpr asc,eled.trans ledB⟩
end
end Stb
namespace Stb
open PySem PyProof.Rows
def Cn (S:Int->Bool)(n:Nat):Prop:=∃ l:List Int,l.Nodup/\l.length=n/\∀ k,S k=true↔k∈l
theorem Cn.add {S:Int->Bool}{n:Nat}(c:Cn S n)(k:Int):Cn (λ y=>S y||decide (y=k)) (if S k then n else n+1):=by
 obtain⟨l,nd,ll,hm⟩:=c
 cases e:S k with
 | true =>
  refine⟨l,nd,by rw[if_pos rfl];exact ll,λ y=>?_⟩
  rw[uc0,decide_eq_true_eq,← hm y]
  exact⟨λ z=>z.elim id λ y=>y ▸ e,.inl⟩
 | false =>
  refine⟨l++[k],?_,by rw[uaq,ll];rfl,λ y=>?_⟩
  ·refine uch.mpr ⟨nd,by simp,λ a ha b hb z=>?_⟩
   rw[uav.mp hb] at z
   have:=(hm k).mpr (z ▸ ha)
   rw[e] at this;cases this
  ·rw[uc0,decide_eq_true_eq,ua6,uav,hm y]
section
variable {prog:Program}{w:World}{A:Around}{E:Value->Shared->Prop}{s:Shared}
theorem zni {a:Addr}{es:Array (Int × Value)}{ep:Nat}{t:SetTable}{Q:Array (Int × Value)->Shared->Prop}{o:Obj}(ho:s.heap.get? a=some o)(od:o.data=.set es ep t)(fit:t.fits es.size=true)(led:t.led=ledOf w)
  (h:∀ ord d',ord.toList.Perm es.toList->Q ord { s with drawn:=d' }):wpAny (model prog w) A (setWalk a) Q E s:=by
 have e0:s={ s with drawn:=s.drawn }:=by cases s;rfl
 unfold setWalk setsByText
 refine uab (ubh ho od fit ?_)
 refine uab (uab (ucm (uag ?_)))
 dsimp only
 refine ubi (λ z=>?_) λ z=>?_
 ·refine uab (ucm (uag ?_))
  rw[e0]
  exact h _ _ (ziu _ _)
 ·have lt:ledOf w=true:=by
   have z':w.params.followText "set-order"=false:=udd.mpr z
   unfold ledOf;rw[z'];rfl
  refine ubi (λ z2=>?_) λ z2=>?_
  ·refine uab (zeo _ _ _ _ (by simp) λ ys d' pm=>uag (h _ d' (by simpa using pm)))
  ·refine uab ?_
   wp_delta
   rw[led,lt]
   refine ubi (λ z3=>absurd z3 (by simp)) λ _=>?_
   refine uag (uag ?_)
   rw[e0]
   exact h _ _ (uer _)
theorem zgs {α β:Type}(b:β)(f:α->β->Sem (ForInStep β)):∀ es:List α,(∀ x∈es,f x b=pure (.yield b))->forIn es b f=(pure b:Sem β)
 | [],_=>by rw[ue0]
 | x::es,hf=>by
  rw[ueb,hf x uan]
  show forIn es b f=pure b
  exact zgs b f es λ y hy=>hf y (uam _ hy)
theorem zje {α β:Type}(b:β)(f:α->β->Sem (ForInStep β))(es:Array α)(hf:∀ x∈es.toList,f x b=pure (.yield b)):forIn es b f=(pure b:Sem β):=by
 rw[← Array.forIn_toList];exact zgs b f _ hf
theorem zmc {es:List (Int × Value)}(el:ElemsOf (intKind prog w) es){e:Int × Value}(he:e∈es):∃ k t,e.2=.int k t/\(intKind prog w).is k e.2=true/\e.1=(intKind prog w).hash k/\e.2.scannable=true:=by
 obtain⟨⟨k,h1,h2⟩,h3⟩:=el e he
 obtain⟨t,ht⟩:∃ t,e.2=.int k t:=by
  obtain⟨hx,x⟩:=e
  have h1':Value.isInt k x=true:=h1
  cases x <;> simp [Value.isInt] at h1'
  rename_i i t
  exact⟨t,by rw[h1']⟩
 exact⟨k,t,ht,h1,h2,h3⟩
theorem zsy {a b:Addr}{S S':Int->Bool}{n m:Nat}{Q:Bool->Shared->Prop}(sa:SetT prog w s.heap a S n)(sb:SetT prog w s.heap b S' m)(h:Q true s):wpAny (model prog w) A (setsQuiet [a,b]) Q E s:=by
 obtain⟨oa,ea,epa,ta,hoa,_,oda,ela,_,_,fita,_⟩:=sa.1
 obtain⟨ob,eb,epb,tb,hob,_,odb,elb,_,_,fitb,_⟩:=sb.1
 have go : ∀ {es : Array (Int × Value)}, ElemsOf (intKind prog w) es.toList → ∀ (x : Int × Value), x∈es.toList → (match x.2 with
     | Value.ref a=>do
       let r ← specialOf x.2 (Str.ofString "__eq__")
       if (r != some (Value.builtin "object.__eq__"))=true then pure (ForInStep.done (some false,()))
       else pure (ForInStep.yield (none,()))
     | x=>(pure (ForInStep.yield (none,())):Sem (ForInStep (Option Bool × Unit))))=pure (.yield (none,())):=λ el x hx=>by
  obtain⟨k,t,e,_⟩:=zmc el hx
  rw[e]
 unfold setsQuiet
 simp only [ueb,ue0]
 refine uab (uab (uab (uc3 hoa oda fita ?_)))
 rw[zje _ _ _ (go ela)]
 refine uab (uag (uag ?_))
 dsimp only
 refine uab (uab (uc3 hob odb fitb ?_))
 rw[zje _ _ _ (go elb)]
 exact uab (uag (uag (uag (uag h))))
theorem zqa {a b:Addr}{S S':Int->Bool}{n m:Nat}{Q:Array (Int × Value)->Shared->Prop}(ne:a≠b)(sa:SetT prog w s.heap a S n)(sb:SetT prog w s.heap b S' m){ob:Obj}{eb:Array (Int × Value)}{epb:Nat}{tb:SetTable}(hob:s.heap.get? b=some ob)(odb:ob.data=.set eb epb tb)
  (h:∀ ord h' d',ord.toList.Perm eb.toList->Heap.SameBut a s.heap h'->SetT prog w h' a S n->Q ord { s with heap:=h',drawn:=d' }):wpAny (model prog w) A (setWalkUnseen b [a] (some a)) Q E s:=by
 obtain⟨⟨o,es,ep,t,ho,ox,od,el,me,small,fit,en⟩,o',es',ep',t',ho',od',ti⟩:=id sb
 rw[ho] at ho';cases ho'
 rw[od] at od';cases od'
 obtain rfl:o=ob:=ua3 (ho.symm.trans hob)
 obtain⟨rfl,rfl,rfl⟩:es=eb/\ep=epb/\t=tb:=by
  have:=od.symm.trans odb
  injection this with a b c
  exact⟨a,b,c⟩
 have e0:∀ d,({ s with drawn:=d }:Shared)={ s with heap:=s.heap,drawn:=d }:=λ d=>rfl
 have wk:∀ {Q':Array (Int × Value)->Shared->Prop},(∀ ord d',ord.toList.Perm es.toList->Q' ord { s with drawn:=d' })->wpAny (model prog w) A (setWalk b) Q' E s:=λ h=>zni ho od fit ti.2 h
 have done:∀ ord d',ord.toList.Perm es.toList->Q ord { s with drawn:=d' }:=λ ord d' pm=>by rw[e0];exact h ord s.heap d' pm (Heap.SameBut.refl _ _) sa
 unfold setWalkUnseen setsByText
 refine uab (ubh ho od fit ?_)
 refine uab (uab (ucm (uag ?_)))
 dsimp only
 refine ubi (λ z=>wk done) λ z=>?_
 refine uab (zsy sb sa ?_)
 refine ubi (λ z=>absurd z (by decide)) λ _=>?_
 refine uab (ud2 ?_)
 obtain⟨⟨oa,ea,epa,ta,hoa,oxa,oda,ela,mea,smalla,fita,ena⟩,oa',ea',epa',ta',hoa',oda',tia⟩:=id sa
 rw[hoa] at hoa';cases hoa'
 rw[oda] at oda';cases oda'
 refine uab (ubh hoa oda fita ?_)
 dsimp only
 refine ubi (λ z=>?_) λ z=>?_
 ·refine uab (udl hoa oda (uag ?_) (udn smalla))
  obtain⟨g1,s1⟩:=ufo (knd:=intKind prog w) (t':={ ta with led:=ta.led&&t.led,plain:=ta.plain&&t.plain }) hoa oxa oda ela mea smalla fita
  rw[ena] at s1
  exact h es _ s.drawn (uer _) (Heap.SameBut.update _ a _) ⟨s1,_,_,_,_,g1,rfl,tia.1,by show (ta.led&&t.led)=_;rw[tia.2,ti.2,Bool.and_self]⟩
 ·exact uag (done es s.drawn (uer _))
end
end Stb
namespace Stb
open PySem PyProof.Rows
section
variable {prog:Program}{w:World}{A:Around}{E:Value->Shared->Prop}{s:Shared}
theorem zr5 {a b:Addr}{each:Sem Unit}{ob:Obj}{eb:Array (Int × Value)}{epb:Nat}{tb:SetTable}(ne:a≠b)(odb:ob.data=.set eb epb tb)(fitb:tb.fits eb.size=true)(elb:ElemsOf (intKind prog w) eb.toList)
  (heach:∀ (z:Shared)(U:Unit->Shared->Prop),z.heap.get? b=some ob->U () z->wpAny (model prog w) A each U E z) :
  ∀ (l:List (Int × Value))(s:Shared)(S:Int->Bool)(n:Nat)(Q:Unit->Shared->Prop),(∀ e∈l,e∈eb.toList)->s.heap.get? b=some ob->SetT prog w s.heap a S n->Cn S n->n+l.length+1<scanBound ->
  (∀ h' S2 n2,Heap.SameBut a s.heap h'->SetT prog w h' a S2 n2->Cn S2 n2->(∀ k,S2 k=true↔S k=true\/∃ e∈l,(intKind prog w).is k e.2=true)->Q () { s with heap:=h' }) ->
  wpAny (model prog w) A (forIn l PUnit.unit λ x (_:PUnit)=>do
   let _ ← holding [x.2] (setAddHashed a x.2 x.1)
   each
   let st ← setState b
   if (st.2.1 != epb)=true then do
    (unsupported "set.changed-during-merge":Sem PUnit)
    pure (ForInStep.yield PUnit.unit)
   else pure (ForInStep.yield PUnit.unit)) Q E s
 | [],s,S,n,Q,_,_,st,c,_,fin=>by
  rw[ue0]
  have e0:s={ s with heap:=s.heap }:=by cases s;rfl
  refine uag ?_
  rw[e0]
  exact fin s.heap S n (Heap.SameBut.refl _ _) st c λ k=>by simp
 | e::l,s,S,n,Q,hl,hb,st,c,room,fin=>by
  rw[ueb]
  obtain⟨k,t,ek,h1,h2,h3⟩:=zmc elb (hl e uan)
  rw[ua5] at room
  refine uab (uab (ubz ?_))
  rw[h2]
  refine zup h1 h3 st (by left) λ h' sb st'=>?_
  have hb':h'.get? b=some ob:=sb.extBut _ _ ne.symm hb
  refine uab (heach _ _ hb' ?_)
  refine uab (ubh hb' odb fitb ?_)
  have nb:(epb != epb)=false:=by simp
  dsimp only
  rw[nb]
  refine ubi (λ z=>absurd z (by decide)) λ _=>uag ?_
  dsimp only
  refine zr5 ne odb fitb elb heach l { s with heap:=h' } _ _ _ (λ y hy=>hl y (uam _ hy)) hb' st' (c.add k) (by split <;> left) λ h2' S2 n2 sb2 st2 c2 m2=>?_
  refine fin h2' S2 n2 (sb.trans sb2) st2 c2 λ y=>?_
  rw[m2 y,uc0,decide_eq_true_eq,or_assoc]
  have ky:y=k↔(intKind prog w).is y e.2=true:=by
   rw[ek]
   show y=k↔Value.isInt y (.int k t)=true
   simp [Value.isInt]
   exact⟨λ z=>z.symm,λ z=>z.symm⟩
  constructor
  ·rintro (z | z | ⟨x,hx,z⟩)
   ·exact .inl z
   ·exact .inr ⟨e,uan,ky.mp z⟩
   ·exact .inr ⟨x,uam _ hx,z⟩
  ·rintro (z | ⟨x,hx,z⟩)
   ·exact .inl z
   ·rcases uar.mp hx with rfl | hx
    ·exact .inr (.inl (ky.mpr z))
    ·exact .inr (.inr ⟨x,hx,z⟩)
theorem zs8 {a b:Addr}{S S':Int->Bool}{n m:Nat}{each:Sem Unit}{Q:Unit->Shared->Prop}(ne:a≠b)(sa:SetT prog w s.heap a S n)(sb:SetT prog w s.heap b S' m)(ca:Cn S n)(n0:0<n)(hl:(n+m)*2<512)
  (heach:∀ (ob:Obj)(z:Shared)(U:Unit->Shared->Prop),s.heap.get? b=some ob->z.heap.get? b=some ob->U () z->wpAny (model prog w) A each U E z)
  (fin:∀ h' d' S2 n2,Heap.SameBut a s.heap h'->SetT prog w h' a S2 n2->Cn S2 n2->(∀ k,S2 k=true↔S k=true\/S' k=true)->Q () { s with heap:=h',drawn:=d' }):wpAny (model prog w) A (setMerge a b each) Q E s:=by
 obtain⟨⟨o,es,ep,t,ho,ox,od,el,me,small,fit,en⟩,o',es',ep',t',ho',od',ti⟩:=id sb
 rw[ho] at ho';cases ho'
 rw[od] at od';cases od'
 unfold setMerge
 have nb:(a==b)=false:=by simpa using ne
 rw[nb]
 refine ubi (λ z=>absurd z (by decide)) λ _=>?_
 refine uab (ubh ho od fit ?_)
 dsimp only
 have e0:s={ s with heap:=s.heap,drawn:=s.drawn }:=by cases s;rfl
 refine ubi (λ z=>?_) λ z=>?_
 ·have ez:es=#[]:=by simpa using z
  subst ez
  have no:∀ k,S' k=true↔False:=λ k=>(me k).trans (by simp)
  refine uag ?_
  rw[e0]
  exact fin s.heap s.drawn S n (Heap.SameBut.refl _ _) sa ca λ k=>by rw[no k];simp
 ·have pos:0<es.size:=by
   have:es≠#[]:=by simpa using z
   exact Array.size_pos_iff.mpr this
  refine uab (zt1 sa pos (by left) λ h1 sb1 sa1=>?_)
  have ho1:h1.get? b=some o:=sb1.extBut _ _ ne.symm ho
  obtain⟨oa,ea,epa,ta,hoa,oxa,oda,ela,mea,smalla,fita,ena⟩:=sa1.1
  refine uab (ubh hoa oda fita ?_)
  dsimp only
  have psz:ta.place.size=n:=by
   simp only [SetTable.fits,ubd,beq_iff_eq] at fita
   rw[fita.1];exact ena
  have rd:ta.road t=.oneByOne:=by
   unfold SetTable.road
   have:(ta.fill != 0)=true:=by
    unfold SetTable.fill
    rw[psz]
    have:n+ta.dummies.size≠0:=by left
    simpa using this
   rw[if_pos this]
  rw[rd]
  dsimp only
  have sbS:SetT prog w h1 b S' m:=sb.keep λ x hx=>sb1.extBut _ _ ne.symm hx
  refine uab (zqa (s:={ s with heap:=h1 }) ne sa1 sbS ho1 od λ ord h2 d2 pm sb2 sa2=>?_)
  have ho2:h2.get? b=some o:=sb2.extBut _ _ ne.symm ho1
  rw[← Array.forIn_toList]
  have el2:ord.toList.length=m:=by rw[pm.length_eq,ubl,en]
  have sc:600<=scanBound:=by unfold scanBound;decide
  have room:n+ord.toList.length+1<scanBound:=by left
  refine uab (zr5 ne od fit el (λ z U hz hU=>heach o z U ho hz hU) ord.toList { s with heap:=h2,drawn:=d2 } S n _ (λ e he=>pm.mem_iff.mp he) ho2 sa2 ca room λ h3 S2 n2 sb3 sa3 c3 m3=>uag ?_)
  refine fin h3 d2 S2 n2 (sb1.trans (sb2.trans sb3)) sa3 c3 λ k=>?_
  rw[m3 k,me k]
  exact or_congr Iff.rfl ⟨λ ⟨e,he,q⟩=>⟨e,pm.mem_iff.mp he,q⟩,λ ⟨e,he,q⟩=>⟨e,pm.mem_iff.mpr he,q⟩⟩
end
end Stb
namespace Stb
open PySem PyProof.Rows
theorem zuv:entryFor table "set.__or__"=some Builtin.«frozenset.__or__»:=entryFor_alias (id':="frozenset.__or__") (by kernel_rfl) rfl (by symm) (by kernel_rfl)
section
variable {prog:Program}{w:World}{A:Around}{E:Value->Shared->Prop}{s:Shared}
theorem ztr {a:Addr}{Q:Bool->Shared->Prop}(hT:s.TypeIs (.ref a) "set")(h:Q true s):wpAny (model prog w) A (Builtin.Frozenset.isAnySet (.ref a)) Q E s:=by
 unfold Builtin.Frozenset.isAnySet
 unfold orM
 refine uab (udt (T:="set") (b:=true) hT (by rw[ufe];kernel_rfl) ?_)
 exact uag h
theorem SetT.typ {h:Heap}{a:Addr}{S:Int->Bool}{n:Nat}(st:SetT prog w h a S n):∃ o,h.get? a=some o/\o.cls=.type "set":=by
 obtain⟨⟨o,es,ep,t,ho,ox,od,_⟩,_⟩:=st
 exact⟨o,ho,ox.1⟩
theorem zuw {a b:Addr}{S S':Int->Bool}{n m:Nat}{Q:Value->Shared->Prop}(sa:SetT prog w s.heap a S n)(sb:SetT prog w s.heap b S' m)(ca:Cn S n)(cb:Cn S' m)(hl:(n+m)*2<512)(ne:a≠b)
  (fin:∀ h' d' S2 n2,(∀ c o,s.heap.get? c=some o->h'.get? c=some o)->SetT prog w h' s.heap.objs.size S2 n2->Cn S2 n2->(∀ k,S2 k=true↔S k=true\/S' k=true)->Q (.ref s.heap.objs.size) { s with heap:=h',drawn:=d' }) :
  wpAny (model prog w) A (binaryOp .BitOr (.ref a) (.ref b)) Q E s:=by
 obtain⟨oa,hoa,oca⟩:=sa.typ
 obtain⟨ob,hob,ocb⟩:=sb.typ
 have tA:s.TypeIs (.ref a) "set":=⟨oa,hoa,oca⟩
 have tB:s.TypeIs (.ref b) "set":=⟨ob,hob,ocb⟩
 refine wpAny_binaryOp_same (op:=.BitOr) (T:="set") tA tB PySem.F.fills_set_or PySem.F.slot_set_or ?_
 refine ubs PySem.F.slot_set_or tA zuv ?_ (PySem.F.args_set_or_2 _ _)
 unfold Builtin.«frozenset.__or__»
 wp_delta
 refine uab (m:=Builtin.Frozenset.slot1 "__or__" { pos:=[Value.ref a,Value.ref b] }) (uag ?_)
 dsimp only
 rw[if_neg (by decide)]
 dsimp only
 unfold andM
 refine uab (uab (ztr tA ?_))
 refine ztr tB ?_
 refine ubi (λ z=>absurd z (by decide)) λ _=>?_
 refine uab (m:=Builtin.Frozenset.addrOf (.ref a)) (uag ?_)
 refine uab ?_
 wp_delta
 refine uab ?_
 unfold Builtin.Frozenset.copyOf Builtin.Frozenset.baseOf
 refine uab (uab (udt (T:="set") (b:=true) tA (by rw[ufe];kernel_rfl) (uag ?_)))
 rw[if_pos rfl]
 unfold newSet setsByText
 refine uab (uab (uab (ucm (uag (uby ?_)))))
 have lo:(!(model prog w).w.params.followText "set-order")=ledOf w:=rfl
 rw[lo]
 generalize hR:s.heap.objs.size=R
 rw[hR] at fin
 have hnew:(s.heap.push { cls:=.type "set",data:=.set #[] 0 (.fresh 0 0 (ledOf w)) }).get? R=some { cls:=.type "set",data:=.set #[] 0 (.fresh 0 0 (ledOf w)) }:=by rw[← hR];exact Heap.get?_push_size _ rfl
 have up:∀ c o,s.heap.get? c=some o->(s.heap.push { cls:=.type "set",data:=.set #[] 0 (.fresh 0 0 (ledOf w)) }).get? c=some o:=λ c o e=>Heap.get?_push_of_some _ e
 have nR:∀ c o,s.heap.get? c=some o->c≠R:=λ c o e=>by rw[← hR];exact uau (Heap.lt_size e)
 generalize s.heap.push { cls:=.type "set",data:=.set #[] 0 (.fresh 0 0 (ledOf w)) }=h1 at hnew up ⊢
 have full8:Lay9.Full 8:=by
  have:=(Lay9.size_full (n:=1) (by decide)).1
  exact this
 have fr:Fr w h1 R 0:=⟨_,_,_,hnew,⟨rfl,rfl,rfl⟩,rfl,rfl,rfl,full8,rfl,ubj _⟩
 have saR:SetT prog w h1 a S n:=sa.keep λ x hx=>up _ _ hx
 have sbR:SetT prog w h1 b S' m:=sb.keep λ x hx=>up _ _ hx
 have neA:=nR a oa hoa
 have neB:=nR b ob hob
 have nba:(Value.ref b != Value.ref a)=true:=by
  have:Value.ref b≠Value.ref a:=λ z=>by injection z with z;exact ne z.symm
  simpa using this
 have ea:∀ (ob':Obj)(es:Array (Int × Value))(ep:Nat)(t:SetTable),ob'.data=.set es ep t->t.fits es.size=true->∀ (z:Shared)(U:Unit->Shared->Prop),z.heap.get? b=some ob'->U () z->wpAny (model prog w) A.in1 (Builtin.Frozenset.unchanged (toString "frozenset."++toString "__or__") b ep) U E z:=λ ob' es ep t od fit z U hz hU=>by
  unfold Builtin.Frozenset.unchanged
  refine uab (ug0 hz od fit ?_)
  have:(ep != ep)=false:=by simp
  rw[this]
  exact uag hU
 refine uab (m:=Builtin.Frozenset.addrOf (.ref R)) (uag ?_)
 have tail : ∀ (h2 : Heap)(d2 : Drawn), (∀ c o, c ≠ R → h1.get? c = some o → h2.get? c = some o) → ((n = 0 /\ Fr w h2 R 0) \/ (0<n /\ SetT prog w h2 R S n)) → wpAny (model prog w) A.in1 (pure (Value.ref R)) (λ a_1 s' => wpAny (model prog w) A.in1
       (have __do_jp:=λ (__r:PUnit)=>(pure a_1:Sem Value);
       if (Value.ref b != Value.ref a)=true then do
         let __do_lift ← Builtin.Frozenset.addrOf a_1
         let __r ← holding [a_1] (Builtin.Frozenset.updateFrom (toString "frozenset."++toString "__or__") __do_lift (Value.ref b))
         __do_jp __r
       else __do_jp ())
       (λ a s'=>wpAny (model prog w) A.in1 (ret a) (λ fin s'=>∃ v,fin=Fin.done (Flow.ret v)/\v≠Value.notImplemented/\Q v s') E s') E s') E { s with heap:=h2,drawn:=d2 }:=λ h2 d2 k2 cs=>by
  refine uag ?_
  rw[nba]
  refine ubi (λ _=>?_) λ z=>absurd rfl z
  refine uab (m:=Builtin.Frozenset.addrOf (.ref R)) (uag (uab (ubz ?_)))
  have sb2:SetT prog w h2 b S' m:=sbR.keep λ x hx=>k2 _ _ neB hx
  obtain⟨ob2,hob2,ocb2⟩:=sb2.typ
  obtain⟨o2,es2,ep2,t2,ho2,ox2,od2,el2,me2,small2,fit2,en2⟩:=sb2.1
  unfold Builtin.Frozenset.updateFrom Builtin.Frozenset.merge
  refine uab (ztr ⟨ob2,hob2,ocb2⟩ ?_)
  refine ubi (λ _=>?_) λ z=>absurd rfl z
  refine uab (m:=Builtin.Frozenset.addrOf (.ref b)) (uag ?_)
  refine uab (ug0 ho2 od2 fit2 ?_)
  rcases cs with ⟨rfl,f2⟩ | ⟨n0,s2⟩
  ·refine zly (s:={ s with heap:=h2,drawn:=d2 }) neB.symm f2 sb2 (by left) λ h3 sb3 st3=>?_
   refine uag (uag ⟨_,rfl,by simp,fin h3 d2 S' m (λ c o e=>sb3.extBut _ _ (nR c o e) (k2 _ _ (nR c o e) (up _ _ e))) st3 cb λ k=>?_⟩)
   obtain⟨l,_,ll,hm⟩:=ca
   have:l=[]:=udp ll
   rw[hm k,this];simp
  ·refine zs8 (s:={ s with heap:=h2,drawn:=d2 }) neB.symm s2 sb2 ca n0 hl (λ ob' z U h1' hz hU=>?_) λ h3 d3 S2 n2 sb3 st3 c3 m3=>?_
   ·obtain rfl:o2=ob':=ua3 (ho2.symm.trans h1')
    exact ea _ _ _ _ od2 fit2 z U hz hU
   ·exact uag (uag ⟨_,rfl,by simp,fin h3 d3 S2 n2 (λ c o e=>sb3.extBut _ _ (nR c o e) (k2 _ _ (nR c o e) (up _ _ e))) st3 c3 m3⟩)
 rcases uf6 n with n0 | n0
 ·subst n0
  obtain⟨o2,es2,ep2,t2,ho2,ox2,od2,el2,me2,small2,fit2,en2⟩:=saR.1
  have ez:es2=#[]:=Array.size_eq_zero_iff.mp en2
  unfold setMerge
  have nb:(R==a)=false:=by simpa using neA.symm
  rw[nb]
  refine uab ?_
  refine ubi (λ z=>absurd z (by decide)) λ _=>?_
  refine uab (ubh ho2 od2 fit2 ?_)
  dsimp only
  rw[ez]
  refine ubi (λ _=>?_) λ z=>absurd rfl z
  exact uag (tail h1 s.drawn (λ _ _ _ e=>e) (.inl ⟨rfl,fr⟩))
 ·refine uab (zly (s:={ s with heap:=h1 }) neA.symm fr saR (by left) λ h2 sb2 st2=>?_)
  exact tail h2 s.drawn (λ c o hc e=>sb2.extBut _ _ hc e) (.inr ⟨n0,st2⟩)
end
end Stb
namespace L3
open PySem PySem.Spec PyProof.Rows L2
section
variable {X:Cx}
theorem zt6:OpR X (binaryOp .BitOr) (λ x y H Q=>∃ (p q:Addr)(S S':Int->Bool)(n m:Nat),x=.ref p/\y=.ref q/\p≠q/\H p=some (SetO X.prog X.w p S n)/\H q=some (SetO X.prog X.w q S' m)/\Stb.Cn S n/\Stb.Cn S' m/\(n+m)*2<512 /\
  ∀ r S2 n2 H',Same H H'->H r=none->H' r=some (SetO X.prog X.w r S2 n2)->Stb.Cn S2 n2->(∀ k,S2 k=true↔S k=true\/S' k=true)->Q (.ref r) H'):=by
 intro pins s σ H x y u v Q I rx ry h
 obtain⟨p,q,S,S',n,m,rfl,rfl,ne,hp,hq,cp,cq,hl,fin⟩:=h
 cases rx
 cases ry
 have sp:Stb.SetT X.prog X.w s.heap p S n:=(show ObjOk X.prog X.w H s.heap p (SetO X.prog X.w p S n) from I.hok p _ hp).1
 have sq:Stb.SetT X.prog X.w s.heap q S' m:=(show ObjOk X.prog X.w H s.heap q (SetO X.prog X.w q S' m) from I.hok q _ hq).1
 refine Stb.zuw sp sq cp cq hl ne λ h' d' S2 n2 hk st c2 m2=>?_
 have fr:H s.heap.objs.size=none:=I.hok.fresh (uai _)
 have I1:=I.laid (a:=s.heap.objs.size) (o:=SetO X.prog X.w s.heap.objs.size S2 n2) (t':=s.toks) hk (uai _) ⟨st,by obtain⟨o,e,_⟩:=st.typ;exact⟨o,e⟩,λ h1 h2 x k=>x.keep k⟩
 have I2:Inv X pins σ (upd H s.heap.objs.size (SetO X.prog X.w s.heap.objs.size S2 n2)) { s with heap:=h',drawn:=d' }:=⟨I1.ok,I1.os,I1.bare,I1.base,I1.loc,I1.cell,I1.free,I1.freeC,I1.pin,I1.hok,I1.len⟩
 exact⟨.ref s.heap.objs.size,_,I2,rfl,fin _ S2 n2 _ (zam fr) fr zaj c2 m2⟩
theorem zph (ns:List Int):Stb.Cn (HT.setS ns ns.length) (HT.setN ns ns.length):=by
 obtain⟨h1,h2⟩:=zbq (λ i=>ns.getD i 0) ns.length
 refine⟨firstMet (λ i=>ns.getD i 0) ns.length,h1,rfl,λ k=>?_⟩
 show ((firstMet (λ i=>ns.getD i 0) ns.length).any (·==k))=true↔_
 rw[ub4]
 exact⟨λ ⟨x,hx,e⟩=>by rw[← (by simpa using e:x=k)];exact hx,λ h=>⟨k,h,by simp⟩⟩
theorem zmh {S:Int->Bool}{n m:Nat}(c:Stb.Cn S n)(h:∀ k,S k=true->0<=k/\k<m):n<=m:=by
 obtain⟨l,nd,ll,hm⟩:=c
 have e:l.length=(l.map uf7).length:=(uae _).symm
 rw[← ll,e]
 refine Peel.zd0 m _ ?_ λ p hp=>?_
 ·rw[ua0,ubx]
  refine ub5 ?_ nd
  intro a b ha hb ne z
  have:=h a ((hm a).mpr ha)
  have:=h b ((hm b).mpr hb)
  left
 ·obtain⟨x,hx,rfl⟩:=ube.mp hp
  have:=h x ((hm x).mpr hx)
  left
end
section
variable {n:Int}{ts:List Tie}{ks:List Nat}{hs:List Int}{r:Nat}
end
theorem zjl {S:Int->Bool}{n m:Nat}{ms:List Int}(c:Stb.Cn S n)(hl:ms.length=n)(hm:∀ k,S k=true↔k∈ms)(pw:ms.Pairwise (·<=·))(b:∀ k,S k=true->0<=k/\k<m):ms.map V.int=natV ((uac m).filter λ k=>S (k:Int))/\KeepOk m ((uac m).filter λ k=>S (k:Int)):=by
 obtain⟨l,nd,ll,hml⟩:=c
 have pm:=zdj (m:=ms) nd (λ x hx=>(hm x).mp ((hml x).mpr hx)) (uey (hl.trans ll.symm))
 have ndm:ms.Nodup:=pm.nodup_iff.mpr nd
 have nn:∀ x∈ms,0<=x:=λ x hx=>(b x ((hm x).mpr hx)).1
 have ko:KeepOk m ((uac m).filter λ k=>S (k:Int)):=⟨udq _ ubk,λ k hk=>uaj.mp (uaz.mp hk).1⟩
 refine⟨?_,ko⟩
 rw[zhv nn]
 congr 1
 have lt:ms.Pairwise (·<·):=(pw.and ndm).imp λ ⟨a,b⟩=>by left
 refine zc8 ?_ ko.1 λ k=>?_
 ·rw[ubx]
  refine ub5 ?_ lt
  intro a b ha hb ab
  have:=nn a ha
  left
 ·rw[uaz,uaj,ube]
  constructor
  ·rintro ⟨x,hx,rfl⟩
   have:=b x ((hm x).mpr hx)
   refine⟨by left,?_⟩
   rw[ua9 this.1]
   exact (hm x).mpr hx
  ·rintro ⟨hk,s⟩
   exact⟨(k:Int),(hm _).mp s,ubf k⟩
end L3
namespace Shr
def geo (d:Nat):Nat->Nat
 | 0=>0
 | k+1=>geo d k*d+1
def spr (d k:Nat):Nat:=1+(d+1)*geo d k
def Share (n k d:Nat):Prop:=n<spr d k/\∀ e,e<d->spr e k<=n
end Shr
namespace Lr
open Far (chn zcq zcc zfl zjn RingOf)
section
variable {R:Nat->Nat->Prop}{nb:Nat->List Nat}
end
end Lr
namespace Peel
section
variable {n:Nat}{ts:List T2}{d:Int}
end
end Peel
namespace L3
open PySem PySem.Spec PyProof.Rows L2
theorem zop {n:Int}{ts:List Tie}{ks:List Nat}(ok:WebOk n ts)(ko:KeepOk ts.length ks)(p:Nat):(nbN ts ks (p:Int)).Nodup:=by
 unfold nbN
 have arc1:∀ {k c},k∈ks->nb1 ts (p:Int) k=some c->(p,c,(tieAt ts k).2.2)∈arcs2 (tieAt ts k):=λ {k c} hk e=>by
  refine a2_iff.mpr (.inl ?_)
  unfold nb1 at e
  by_cases z:(tieAt ts k).1=(p:Int)
  ·rw[if_pos z] at e;exact⟨by left,(ua3 e).symm⟩
  ·rw[if_neg z] at e;cases e
 have arc2:∀ {k c},k∈ks->nb2 ts (p:Int) k=some c->(p,c,(tieAt ts k).2.2)∈arcs2 (tieAt ts k):=λ {k c} hk e=>by
  refine a2_iff.mpr (.inr ?_)
  unfold nb2 at e
  by_cases z:(tieAt ts k).2.1=(p:Int)
  ·rw[if_pos z] at e;exact⟨by left,(ua3 e).symm⟩
  ·rw[if_neg z] at e;cases e
 refine uch.mpr ⟨?_,?_,λ a ha b hb z=>?_⟩
 ·rw[ua0,udh]
  refine ub5 ?_ ko.1
  intro k k' hk hk' lt c hc c' hc' e
  subst e
  exact uau lt (zev ok (ko.2 k hk) (ko.2 k' hk') (arc1 hk hc) (arc1 hk' hc'))
 ·rw[ua0,udh]
  refine ub5 ?_ ko.1
  intro k k' hk hk' lt c hc c' hc' e
  subst e
  exact uau lt (zev ok (ko.2 k hk) (ko.2 k' hk') (arc2 hk hc) (arc2 hk' hc'))
 ·subst z
  obtain⟨k,hk,e⟩:=ub3.mp ha
  obtain⟨k',hk',e'⟩:=ub3.mp hb
  have ee:=zev ok (ko.2 k hk) (ko.2 k' hk') (arc1 hk e) (arc2 hk' e')
  subst ee
  have tk:=ok.tie _ (zav (ko.2 k hk)).2
  unfold nb1 at e
  unfold nb2 at e'
  by_cases z1:(tieAt ts k).1=(p:Int)
  ·rw[if_neg (by left)] at e';cases e'
  ·rw[if_neg z1] at e;cases e
section
variable {g:TG}{te:TE}{own:List Str}{js:List Nat}{σ:L2.St}{H1:Hp}{Q:VK}
theorem zpg {K:uad}{a:Addr}{zs:List V}(hx:H1 a=some (.lst zs))(Sg:L2.St->Prop)(P:Nat->List V->Prop)(hn:zs.length<=1000)(h0:Sg (start3 own js σ))
  (step:∀ i z σ' H',zs[i]?=some z->Same H1 H'->Sg σ'->∀ C:L2.St->V->Hp->Prop,(∀ σ3 l xs H5,Sg σ3->Same H' H5->H' l=none->H5 l=some (.lst xs)->P i xs->C σ3 (.ref l) H5)->g z σ' H' λ σ3 H3=>te σ3 H3 λ v H5=>C σ3 v H5)
  (fin:∀ D ys H',H1 D=none->Same H1 H'->H' D=some (.lst ys)->ys.length=zs.length->(∀ i v,ys[i]?=some v->∃ l xs,v=.ref l/\l≠D/\H1 l=none/\H' l=some (.lst xs)/\P i xs)->Q (.ref D) H'):CompGo own js g tTrue te σ Q (Itl K a) H1:=by
 intro D hD
 refine⟨λ i m ys σ' H'=>m=zs.length-i/\i<=zs.length/\Sg σ'/\Same H1 H'/\ys.length=i/\∀ j v,ys[j]?=some v->∃ l xs,v=.ref l/\l≠D/\H1 l=none/\H' l=some (.lst xs)/\P j xs,⟨zs.length,rfl,ubj _,h0,zam hD,rfl,λ j v e=>by simp at e⟩,?_⟩
 rintro i m ys σ' H' ⟨rfl,hi,sg,sm,hl,hr⟩ hd
 have sq:SqL K H' a zs:=SqL.of (sm _ _ hx)
 by_cases hlt:i<zs.length
 ·refine .inr ⟨⟨zs,zs[i],sq,by simp [hlt]⟩,λ x H2 hy=>?_⟩
  obtain⟨rfl,hy⟩:=hy
  refine step i x σ' _ (hy zs sq) sm sg (λ σ3 v H5=>H5 D=some (.lst ys)/\ys.length<sizeLine/\∃ m',m'<zs.length-i/\(m'=zs.length-(i+1)/\i+1<=zs.length/\Sg σ3/\Same H1 (upd H5 D (.lst (ys++[v])))/\(ys++[v]).length=i+1/\∀ j u,(ys++[v])[j]?=some u->∃ l xs,u=.ref l/\l≠D/\H1 l=none/\upd H5 D (.lst (ys++[v])) l=some (.lst xs)/\P j xs)) λ σ3 l xs H5 sg3 s5 fl hL p5=>?_
  have hd5:=s5 _ _ hd
  have nlD:l≠D:=λ z=>by rw[z,hd] at fl;cases fl
  refine⟨hd5,ucb (by left:ys.length<=1000) (by decide),zs.length-(i+1),by left,rfl,hlt,sg3,λ b o e=>?_,by rw[uaq,ubn,hl],λ j u e=>?_⟩
  ·rw[zas (zal e hD)];exact s5 _ _ (sm _ _ e)
  ·by_cases hj:j<ys.length
   ·rw[uc9 hj] at e
    obtain⟨l',xs',e1,e2,e3,e4,e5⟩:=hr j u e
    exact⟨l',xs',e1,e2,e3,by rw[zas e2];exact s5 _ _ e4,e5⟩
   ·rw[ub9 (by left)] at e
    have ej:j=ys.length:=by
     have:=(ual.mp e).1
     simp at this;left
    subst ej
    have eu:V.ref l=u:=by simpa using e
    subst eu
    rw[hl]
    exact⟨l,xs,rfl,nlD,sm.free fl,by rw[zas nlD];exact hL,p5⟩
 ·have e:i=zs.length:=by left
  subst e
  exact .inl ⟨⟨zs,sq,uai _⟩,fin D ys H' hD sm hd hl hr⟩
end
theorem zh8 {X:Cx}{own fr:List Str}{scope:Scope}{fp:List Addr}{pins:List (Addr × Obj)}{s3:Shared}{H3:Hp}:CallR (cxComp X own fr scope fp pins s3 H3) (.builtin "sorted") (call_sortedI_i X.K):=zb5 (X:=cxComp X own fr scope fp pins s3 H3)
def RgP (ts:List Tie)(ks w:List Nat)(size:Nat)(r:List Nat):Prop:=∃ h tl,r=h::tl/\Lr.Rg (Adj ts ks) h tl/\Lr.Cano h tl/\r.length=size/\w <+: r
def RowS (ts:List Tie)(ks:List Nat)(j:Nat)(rs:List Nat):Prop:=rs.Pairwise (·<·)/\∀ c,c∈rs↔Adj ts ks j c
def BesS (H:Hp)(l:Addr)(n:Nat)(ts:List Tie)(ks:List Nat):Prop:=∃ vs:List V,H l=some (.lst vs)/\vs.length=n/\∀ j,j<n->∃ a rs,vs[j]?=some (.ref a)/\H a=some (.lst (natV rs))/\RowS ts ks j rs
def FewD (n:Int)(ts:List Tie)(ks:List Nat)(k:Nat)(x:Str)(ns:List Nat):Prop:=∃ d,Shr.Share n.toNat k d/\((x="few"/\ns=Peel.gone n.toNat (t2s ts ks) (d:Int)/\∀ q,q<n.toNat->q∈Peel.gone n.toNat (t2s ts ks) (d:Int))\/(x="ring"/\(∃ q,q<n.toNat/\q∉Peel.gone n.toNat (t2s ts ks) (d:Int))/\∃ h tl,ns=h::tl/\IsLR ts ks h tl/\(h::tl).length<=2*k))
def relab (sc0 scope:Scope):Scope:={ scope with names:=scope.names.map λ (n,k)=>if (k==NameKind.free&&sc0.kind==.function&&sc0.names.lookup n==some .cell) then (n,NameKind.cell) else (n,k) }
theorem zqs (X:Cx)(own fr:List Str)(scope:Scope)(fp:List Addr)(pins:List (Addr × Obj))(s3:Shared)(H3:Hp):(cxComp X own fr scope fp pins s3 H3).env.scope=relab X.env.scope scope:=rfl
theorem zqz {X:Cx}{elt tg iter:Expr}{ifs:List Expr}{scope sc0:Scope}{pos:Pos}{own fr N:List Str}{js:List Nat}{wi:TI}{g:TG}{tt:TT}{te:TE}
  {own1 fr1:List Str} {scope1:Scope} {fp1:List Addr} {pins1:List (Addr × Obj)} {s31:Shared} {H31:Hp}
  (hc:X.calm=true) (hi:PI (cxComp X own1 fr1 scope1 fp1 pins1 s31 H31) tg iter wi) (hg:∀ fp pins s3 H3,PG (cxComp (cxComp X own1 fr1 scope1 fp1 pins1 s31 H31) own fr scope fp pins s3 H3) tg g)
  (ht:∀ fp pins s3 H3,PTs (cxComp (cxComp X own1 fr1 scope1 fp1 pins1 s31 H31) own fr scope fp pins s3 H3) ifs tt) (he:∀ fp pins s3 H3,PE (cxComp (cxComp X own1 fr1 scope1 fp1 pins1 s31 H31) own fr scope fp pins s3 H3) elt te)
  (hok:compOk N (relab sc0 scope1) scope fr js=true:=by symm) (hN:own1++fr1=N:=by rfl) (hsc:X.env.scope=sc0:=by rfl)
  (hs:∀ x,foldedSetIterable iter (cxComp X own1 fr1 scope1 fp1 pins1 s31 H31).env x=pure x:=by intro _;rfl):PE (cxComp X own1 fr1 scope1 fp1 pins1 s31 H31) (.ListComp elt [⟨tg,iter,ifs,0⟩] scope pos) (tComp own js wi g tt te) :=
 za7 (N:=N) (sc0:=relab sc0 scope1) hc hi hg ht he hok hN (by rw[zqs,hsc]) hs
theorem zqx {X:Cx}{own fr:List Str}{scope:Scope}{fp:List Addr}{pins:List (Addr × Obj)}{s3:Shared}{H3:Hp}{tg l:Expr}{tl:TE}(hl:PE (cxComp X own fr scope fp pins s3 H3) l tl):PI (cxComp X own fr scope fp pins s3 H3) tg l (iList X.K tl):=zb6 (X:=cxComp X own fr scope fp pins s3 H3) hl
theorem zg8 {X:Cx}{own fr:List Str}{scope:Scope}{fp:List Addr}{pins:List (Addr × Obj)}{s3:Shared}{H3:Hp}{own1 fr1:List Str}{scope1:Scope}{fp1:List Addr}{pins1:List (Addr × Obj)}{s31:Shared}{H31:Hp}:OpR (cxComp (cxComp X own1 fr1 scope1 fp1 pins1 s31 H31) own fr scope fp pins s3 H3) (compareOp .NotIn) (rIn X.K true):=zcx (X:=cxComp (cxComp X own1 fr1 scope1 fp1 pins1 s31 H31) own fr scope fp pins s3 H3)
abbrev GS:Type:=List (Nat × List Nat) × List Nat
def bareG (N:Nat->List Nat)(g:List Nat)(p:Nat):List Nat:=(N p).filter λ q=>!g.contains q
def stepG (N:Nat->List Nat)(d:Int)(s:GS)(p:Nat):GS:=if d<=((bareG N s.2 p).length:Int) then (s.1++[(p,bareG N s.2 p)],s.2++bareG N s.2 p) else s
def swG (N:Nat->List Nat)(d:Int):Nat->GS
 | 0=>([],[])
 | p+1=>stepG N d (swG N d p) p
def goodG (N:Nat->List Nat)(d:Int)(s:GS)(p:Nat):Bool:=decide (d<=((bareG N s.2 p).length:Int))
section
variable {N:Nat->List Nat}{d:Int}
theorem ztp (g h:List Nat)(p:Nat):(bareG N (g++h) p).length<=(bareG N g p).length:=by
 unfold bareG
 rw[← uep,← uep]
 refine uei λ x _ hx=>?_
 simp only [List.contains_append,Bool.not_or,ubd] at hx ⊢
 exact hx.1
theorem zpq (g:List Nat)(p:Nat):bareG N (g++bareG N g p) p=[]:=by
 unfold bareG
 rw[List.filter_eq_nil_iff]
 intro q hq z
 by_cases c:q∈g
 ·simp [c] at z
 ·simp [c,hq] at z
theorem zqm (s:GS)(p q:Nat)(h:goodG N d s q=false):goodG N d (stepG N d s p) q=false:=by
 unfold stepG
 split
 ·unfold goodG at h ⊢
  rw[decide_eq_false_iff_not] at h ⊢
  have:=ztp (N:=N) s.2 (bareG N s.2 p) q
  show ¬ d<=((bareG N (s.2++bareG N s.2 p) q).length:Int)
  left
 ·exact h
theorem znq (d1:1<=d)(s:GS)(p:Nat):goodG N d (stepG N d s p) p=false:=by
 unfold stepG
 split
 ·unfold goodG
  rw[decide_eq_false_iff_not]
  show ¬ d<=((bareG N (s.2++bareG N s.2 p) p).length:Int)
  rw[zpq,ufm];left
 ·rename_i h
  exact decide_eq_false h
theorem zrv (d1:1<=d):∀ (p q:Nat),q<p->goodG N d (swG N d p) q=false
 | p+1,q,h=>by
  by_cases z:q=p
  ·rw[z];exact znq d1 _ _
  ·exact zqm _ _ _ (zrv d1 p q (by left))
structure Grd (N:Nat->List Nat)(d:Int)(p:Nat)(s:GS):Prop where
 all:s.1.flatMap (·.2)=s.2
 nd:s.2.Nodup
 low:∀ e∈s.1,e.1<p
 up:(s.1.map (·.1)).Nodup
 big:∀ e∈s.1,d<=(e.2.length:Int)
 sub:∀ e∈s.1,e.2.Sublist (N e.1)
theorem znp (hN:∀ p,(N p).Nodup):∀ p,Grd N d p (swG N d p)
 | 0=>⟨rfl,ud1,λ _ h=>absurd h ua1,ud1,λ _ h=>absurd h ua1,λ _ h=>absurd h ua1⟩
 | p+1=>by
  obtain⟨all,nd,low,up,big,sub⟩:=znp hN p
  rw[swG,stepG]
  split
  ·rename_i h
   refine⟨?_,?_,λ e he=>?_,?_,λ e he=>?_,λ e he=>?_⟩
   ·show (List.flatMap (·.2) ((swG N d p).1++[(p,bareG N (swG N d p).2 p)]))=_
    rw[ucn,all];simp
   ·refine uch.mpr ⟨nd,(hN p).sublist uco,λ a ha b hb z=>?_⟩
    have:=(uaz.mp hb).2
    rw[← z] at this
    simp [ha] at this
   ·rcases ua6.mp he with he | he
    ·exact ub1 (low e he)
    ·rw[uav.mp he];exact uc5 _
   ·show ((((swG N d p).1++[(p,bareG N (swG N d p).2 p)]).map (·.1)).Nodup)
    rw[ubc]
    refine uch.mpr ⟨up,by simp,λ a ha b hb z=>?_⟩
    obtain⟨e,he,rfl⟩:=ube.mp ha
    have h1:=low e he
    rw[z,uav.mp hb] at h1
    exact ucw _ h1
   ·rcases ua6.mp he with he | he
    ·exact big e he
    ·rw[uav.mp he];exact h
   ·rcases ua6.mp he with he | he
    ·exact sub e he
    ·rw[uav.mp he];exact uco
  ·exact⟨all,nd,λ e he=>ub1 (low e he),up,big,sub⟩
end
def nbS (n:Int)(ts:List Tie)(ks:List Nat)(p:Nat):List Nat:=(uac n.toNat).filter λ q=>(nbN ts ks (p:Int)).contains q
theorem zdw {n:Int}{ts:List Tie}{ks:List Nat}(p:Nat):(nbS n ts ks p).Nodup:=uek.sublist uco
theorem zr2 {n:Int}{ts:List Tie}{ks:List Nat}(p:Nat):(nbS n ts ks p).Pairwise (·<·):=ugm uco ubk
theorem zhm {n:Int}{ts:List Tie}{ks:List Nat}(ok:WebOk n ts)(ko:KeepOk ts.length ks){p q:Nat}:q∈nbS n ts ks p↔Adj ts ks p q:=by
 unfold nbS
 rw[uaz,uej,zoo ok ko,uaj]
 exact⟨λ h=>h.2,λ h=>⟨zp3 ok ko p q h,h⟩⟩
theorem zr3 {n:Int}{ts:List Tie}{ks:List Nat}(ok:WebOk n ts)(ko:KeepOk ts.length ks){p:Nat}{l:List Nat}(hl:l.Nodup)(hm:∀ q,q∈l↔Adj ts ks p q){ms:List Int}(pm:ms.Perm (keepI l))(pw:ms.Pairwise (·<=·)):ms=keepI (nbS n ts ks p):=by
 refine zmv (pm.trans (List.Perm.map _ ((ug2 hl (zdw p)).mpr λ q=>by rw[hm,zhm ok ko]))) pw ?_
 unfold keepI
 rw[ubx]
 exact (zr2 p).imp λ h=>by left
theorem zhn {n:Int}{ts:List Tie}{ks:List Nat}(p:Nat):(nbS n ts ks p).length<=n.toNat:=by
 have:=ucp (λ q=>(nbN ts ks (p:Int)).contains q) (uac n.toNat)
 rw[ua8] at this
 exact this
section
variable {X:Cx}
inductive call_setTL_i  (xs:List V) (H:Hp) (Q:VK):Prop
 | mk:∀ (p:Addr)(ns:List Int),(xs=[.ref p])->(H p=some (.lst (ns.map V.int)))->(ns.length<=1000)->(∀ q H',Same H H'->H q=none->H' q=some (.set (HT.setS ns ns.length) (HT.setN ns ns.length))->Q (.ref q) H')->call_setTL_i xs H Q
theorem zgu (hh:X.calm=true):CallR X (.type "set") (call_setTL_i):=by
 intro pins s σ H xs us Q I r h
 obtain⟨p,ns,rfl,hp,hl,q⟩:=h
 obtain⟨u,rfl,rx⟩:=vals1 r
 cases rx
 obtain⟨its,rv,pt,hz⟩:=I.list (SqL.of hp)
 have hlen:=rv.length
 rw[uae] at hlen
 have fr:H s.heap.objs.size=none:=I.hok.fresh (uai _)
 have esz:its.toArray.size=ns.length:=by rw[uao,← hlen]
 refine Stb.zr0 (ns:=ns) (I.ok.hd hh) (show s.heap.IsList p its.toArray from pt.isList) (by simpa using zbw rv) (by rw[esz];unfold scanBound;left) λ h' tk hS hk=>?_
 rw[esz] at hS
 exact⟨.ref s.heap.objs.size,_,I.laid (a:=s.heap.objs.size) (o:=.set (HT.setS ns ns.length) (HT.setN ns ns.length)) (t':=tk) (λ b o e=>hk b o (Heap.lt_size e) e) (uai _) hS.1,rfl,q _ _ (zam fr) fr zaj⟩
end
section
variable {X:Cx}
open AutoSeq1 in
theorem ztj (l:Addr)(items:Array Value)(n:Nat)(b:Addr)(items2:Array Value)(n2:Nat)(dd:Option Addr)(sl:Array (Option Value))(hs0:¬(!items.isEmpty&&Builtin.List.listTooLong (items.size+items2.size))=true)(hs1:items.size<=sizeLine)(hs2:items.size+items2.size<=sizeLine+1) :
  Meets (Builtin.«list.extend» ⟨[.ref l,.ref b],[]⟩) (λ _ R s=>s.heap.get? l=some { cls:=.type "list",dict:=none,data:=.seq items n,slots:=#[] }/\s.heap.get? b=some { cls:=.type "tuple",dict:=dd,data:=.seq items2 n2,slots:=sl }/\R (.ok (.ret Value.none)) { s with heap:=s.heap.update l (Obj.mapSeq λ x=>x++items2),toks:=s.toks }) :=
 .of_wp λ prog w A R s h=>by
  obtain⟨hp,g,d,tk,os⟩:=s;obtain⟨hl,hb,h⟩:=h;have f2:=F.sub_tuple_tuple;have f3:=F.sub_list_list;have f4:=F.sub_tuple_list;have f5:=F.sub_list_tuple;
  have hz':(items++items2).size<=sizeLine+1:=by rw[Array.size_append];exact hs2
  wp_walk using (wpAny_updateSeq hl rfl (hz:=hs1) (_hz':=hz')),ud0 hl,ud0 hb;exact⟨_,rfl,h⟩
inductive rExtendT_i  (x:V) (vs:List V) (H:Hp) (Q:VK):Prop
 | mk:∀ l b xs zs,(x=.ref l)->(vs=[.ref b])->(H l=some (.lst xs))->(H b=some (.tup zs))->(xs.length+zs.length<=1000)->(∀ H',But l H H'->H' l=some (.lst (xs++zs))->Q .non H')->rExtendT_i x vs H Q
def rExtendT :V->List V->Hp->VK->Prop:=λ x vs H Q=>rExtendT_i x vs H Q
theorem zgp:MtM X "list.extend" rExtendT:=by
 intro pins s σ H x vs v us Q I rx rv h
 obtain⟨l,b,xs,zs,rfl,rfl,hH,hB,hz,q⟩:=h
 cases rx
 obtain⟨u,rfl,ru⟩:=rv.one
 cases ru
 obtain⟨z,its,n,r,hl,e⟩:=I.lstM hH
 obtain⟨its2,r2,⟨o2,e2,c2,n2,d2⟩,z2⟩:=I.tuple (SqT.of hB)
 have hl2:=r2.length
 have hb:(1000:Nat)<=sizeLine:=by decide
 have hsz:its.toArray.size+its2.toArray.size<=sizeLine:=by rw[uao,uao];left
 have hlong:¬ (!its.toArray.isEmpty&&Builtin.List.listTooLong (its.toArray.size+its2.toArray.size))=true:=by
  rw[notLongL hsz,Bool.and_false]
  exact uas
 obtain⟨oc,od,oda,os⟩:=o2
 simp only at c2 d2
 subst c2 d2
 refine ufz F.slot_list_extend ⟨_,e,rfl⟩ F.entry_list_extend (F.args_list_extend_2 _ _)
  (ztj l its.toArray n b its2.toArray n2 od os hlong (by rw[uao];left) (by left)) ⟨e,?_,?_⟩
 ·exact e2
 refine⟨.non,_,I.lset (its':=its++its2) hH e (by simp) (r.append r2) ?_,rfl,q _ But.upd zaj⟩
 rw[uaq]
 left
end
end L3
namespace L3
open PySem PySem.Spec PyProof.Rows L2
section
variable {own:List Str}{js:List Nat}{g:TG}{tt:TT}{te:TE}{σ:L2.St}{Q:VK}{H1:Hp}
theorem zk5 {t:Bool}{K K':uad}{a:Addr}{xs:List V}(hx:H1 a=some (if t=true then .tup xs else .lst xs))(Sg:L2.St->Prop)(sel:Nat->Option PyData)(tup:∀ i d,sel i=some d->tupD d=true)(hn:xs.length<=1000)(h0:Sg (start3 own js σ))
  (step:∀ i x T σ' H',xs[i]?=some x->Same H1 H'->H' T=none->Sg σ'->∀ (C:L2.St->V->Hp->Prop)(L:L2.St->Hp->Prop),(∀ σ3 v d H5,Sg σ3->Same H' H5->sel i=some d->Is K' H5 d v->C σ3 v H5)->(∀ σ3 H5,Sg σ3->Same H' H5->sel i=none->L σ3 H5) ->
   g (.ref T) σ' (upd H' T (.tup [.int (i:Nat),x])) λ σ3 H3=>tt σ3 H3 λ b H4=>if b=true then te σ3 H4 λ v H5=>C σ3 v H5 else L σ3 H4)
  (fin:∀ D ys H',H1 D=none->Same H1 H'->H' D=some (.lst ys)->ys.length<=xs.length->IsAll K' H' ((uac xs.length).filterMap sel) ys->Q (.ref D) H'):CompGo own js g tt te σ Q (Itn t K a) H1:=by
 intro D hD
 have s1:∀ H',Same H1 H'->SqX t K H' a xs:=λ H' s=>SqX.of (s _ _ hx)
 have tupI:∀ i,tupAll ((uac i).filterMap sel)=true:=λ i=>by
  have go:∀ is:List Nat,tupAll (is.filterMap sel)=true:=λ is=>by
   induction is with
   | nil=>rfl
   | cons j r ih =>
    rw[ucf]
    cases e:sel j with
    | none=>exact ih
    | some d=>show (tupD d&&tupAll (r.filterMap sel))=true;rw[tup j d e,ih];rfl
  exact go _
 refine⟨λ i m ys σ' H'=>m=xs.length-i/\i<=xs.length/\Sg σ'/\Same H1 H'/\ys.length<=i/\IsAll K' H' ((uac i).filterMap sel) ys,⟨xs.length,rfl,ubj _,h0,zam hD,uai _,rfl⟩,?_⟩
 rintro i m ys σ' H' ⟨rfl,hi,sg,sm,ly,ia⟩ hd
 by_cases hlt:i<xs.length
 ·refine .inr ⟨⟨xs,xs[i],s1 H' sm,by simp [hlt]⟩,λ x H2 hy=>?_⟩
  obtain⟨T,y,hT,rfl,rfl,e⟩:=hy
  refine step i y T σ' H' (e _ (s1 H' sm)) sm hT sg
   (λ σ3 v H5=>H5 D=some (.lst ys)/\ys.length<sizeLine/\∃ m',m'<xs.length-i/\(m'=xs.length-(i+1)/\i+1<=xs.length/\Sg σ3/\Same H1 (upd H5 D (.lst (ys++[v])))/\(ys++[v]).length<=i+1/\IsAll K' (upd H5 D (.lst (ys++[v]))) ((uac (i+1)).filterMap sel) (ys++[v])))
   (λ σ3 H5=>H5 D=some (.lst ys)/\∃ m',m'<xs.length-i/\(m'=xs.length-(i+1)/\i+1<=xs.length/\Sg σ3/\Same H1 H5/\ys.length<=i+1/\IsAll K' H5 ((uac (i+1)).filterMap sel) ys)) (λ σ3 v d H5 sg3 s5 e hv=>?_) (λ σ3 H5 sg3 s5 e=>?_)
  ·have hd5:=s5 _ _ hd
   have b5:But D H5 (upd H5 D (.lst (ys++[v]))):=λ b o hb z=>by rw[zas hb];exact z
   refine⟨hd5,ucb (by left:ys.length<=1000) (by decide),xs.length-(i+1),by left,rfl,hlt,sg3,λ b o z=>?_,by rw[uaq,ubn];left,?_⟩
   ·rw[zas (zal z hD)];exact s5 _ _ (sm _ _ z)
   ·rw[ucz,uc7,show [i].filterMap sel=[d] by simp [e]]
    exact IsAll.snoc (Is.but b5 hd5 _ (tup i d e) hv) (IsAll.but b5 hd5 _ (tupI i) (IsAll.same s5 _ ia))
  ·refine⟨s5 _ _ hd,xs.length-(i+1),by left,rfl,hlt,sg3,sm.trans s5,by left,?_⟩
   rw[ucz,uc7,show [i].filterMap sel=[] by simp [e],ugy]
   exact IsAll.same s5 _ ia
 ·have e:i=xs.length:=by left
  subst e
  exact .inl ⟨⟨xs,s1 H' sm,uai _⟩,fin D ys H' hD sm hd ly ia⟩
end
theorem zmo (N:Nat->List Nat)(G ps:List Nat)(p:Nat):bareG N (G++ps) p=(bareG N G p).filter λ q=>!ps.contains q:=by
 unfold bareG
 rw[List.filter_filter]
 refine uge λ q _=>?_
 rw[uca,uca,uca]
 by_cases h1:q∈G <;> by_cases h2:q∈ps <;> simp [h1,h2]
theorem zg1:∀ {l ps:List Nat},ps.Sublist l->l.Nodup->(l.filter λ q=>!ps.contains q).length+ps.length=l.length
 | _,_,.slnil,_=>rfl
 | _,_,.cons a h,nd=>by
  obtain⟨na,nd'⟩:=ubw.mp nd
  have ih:=zg1 h nd'
  rw[List.filter_cons_of_pos (by rw[uca,decide_eq_false (λ z=>na (h.subset z))];rfl),ua5,ua5]
  left
 | a::l2,_::l1,.cons₂ _ h,nd=>by
  obtain⟨na,nd'⟩:=ubw.mp nd
  have ih:=zg1 h nd'
  rw[List.filter_cons_of_neg (by simp),ua5,ua5]
  have e:l2.filter (λ q=>!(a::l1).contains q)=l2.filter λ q=>!l1.contains q:=uge λ q hq=>by
   have:q≠a:=λ z=>na (z ▸ hq)
   rw[uca,uca]
   simp [this]
  rw[e];left
def badG (N:Nat->List Nat)(d:Int)(G:List Nat)(p:Nat):Bool:=decide (d<=((bareG N G p).length:Int))
structure Og (N:Nat->List Nat)(d:Int)(n i:Nat)(l:List (Nat × List Nat)):Prop where
 good:∀ e∈l,e.1<n/\e.2.Sublist (N e.1)/\d<=(e.2.length:Int)
 up:(l.map (·.1)).Nodup
 low:∀ e∈l,badG N d (l.flatMap (·.2)) e.1=false
 nd:(l.flatMap (·.2)).Nodup
 few:((uac n).filter (badG N d (l.flatMap (·.2)))).length<=n-i
 len:l.length<=i
theorem Og.start (N:Nat->List Nat)(d:Int)(n:Nat):Og N d n 0 []:=⟨λ _ h=>absurd h ua1,ud1,λ _ h=>absurd h ua1,ud1,ubr (ucp _ _) (by rw[ua8];left),uai _⟩
theorem Og.rest {N:Nat->List Nat}{d:Int}{n i:Nat}{l:List (Nat × List Nat)}(h:Og N d n i l)(e:(uac n).filter (badG N d (l.flatMap (·.2)))=[]):Og N d n (i+1) l:=⟨h.good,h.up,h.low,h.nd,by rw[e];exact ubj _,Nat.le_succ_of_le h.len⟩
theorem Og.step {N:Nat->List Nat}{d:Int}{n i:Nat}{l:List (Nat × List Nat)}(hN:∀ p,(N p).Nodup)(h:Og N d n i l){g:Nat}{ps:List Nat}(hg:g<n)(bg:badG N d (l.flatMap (·.2)) g=true)(sp:ps.Sublist (bareG N (l.flatMap (·.2)) g))(dp:d<=(ps.length:Int))(cut:((bareG N (l.flatMap (·.2)) g).length:Int)-ps.length<d):Og N d n (i+1) (l++[(g,ps)]):=by
 have eG:(l++[(g,ps)]).flatMap (·.2)=l.flatMap (·.2)++ps:=by rw[ucn];simp
 have sN:(bareG N (l.flatMap (·.2)) g).Sublist (N g):=uco
 have mono:∀ p,badG N d (l.flatMap (·.2)++ps) p=true->badG N d (l.flatMap (·.2)) p=true:=λ p z=>by
  have z:=of_decide_eq_true z
  rw[zmo] at z
  have:=ucp (λ q=>!ps.contains q) (bareG N (l.flatMap (·.2)) p)
  exact decide_eq_true (by left)
 have ng:badG N d (l.flatMap (·.2)++ps) g=false:=decide_eq_false λ z=>by
  rw[zmo] at z
  have:=zg1 sp ((hN g).sublist sN)
  left
 refine⟨λ e he=>?_,?_,λ e he=>?_,?_,?_,?_⟩
 ·rcases ua6.mp he with z | z
  ·exact h.good e z
  ·rw[uav.mp z];exact⟨hg,sp.trans sN,dp⟩
 ·rw[ubc]
  refine uch.mpr ⟨h.up,by simp,λ a ha b hb=>?_⟩
  obtain⟨e,he,rfl⟩:=ube.mp ha
  have:b=g:=by simpa using hb
  rw[this]
  intro z
  have:=h.low e he
  rw[z,bg] at this;cases this
 ·rw[eG]
  rcases ua6.mp he with z | z
  ·refine udd.mpr λ y=>?_
   have:=mono _ y
   rw[h.low e z] at this;cases this
  ·rw[uav.mp z];exact ng
 ·rw[eG]
  refine uch.mpr ⟨h.nd,((hN g).sublist sN).sublist sp,λ a ha b hb=>?_⟩
  have:=(uaz.mp (sp.subset hb)).2
  intro z
  rw[← z] at this
  rw[uca,decide_eq_true ha] at this;cases this
 ·rw[eG]
  have:=zch (a:=g::(uac n).filter (badG N d (l.flatMap (·.2)++ps))) (b:=(uac n).filter (badG N d (l.flatMap (·.2)))) (ubw.mpr ⟨(λ z=>by have y:=(uaz.mp z).2;rw[ng] at y;cases y),uek.sublist uco⟩) λ p hp=>by
   rcases uar.mp hp with rfl | hp
   ·exact uaz.mpr ⟨uaj.mpr hg,bg⟩
   ·obtain⟨a,b⟩:=uaz.mp hp
    exact uaz.mpr ⟨a,mono p b⟩
  rw[ua5] at this
  have:=h.few
  left
 ·rw[uaq];have:=h.len;simp;left
theorem Og.done {N:Nat->List Nat}{d:Int}{n:Nat}{l:List (Nat × List Nat)}(h:Og N d n n l):∀ p,p<n->((bareG N (l.flatMap (·.2)) p).length:Int)<d:=λ p hp=>by
 have:=h.few
 rw[Nat.sub_self] at this
 have e:=udp (Nat.le_zero.mp this)
 refine Classical.byContradiction λ z=>?_
 have:p∈(uac n).filter (badG N d (l.flatMap (·.2))):=uaz.mpr ⟨uaj.mpr hp,decide_eq_true (by left)⟩
 rw[e] at this;cases this
end L3
namespace Hx
open PySem PySem.W
structure Ch where
 i:Nat
 a:Nat
 t:Nat
 j:Nat
 u:Nat
 b:Nat:=0
def stt (p:Program)(i:Nat):Stmt:=p.main.body.getD i (.Pass ⟨0,0,0,0⟩)
def fileS:Str:=Str.ofString "/claim/cut.py"
def mdV (p:Program)(c:Ch):Value:=match stt p c.j with
 | .Assign _ (.Constant (.str x) _ _) _=>.str x c.u
 | _=>.str (Str.ofString "__main__") c.u
def sT (xs:List Value):Obj:=⟨.type "tuple",none,.seq xs.toArray 0,#[]⟩
def fE (xs:List Value):Obj:=⟨.none,none,.fields xs.toArray,#[]⟩
def tks:List Str->Nat->List Value
 | [],_=>[]
 | v::r,t=>.str v t::tks r (t+1)
def z:Value:=.int 0 0
def cdO (nm q:Str)(t:Nat)(l:Int)(na fl:Int)(k:Value)(fn:Bool)(tb vs cs tp:Value)(u:Nat):Obj :=
 ⟨.type "code",none,.fields #[.str nm t,.str q (t+1),.str fileS (t+2),.int l 0,.int na 0,z,z,.int fl 0,k,.bool fn,.int 181 0,tb,.none,vs,cs,tp,.int u 0,.int l 0,.str fileS (u+1)],#[]⟩
def ent (P:Params)(s:Str)(t:Nat)(v:Value):DictEntry:=⟨PyData.keyHash P s,.str s t,v⟩
def dO (es:List DictEntry)(n:Nat):Obj:=⟨.type "dict",none,.dict es.toArray n,#[]⟩
structure Got where
 os:List Obj
 en:List DictEntry
 tb:List Value
def fO (P:Params)(md:Value)(a t:Nat)(name:Str)(args:Arguments)(body:List Stmt)(scope:Scope)(bind:Str)(pos:Pos):Got :=
 let fd:FuncData:=⟨name,bind,args,.stmts body,scope,0,[],.none,.none,.none,.none,none,.none,.none,0⟩
 let k (vs cs:Value) (b u:Nat) (h:List Obj):Got :=
  ⟨h++[⟨.none,none,.func fd,#[]⟩,cdO name bind t pos.line args.args.length 3 (.ref a) true (.ref (a+1)) vs cs (.ref b) u,
   ⟨.type "function",none,.func ⟨name,bind,args,.stmts body,scope,3,[],.none,.none,.none,md,none,.ref (b+1),.none,0⟩,#[]⟩],
   [ent P name (u+2) (.ref (b+2))],[.int pos.line 0,.int pos.col 0,.ref (b+1)]⟩
 match localNames args scope (.stmts body) with
 | none=>k .none .none (a+2) (t+3) [sT [],fE []]
 | some (vs,cs)=>k (.ref (a+2)) (.ref (a+3)) (a+4) (t+3+vs.length+cs.length) [sT [],fE [],sT (tks vs (t+3)),sT (tks cs (t+3+vs.length))]
def mro0:List Value:=[.type "ValueError",.type "Exception",.type "BaseException",.type "object"]
def clO (P:Params)(md:Value)(a t:Nat)(base:Option Nat)(sub:List Value)(name bind:Str)(pos:Pos):Got :=
 let l:Int:=pos.line
 let w:=base.isNone
 let C:=a+9-(if w then 0 else 0)
 let bs:Value:=match base with | none=>.type "ValueError" | some b=>.ref b
 let e1:=ent P (Str.ofString "__module__") (t+7) md
 let e2:=ent P (Str.ofString "__firstlineno__") (t+11) (.int l (t+10))
 let e3:=ent P (Str.ofString "__static_attributes__") (t+12) (.ref (a+7))
 ⟨[sT [bs],⟨.type "builtin_function_or_method",none,.fields #[.builtin "type.__prepare__",.type "type"],#[]⟩,
  dO [e1,ent P (Str.ofString "__qualname__") (t+9) (.str bind (t+8)),e2,e3] 4,sT [],fE [],
  cdO name bind (t+2) l 0 0 (.ref (a+3)) false (.ref (a+4)) .none .none .none (t+5),
  ⟨.type "frame",none,.plain,#[some (.ref (a+5)),some (.ref 3),some (.ref (a+2)),none,some md,none,some (.ref 0)]⟩,sT [],
  dO (e1::e2::e3::(if w then [ent P (Str.ofString "__weakref__") (t+14) (.ref (a+10)),ent P (Str.ofString "__doc__") (t+15) .none] else [ent P (Str.ofString "__doc__") (t+13) .none])) (if w then 3 else 2),
  ⟨.type "type",none,.cls ⟨name,[bs],.ref C::(match base with | none=>mro0 | some b=>.ref b::mro0),a+8,bind,true,[],sub,false,none,false⟩,
   #[some (.ref a),none,some (.str name t),some (.str bind (t+8)),some (.builtin "ValueError.__new__"),some (.bool true)]⟩] ++
  (if w then [⟨.type "getset_descriptor",none,.fields #[.str (Str.ofString "__weakref__") (t+13),.ref C,.builtin "ExceptionGroup.__weakref__",.none],#[]⟩] else []) ++
  [⟨.type "super",none,.fields #[.ref C,.ref C,.ref C],#[]⟩,⟨.type "builtin_function_or_method",none,.fields #[.builtin "object.__init_subclass__",.ref C],#[]⟩],
  [ent P name (t+(if w then 17 else 15)) (.ref C)],[.int l 0,.int pos.col 0,.ref (a+5)]⟩
def got (p:Program)(P:Params)(cs:List Ch)(c:Ch):Got:=match stt p c.i with
 | .FunctionDef name args body _ _ _ scope _ bind pos=>fO P (mdV p c) c.a c.t name args body scope bind pos
 | .ClassDef name _ _ _ _ _ _ _ bind _ pos=>clO P (mdV p c) c.a c.t (if c.b==0 then none else some c.b) (cs.filterMap λ d=>if d.b==c.a+9 then some (.ref (d.a+9)) else none) name bind pos
 | _=>⟨[],[],[]⟩
def nameNow (p:Program)(cs:List Ch):Option Value:=match cs.getLast? with
 | some c=>some (mdV p { c with j:=c.j,u:=c.u })
 | none=>none
def setName (P:Params)(v:Option Value):List DictEntry->List DictEntry
 | e::r=>(match v with | some v=>{ e with val:=v } | none=>e)::r
 | []=>[]
def globO (p:Program)(P:Params)(cs:List Ch)(en:List DictEntry):Obj->Obj
 | ⟨c,d,.dict es n,s⟩=>⟨c,d,.dict (setName P (nameNow p cs) es.toList++en).toArray (n+en.length),s⟩
 | o=>o
def objs (p:Program)(P:Params)(B:List Obj)(cs:List Ch):List Obj :=
 let gs:=cs.map (got p P cs)
 match B with
 | b0::b1::b2::b3::r=>b0::b1::b2::globO p P cs (gs.flatMap (·.en)) b3::(r++(sT []::fE (gs.flatMap (·.tb)) ::
  cdO (Str.ofString "<module>") (Str.ofString "<module>") 182 1 0 0 (.ref 11) false (.ref 12) .none .none .none 185 ::
  ⟨.type "frame",none,.plain,#[some (.ref 13),some (.ref 3),some (.ref 3),none,some (.str (Str.ofString "__main__") 164),none,some (.ref 0)]⟩::gs.flatMap (·.os)))
 | _=>[]
def spl:List Obj->List Obj × List Obj
 | []=>([],[])
 | x::r=>(x::(spl r).2,(spl r).1)
def braun:Nat->List Obj->BT
 | 0,_=>.nil
 | _+1,[]=>.nil
 | f+1,o::r=>.node o (braun f (spl r).1) (braun f (spl r).2)
structure Cut where
 k:Nat
 n:Nat
 t:Nat
def hpT (p:Program)(B:Params->List Obj)(cs:List Ch)(c:Cut)(P:Params):Heap:=absHeap (braun 12 (objs p P (B P) (cs.take c.k))) c.n {}
def stT (p:Program)(B:Params->List Obj)(D:Drawn)(cs:List Ch)(c:Cut)(w:World)(os:OsState):SharedT :=
 ⟨braun 12 (objs p w.params (B w.params) (cs.take c.k)),c.n,{},ue9 [],D,c.t,os⟩
def env (p:Program):Env:={ scope:=p.main.scope,locals:=mainNs,globals:=mainNs,cells:=[],code:=.ref 13,frame:=some 14 }
def cE (p:Program):Code:=.body p.main.body (env p)
def pos0:Pos:=⟨0,0,0,0⟩
def posOf (p:Program):Nat->Pos
 | 0=>pos0
 | k+1=>match stt p k with
  | .Assign [.Name _ q] _ _=>q
  | .FunctionDef _ _ _ _ _ _ _ _ _ q=>q
  | .ClassDef _ _ _ _ _ _ _ _ _ _ q=>q
  | _=>pos0
def ann0:Option Value:=some (.ref 6)
def PieceT (p:Program)(B:Params->List Obj)(D:Drawn)(cs:List Ch)(a b:Cut)(N:Nat):Prop:=∀ w:World,
 (λ os=>segRunT treeTable p w 11 ann0 1 N (stT p B D cs a w os) (piecesOf ((p.main.body.drop a.k).take (b.k-a.k)) (env p) (cE p) (posOf p a.k) [topFrame pos0]))=λ os=>some (Flow.next,stT p B D cs b w os,cE p,posOf p b.k)
def PreT (p:Program)(B:Params->List Obj)(D:Drawn)(h:Params->Heap)(t:Nat)(cs:List Ch)(a:Cut):Prop:=∀ w:World,
 (λ os=>topGo treeTable p w 11 ann0 12 ⟨h w.params,ue9 [],D,t,os⟩ (topStub p))=λ os=>some ((stT p B D cs a w os).abs,⟨denote treeTable (cE p),cE p,pos0,[topFrame pos0]⟩)
def BlockT (p:Program):Prop:=∀ (w:World)(s:Shared),segRun treeTable p w 11 ann0 1 1 s (blockOf p.main.body (env p) (cE p) pos0 [topFrame pos0])=some (.next,s,cE p,pos0)
noncomputable def boots (P:Params):List Obj:=[boot_o_0 P,boot_o_1 P,boot_o_2 P,boot_o_3 P,boot_o_4 P,boot_o_5 P,boot_o_6 P,boot_o_7 P,boot_o_8 P,boot_o_9 P,boot_o_10 P]
def qv (p:Program)(is:List Nat):Program:={ p with main:={ p.main with body:=is.map (stt p) } }
def nmO:Stmt->Option Str
 | .FunctionDef n ..=>some n
 | .ClassDef n ..=>some n
 | _=>none
def lz (p:Program)(is:List Nat)(n:Nat):List Str:=(uac n).filterMap λ i=>if is.contains i then none else nmO (stt p i)
def kk (a:Nat)(g:Got):List (Nat × Obj):=match g.os with
 | [_,_,_,c,f]=>[(a+3,c),(a+4,f)]
 | [_,_,_,_,_,c,f]=>[(a+5,c),(a+6,f)]
 | _::_::_::_::_::_::_::_::d::C::_=>[(a+8,d),(a+9,C)]
 | _=>[]
def Kf (p:Program)(B:Params->List Obj)(cs:List Ch)(P:Params):Frag :=
 let gs:=cs.map (got p P cs)
 (3,globO p P cs (gs.flatMap (·.en)) ((B P).getD 3 (sT [])))::(cs.zip gs).flatMap λ c=>kk c.1.a c.2
def LookA (p:Program)(B:Params->List Obj)(D:Drawn)(h:Params->Heap)(cs:List Ch)(c:Cut):Prop:=∀ w:World,(λ os =>
  (staticsOk (importedModules p.main.body) (h w.params) (hpT p B cs c w.params)&&namesBound p (hpT p B cs c w.params)&&gensDone ⟨hpT p B cs c w.params,ue9 [],D,c.t,os⟩&&laidKept (h w.params) (hpT p B cs c w.params)))=λ _:OsState=>true
def LookB (p:Program)(B:Params->List Obj)(D:Drawn)(cs:List Ch)(c:Cut)(is:List Nat)(rc:WRecords):Prop:=∀ w:World,(λ os =>
  openSeen (qv p is) (lz p is c.k) (importedModules p.main.body) (λ s=>xlAt (qv p is) [] s&&recOk rc s) true ⟨hpT p B cs c w.params,ue9 [],D,c.t,os⟩)=λ _:OsState=>openGood (qv p is) (lz p is c.k)
def LookC (p:Program)(B:Params->List Obj)(cs:List Ch)(c:Cut)(as:List Nat):Prop:=∀ w:World,as.map (hpT p B cs c w.params).get?=(Kf p B cs w.params).map λ p=>some p.2
section
variable {p:Program}{D:Drawn}{cs:List Ch}
theorem zti {w:World}{s:Shared}{c:Code}{q:Pos}:topRun treeTable p w 11 ann0 2 s ⟨doneF .next,c,q,[topFrame pos0]⟩=some s:=rfl
theorem zpj {w:World}{os:OsState}{c:Cut}(h:p.main.body.drop c.k=[]) :
  topRun treeTable p w 11 ann0 2 (stT p boots boot_drawn cs c w os).abs (restOf (p.main.body.drop c.k) (env p) (cE p) (posOf p c.k) [topFrame pos0])=some (stT p boots boot_drawn cs c w os).abs:=by
 rw[h];exact piece_nil zti
theorem chain {w:World}{os:OsState}{a b:Cut}{N M:Nat}{r:Shared}(h:PieceT p boots boot_drawn cs a b N)(le:a.k<=b.k)
  (k:topRun treeTable p w 11 ann0 M (stT p boots boot_drawn cs b w os).abs (restOf (p.main.body.drop b.k) (env p) (cE p) (posOf p b.k) [topFrame pos0])=some r) :
  topRun treeTable p w 11 ann0 (N+M) (stT p boots boot_drawn cs a w os).abs (restOf (p.main.body.drop a.k) (env p) (cE p) (posOf p a.k) [topFrame pos0])=some r:=by
 have e:p.main.body.drop a.k=(p.main.body.drop a.k).take (b.k-a.k)++p.main.body.drop b.k:=by
  have x:=(ueh (b.k-a.k) (p.main.body.drop a.k)).symm
  rw[List.drop_drop,Nat.add_sub_cancel' le] at x;exact x
 rw[e];exact piece_app (segRun_of (congrFun (h w) os)) k
theorem zst {w:World}{os:OsState}{M:Nat}{r:Shared}(pre:PreT p boots boot_drawn boot_heap boot_toks cs ⟨0,15,187⟩)(bl:BlockT p)
  (k:topRun treeTable p w 11 ann0 M (stT p boots boot_drawn cs ⟨0,15,187⟩ w os).abs (restOf (p.main.body.drop 0) (env p) (cE p) (posOf p 0) [topFrame pos0])=some r) :
  topRun treeTable p w 11 ann0 (12+(1+M)) ⟨boot_heap w.params,ue9 [],boot_drawn,boot_toks,os⟩ (topStub p)=some r :=
 go_top (congrFun (pre w) os) (piece_block (bl w _) k)
theorem zta {is as:List Nat}{rc:WRecords}{c:Cut}{M N:Nat}{e:∀ P,as=(Kf p boots cs P).map (·.1)}
  (op:opening p=plainProg p.main.scope.names) (hN:Nat.ble 600 N=true) (fe:∀ s,fenceModules? p s=some s)
  (size:∀ w:World,((boot_heap w.params).isNs mainGlobals&&(ue9 []:Array GenState).size==0,(boot_heap w.params).objs.size,(boot_heap w.params).nsMap mainGlobals "__annotations__")=(true,11,ann0))
  (run:∀ (w:World)(os:OsState),topRun treeTable p w 11 ann0 M ⟨boot_heap w.params,ue9 [],boot_drawn,boot_toks,os⟩ (topStub p)=some (stT p boots boot_drawn cs c w os).abs) (le:Nat.ble M N=true)
  (hA:LookA p boots boot_drawn boot_heap cs c) (hB:LookB p boots boot_drawn cs c is rc) (hC:LookC p boots cs c as) :
  LeftO p (qv p is) (lz p is c.k) (λ s=>xlAt (qv p is) [] s&&recOk rc s) (Hook.obs (kHook (Kf p boots cs) as e)) (Hook.val (kHook (Kf p boots cs) as e)) N :=
 LeftO.of_pieces (H₀:=boot_heap) (H₁:=hpT p boots cs c) (boot_open op hN fe) size run le λ w=>funext λ os=>by
  have a:=congrFun (hA w) os
  have b:=congrFun (hB w) os
  have c:=hC w
  exact looks_pair a (looks_pair b c)
end
end Hx
set_option hygiene false
local macro_rules | `(tactic| exists $k, $s) => `(tactic| (refine zs7 (k := $k) D $s (fun vs H Q E h => by first | (obtain ⟨_, rfl, _⟩ := h; rfl) | (obtain ⟨_, _, rfl, _⟩ := h; rfl) | (obtain ⟨_, _, _, rfl, _⟩ := h; rfl) | (obtain ⟨_, _, _, _, rfl, _⟩ := h; rfl) | (obtain ⟨_, _, _, _, _, rfl, _⟩ := h; rfl) | (obtain ⟨_, _, _, _, _, _, rfl, _⟩ := h; rfl) | (obtain ⟨_, _, _, _, _, _, _, rfl, _⟩ := h; rfl) | (obtain ⟨_, _, _, _, _, _, _, _, rfl, _⟩ := h; rfl) | (obtain ⟨_, _, _, _, _, _, _, _, _, rfl, _⟩ := h; rfl) | (obtain ⟨_, _, _, _, _, _, _, _, _, _, rfl, _⟩ := h; rfl) | (obtain ⟨_, _, _, _, _, _, _, _, _, _, _, rfl, _⟩ := h; rfl) | (obtain ⟨_, _, _, _, _, _, _, _, _, _, _, _, rfl, _⟩ := h; rfl) | (obtain ⟨_, _, _, _, _, _, _, _, _, _, _, _, _, rfl, _⟩ := h; rfl) | (obtain ⟨_, _, _, _, _, _, _, _, _, _, _, _, _, _, rfl, _⟩ := h; rfl) | (obtain ⟨_, _, _, _, _, _, _, _, _, _, _, _, _, _, _, rfl, _⟩ := h; rfl)) (fun f cdv A outer s H vs Q E hr h => ?_); have nd := ($s).nd))
local macro_rules | `(tactic| exists $k, $s, $s2) => `(tactic| refine zs7 (k := $k) D $s (fun vs H Q E h => ?_) (fun f cdv A outer s H vs Q E hr h => ?_))
local macro_rules | `(‹$n:num›) => `(Ok P w K mg base $n)
set_option hygiene true
namespace Me
open PySem PySem.Spec PyProof.Rows L2 L3
def top (i:Nat):Stmt:=uaa.main.body.getD i (.Pass ⟨0,0,0,0⟩)
abbrev s_is_whole:Stmt:=top 5
theorem sc_is_whole:FnScope ["thing"] ["thing"] (defScope s_is_whole):=by right
abbrev s_is_wholes:Stmt:=top 6
theorem sc_is_wholes:FnScope ["thing"] ["thing"] (defScope s_is_wholes):=by right
abbrev s_is_rising:Stmt:=top 7
theorem sc_is_rising:FnScope ["parts"] ["parts"] (defScope s_is_rising):=by right
abbrev s_is_tuple_of:Stmt:=top 8
theorem sc_is_tuple_of:FnScope ["thing","many"] ["thing","many"] (defScope s_is_tuple_of):=by right
abbrev s_is_place:Stmt:=top 10
theorem sc_is_place:FnScope ["web","thing"] ["web","thing"] (defScope s_is_place):=by right
abbrev s_is_plain:Stmt:=top 11
theorem sc_is_plain:FnScope ["web"] ["web"] (defScope s_is_plain):=by right
abbrev s_whole:Stmt:=top 12
theorem sc_whole:FnScope ["web"] ["web"] (defScope s_whole):=by right
abbrev s_tie_between:Stmt:=top 13
theorem sc_tie_between:FnScope ["web","a","b","ends","number","tie"] ["web","a","b"] (defScope s_tie_between):=by right
abbrev s_are_unlike_places:Stmt:=top 15
theorem sc_are_unlike_places:FnScope ["web","thing"] ["web","thing"] (defScope s_are_unlike_places):=by right
abbrev s_tie_weights:Stmt:=top 16
theorem sc_tie_weights:FnScope ["web","weights","weight","tie"] ["web"] (defScope s_tie_weights):=by right
abbrev s_cost_with:Stmt:=top 17
theorem sc_cost_with:FnScope ["cost","length","weight"] ["cost","length","weight"] (defScope s_cost_with):=by right
abbrev s_reached_from:Stmt:=top 18
theorem sc_reached_from:FnScope ["web","keep","root","weights","costs","ahead","again","tie","a","b","length","one","other","cost"] ["web","keep","root"] (defScope s_reached_from):=by right
abbrev s_fars_from:Stmt:=top 19
theorem sc_fars_from:FnScope ["web","keep","root","costs","ahead"] ["web","keep","root"] (defScope s_fars_from):=by right
abbrev s_tree_from:Stmt:=top 20
theorem sc_tree_from:FnScope ["web","keep","root","costs","ahead"] ["web","keep","root"] (defScope s_tree_from):=by right
abbrev s_led_to_root:Stmt:=top 21
theorem sc_led_to_root:FnScope ["web","keep","tree","root","place","way","ahead"] ["web","keep","tree","root","place"] (defScope s_led_to_root):=by right
abbrev s_across:Stmt:=top 23
theorem sc_across:FnScope ["web","tie","heights","a","b","length"] ["web","tie","heights"] (defScope s_across):=by right
abbrev s_heights_hold:Stmt:=top 24
theorem sc_heights_hold:FnScope ["web","keep","heights"] ["web","keep","heights"] (defScope s_heights_hold):=by right
abbrev s_heights_from:Stmt:=top 25
theorem sc_heights_from:FnScope ["web","keep","a","roof"] ["web","keep","a","roof"] (defScope s_heights_from):=by right
abbrev s_need_plain:Stmt:=top 27
theorem sc_need_plain:FnScope ["web"] ["web"] (defScope s_need_plain):=by right
abbrev s_least_more:Stmt:=top 28
theorem sc_least_more:FnScope ["web","keep","most","u","near","kept","v"] ["web","keep"] (defScope s_least_more):=by right
abbrev s_more_paper:Stmt:=top 29
theorem sc_more_paper:FnScope ["web","keep","papers","u"] ["web","keep"] (defScope s_more_paper):=by right
abbrev s_is_led:Stmt:=top 30
theorem sc_is_led:FnScope ["web","keep","m","u","heights","tree","place","way"] ["web","keep","m","u","heights","tree","place"] (defScope s_is_led):=by right
abbrev s_place_right:Stmt:=top 31
theorem sc_place_right:FnScope ["web","keep","m","u","heights","tree","low"] ["web","keep","m","u","heights","tree"] (defScope s_place_right):=by right
abbrev s_more_right:Stmt:=top 32
theorem sc_more_right:FnScope ["web","keep","m","paper"] ["web","keep","m","paper"] (defScope s_more_right):=by right
abbrev s_tree_ties:Stmt:=top 34
theorem sc_tree_ties:FnScope ["web","tree"] ["web","tree"] (defScope s_tree_ties):=by right
abbrev s_post_trees:Stmt:=top 35
theorem sc_post_trees:FnScope ["web","posts","ties","post"] ["web","posts"] (defScope s_post_trees):=by right
abbrev s_neighbours:Stmt:=top 37
theorem sc_neighbours:FnScope ["web","keep","place","ties"] ["web","keep","place"] (defScope s_neighbours):=by right
abbrev s_need_share:Stmt:=top 39
theorem sc_need_share:FnScope ["d"] ["d"] (defScope s_need_share):=by right
abbrev s_bare_neighbours:Stmt:=top 40
theorem sc_bare_neighbours:FnScope ["web","place","guarded"] ["web","place","guarded"] (defScope s_bare_neighbours):=by right
abbrev s_guards_by:Stmt:=top 41
theorem sc_guards_by:FnScope ["web","d","told","guarded","place","bare"] ["web","d"] (defScope s_guards_by):=by right
abbrev s_all_guarded:Stmt:=top 42
theorem sc_all_guarded:FnScope ["told","guarded","guard","places"] ["told"] (defScope s_all_guarded):=by right
abbrev s_guard_right:Stmt:=top 43
theorem sc_guard_right:FnScope ["web","d","pair","guard","places"] ["web","d","pair"] (defScope s_guard_right):=by right
abbrev s_guards_right:Stmt:=top 44
theorem sc_guards_right:FnScope ["web","d","told","guards","guarded"] ["web","d","told"] (defScope s_guards_right):=by right
abbrev s_bare_ties:Stmt:=top 45
theorem sc_bare_ties:FnScope ["web","told","guarded"] ["web","told"] (defScope s_bare_ties):=by right
abbrev s_posts_of:Stmt:=top 46
theorem sc_posts_of:FnScope ["told"] ["told"] (defScope s_posts_of):=by right
abbrev s_guard_keep:Stmt:=top 47
theorem sc_guard_keep:FnScope ["web","told"] ["web","told"] (defScope s_guard_keep):=by right
abbrev s__law_pot:Stmt:=top 49
theorem sc__law_pot:FnScope ["script","k","cell","prime"] ["script","k"] (defScope s__law_pot):=by right
abbrev s__law_take:Stmt:=top 50
theorem sc__law_take:FnScope ["pot","many","found"] ["pot","many"] (defScope s__law_take):=by right
abbrev s__law_length:Stmt:=top 51
theorem sc__law_length:FnScope ["pot","way"] ["pot","way"] (defScope s__law_length):=by right
abbrev s__law_tied:Stmt:=top 52
theorem sc__law_tied:FnScope ["pot","n","style","a","b","beside"] ["pot","n","style","a","b"] (defScope s__law_tied):=by right
abbrev s__law_order:Stmt:=top 53
theorem sc__law_order:FnScope ["pot","many","left","found","turn"] ["pot","many"] (defScope s__law_order):=by right
abbrev s__law_web:Stmt:=top 54
theorem sc__law_web:FnScope ["pot","most","n","style","way","names","ties","b","a","one","other"] ["pot","most"] (defScope s__law_web):=by right
abbrev s__law_beside:Stmt:=top 56
theorem sc__law_beside:FnScope ["web","keep","found","number","a","b","length"] ["web","keep"] (defScope s__law_beside):=by right
abbrev s__law_weights:Stmt:=top 57
theorem sc__law_weights:FnScope ["web","found","power","a","b","length"] ["web"] (defScope s__law_weights):=by right
abbrev s__law_weighed:Stmt:=top 58
theorem sc__law_weighed:FnScope ["web","keep","start","weights","found","turn","elder","number","a","b","length","one","other","more"] ["web","keep","start"] (defScope s__law_weighed):=by right
abbrev s__law_tree:Stmt:=top 59
theorem sc__law_tree:FnScope ["web","keep","root","weights","weighed","found","number","a","b","length","one","other"] ["web","keep","root"] (defScope s__law_tree):=by right
abbrev s__law_most:Stmt:=top 60
theorem sc__law_most:FnScope ["pot","k","most"] ["pot","k"] (defScope s__law_most):=by right
abbrev s__law_plain:Stmt:=top 61
theorem sc__law_plain:FnScope ["pot","most","n","ties"] ["pot","most"] (defScope s__law_plain):=by right
abbrev s__law_tree_keep:Stmt:=top 62
theorem sc__law_tree_keep:FnScope ["web","roots","every","along","root","tree"] ["web","roots"] (defScope s__law_tree_keep):=by right
abbrev s__law_same:Stmt:=top 63
theorem sc__law_same:FnScope ["found","due"] ["found","due"] (defScope s__law_same):=by right
abbrev s__law_other_guards:Stmt:=top 64
theorem sc__law_other_guards:FnScope ["pot","web","d","beside","found","guarded","turn","free","many","guard","places","cut"] ["pot","web","d"] (defScope s__law_other_guards):=by right
abbrev s_law:Stmt:=top 65
theorem sc_law:FnScope ["script","k","pot","web","d","told","guarded","guard","places","free","along","keep","more"] ["script"] (defScope s_law):=by right
section
variable {P:Program}{w:World}{K:uad}{mg:Str->Option Value}{base:Heap}
theorem zi4 (T:Bi mg)(D:DefOk K mg "_law_take" s__law_take ["pot","many"]):‹1› "_law_take" ["pot","many"] spTake:=by
 exists 0,sc__law_take
 obtain⟨p,m,rfl,⟨a,b,hp,ha,hb,hb2⟩,hm,hm2,q⟩:=h
 refine⟨_,(zac (zbh (zap zfw (zaq zau (pv 0) zad (λ _ _=>rfl)) zad (nomark _)) (zac (zat (i:=2) nd rfl (uap rfl) (za1 zcy (zaq zau (pv 0) zad (λ _ _=>rfl)) (pv 1))) (zac (zb0 (za1 zoh (zaq zau (pv 0) zad (λ _ _=>rfl)) (pv 1)) (zeq (pv 0) zad zcf)) (zaf (zan (pv 2))))) zay) (zac (zb0 (za1 zcy (za1 zb1 (za1 zgn (zaq zau (pv 0) zad (λ _ _=>rfl)) zad) zad) zad) (zeq (pv 0) zad zcf)) (zaf (zan (za1 zcy (za1 zoh (za1 zcy (za1 zct (zaq zau (pv 0) zad (λ _ _=>rfl)) zad) zad) zad) (pv 1)))))),?_⟩
 refine⟨_,rfl,p,_,_,_,rfl,rfl,SqL.of hp,rfl,_,_,rfl,rfl,_,rfl,?_⟩
 refine ite2 (λ c=>?_) (λ c=>?_)
 ·refine⟨_,rfl,p,_,_,_,rfl,rfl,SqL.of hp,rfl,_,rfl,_,_,rfl,rfl,hm,?_⟩
  refine⟨_,rfl,p,_,_,_,rfl,rfl,SqL.of hp,rfl,_,rfl,_,_,rfl,rfl,⟨hm,hm2⟩,?_⟩
  refine⟨_,rfl,p,_,0,0,rfl,rfl,hp,rfl,_,rfl,?_⟩
  refine q _ _ (ude _ (by left)) (uc8 _ hm) But.upd ⟨a / m,b,zaj,Int.ediv_nonneg ha (by left),hb,hb2⟩
 ·refine⟨_,rfl,p,_,_,_,rfl,rfl,SqL.of hp,rfl,_,_,rfl,rfl,.inr ⟨by decide,by decide⟩,_,_,rfl,rfl,_,_,rfl,rfl,(by show (0:Int)<2147483647;decide),?_⟩
  refine⟨_,rfl,p,_,1,1,rfl,rfl,hp,rfl,?_⟩
  have n1:0<=(b*48271+12820163)%2147483647:=ude _ (by decide)
  have n2:(b*48271+12820163)%2147483647<2147483647:=uc8 _ (by decide)
  refine⟨_,rfl,p,_,_,_,rfl,rfl,SqL.of zaj,rfl,_,_,rfl,rfl,⟨by decide,by decide,by left⟩,_,_,rfl,rfl,(by show (0:Int)<2147483629;decide),_,_,rfl,rfl,⟨by decide,by decide⟩,_,rfl,_,_,rfl,rfl,hm,?_⟩
  exact q _ _ (ude _ (by left)) (uc8 _ hm) But.upd ⟨a,_,zaj,ha,n1,n2⟩
theorem zku (T:Bi mg)(D:DefOk K mg "_law_pot" s__law_pot ["script","k"]):‹1› "_law_pot" ["script","k"] (spPot K):=by
 exists 0,sc__law_pot
 obtain⟨a,k,ns,rfl,hS,hk0,hk1,q⟩:=h
 have hl:(ns.map V.int).length=ns.length:=uae _
 refine⟨_,(zac (zat (i:=2) nd rfl (uap rfl) zad) (zac (zbh (zap zdk (pv 1) (zah zao rfl T.z_len (by symm) (zaa (pv 0) zab)) (nomark _)) (zaf (zat (i:=2) nd rfl (uap rfl) (za1 zcy (zaq zau (pv 0) (pv 1) (λ _ _=>rfl)) (za1 zof (za1 zof (za1 zct zad zad) (za1 zct zad zad)) (za1 zct zad zad))))) zay) (zac (zat (i:=3) nd rfl (uap rfl) (zaq zau (ze0 (zaa zad (zaa zad (zaa zad (zaa zad (zaa zad zab)))))) (za1 zcy (pv 1) zad) (λ _ _=>rfl))) (zaf (zan (ze0 (zaa (zah (zfm rfl) rfl T.z_max (by symm) (zaa zad (zaa (za1 zcl (pv 2) (za1 zct zad zad)) zab))) (zaa (za1 zcy (za1 zct (za1 zb1 (za1 zb1 (za1 zcy (pv 2) (pv 3)) (za1 zgn zad (pv 1))) zad) zad) zad) zab)))))))),?_⟩
  -- behind the test: cell is some number that is not below nought
 have rest : ∀ (cell : Int), 0 <= cell → ∀ (σ : L2.St), σ = [some (.ref a), some (.int k), some (.int cell), none] →
     (tSeq (tAsg (tOp (rIxL K) (tLst (tCons (tC (.int 2147483629)) (tCons (tC (.int 2147483587)) (tCons (tC (.int 2147483579)) (tCons (tC (.int 2147483563)) (tCons (tC (.int 2147483549)) tNil)))))) (tOp (rI (λ _ j=>0<j) λ i j=>.int (i%j)) (tVar 1) (tC (.int 5)))) (gName 3))
       (tRet (tLst (tCons (tCB (λ xs H Q=>∃ i j,xs=[.int i,.int j]/\Q (.int (if j>i then j else i)) H) (tCons (tC (.int 0)) (tCons (tOp (rI0 λ i j=>.int (i-j)) (tVar 2) (tOp (rI CPow λ i j=>.int (i^j.toNat)) (tC (.int 10)) (tC (.int 18)))) tNil)))
         (tCons (tOp (rI (λ _ j=>0<j) λ i j=>.int (i%j)) (tOp (rI CPow λ i j=>.int (i^j.toNat)) (tOp (rI0 λ i j=>.int (i+j)) (tOp (rI0 λ i j=>.int (i+j)) (tOp (rI (λ _ j=>0<j) λ i j=>.int (i%j)) (tVar 2) (tVar 3)) (tOp (rI CMul λ i j=>.int (i*j)) (tC (.int 7919)) (tVar 1))) (tC (.int 11))) (tC (.int 3))) (tC (.int 2147483647))) tNil)))))
       { nx:=λ _ H'=>Q .non H',rt:=Q } σ H:=by
  intro cell hc σ hσ
  subst hσ
  refine⟨(by show 5<=sizeLine;decide),λ l hl=>?_⟩
  refine⟨_,rfl,_,_,rfl,rfl,(by show (0:Int)<5;decide),?_⟩
  have m0:0<=k%5:=ude _ (by decide)
  have m1:k%5<5:=uc8 _ (by decide)
  have pr:∃ v:Int,atI [V.int 2147483629,V.int 2147483587,V.int 2147483579,V.int 2147483563,V.int 2147483549] (k%5)=some (.int v)/\2147483549<=v/\v<=2147483629:=by
   have:k%5=0\/k%5=1\/k%5=2\/k%5=3\/k%5=4:=by left
   rcases this with e | e | e | e | e <;> rw[e] <;> exact⟨_,rfl,by decide,by decide⟩
  obtain⟨v,hv,v1,v2⟩:=pr
  refine⟨l,_,_,_,rfl,rfl,SqL.of zaj,hv,?_⟩
  have S1:Same H (upd H l (.lst [V.int 2147483629,V.int 2147483587,V.int 2147483579,V.int 2147483563,V.int 2147483549])):=zam hl
  refine⟨_,rfl,_,_,rfl,rfl,⟨by decide,by decide,by decide⟩,_,_,rfl,rfl,_,_,rfl,?_⟩
  refine⟨_,rfl,_,rfl,_,_,rfl,rfl,(by show (0:Int)<v;left),_,rfl,_,_,rfl,rfl,.inl ⟨by decide,by decide⟩,_,_,rfl,rfl,_,_,rfl,rfl,_,_,rfl,rfl,⟨by decide,by decide,?_⟩,_,_,rfl,rfl,(by show (0:Int)<2147483647;decide),?_⟩
  ·have c0:0<=cell%v:=ude _ (by left)
   have c1:cell%v<v:=uc8 _ (by left)
   left
  refine⟨(by show 2<=sizeLine;decide),λ l2 hl2=>?_⟩
  refine q l2 _ (S1.trans (zam hl2)) (S1.free hl2) ⟨_,_,zaj,?_,ude _ (by decide),uc8 _ (by decide)⟩
  split <;> left
 refine⟨_,rfl,_,rfl,a,_,rfl,.inl hS,_,_,rfl,rfl,_,rfl,?_⟩
 refine ite2 (λ c=>?_) (λ c=>?_)
 ·have c':k<(((ns.map V.int).length:Nat):Int):=of_decide_eq_true c
  rw[hl] at c'
  obtain⟨v,hv⟩:∃ v:Int,atI (ns.map V.int) k=some (.int v):=by
   have hk:k.toNat<ns.length:=by left
   have ek:k=((k.toNat:Nat):Int):=by left
   have z:atI (ns.map V.int) ((k.toNat:Nat):Int)=some (.int ns[k.toNat]):=zpr (by rw[uak,uaf hk] <;> rfl)
   rw[← ek] at z
   exact⟨_,z⟩
  refine⟨_,rfl,_,rfl,a,_,_,_,rfl,rfl,hS,hv,?_⟩
  refine⟨_,_,rfl,rfl,⟨by decide,by decide,by decide⟩,_,_,rfl,rfl,⟨by decide,by decide,by decide⟩,_,_,rfl,rfl,mulB,_,_,rfl,rfl,⟨by decide,by decide,by decide⟩,_,_,rfl,rfl,mulB2,_,_,rfl,rfl,posB,?_⟩
  exact rest _ (ude _ (by have:=posB;left)) _ rfl
 ·exact rest 5 (by decide) _ rfl
theorem zf4 (T:Bi mg)(D:DefOk K mg "_law_length" s__law_length ["pot","way"])(O__law_take:‹1› "_law_take" ["pot","many"] spTake):‹2› "_law_length" ["pot","way"] spLength:=by
 exists 1,sc__law_length
 obtain⟨p,y,rfl,hp,hy0,hy5,q⟩:=h
 refine⟨_,(zac (zbh (zap zdk (pv 1) zad (nomark _)) (zaf (zan (zaq zau (ze0 (zaa zad (zaa (za1 zb1 zad (zae O__law_take hr rfl (zaa (pv 0) (zaa zad zab)))) zab))) (pv 1) (λ _ _=>rfl)))) zay) (zac (zbh (zap zce (pv 1) zad (nomark _)) (zaf (zan (za1 zb1 zad (zae O__law_take hr rfl (zaa (pv 0) (zaa zad zab)))))) zay) (zac (zbh (zap zce (pv 1) zad (nomark _)) (zaf (zan (zaq zau (ze0 (zaa zad (zaa zad (zaa zad (zaa (za1 zct zad zad) (zaa (za1 zcl (za1 zct zad zad) zad) (zaa (za1 zct zad zad) zab))))))) (zae O__law_take hr rfl (zaa (pv 0) (zaa zad zab))) (λ _ _=>rfl)))) zay) (zaf (zan (za1 zb1 zad (za1 zgn (zae O__law_take hr rfl (zaa (pv 0) (zaa (za1 zct zad zad) zab))) (zae O__law_take hr rfl (zaa (pv 0) (zaa (za1 zb1 (za1 zct zad zad) zad) zab)))))))))),?_⟩
 refine⟨_,rfl,_,_,rfl,rfl,_,rfl,?_⟩
 refine ite2 (λ c=>?_) (λ c=>?_)
 ·have c':y<2:=of_decide_eq_true c
  refine⟨_,rfl,p,3,rfl,hp,by decide,by decide,λ r H1 r0 r1 b1 p1=>?_⟩
  refine⟨_,_,rfl,rfl,(by show 2<=sizeLine;decide),λ l hl=>?_⟩
  have at_:∃ v:Int,atI [V.int 1,V.int (1+r)] y=some (.int v)/\1<=v/\v<=10^18:=by
   have:y=0\/y=1:=by left
   rcases this with e | e <;> rw[e]
   ·exact⟨1,rfl,by symm,by symm⟩
   ·exact⟨1+r,rfl,by left,by left⟩
  obtain⟨v,hv,v0,v1⟩:=at_
  refine⟨_,rfl,l,_,_,_,rfl,rfl,SqL.of zaj,hv,?_⟩
  obtain⟨a',b',e',z⟩:=p1
  exact q v _ v0 v1 (b1.trans (But.new hl)) ⟨a',b',(zam hl) _ _ e',z⟩
 refine⟨_,rfl,rfl,_,rfl,?_⟩
 refine ite2 (λ c2=>?_) (λ c2=>?_)
 ·refine⟨_,rfl,p,50,rfl,hp,by decide,by decide,λ r H1 r0 r1 b1 p1=>?_⟩
  exact⟨_,_,rfl,rfl,q _ _ (by left) (by left) b1 p1⟩
 refine⟨_,rfl,rfl,_,rfl,?_⟩
 refine ite2 (λ c3=>?_) (λ c3=>?_)
 ·refine⟨_,_,rfl,rfl,⟨by decide,by decide,by decide⟩,_,_,rfl,rfl,⟨by decide,by decide,by decide⟩,_,_,rfl,rfl,_,_,rfl,rfl,⟨by decide,by decide,by decide⟩,(by show 6<=sizeLine;decide),λ l hl=>?_⟩
  have hp':Pot (upd H l (.lst [V.int 1,V.int 2,V.int 3,V.int ((10:Int)^(18:Int).toNat),V.int ((10:Int)^(18:Int).toNat-1),V.int ((10:Int)^(17:Int).toNat)])) p:=by
   obtain⟨a',b',e',z⟩:=hp
   exact⟨a',b',(zam hl) _ _ e',z⟩
  have lp:l≠p:=by
   obtain⟨a',b',e',z⟩:=hp
   exact λ e=>by rw[e,e'] at hl;cases hl
  refine⟨_,rfl,p,6,rfl,hp',by decide,by decide,λ r H1 r0 r1 b1 p1=>?_⟩
  have at_:∃ v:Int,atI [V.int 1,V.int 2,V.int 3,V.int ((10:Int)^(18:Int).toNat),V.int ((10:Int)^(18:Int).toNat-1),V.int ((10:Int)^(17:Int).toNat)] r=some (.int v)/\1<=v/\v<=10^18:=by
   have:r=0\/r=1\/r=2\/r=3\/r=4\/r=5:=by left
   rcases this with e | e | e | e | e | e <;> rw[e] <;> exact⟨_,rfl,by symm,by symm⟩
  obtain⟨v,hv,v0,v1⟩:=at_
  refine⟨l,_,_,_,rfl,rfl,SqL.of (b1 _ _ lp zaj),hv,?_⟩
  exact q v _ v0 v1 ((But.new hl).trans b1) p1
 ·refine⟨_,rfl,_,_,rfl,rfl,⟨by decide,by decide,by decide⟩,p,_,rfl,hp,by decide,by decide,λ r H1 r0 r1 b1 p1=>?_⟩
  refine⟨_,rfl,_,_,rfl,rfl,⟨by decide,by decide,by decide⟩,_,_,rfl,rfl,p,_,rfl,p1,by decide,by decide,λ r2 H2 r20 r21 b2 p2=>?_⟩
  have e9:((10:Int)^(9:Int).toNat)=1000000000:=by decide
  rw[e9] at r1 r21
  refine⟨_,_,rfl,rfl,.inl ⟨by left,by left⟩,_,_,rfl,rfl,?_⟩
  have m0:0<=r*r2:=Int.mul_nonneg r0 r20
  have m1:r*r2<=999999999*1000000000:=Int.mul_le_mul (by left) (by left) r20 (by decide)
  exact q _ _ (by left) (by left) (b1.trans b2) p2
theorem zi3 (T:Bi mg)(D:DefOk K mg "_law_tied" s__law_tied ["pot","n","style","a","b"])(O__law_take:‹1› "_law_take" ["pot","many"] spTake):‹2› "_law_tied" ["pot","n","style","a","b"] spTied:=by
 exists 1,sc__law_tied
 obtain⟨p,n,y,a,b,rfl,hp,q⟩:=h
 have q0:∀ k,Q (.bl k) H:=λ k=>q k H But.refl hp
 refine⟨_,(zac (zat (i:=5) nd rfl (uap rfl) (zs2 (za8 zce (za1 zcl (pv 4) (pv 3)) zad (nomark _)) (zcg (za8 zce (za1 zcl (pv 4) (pv 3)) (za1 zcl (pv 1) zad) (nomark _))))) (zac (zbh (zap zdk (pv 2) zad (nomark _)) (zaf (zan (zs2 (pv 5) (zcg (zcv (za8 zce (pv 2) zad (nomark _)) (zcg (za8 zce (zae O__law_take hr rfl (zaa (pv 0) (zaa zad zab))) zad (nomark _)))))))) zay) (zac (zbh (zap zdk (pv 2) zad (nomark _)) (zaf (zan (za8 zce (za8 zfw (zae O__law_take hr rfl (zaa (pv 0) (zaa zad zab))) zad (nomark _)) (za8 zce (pv 2) zad (nomark _)) (nomark _)))) zay) (zac (zbh (zap zce (pv 2) zad (nomark _)) (zaf (zan (zs2 (za8 zce (za1 zcl (pv 4) (pv 3)) zad (nomark _)) (zcg (zcv (za8 zce (za1 zcl (pv 4) (pv 3)) zad (nomark _)) (zcg (za8 zfw (za1 zcy (pv 4) zad) zad (nomark _)))))))) zay) (zac (zbh (zap zdk (pv 2) zad (nomark _)) (zaf (zan (zcv (za8 zce (za8 zce (za1 zcy (pv 3) zad) (za1 zcy (pv 4) zad) (nomark _)) (za8 zce (pv 2) zad (nomark _)) (nomark _)) (zcg (za8 zfw (zae O__law_take hr rfl (zaa (pv 0) (zaa zad zab))) zad (nomark _)))))) zay) (zaf (zan zck))))))),?_⟩
 refine⟨_,rfl,_,rfl,_,_,rfl,rfl,rfl,_,rfl,?_⟩
 refine ite2 (λ c=>?_) (λ c=>?_)
 all_goals (try refine⟨_,rfl,_,rfl,_,_,rfl,rfl,_,rfl,_,_,rfl,rfl,rfl,?_⟩)
 all_goals
  refine⟨_,rfl,_,_,rfl,rfl,_,rfl,?_⟩
  refine ite2 (λ c1=>?_) (λ c1=>?_)
  ·refine⟨_,rfl,_,rfl,?_⟩
   refine ite2 (λ d=>?_) (λ d=>?_)
   ·exact q0 _
   ·refine⟨_,rfl,rfl,_,rfl,?_⟩
    refine ite2 (λ d=>?_) (λ d=>?_)
    ·exact⟨_,rfl,p,_,rfl,hp,by decide,by decide,λ r H' _ _ b1 p1=>⟨rfl,q _ _ b1 p1⟩⟩
    ·exact q0 _
  refine⟨_,rfl,_,_,rfl,rfl,_,rfl,?_⟩
  refine ite2 (λ c2=>?_) (λ c2=>?_)
  ·exact⟨_,rfl,p,_,rfl,hp,by decide,by decide,λ r H' _ _ b1 p1=>⟨_,_,rfl,rfl,_,rfl,rfl,rfl,q _ _ b1 p1⟩⟩
  refine⟨_,rfl,rfl,_,rfl,?_⟩
  refine ite2 (λ c3=>?_) (λ c3=>?_)
  ·refine⟨_,rfl,_,rfl,_,_,rfl,rfl,rfl,_,rfl,?_⟩
   refine ite2 (λ d=>?_) (λ d=>?_)
   ·exact q0 _
   ·refine⟨_,rfl,_,rfl,_,_,rfl,rfl,rfl,_,rfl,?_⟩
    refine ite2 (λ d=>?_) (λ d=>?_)
    ·exact⟨_,rfl,_,_,rfl,rfl,(by show (0:Int)<3;decide),_,_,rfl,rfl,q0 _⟩
    ·exact q0 _
  refine⟨_,rfl,_,_,rfl,rfl,_,rfl,?_⟩
  refine ite2 (λ c4=>?_) (λ c4=>?_)
  ·refine⟨_,rfl,_,_,rfl,rfl,(by show (0:Int)<2;decide),_,rfl,_,_,rfl,rfl,(by show (0:Int)<2;decide),rfl,_,rfl,rfl,rfl,_,rfl,?_⟩
   refine ite2 (λ d=>?_) (λ d=>?_)
   ·exact⟨_,rfl,p,_,rfl,hp,by decide,by decide,λ r H' _ _ b1 p1=>⟨_,_,rfl,rfl,q _ _ b1 p1⟩⟩
   ·exact q0 _
  ·exact q0 _
theorem zhl (T:Bi mg)(D:DefOk K mg "_law_order" s__law_order ["pot","many"])(O__law_take:‹1› "_law_take" ["pot","many"] spTake):‹2› "_law_order" ["pot","many"] spOrder:=by
 exists 1,sc__law_order
 obtain⟨p,m,rfl,hp,hm0,hm1,q⟩:=h
 refine⟨_,(zac (zat (i:=2) nd rfl (uap rfl) (zar (zd9 rfl) rfl T.z_list (by symm) (zaa (zar zdc rfl T.z_range (by symm) (zaa (pv 1) zab)) zab))) (zac (zat (i:=3) nd rfl (uap rfl) (ze0 zab)) (zac (zbg PassesOwn.never rfl (zbe rfl T.z_range (zaa (pv 1) zab)) (zag (i:=4) nd rfl (uap rfl)) (zaf (zba (zcu ua7 ubv ubu zdy (pv 3) (zaa (zcu ua7 uhc ug9 zlx (pv 2) (zaa (zae O__law_take hr rfl (zaa (pv 0) (zaa (zah zao rfl T.z_len (by symm) (zaa (pv 2) zab)) zab))) zab)) zab))))) (zaf (zan (pv 3)))))),?_⟩
 refine⟨_,rfl,m,rfl,λ g hg=>?_⟩
 refine⟨g,m,rfl,zaj,hm0,hm1,λ l hl=>?_⟩
 refine⟨(by show 0<=sizeLine;decide),λ l2 hl2=>?_⟩
 obtain⟨H0,eH0⟩:∃ H0,H0=upd (upd (upd H g (.rng 0 m)) l (.lst ((uac m.toNat).map λ i:Nat=>V.int (i:Int)))) l2 (.lst []):=⟨_,rfl⟩
 rw[← eH0]
 have S1:Same H (upd H g (.rng 0 m)):=zam hg
 have S2:=S1.trans (zam (o:=.lst ((uac m.toNat).map λ i:Nat=>V.int (i:Int))) hl)
 have S3:Same H H0:=by rw[eH0];exact S2.trans (zam hl2)
 have fl:H l=none:=S1.free hl
 have fl2:H l2=none:=S2.free hl2
 have ll2:l≠l2:=λ e=>by rw[← e,zaj] at hl2;cases hl2
 have el:H0 l=some (.lst ((uac m.toNat).map λ i:Nat=>V.int (i:Int))):=by rw[eH0,zas ll2,zaj]
 have el2:H0 l2=some (.lst []):=by rw[eH0,zaj]
 have hp0:Pot H0 p:=by
  obtain⟨a,b,e,z⟩:=hp
  exact⟨a,b,S3 _ _ e,z⟩
 have nlp:l≠p:=by
  obtain⟨a,b,e,z⟩:=hp
  exact λ x=>by rw[x,e] at fl;cases fl
 have nl2p:l2≠p:=by
  obtain⟨a,b,e,z⟩:=hp
  exact λ x=>by rw[x,e] at fl2;cases fl2
 refine⟨_,rfl,m,rfl,by left,by left,?_⟩
 refine zbo (n:=m.toNat) (λ i σ H'=>∃ (t:Option V)(ls ms:List Int),σ=[some (.ref p),some (.int m),some (.ref l),some (.ref l2),t]/\H' l=some (.lst (ls.map V.int))/\H' l2=some (.lst (ms.map V.int))/\Pot H' p /\
  (∀ b o,b≠p->H b=some o->H' b=some o)/\(ms++ls).Perm ((uac m.toNat).map λ i:Nat=>(i:Int))/\ms.length=i) ?start ?turn ?fin
 case start=>exact⟨none,(uac m.toNat).map λ i:Nat=>(i:Int),[],rfl,by rw[el,uci];rfl,el2,hp0,λ b o _ e=>S3 b o e,uer _,rfl⟩
 case turn =>
  rintro i σ H' hi ⟨t,ls,ms,rfl,e1,e2,hp',kp,pm,hl'⟩
  have hlen:ls.length=m.toNat-i:=by
   have:=pm.length_eq
   rw[uaq,uae,ua8] at this
   left
  refine⟨_,rfl,.inl ⟨rfl,_,SqL.of e2⟩,_,rfl,.inl ⟨rfl,_,SqL.of e1⟩,_,rfl,_,rfl,l,_,rfl,.inl (SqL.of e1),?_⟩
  refine⟨p,_,rfl,hp',(by rw[uae];left),(by rw[uae];left),λ r H1 r0 r1 b1 p1=>?_⟩
  rw[uae] at r1
  have hr1:r.toNat<ls.length:=by left
  have er:r=((r.toNat:Nat):Int):=by left
  have six:seqIndex? r (ls.map V.int).length=some r.toNat:=(zhu (by unfold ixN;rw[if_pos r0,if_pos (by rw[uae];left)])).1
  refine⟨l,_,r,r.toNat,.int ls[r.toNat],rfl,rfl,b1 _ _ nlp e1,by left,by left,six,by rw[uak,uaf hr1];rfl,?_⟩
  refine⟨l2,_,_,rfl,rfl,by rw[zas ll2.symm];exact b1 _ _ nl2p e2,?_,?_⟩
  ·rw[uae]
   exact ucb (by left:ms.length<=1000) (by decide)
  ·refine⟨_,ls.eraseIdx r.toNat,ms++[ls[r.toNat]],rfl,?_,?_,?_,?_,?_,by rw[uaq,ubn];left⟩
   ·rw[zas ll2,zaj,zcz]
   ·rw[zaj,ubc];rfl
   ·obtain⟨a,b,e,z⟩:=p1
    exact⟨a,b,by rw[zas nl2p.symm,zas nlp.symm];exact e,z⟩
   ·intro b o hb e
    have n1:b≠l:=λ x=>by rw[x,fl] at e;cases e
    have n2:b≠l2:=λ x=>by rw[x,fl2] at e;cases e
    rw[zas n2,zas n1]
    exact b1 _ _ hb (kp _ _ hb e)
   ·refine List.Perm.trans ?_ pm
    rw[ugf]
    refine ug4 _ ?_
    show (ls[r.toNat]::ls.eraseIdx r.toNat).Perm ls
    exact zgt ls r.toNat hr1
 case fin =>
  rintro σ H' ⟨t,ls,ms,rfl,e1,e2,hp',kp,pm,hl'⟩
  have hlen:ls=[]:=by
   have:=pm.length_eq
   rw[uaq,uae,ua8] at this
   exact udp (by left)
  subst hlen
  rw[ugy] at pm
  exact⟨_,rfl,q l2 H' ms kp hp' fl2 nl2p e2 pm⟩
def WInv (H:Hp)(p ln lt:Addr)(m n st wy:Int)(ms:List Int)(b a:Nat)(σ:L2.St)(H':Hp):Prop :=
 ∃ (t7 t8 t9 t10:Option V)(ys:List V)(ties:List Tie),σ=[some (.ref p),some (.int m),some (.int n),some (.int st),some (.int wy),some (.ref ln),some (.ref lt),t7,t8,t9,t10] /\
  H' ln=some (.lst (ms.map V.int))/\H' lt=some (.lst ys)/\TieL H' ys ties/\Pot H' p/\(∀ b o,b≠p->H b=some o->H' b=some o)/\Grown n.toNat ms b a ties
theorem zkt (T:Bi mg)(D:DefOk K mg "_law_web" s__law_web ["pot","most"])(O__law_take:‹2› "_law_take" ["pot","many"] spTake)(O__law_order:‹2› "_law_order" ["pot","many"] spOrder)
  (O__law_tied:‹2› "_law_tied" ["pot","n","style","a","b"] spTied) (O__law_length:‹2› "_law_length" ["pot","way"] spLength):‹3› "_law_web" ["pot","most"] (spWeb K):=by
 exists 2,sc__law_web
 obtain⟨p,m,rfl,hp,hm0,hm1,q⟩:=h
 refine⟨_,(zac (zat (i:=2) nd rfl (uap rfl) (za1 zb1 zad (zae O__law_take hr rfl (zaa (pv 0) (zaa (pv 1) zab))))) (zac (zat (i:=3) nd rfl (uap rfl) (zae O__law_take hr rfl (zaa (pv 0) (zaa zad zab)))) (zac (zat (i:=4) nd rfl (uap rfl) (zae O__law_take hr rfl (zaa (pv 0) (zaa zad zab)))) (zac (zat (i:=5) nd rfl (uap rfl) (zae O__law_order hr rfl (zaa (pv 0) (zaa (pv 2) zab)))) (zac (zat (i:=6) nd rfl (uap rfl) (ze0 zab)) (zac (zbg PassesOwn.never rfl (zbe rfl T.z_range (zaa (pv 2) zab)) (zag (i:=7) nd rfl (uap rfl)) (zaf (zbg PassesOwn.never rfl (zbe rfl T.z_range (zaa (pv 7) zab)) (zag (i:=8) nd rfl (uap rfl)) (zaf (zbh (PW.pt (zlq (zbl (zae O__law_tied hr rfl (zaa (pv 0) (zaa (pv 2) (zaa (pv 3) (zaa (pv 8) (zaa (pv 7) zab))))))) (zg4 (zap zdk (zah zao rfl T.z_len (by symm) (zaa (pv 6) zab)) zad (nomark _))))) (zac (zb0 (zah zb5 rfl T.z_sorted (by symm) (zaa (ze0 (zaa (zaq zau (pv 5) (pv 8) (λ _ _=>rfl)) (zaa (zaq zau (pv 5) (pv 7) (λ _ _=>rfl)) zab))) zab)) (zt3 (n:=2) rfl (zai (zag (i:=9) nd rfl (uap rfl)) (zai (zag (i:=10) nd rfl (uap rfl)) za3)))) (zaf (zba (zcu ua7 ubv ubu zdy (pv 6) (zaa (zrx (zaa (pv 9) (zaa (pv 10) (zaa (zae O__law_length hr rfl (zaa (pv 0) (zaa (pv 4) zab))) zab)))) zab))))) zay))))) (zaf (zan (zrx (zaa (pv 2) (zaa (zar zd8 rfl T.z_tuple (by symm) (zaa (zah zjo rfl T.z_sorted (by symm) (zaa (pv 6) zab)) zab)) zab))))))))))),?_⟩
 refine⟨_,rfl,_,rfl,p,m,rfl,hp,by left,by left,λ r1 H1 r10 r11 b1 p1=>?_⟩
 refine⟨_,_,rfl,rfl,?_⟩
 refine⟨_,rfl,p,8,rfl,p1,by decide,by decide,λ st H2 _ _ b2 p2=>?_⟩
 refine⟨_,rfl,p,5,rfl,p2,by decide,by decide,λ wy H3 wy0 wy1 b3 p3=>?_⟩
 refine⟨_,rfl,_,rfl,p,_,rfl,p3,by left,by left,λ ln H4 ms b4 p4 f4 n4 e4 pm=>?_⟩
 obtain⟨n,en⟩:∃ n:Int,n=1+r1:=⟨_,rfl⟩
 rw[← en] at pm
 have bt4:But p H H4:=b1.trans (b2.trans (b3.trans b4))
 have fln:H ln=none:=by
  cases e:H ln with
  | none=>rfl
  | some u=>rw[(b1.trans (b2.trans b3)) _ _ n4 e] at f4;cases f4
 refine⟨(by show 0<=sizeLine;decide),λ lt hlt=>?_⟩
 have flt:H lt=none:=by
  by_cases z:lt=p
  ·obtain⟨a',b',e',_⟩:=p4;rw[z,e'] at hlt;cases hlt
  ·cases e:H lt with
   | none=>rfl
   | some u=>rw[bt4 _ _ z e] at hlt;cases hlt
 have nlt:lt≠p:=by
  obtain⟨a',b',e',_⟩:=p4
  exact λ x=>by rw[x,e'] at hlt;cases hlt
 have nln:ln≠lt:=λ x=>by rw[← x,e4] at hlt;cases hlt
 have pm0:Perm0 n.toNat ms:=Perm0.of pm
 refine⟨_,rfl,n,by rw[en],by left,by left,?_⟩
 refine zbo (n:=n.toNat) (λ i σ H'=>WInv H p ln lt m n st wy ms i 0 σ H') ?start ?turn ?fin
 case start =>
  refine⟨none,none,none,none,[],[],by rw[en];rfl,by rw[zas nln];exact e4,zaj,.nil,?_,λ b o hb e=>?_,Grown.start⟩
  ·obtain⟨a',b',e',z⟩:=p4
   exact⟨a',b',by rw[zas nlt.symm];exact e',z⟩
  ·rw[zas (λ x=>by rw[x,flt] at e;cases e)]
   exact bt4 _ _ hb e
 case turn =>
  rintro i σ H' hi ⟨t7,t8,t9,t10,ys,ties,rfl,g1,g2,g3,g4,g5,g6⟩
  refine⟨_,rfl,_,rfl,by left,by left,?_⟩
  have ei:((0+(i:Int)):Int).toNat=i:=by left
  rw[ei]
  refine zbo (n:=i) (λ k σ H''=>(∃ t7,σ[7]?=some (some (.int (0+(i:Int))))/\t7=())/\WInv H p ln lt m n st wy ms i k σ H'') ?start2 ?turn2 ?fin2
  case start2=>exact⟨⟨(),rfl,rfl⟩,some (.int (0+(i:Int))),t8,t9,t10,ys,ties,rfl,g1,g2,g3,g4,g5,g6⟩
  case fin2 =>
   rintro σ H'' ⟨_,t7,t8,t9,t10,ys,ties,rfl,g1,g2,g3,g4,g5,g6⟩
   exact⟨t7,t8,t9,t10,ys,ties,rfl,g1,g2,g3,g4,g5,g6.down⟩
  case turn2 =>
   rintro k σ K1 hk ⟨⟨_,h7,_⟩,t7,t8,t9,t10,ys,ties,rfl,g1,g2,g3,g4,g5,g6⟩
   have e7:t7=some (.int (0+(i:Int))):=by simpa using h7
   subst e7
   have again : ∀ {u8 u9 u10 : Option V}{ys' : List V}{ts : List Tie}{J : Hp}, J ln = some (.lst (ms.map V.int)) → J lt = some (.lst ys') → TieL J ys' ts → Pot J p → (∀ b o, b ≠ p → H b = some o → J b = some o) → Grown n.toNat ms i (k+1) ts →
       (∃ t7,([some (.ref p),some (.int m),some (.int n),some (.int st),some (.int wy),some (.ref ln),some (.ref lt),some (.int (0+(i:Int))),u8,u9,u10]:L2.St)[7]?=some (some (.int (0+(i:Int))))/\t7=())/\WInv H p ln lt m n st wy ms i (k+1) [some (.ref p),some (.int m),some (.int n),some (.int st),some (.int wy),some (.ref ln),some (.ref lt),some (.int (0+(i:Int))),u8,u9,u10] J :=
    λ a1 a2 a3 a4 a5 a6=>⟨⟨(),rfl,rfl⟩,_,_,_,_,_,_,rfl,a1,a2,a3,a4,a5,a6⟩
   refine⟨_,rfl,_,rfl,_,rfl,_,rfl,_,rfl,p,_,_,_,_,rfl,g4,λ kk K2 c2 d2=>⟨kk,rfl,?_⟩⟩
   have nlnp:ln≠p:=n4
   have l1:K2 ln=some (.lst (ms.map V.int)):=c2 _ _ nlnp g1
   have l2:K2 lt=some (.lst ys):=c2 _ _ nlt g2
   have tup2:∀ a xs,K1 a=some (.tup xs)->K2 a=some (.tup xs):=λ a xs e=>c2 _ _ (λ x=>by
    obtain⟨a',b',e',_⟩:=g4
    rw[x,e'] at e;cases e) e
   have l3:TieL K2 ys ties:=g3.keep tup2
   have l5:∀ b o,b≠p->H b=some o->K2 b=some o:=λ b o hb e=>c2 _ _ hb (g5 _ _ hb e)
   have ylen:ys.length=ties.length:=Paired.length g3
   cases kk with
   | false =>
    refine iteF (iteF ?_)
    exact again l1 l2 l3 d2 l5 g6.skip
   | true =>
    refine iteT ?_
    refine⟨_,rfl,lt,_,rfl,.inl (SqL.of l2),_,_,rfl,rfl,_,rfl,?_⟩
    refine ite2 (λ c=>?_) (λ c=>?_)
    case refine_2=>exact again l1 l2 l3 d2 l5 g6.skip
    have c':((ys.length:Nat):Int)<60:=of_decide_eq_true c
    have hkn:k<n.toNat:=by left
    have at_:∀ j:Nat,j<n.toNat->atI (ms.map V.int) (j:Int)=some (.int (ms.getD j 0)):=λ j hj=>by
     have hj':j<ms.length:=by rw[pm0.len];exact hj
     refine zpr ?_
     rw[uak,uaf hj']
     simp [uc6,hj']
    have ak:atI (ms.map V.int) (0+(k:Int))=some (.int (ms.getD k 0)):=by rw[ue1];exact at_ k hkn
    have ai:atI (ms.map V.int) (0+(i:Int))=some (.int (ms.getD i 0)):=by rw[ue1];exact at_ i hi
    refine⟨_,rfl,_,rfl,ln,_,_,_,rfl,rfl,SqL.of l1,ak,_,rfl,_,rfl,ln,_,_,_,rfl,rfl,SqL.of l1,ai,(by show 2<=sizeLine;decide),λ s1 hs1=>?_⟩
    refine⟨s1,[ms.getD k 0,ms.getD i 0],rfl,SqL.of zaj,(by show 2<64;decide),λ zs pz wz s2 hs2=>?_⟩
    obtain⟨x,y,rfl,hxy,hor⟩:=zmr pz wz
    refine⟨s2,_,rfl,SqL.of zaj,rfl,?_⟩
    refine⟨_,_,rfl,_,_,rfl,rfl,?_⟩
    have n1:∀ b o,K2 b=some o->b≠s1:=λ b o e=>zal e hs1
    have n2:∀ b o,K2 b=some o->b≠s2:=λ b o e=>zal (zam hs1 b o e) hs2
    have up:∀ b o,K2 b=some o->upd (upd K2 s1 (.lst [.int (ms.getD k 0),.int (ms.getD i 0)])) s2 (.lst [.int x,.int y]) b=some o:=λ b o e=>by rw[zas (n2 b o e),zas (n1 b o e)];exact e
    refine⟨_,rfl,.inl ⟨rfl,_,SqL.of (up _ _ l2)⟩,_,rfl,_,rfl,_,rfl,_,rfl,?_⟩
    refine⟨p,wy,rfl,?_,wy0,wy1,λ len K5 ln0 ln1 c5 d5=>?_⟩
    ·obtain⟨a',b',e',z⟩:=d2
     exact⟨a',b',up _ _ e',z⟩
    refine⟨(by show 3<=sizeLine;decide),λ tp htp=>?_⟩
    have pl:∃ xs,K2 p=some (.lst xs):=d2.lst
    have up5:∀ b o,b≠p->K2 b=some o->upd K5 tp (.tup [.int x,.int y,.int len]) b=some o:=λ b o hb e=>by
     have e5:=c5 b o hb (up b o e)
     rw[zas (zal e5 htp)];exact e5
    refine⟨lt,_,_,rfl,rfl,up5 _ _ nlt l2,?_,?_⟩
    ·exact ucb (by left:ys.length<=1000) (by decide)
    have k5:∀ b o,b≠p->b≠lt->K2 b=some o->upd (upd K5 tp (.tup [.int x,.int y,.int len])) lt (.lst (ys++[.ref tp])) b=some o:=λ b o hb hb2 e=>by rw[zas hb2];exact up5 b o hb e
    have ntp:tp≠lt:=λ z=>by
     have:=c5 _ _ nlt (up _ _ l2)
     rw[← z,htp] at this;cases this
    refine again (k5 _ _ nlnp nln l1) zaj (TieL.snoc (TieL.keep l3 λ a xs e=>k5 _ _ ?_ ?_ e) ?_) ?_ (λ b o hb e=>k5 _ _ hb (λ z=>by rw[z,flt] at e;cases e) (l5 _ _ hb e))
     (g6.add (x:=x) (y:=y) (l:=len) pm0 hk hi (by left) ln0 ln1 hor hxy)
    ·intro z
     obtain⟨xs',e'⟩:=pl
     rw[z,e'] at e;cases e
    ·intro z
     rw[z,l2] at e;cases e
    ·rw[zas ntp,zaj];rfl
    ·obtain⟨a',b',e',z⟩:=d5
     exact⟨a',b',by rw[zas nlt.symm,zas (zal e' htp)];exact e',z⟩
 case fin =>
  rintro σ H' ⟨t7,t8,t9,t10,ys,ties,rfl,g1,g2,g3,g4,g5,g6⟩
  have ylen:ys.length=ties.length:=Paired.length g3
  have few:=g6.few
  refine⟨_,rfl,_,rfl,lt,ys,ties.map tieI,rfl,SqL.of g2,by left,ze1 (λ y t ⟨a,e1,e2⟩=>⟨a,e1,SqT.of e2⟩) g3,λ k hk=>?_,λ qs pq wq l hl=>?_⟩
  ·obtain⟨t,_,rfl⟩:=ube.mp hk
   exact λ z=>by cases z
  obtain⟨ts,pt,tl,wt⟩:=zsm g3 pq wq
  refine⟨l,_,rfl,.inl ⟨SqL.of zaj,λ l' hl'=>?_⟩⟩
  refine⟨(by show 2<=sizeLine;decide),λ v hv=>?_⟩
  have S1:Same H' (upd H' l (.lst (qs.map (·.1)))):=zam hl
  have S2:=S1.trans (zam (o:=.tup (qs.map (·.1))) hl')
  have S3:=S2.trans (zam (o:=.tup [.int n,.ref l']) hv)
  refine q (.ref v) _ n ts (λ b o hb e=>S3 _ _ (g5 _ _ hb e)) ?_ ⟨by left,by left,zsv wt ((pt.pairwise_iff (λ {a b} h z=>h ⟨z.1.symm,z.2.symm⟩)).mpr g6.nd),by have:=pt.length_eq;left,λ t ht=>?_⟩ (by left) ?_
  ·obtain⟨a',b',e',z⟩:=g4
   exact⟨a',b',S3 _ _ e',z⟩
  ·have:=g6.ok t (pt.mem_iff.mp ht)
   have e:((n.toNat:Nat):Int)=n:=by left
   rw[e] at this
   exact this
  ·refine⟨v,_,rfl,zaj,_,_,rfl,rfl,_,_,rfl,⟨l',qs.map (·.1),rfl,?_,?_⟩,rfl⟩
   ·exact (zam hv) _ _ zaj
   ·exact TieL.is (tl.keep λ a xs e=>S3 _ _ e)
theorem zkq (T:Bi mg)(D:DefOk K mg "is_whole" s_is_whole ["thing"]):‹1› "is_whole" ["thing"] (spD1 K (λ _=>True) wholeB):=by
 exists 0,sc_is_whole
 obtain⟨d,v,rfl,hd,_,q⟩:=h
 have q0:=q H (Same.refl H)
 have ty:=ztt hd
 refine⟨_,(zaf (zan (zcv (zah (zbs (n:="int")) rfl T.z_isinstance (by symm) (zaa (pv 0) (zaa (zb7 (v:=.ty "int") rfl T.z_int (by symm) rfl) zab))) (zcg (zn8 (zah (zbs (n:="bool")) rfl T.z_isinstance (by symm) (zaa (pv 0) (zaa (zb7 (v:=.ty "bool") rfl T.z_bool (by symm) rfl) zab)))))))),?_⟩
 cases d with
 | int i=>exact⟨_,rfl,_,_,_,rfl,ty,rfl,_,rfl,iteT ⟨_,rfl,_,_,_,rfl,ty,rfl,_,rfl,q0⟩⟩
 | bool b=>exact⟨_,rfl,_,_,_,rfl,ty,rfl,_,rfl,iteT ⟨_,rfl,_,_,_,rfl,ty,rfl,_,rfl,q0⟩⟩
 | none=>exact⟨_,rfl,_,_,_,rfl,ty,rfl,_,rfl,iteF q0⟩
 | str x=>exact⟨_,rfl,_,_,_,rfl,ty,rfl,_,rfl,iteF q0⟩
 | tuple ds=>exact⟨_,rfl,_,_,_,rfl,ty,rfl,_,rfl,iteF q0⟩
 | list ds=>exact⟨_,rfl,_,_,_,rfl,ty,rfl,_,rfl,iteF q0⟩
 | dict ds=>exact⟨_,rfl,_,_,_,rfl,ty,rfl,_,rfl,iteF q0⟩
theorem zix (T:Bi mg)(D:DefOk K mg "is_wholes" s_is_wholes ["thing"])(O_is_whole:‹1› "is_whole" ["thing"] (spD1 K (λ _=>True) wholeB)):‹2› "is_wholes" ["thing"] (spD1 K few wholesB):=by
 exists 1,sc_is_wholes
 obtain⟨d,v,rfl,hd,hfew,q⟩:=h
 have q0:=q H (Same.refl H)
 have ty:=ztt hd
 refine⟨_,(zaf (zan (zcv (zah (zbs (n:="tuple")) rfl T.z_isinstance (by symm) (zaa (pv 0) (zaa (zb7 (v:=.ty "tuple") rfl T.z_tuple (by symm) rfl) zab))) (zcg (zah (zbp rfl) rfl T.z_all (by symm) (zaa (za7 (N:=["thing"]) (sc0:=defScope s_is_wholes) (own:=["part"]) (fr:=[]) (js:=[]) rfl (zbm (pv 0)) (λ _ _ _ _=>(zag (i:=0) (by show ua0 [("part":Str)];decide +kernel) rfl (uap rfl))) (λ _ _ _ _=>zbc) (λ _ _ _ _=>(zae O_is_whole hr rfl (zaa (pv 0) zab)))) zab)))))),?_⟩
 cases d with
 | int i=>exact⟨_,rfl,_,_,_,rfl,ty,rfl,_,rfl,iteF q0⟩
 | bool b=>exact⟨_,rfl,_,_,_,rfl,ty,rfl,_,rfl,iteF q0⟩
 | none=>exact⟨_,rfl,_,_,_,rfl,ty,rfl,_,rfl,iteF q0⟩
 | str x=>exact⟨_,rfl,_,_,_,rfl,ty,rfl,_,rfl,iteF q0⟩
 | list ds=>exact⟨_,rfl,_,_,_,rfl,ty,rfl,_,rfl,iteF q0⟩
 | dict ds=>exact⟨_,rfl,_,_,_,rfl,ty,rfl,_,rfl,iteF q0⟩
 | tuple ds =>
  refine⟨_,rfl,_,_,_,rfl,ty,rfl,_,rfl,iteT ?_⟩
  obtain⟨p,vs,rfl,hp,hall⟩:=hd
  have hl:=hall.length
  have hf:ds.length<=1000:=hfew
  refine⟨_,rfl,p,rfl,⟨_,SqT.of hp⟩,?_⟩
  refine zbr hp (λ σ'=>σ'.length=1) (λ i v _=>v=.bl (wholeB (ds.getD i .none))) (by left) (by rfl) (λ _ _ _ _ _ h=>h) (λ i x σ' H' hx s sg C hC=>?_) (λ L ys H' hL s hH hly hys=>?_)
  ·obtain⟨d,hdi,hdx⟩:=hall.get' hx
   match σ',sg with
   | [o],_ =>
    refine⟨_,rfl,d,x,rfl,Is.same s d hdx,trivial,λ H5 s5=>hC _ _ _ rfl s5 ?_⟩
    simp [uc6,hdi]
  ·refine⟨L,_,rfl,SqL.of (by rw[hH,zbt (hly.trans hl) hys]),?_⟩
   have e:((uac ds.length).map λ i=>wholeB (ds.getD i .none)).all id=ds.all wholeB:=by
    have:((uac ds.length).map λ i=>wholeB (ds.getD i .none))=ds.map wholeB:=by
     have:=congrArg (List.map wholeB) (L3.zbd ds .none)
     rw[uci] at this
     exact this
    rw[this,udf]
    rfl
   rw[e]
   exact q H' s
theorem zfx (T:Bi mg)(D:DefOk K mg "tie_weights" s_tie_weights ["web"]):‹1› "tie_weights" ["web"] (spWeights K):=by
 exists 0,sc_tie_weights
 obtain⟨n,ts,v,rfl,hw,few60,q⟩:=h
 obtain⟨g0,g,ws,rfl,hg0,hg,hall,hlw⟩:=zax hw
 refine⟨_,(zac (zat (i:=1) nd rfl (uap rfl) (zbb zab)) (zac (zat (i:=2) nd rfl (uap rfl) zad) (zac (zbg PassesOwn.never rfl (zbm (zaq zaz (pv 0) zad (λ _ _=>rfl))) (zag (i:=3) nd rfl (uap rfl)) (zac (zba (zcu ua7 ubv ubu zbv (pv 1) (zaa (pv 2) zab))) (zaf (zat (i:=2) nd rfl (uap rfl) (za1 zgn zad (pv 2)))))) (zaf (zan (pv 1)))))),?_⟩
 refine⟨(by show 0<=1000;decide),λ l J0 S0 f0 e0=>?_⟩
 refine⟨_,rfl,g0,_,_,_,rfl,rfl,SqT.of (S0 _ _ hg0),rfl,g,rfl,⟨_,SqT.of (S0 _ _ hg)⟩,?_⟩
 refine zc2 (xs:=ws) (λ i σ J=>∃ y3:Option V,σ=[some (.ref g0),some (.ref l),some (.int (2^i)),y3]/\Same H J/\J l=some (.lst (pows i))) ⟨none,rfl,S0,e0⟩ (λ i σ J _ h=>by obtain⟨_,_,s,_⟩:=h;exact SqT.of (s _ _ hg)) (λ i x σ J hx h=>?_) (λ σ J h=>?_)
 ·obtain⟨y3,rfl,s1,e1⟩:=h
  have hi:i<ws.length:=(ual.mp hx).1
  refine⟨_,rfl,.inl ⟨rfl,_,SqL.of e1⟩,_,rfl,l,_,_,rfl,rfl,e1,(by unfold pows;rw[uae,ua8];left),λ J1 b1 e2=>?_⟩
  refine⟨_,rfl,_,_,rfl,rfl,.inl ⟨by decide,by decide⟩,?_⟩
  refine⟨some x,?_,λ b o e=>b1 _ _ (zal e f0) (s1 _ _ e),by rw[e2,zn3]⟩
  have ep:(2:Int)*2^i=2^(i+1):=by rw[Int.pow_succ,Int.mul_comm]
  show [some (V.ref g0),some (V.ref l),some (V.int (2*2^i)),some x]=_
  rw[ep]
 ·obtain⟨y3,rfl,s1,e1⟩:=h
  exact⟨_,rfl,q l J s1 f0 (by rw[e1,hlw])⟩
theorem zi1 (T:Bi mg)(D:DefOk K mg "cost_with" s_cost_with ["cost","length","weight"]):‹1› "cost_with" ["cost","length","weight"] (spCost K):=by
 exists 0,sc_cost_with
 obtain⟨c,x,y,l,ww,rfl,hc,q⟩:=h
 refine⟨_,(zaf (zan (zbk (zaa (za1 zb1 (zaq zaz (pv 0) zad (λ _ _=>rfl)) (pv 1)) (zaa (za1 zb1 (zaq zaz (pv 0) zad (λ _ _=>rfl)) (pv 2)) zab))))),?_⟩
 exact⟨_,rfl,c,_,_,_,rfl,rfl,SqT.of hc,rfl,_,rfl,_,_,rfl,rfl,_,rfl,c,_,_,_,rfl,rfl,SqT.of hc,rfl,_,rfl,_,_,rfl,rfl,(by show 2<=1000;decide),λ t J S f e=>q t J S e⟩
def rWB (H:Hp)(wv kv:V)(n r:Int)(ts:List Tie)(ks:List Nat)(lw lc la:Addr)(m:Nat)(σ:L2.St)(J:Hp):Prop:=∃ (cs:List (Option (Int × Int)))(as:List (Option Nat))(ag:Bool)(y7 y8 y9 y10 y11 y12 y13:Option V),σ=[some wv,some kv,some (.int r),some (.ref lw),some (.ref lc),some (.ref la),some (.bl ag),y7,y8,y9,y10,y11,y12,y13] /\
 RA H J lw lc la (pows ts.length) cs as/\Far.Good (arcs ts ks) n.toNat r.toNat cs/\Far.Run (arcsB ts ks) r.toNat cs as/\(ag=false->Far.Stab2 (arcsB ts ks) cs)/\m=Far.mu cs+(if ag=true then 1 else 0)
theorem zer (T:Bi mg)(D:DefOk K mg "reached_from" s_reached_from ["web","keep","root"])(O_tie_weights:‹1› "tie_weights" ["web"] (spWeights K))(O_cost_with:‹1› "cost_with" ["cost","length","weight"] (spCost K)):‹2› "reached_from" ["web","keep","root"] (spReachedC K):=by
 exists 1,sc_reached_from
 obtain⟨n,ts,ks,wv,kv,r,rfl,⟨isw,ok,isk,ko⟩,r0,r1,q⟩:=h
 have few60:=ok.few
 have n1:=ok.n1
 have n24:=ok.n24
 obtain⟨g0,g,ws,rfl,hg0,hg,hall,hlw⟩:=zax isw
 obtain⟨kp,rfl,hkp⟩:=zca isk
 have P:=zmp ok ko
 refine⟨_,(zac (zat (i:=3) nd rfl (uap rfl) (zae O_tie_weights hr rfl (zaa (pv 0) zab))) (zac (zat (i:=4) nd rfl (uap rfl) (za1 zg7 (zbb (zaa zbn zab)) (zaq zaz (pv 0) zad (λ _ _=>rfl)))) (zac (zat (i:=5) nd rfl (uap rfl) (za1 zg7 (zbb (zaa zbn zab)) (zaq zaz (pv 0) zad (λ _ _=>rfl)))) (zac (zb0 (zbk (zaa zad (zaa zad zab))) (zeq (pv 4) (pv 2) zcf)) (zac (zat (i:=6) nd rfl (uap rfl) zck) (zac (zlr PassesOwn.never (zbl (pv 6)) (zac (zat (i:=6) nd rfl (uap rfl) zck) (zaf (zbg PassesOwn.never rfl (zbm (pv 1)) (zag (i:=7) nd rfl (uap rfl)) (zac (zb0 (zaq zaz (zaq zaz (pv 0) zad (λ _ _=>rfl)) (pv 7) (λ _ _=>rfl)) (zb3 (n:=3) rfl (zai (zag (i:=8) nd rfl (uap rfl)) (zai (zag (i:=9) nd rfl (uap rfl)) (zai (zag (i:=10) nd rfl (uap rfl)) za3))))) (zaf (zbg PassesOwn.never rfl (zbm (zbk (zaa (zbk (zaa (pv 8) (zaa (pv 9) zab))) (zaa (zbk (zaa (pv 9) (zaa (pv 8) zab))) zab)))) (zb3 (n:=2) rfl (zai (zag (i:=11) nd rfl (uap rfl)) (zai (zag (i:=12) nd rfl (uap rfl)) za3))) (zac (zbh (zap ze2 (zaq zau (pv 4) (pv 11) (λ _ _=>rfl)) zbn (nomark _)) (zaf zkk) zay) (zac (zat (i:=13) nd rfl (uap rfl) (zae O_cost_with hr rfl (zaa (zaq zau (pv 4) (pv 11) (λ _ _=>rfl)) (zaa (pv 10) (zaa (zaq zau (pv 3) (pv 7) (λ _ _=>rfl)) zab))))) (zaf (zbh (PW.pt (zcd (zap ze2 (zaq zau (pv 4) (pv 12) (λ _ _=>rfl)) zbn (nomark _)) (zbz (zap (zt7 hr.units0) (pv 13) (zaq zau (pv 4) (pv 12) (λ _ _=>rfl)) (nomark _))))) (zac (zb0 (pv 13) (zeq (pv 4) (pv 12) zcf)) (zac (zb0 (pv 11) (zeq (pv 5) (pv 12) zcf)) (zaf (zat (i:=6) nd rfl (uap rfl) zck)))) zay))))))))))) (zaf (zan (zbk (zaa (pv 4) (zaa (pv 5) zab))))))))))),?_⟩
 refine⟨_,rfl,n,ts,_,rfl,isw,few60,λ lw J1 S1 f1 e1=>?_⟩
 refine⟨(by show 1<=1000;decide),λ t0 J2 S2 f2 e2=>⟨_,rfl,g0,_,_,_,rfl,rfl,SqT.of (S2 _ _ (S1 _ _ hg0)),rfl,t0,n,_,rfl,rfl,e2,by left,by left,λ lc J3 S3 f3 e3=>?_⟩⟩
 have S13:=S1.trans (S2.trans S3)
 refine⟨(by show 1<=1000;decide),λ t1 J4 S4 f4 e4=>⟨_,rfl,g0,_,_,_,rfl,rfl,SqT.of (S4 _ _ (S13 _ _ hg0)),rfl,t1,n,_,rfl,rfl,e4,by left,by left,λ la J5 S5 f5 e5=>?_⟩⟩
 refine⟨(by show 2<=1000;decide),λ t2 J6 S6 f6 e6=>?_⟩
 have S36:=S4.trans (S5.trans S6)
 have elc:=S36 _ _ e3
 refine⟨_,rfl,_,rfl,lc,_,r,r.toNat,rfl,rfl,elc,zco r0 (by rw[ubg];left),?_⟩
 have Sall:Same H J6:=S13.trans S36
 have fc:H lc=none:=(S1.trans S2).free f3
 have fa:H la=none:=(S13.trans S4).free f5
 have nwc:lw≠lc:=λ z=>by rw[← z,S2 _ _ e1] at f3;cases f3
 have nwa:lw≠la:=λ z=>by rw[← z,S4 _ _ (S3 _ _ (S2 _ _ e1))] at f5;cases f5
 have nca:lc≠la:=λ z=>by rw[← z,S4 _ _ e3] at f5;cases f5
 have R0:RA H J6 lw lc la (pows ts.length) (uay n.toNat none) (uay n.toNat none):=⟨Sall,fc,fa,nwc,nwa,nca,S36 _ _ (S3 _ _ (S2 _ _ e1)),⟨_,elc,CostL.first _⟩,by rw[S6 _ _ e5,uf0];rfl⟩
 have R1:=R0.put (k:=r.toNat) elc (by rw[ubg];left) e6
  -- the passes
 refine⟨rWB H (.ref g0) (.ref kp) n r ts ks lw lc la,⟨_,_,_,true,none,none,none,none,none,none,none,rfl,R1,Far.Good.first (by left),Far.Run.first (by left),λ z=>(by cases z),rfl⟩,?_⟩
 rintro m σ J ⟨c0,as0,ag,y7,y8,y9,y10,y11,y12,y13,rfl,R,G,AH,St,rfl⟩
 refine⟨_,rfl,ag,rfl,?_⟩
 cases ag with
 | false =>
  refine iteF ?_
  obtain⟨cvs,hc,cl⟩:=R.co
  exact⟨_,rfl,_,rfl,(by show 2<=1000;decide),λ p J' S' f' e'=>q p lc la cvs as0 c0 J' (R.same.trans S') e' (S' _ _ hc) (S' _ _ R.ah) (cl.keep (znm S')) (AH.best P G (St rfl)) G (zsr (St rfl))⟩
 | true =>
  refine iteT ⟨λ σ' J'=>∃ m',m'<Far.mu c0+1/\rWB H (.ref g0) (.ref kp) n r ts ks lw lc la m' σ' J',λ _ _ h=>h,?_⟩
  refine⟨_,rfl,kp,rfl,⟨_,SqT.of (R.same _ _ hkp)⟩,?_⟩
  refine zc2 (xs:=(keepI ks).map V.int) (λ i σ J=>∃ (cs:List (Option (Int × Int)))(as:List (Option Nat))(ag:Bool)(y7 y8 y9 y10 y11 y12 y13:Option V),σ=[some (.ref g0),some (.ref kp),some (.int r),some (.ref lw),some (.ref lc),some (.ref la),some (.bl ag),y7,y8,y9,y10,y11,y12,y13] /\
   RA H J lw lc la (pows ts.length) cs as/\Far.Good (arcs ts ks) n.toNat r.toNat cs/\Far.Run (arcsB ts ks) r.toNat cs as/\Far.PS2 c0 (λ z=>z∈arcsB ts (ks.take i)) cs ag) ⟨c0,as0,false,_,_,_,_,_,_,_,rfl,R,G,AH,.inl ⟨rfl,rfl,λ u v l k c z=>by cases z⟩⟩ (λ i σ J _ h=>?_) (λ i x σ J hx h=>?_) (λ σ J h=>?_)
  ·obtain⟨cs,as,ag,y7,y8,y9,y10,y11,y12,y13,rfl,R,_⟩:=h
   exact SqT.of (R.same _ _ hkp)
  ·obtain⟨cs,as,ag,y7,y8,y9,y10,y11,y12,y13,rfl,R,G,AH,Pt⟩:=h
   obtain⟨k,hk,rfl⟩:=zeh hx
   have hkl:k<ts.length:=ko.2 k (uat hk)
   obtain⟨ta,hta,htie⟩:=zbu hall hkl
   obtain⟨t,et⟩:∃ t,t=tieAt ts k:=⟨_,rfl⟩
   rw[← et] at htie
   have tk:=ok.tie _ (zav hkl).2
   rw[← et] at tk
   refine⟨_,rfl,g0,_,_,_,rfl,rfl,SqT.of (R.same _ _ hg0),rfl,_,rfl,g,_,_,_,rfl,rfl,SqT.of (R.same _ _ hg),zaw (uaw _) hta,ta,_,rfl,SqT.of (R.same _ _ htie),rfl,_,_,rfl,_,_,rfl,_,_,rfl,rfl,?_⟩
   refine⟨_,rfl,_,rfl,(by show 2<=1000;decide),λ t1 K1 T1 u1 v1=>⟨_,rfl,_,rfl,(by show 2<=1000;decide),λ t2 K2 T2 u2 v2=>⟨(by show 2<=1000;decide),λ t3 K3 T3 u3 v3=>⟨t3,rfl,⟨_,SqT.of v3⟩,?_⟩⟩⟩⟩
   have R3:=R.step (T1.trans (T2.trans T3))
   have v1':=T3 _ _ (T2 _ _ v1)
   have v2':=T3 _ _ v2
   refine zc2 (xs:=[V.ref t1,.ref t2]) (λ j σ J=>∃ (cs:List (Option (Int × Int)))(as:List (Option Nat))(ag:Bool)(y11 y12 y13:Option V),σ=[some (.ref g0),some (.ref kp),some (.int r),some (.ref lw),some (.ref lc),some (.ref la),some (.bl ag),some (.int (k:Int)),some (.int t.1),some (.int t.2.1),some (.int t.2.2),y11,y12,y13] /\
    RA H J lw lc la (pows ts.length) cs as/\Far.Good (arcs ts ks) n.toNat r.toNat cs/\Far.Run (arcsB ts ks) r.toNat cs as/\Far.PS2 c0 (λ z=>z∈arcsB ts (ks.take i)\/z∈(arcs2B t k).take j) cs ag/\TupKeep K3 J) ⟨cs,as,ag,_,_,_,rfl,R3,G,AH,Pt.less λ a z=>z.elim id λ z=>(by cases z),λ _ _ e=>e⟩ (λ j σ J _ h=>?_) (λ j x σ J hx h=>?_) (λ σ J h=>?_)
   ·obtain⟨cs,as,ag,y11,y12,y13,rfl,R,G,AH,Pt,tk⟩:=h
    exact SqT.of (tk _ _ v3)
   ·obtain⟨cs,as,ag,y11,y12,y13,rfl,R,G,AH,Pt,tkp⟩:=h
    obtain⟨p,u,v,rfl,hp,u0,un,v0,vn,arc,arcB,more⟩:∃ p u v,x=.ref p/\J p=some (.tup [.int u,.int v])/\0<=u/\u<n/\0<=v/\v<n/\(u.toNat,v.toNat,t.2.2)∈arcs ts ks/\(u.toNat,v.toNat,t.2.2,k)∈arcsB ts ks/\∀ z,z∈(arcs2B t k).take (j+1)->z∈(arcs2B t k).take j\/z=(u.toNat,v.toNat,t.2.2,k):=by
     have memB:∀ z,z∈arcs2B t k->z∈arcsB ts ks:=λ z hz=>arcsB_mem.mpr ⟨k,uat hk,by rw[← et];exact hz⟩
     have mem:∀ z,z∈arcs2 t->z∈arcs ts ks:=λ z hz=>arcs_mem.mpr ⟨k,uat hk,by rw[← et];exact hz⟩
     match j,hx with
     | 0,hx=>cases hx;exact⟨t1,t.1,t.2.1,rfl,tkp _ _ v1',by left,by left,by left,by left,mem _ (arcs2_mem.mpr (.inl rfl)),memB _ (arcs2B_mem.mpr (.inl rfl)),λ z hz=>by unfold arcs2B at *;simpa using hz⟩
     | 1,hx=>cases hx;exact⟨t2,t.2.1,t.1,rfl,tkp _ _ v2',by left,by left,by left,by left,mem _ (arcs2_mem.mpr (.inr rfl)),memB _ (arcs2B_mem.mpr (.inr rfl)),λ z hz=>by unfold arcs2B at *;simpa using hz⟩
    refine⟨p,_,rfl,SqT.of hp,rfl,_,_,rfl,_,_,rfl,rfl,?_⟩
    obtain⟨cvs,hc,cl⟩:=R.co
    have lenC:cvs.length=n.toNat:=by rw[cl.1];exact G.len
    obtain⟨x1,at1,cv1⟩:=zpf cl u0 (by rw[G.len];left)
    obtain⟨x2,at2,cv2⟩:=zpf cl v0 (by rw[G.len];left)
    have next:∀ {cs':List (Option (Int × Int))}{ag':Bool},Far.PS2 c0 (Far.plusA (λ z=>z∈arcsB ts (ks.take i)\/z∈(arcs2B t k).take j) (u.toNat,v.toNat,t.2.2,k)) cs' ag'->Far.PS2 c0 (λ z=>z∈arcsB ts (ks.take i)\/z∈(arcs2B t k).take (j+1)) cs' ag':=λ h=>h.less λ z hz=>by
     rcases hz with hz | hz
     ·exact .inl (.inl hz)
     ·exact (more z hz).elim (λ y=>.inl (.inr y)) .inr
    refine⟨_,rfl,_,rfl,lc,_,_,_,rfl,rfl,SqL.of hc,at1,rfl,_,rfl,ite2 (λ c1=>?_) (λ c1=>?_)⟩
    ·-- not reached
     have gu:Far.get cs u.toNat=none:=by
      cases e:Far.get cs u.toNat with
      | none=>rfl
      | some d =>
       rw[e] at cv1
       obtain⟨tt,rfl,_⟩:=cv1
       cases of_decide_eq_true c1
     exact⟨cs,as,ag,_,_,_,rfl,R,G,AH,next (Pt.no gu),tkp⟩
    ·obtain⟨d,gu⟩:∃ d,Far.get cs u.toNat=some d:=by
      cases e:Far.get cs u.toNat with
      | none=>rw[e] at cv1;exact absurd (decide_eq_true (show x1=V.non from cv1)) c1
      | some d=>exact⟨d,rfl⟩
     rw[gu] at cv1
     obtain⟨td,rfl,htd⟩:=cv1
     have pw:=zrw (i:=k) (by left)
     refine⟨_,rfl,_,rfl,lc,_,_,_,rfl,rfl,SqL.of hc,at1,_,rfl,_,rfl,_,rfl,lw,_,_,_,rfl,rfl,SqL.of R.wl,zaw (uaw _) (zs0 hkl),td,_,_,_,_,rfl,htd,λ tn L1 Z1 en=>?_⟩
     have R':=R.step Z1
     have hc':=Z1 _ _ hc
     have tkp':TupKeep K3 L1:=λ a xs e=>Z1 _ _ (tkp a xs e)
     have done : ∀ (hlt : Far.get cs v.toNat = none \/ ∃ c', Far.get cs v.toNat = some c' /\ Far.lt2 (d.1+t.2.2, d.2+2^k) c') , ∀ L, L = upd (upd L1 lc (.lst (cvs.set v.toNat (.ref tn)))) la (.lst ((as.map oa).set v.toNat (.int u))) →
         RA H L lw lc la (pows ts.length) (cs.set v.toNat (some (d.1+t.2.2,d.2+2^k))) (as.set v.toNat (some u.toNat))/\Far.Good (arcs ts ks) n.toNat r.toNat (cs.set v.toNat (some (d.1+t.2.2,d.2+2^k)))/\Far.Run (arcsB ts ks) r.toNat (cs.set v.toNat (some (d.1+t.2.2,d.2+2^k))) (as.set v.toNat (some u.toNat))/\Far.PS2 c0 (λ z=>z∈arcsB ts (ks.take i)\/z∈(arcs2B t k).take (j+1)) (cs.set v.toNat (some (d.1+t.2.2,d.2+2^k))) true/\TupKeep K3 L:=λ hlt L eL=>by
      subst eL
      obtain⟨G',mm⟩:=G.step P (by left) arc (by left) pw.1 pw.2 (by left) gu hlt
      have Rp:=R'.put hc' (k:=v.toNat) (by left) en
      have Rm:=Rp.mark (k:=v.toNat) (u:=u.toNat)
      rw[ua9 u0] at Rm
      exact⟨Rm,G',Far.Run.step P G AH arc arcB (by left) gu hlt,next (Pt.put mm),λ a xs e=>zio Rp.ah _ _ (zio hc' _ _ (tkp' a xs e))⟩
     have ha:=R'.ah
     have hal:(as.map oa).length=n.toNat:=by rw[uae,AH.len];exact G.len
     refine⟨_,rfl,_,rfl,lc,_,_,_,rfl,rfl,SqL.of hc',at2,rfl,_,rfl,ite2 (λ c2=>iteT ?_) (λ c2=>?_)⟩
     ·have gv:Far.get cs v.toNat=none:=by
       cases e:Far.get cs v.toNat with
       | none=>rfl
       | some d =>
        rw[e] at cv2
        obtain⟨tt,rfl,_⟩:=cv2
        cases of_decide_eq_true c2
      obtain⟨R2,G2,A2,P2,k2⟩:=done (.inl gv) _ rfl
      exact⟨_,rfl,_,rfl,_,rfl,lc,_,_,_,rfl,rfl,hc',zco v0 (by left),_,rfl,_,rfl,_,rfl,la,_,_,_,rfl,rfl,(by rw[zas R.nca.symm];exact ha),zco v0 (by left),_,_,true,_,_,_,rfl,R2,G2,A2,P2,k2⟩
     ·obtain⟨d2,gv⟩:∃ d,Far.get cs v.toNat=some d:=by
       cases e:Far.get cs v.toNat with
       | none=>rw[e] at cv2;exact absurd (decide_eq_true (show x2=V.non from cv2)) c2
       | some d=>exact⟨d,rfl⟩
      rw[gv] at cv2
      obtain⟨te,rfl,hte⟩:=cv2
      refine⟨_,rfl,_,rfl,_,rfl,lc,_,_,_,rfl,rfl,SqL.of hc',at2,tn,te,L3.e2 (d.1+t.2.2,d.2+2^k),L3.e2 d2,rfl,rfl,SqT.of en,SqT.of (Z1 _ _ hte),_,rfl,ite2 (λ c3=>?_) (λ c3=>?_)⟩
      ·have hl:=(zl0 _ _).mp c3
       obtain⟨R2,G2,A2,P2,k2⟩:=done (.inr ⟨d2,gv,hl⟩) _ rfl
       exact⟨_,rfl,_,rfl,_,rfl,lc,_,_,_,rfl,rfl,hc',zco v0 (by left),_,rfl,_,rfl,_,rfl,la,_,_,_,rfl,rfl,(by rw[zas R.nca.symm];exact ha),zco v0 (by left),_,_,true,_,_,_,rfl,R2,G2,A2,P2,k2⟩
      ·have hn:¬ Far.lt2 (d.1+t.2.2,d.2+2^k) d2:=λ z=>c3 ((zl0 _ _).mpr z)
       exact⟨cs,as,ag,_,_,_,rfl,R',G,AH,next (Pt.old gu gv hn),tkp'⟩
   ·obtain⟨cs,as,ag,y11,y12,y13,rfl,R,G,AH,Pt,tkp⟩:=h
    refine⟨cs,as,ag,_,_,_,_,_,_,_,rfl,R,G,AH,Pt.less λ z hz=>?_⟩
    exact (zgv hk hz).elim .inl λ y=>.inr (by rw[← et] at y;exact y)
  ·obtain⟨cs,as,ag,y7,y8,y9,y10,y11,y12,y13,rfl,R2,G2,A2,Pt⟩:=h
   have lk:((keepI ks).map V.int).length=ks.length:=by unfold keepI;rw[uae,uae]
   rw[lk,uc4] at Pt
   rcases Pt with ⟨ea,ec,st⟩ | ⟨ea,lt⟩
   ·subst ea
    rw[← ec] at st
    exact⟨Far.mu cs+0,by rw[ec];left,cs,as,false,_,_,_,_,_,_,_,rfl,R2,G2,A2,λ _=>st,rfl⟩
   ·subst ea
    exact⟨Far.mu cs+1,by left,cs,as,true,_,_,_,_,_,_,_,rfl,R2,G2,A2,λ z=>(by cases z),rfl⟩
theorem zi0 (T:Bi mg)(D:DefOk K mg "fars_from" s_fars_from ["web","keep","root"])(O_reached_from:‹2› "reached_from" ["web","keep","root"] (spReached K)):‹3› "fars_from" ["web","keep","root"] (spFars K):=by
 exists 2,sc_fars_from
 obtain⟨n,ts,ks,wv,kv,r,rfl,wk,r0,r1,q⟩:=h
 have n24:=wk.2.1.n24
 refine⟨_,(zac (zb0 (zae O_reached_from hr rfl (zaa (pv 0) (zaa (pv 1) (zaa (pv 2) zab)))) (zb3 (n:=2) rfl (zai (zag (i:=3) nd rfl (uap rfl)) (zai (zag (i:=4) nd rfl (uap rfl)) za3)))) (zaf (zan (za7 (N:=["web","keep","root","costs","ahead"]) (sc0:=defScope s_fars_from) (own:=["cost"]) (fr:=[]) (js:=[]) rfl (zb6 (pv 3)) (λ _ _ _ _=>(zag (i:=0) (by show ua0 [("cost":Str)];decide +kernel) rfl (uap rfl))) (λ _ _ _ _=>zbc) (λ _ _ _ _=>(zlu (zap ze2 (pv 0) zbn (nomark _)) zbn (zaq zbf (pv 0) zad (λ _ _=>rfl)))))))),?_⟩
 refine⟨_,rfl,_,rfl,_,rfl,n,ts,ks,wv,kv,r,rfl,wk,r0,r1,λ p lc la cvs avs cs J S ep ec ea cl G St=>?_⟩
 refine⟨p,_,rfl,SqT.of ep,rfl,_,_,rfl,_,_,rfl,rfl,?_⟩
 have lenC:cvs.length=n.toNat:=by rw[cl.1];exact G.len
 refine⟨_,rfl,lc,rfl,⟨_,SqL.of ec⟩,?_⟩
 refine zh6 ec (λ σ'=>σ'.length=1) (λ i v _=>v=ov ((Far.get cs i).map (·.1))) (by left) (by rfl) (λ _ _ _ _ _ h=>h) (λ i x σ' H' hx s2 sg C hC=>?_) (λ L ys H2 hL s2 hH hly hys=>?_)
 ·match σ',sg with
  | [o],_ =>
   have cv:=cl.2 i x hx
   refine⟨_,rfl,rfl,_,rfl,ite2 (λ c=>?_) (λ c=>?_)⟩
   ·have e:Far.get cs i=none:=by
     cases e:Far.get cs i with
     | none=>rfl
     | some d =>
      rw[e] at cv
      obtain⟨tt,rfl,_⟩:=cv
      cases of_decide_eq_true c
    exact hC _ _ _ rfl (Same.refl _) (by rw[e];rfl)
   ·obtain⟨d,gu⟩:∃ d,Far.get cs i=some d:=by
     cases e:Far.get cs i with
     | none=>rw[e] at cv;exact absurd (decide_eq_true (show x=V.non from cv)) c
     | some d=>exact⟨d,rfl⟩
    rw[gu] at cv
    obtain⟨td,rfl,htd⟩:=cv
    exact⟨_,rfl,td,_,_,_,rfl,rfl,SqT.of (s2 _ _ htd),rfl,hC _ _ _ rfl (Same.refl _) (by rw[gu];rfl)⟩
 ·obtain⟨DD,eD⟩:∃ DD,DD=cs.map λ o=>o.map (·.1):=⟨_,rfl⟩
  have gD:∀ v,Far.get DD v=(Far.get cs v).map (·.1):=λ v=>by
   rw[eD];unfold Far.get
   rw[uah,uak,uah]
   cases cs[v]? <;> rfl
  refine q L DD H2 (S.trans s2) (S.free hL) ?_ (by rw[eD,uae];exact G.len) λ v hv=>by rw[gD];exact G.dst St v
  rw[hH]
  refine congrArg (λ z=>some (HO.lst z)) (ucx λ i=>?_)
  have lD:DD.length=n.toNat:=by rw[eD,uae];exact G.len
  by_cases hi:i<n.toNat
  ·rw[zkn (by left),gD]
   have e:ys[i]?=some ys[i]:=uaf (by left)
   rw[e,hys i _ e]
  ·rw[uba (by left),uba (by rw[uae];left)]
theorem zoj (T:Bi mg)(D:DefOk K mg "across" s_across ["web","tie","heights"]):‹1› "across" ["web","tie","heights"] (spAcross K):=by
 exists 0,sc_across
 obtain⟨n,ts,wv,k,p,hs,rfl,isw,ok,hkl,ht,hlh,q⟩:=h
 obtain⟨g0,g,ws,rfl,hg0,hg,hall,hlw⟩:=zax isw
 obtain⟨ta,hta,htie⟩:=zbu hall hkl
 have tk:=ok.tie _ (zav hkl).2
 refine⟨_,(zac (zb0 (zaq zaz (zaq zaz (pv 0) zad (λ _ _=>rfl)) (pv 1) (λ _ _=>rfl)) (zb3 (n:=3) rfl (zai (zag (i:=3) nd rfl (uap rfl)) (zai (zag (i:=4) nd rfl (uap rfl)) (zai (zag (i:=5) nd rfl (uap rfl)) za3))))) (zaf (zan (zah zrq rfl T.z_abs (by symm) (zaa (za1 zcl (zaq zaz (pv 2) (pv 3) (λ _ _=>rfl)) (zaq zaz (pv 2) (pv 4) (λ _ _=>rfl))) zab))))),?_⟩
 refine⟨_,rfl,g0,_,_,_,rfl,rfl,SqT.of hg0,rfl,_,rfl,g,_,_,_,rfl,rfl,SqT.of hg,zaw (uaw _) hta,ta,_,rfl,SqT.of htie,rfl,_,_,rfl,_,_,rfl,_,_,rfl,rfl,?_⟩
 exact⟨_,rfl,_,rfl,p,_,_,_,rfl,rfl,SqT.of ht.1,zr8 (by left) (by left),_,rfl,_,rfl,p,_,_,_,rfl,rfl,SqT.of ht.1,zr8 (by left) (by left),_,_,rfl,rfl,_,rfl,q⟩
theorem ze4 (T:Bi mg)(D:DefOk K mg "heights_hold" s_heights_hold ["web","keep","heights"])(O_is_wholes:‹2› "is_wholes" ["thing"] (spD1 K few wholesB))(O_across:‹2› "across" ["web","tie","heights"] (spAcross K)):‹3› "heights_hold" ["web","keep","heights"] (spHold K):=by
 exists 2,sc_heights_hold
 obtain⟨n,ts,ks,wv,kv,p,hs,rfl,⟨isw,ok,isk,ko⟩,ht,q⟩:=h
 have n1:=ok.n1
 have few60:=ok.few
 obtain⟨g0,g,ws,rfl,hg0,hg,hall,hlw⟩:=zax isw
 obtain⟨kp,rfl,hkp⟩:=zca isk
 refine⟨_,(zac (zbh (PW.pt (zcd (zbx (zbl (zae O_is_wholes hr rfl (zaa (pv 2) zab)))) (zbz (zap zoe (zah zao rfl T.z_len (by symm) (zaa (pv 2) zab)) (zaq zaz (pv 0) zad (λ _ _=>rfl)) (nomark _))))) (zaf (zan zck)) zay) (zaf (zan (zah (zbp rfl) rfl T.z_all (by symm) (zaa (za7 (N:=["web","keep","heights"]) (sc0:=defScope s_heights_hold) (own:=["tie"]) (fr:=["web","heights"]) (js:=[0,2]) rfl (zbm (pv 1)) (λ _ _ _ _=>(zag (i:=0) (by show ua0 [("tie":Str),("web":Str),("heights":Str)];decide +kernel) rfl (uap rfl))) (λ _ _ _ _=>zbc) (λ _ _ _ _=>(za8 zq1 (zae O_across hr rfl (zaa (pv 1) (zaa (pv 0) (zaa (pv 2) zab)))) (zaq zbf (zaq zbf (zaq zbf (pv 1) zad (λ _ _=>rfl)) (pv 0) (λ _ _=>rfl)) zad (λ _ _=>rfl)) (nomark _)))) zab))))),?_⟩
 refine⟨_,rfl,.tuple (hs.map .int),_,rfl,ht.is,(by show (hs.map PyData.int).length<=1000;rw[uae];exact ht.2),λ H1 s1=>⟨_,rfl,iteB2 (λ _=>?_) (λ c=>?_)⟩⟩
 case refine_2=>rw[zj9] at c;cases c
 have t1:=ht.same s1
 refine⟨_,rfl,p,_,rfl,.inr (SqT.of t1.1),_,rfl,g0,_,_,_,rfl,rfl,SqT.of (s1 _ _ hg0),rfl,rfl,_,rfl,?_⟩
 by_cases hn:hs.length=n.toNat
 case neg =>
  have ne:decide (V.int (((hs.map V.int).length:Nat):Int)=V.int n)=false:=decide_eq_false λ e=>by
   have:(((hs.map V.int).length:Nat):Int)=n:=by injection e
   rw[uae] at this
   left
  rw[ne]
  refine iteT ?_
  have q1:=q H1 s1
  have e:holdB n ts ks hs=false:=by unfold holdB;rw[decide_eq_false hn];rfl
  rw[e] at q1;exact q1
 refine iteNS (by rw[uae,hn];congr 1;left) ?_
 refine⟨_,rfl,kp,rfl,⟨_,SqT.of (s1 _ _ hkp)⟩,?_⟩
 have lk:((keepI ks).map V.int).length=ks.length:=by unfold keepI;rw[uae,uae]
 have lks:=ko.len
 refine zbr (s1 _ _ hkp) (λ σ'=>∃ o,σ'=[o,some (.ref g0),some (.ref p)]) (λ i v _=>v=.bl (decide (acrossI ts hs (ks.getD i 0)<=(tieAt ts (ks.getD i 0)).2.2))) (by left) (by exact⟨none,rfl⟩) (λ _ _ _ _ _ h=>h) (λ i x σ' H' hx s2 sg C hC=>?_) (λ L ys H2 hL s2 hH hly hys=>?_)
 ·obtain⟨o,rfl⟩:=sg
  obtain⟨k,hk,rfl⟩:=zeh hx
  have hkl:k<ts.length:=ko.2 k (uat hk)
  obtain⟨ta,hta,htie⟩:=zbu hall hkl
  have s12:=s1.trans s2
  have ek:ks.getD i 0=k:=by rw[uah,hk];rfl
  refine⟨_,rfl,_,rfl,_,rfl,n,ts,_,k,p,hs,rfl,Is.same s12 _ isw,ok,hkl,ht.same s12,hn,?_⟩
  refine⟨_,rfl,g0,_,_,_,rfl,rfl,SqT.of (s12 _ _ hg0),rfl,_,rfl,g,_,_,_,rfl,rfl,SqT.of (s12 _ _ hg),zaw (uaw _) hta,ta,_,_,_,rfl,rfl,SqT.of (s12 _ _ htie),rfl,_,_,rfl,rfl,hC _ _ _ ⟨_,rfl⟩ (Same.refl _) ?_⟩
  rw[ek]
 ·refine⟨L,_,rfl,SqL.of (by rw[hH,zbt (hly.trans lk) hys]),?_⟩
  have q1:=q H2 (s1.trans s2)
  have e:holdB n ts ks hs=((uac ks.length).map λ i=>decide (acrossI ts hs (ks.getD i 0)<=(tieAt ts (ks.getD i 0)).2.2)).all id:=by
   unfold holdB
   rw[decide_eq_true hn,uhg]
   have z:=congrArg (List.map λ k=>decide (acrossI ts hs k<=(tieAt ts k).2.2)) (L3.zbd ks 0)
   rw[uci] at z
   have z':((uac ks.length).map λ i=>decide (acrossI ts hs (ks.getD i 0)<=(tieAt ts (ks.getD i 0)).2.2))=ks.map λ k=>decide (acrossI ts hs k<=(tieAt ts k).2.2):=z
   rw[z',udf];rfl
  rw[e] at q1;exact q1
theorem ze5 (T:Bi mg)(D:DefOk K mg "heights_from" s_heights_from ["web","keep","a","roof"])(O_fars_from:‹3› "fars_from" ["web","keep","root"] (spFars K)):‹4› "heights_from" ["web","keep","a","roof"] (spHFrom K):=by
 exists 3,sc_heights_from
 obtain⟨n,ts,ks,wv,kv,a,roof,rfl,wk,a0,a1,q⟩:=h
 have n24:=wk.2.1.n24
 refine⟨_,(zaf (zan (zar za2 rfl T.z_tuple (by symm) (zaa (za7 (N:=["web","keep","a","roof"]) (sc0:=defScope s_heights_from) (own:=["length"]) (fr:=["roof"]) (js:=[3]) rfl (zb6 (zae O_fars_from hr rfl (zaa (pv 0) (zaa (pv 1) (zaa (pv 2) zab))))) (λ _ _ _ _=>(zag (i:=0) (by show ua0 [("length":Str),("roof":Str)];decide +kernel) rfl (uap rfl))) (λ _ _ _ _=>zbc) (λ _ _ _ _=>(zlu (zap ze2 (pv 0) zbn (nomark _)) (pv 1) (zah (zc5 rfl) rfl T.z_min (by symm) (zaa (pv 0) (zaa (pv 1) zab)))))) zab)))),?_⟩
 refine⟨_,rfl,_,rfl,_,rfl,n,ts,ks,wv,kv,a,rfl,wk,a0,a1,λ l DD J S f1 e1 lD hD=>?_⟩
 refine⟨l,rfl,⟨_,SqL.of e1⟩,?_⟩
 refine zh6 e1 (λ σ'=>∃ o,σ'=[o,some (.int roof)]) (λ i v _=>v=.int (capO roof (Far.get DD i))) (by rw[uae];left) (by exact⟨none,rfl⟩) (λ _ _ _ _ _ h=>h) (λ i x σ' H' hx s2 sg C hC=>?_) (λ L ys H2 hL s2 hH hly hys=>?_)
 ·obtain⟨o,rfl⟩:=sg
  have hi:i<DD.length:=by have:=(ual.mp hx).1;rw[uae] at this;exact this
  rw[zkn hi] at hx
  cases hx
  refine⟨_,rfl,rfl,_,rfl,?_⟩
  cases e:Far.get DD i with
  | none=>exact iteT ⟨_,rfl,hC _ _ _ ⟨_,rfl⟩ (Same.refl _) (by rw[e];rfl)⟩
  | some x=>exact iteF ⟨_,rfl,_,rfl,_,_,rfl,hC _ _ _ ⟨_,rfl⟩ (Same.refl _) (by rw[e];rfl)⟩
 ·have lY:ys.length=DD.length:=by rw[hly,uae]
  refine⟨L,_,rfl,hH,λ t J2 S2 f2 e2=>q t DD J2 (S.trans (s2.trans S2)) ?_ lD hD⟩
  rw[e2]
  refine congrArg (λ z=>some (HO.tup z)) (ucx λ i=>?_)
  by_cases hi:i<DD.length
  ·have e:ys[i]?=some ys[i]:=uaf (by left)
   rw[e,hys i _ e,uak,uak,uaf hi]
   unfold Far.get
   rw[uah,uaf hi];rfl
  ·rw[uba (by left),uba (by rw[uae,uae];left)]
theorem zha (T:Bi mg)(D:DefOk K mg "tree_from" s_tree_from ["web","keep","root"])(O_reached_from:‹2› "reached_from" ["web","keep","root"] (spReachedB K)):‹3› "tree_from" ["web","keep","root"] (spTreeB K):=by
 exists 2,sc_tree_from
 obtain⟨n,ts,ks,wv,kv,r,rfl,wk,r0,r1,q⟩:=h
 refine⟨_,(zac (zb0 (zae O_reached_from hr rfl (zaa (pv 0) (zaa (pv 1) (zaa (pv 2) zab)))) (zb3 (n:=2) rfl (zai (zag (i:=3) nd rfl (uap rfl)) (zai (zag (i:=4) nd rfl (uap rfl)) za3)))) (zaf (zan (zar za2 rfl T.z_tuple (by symm) (zaa (pv 4) zab))))),?_⟩
 refine⟨_,rfl,_,rfl,_,rfl,n,ts,ks,wv,kv,r,rfl,wk,r0,r1,λ p lc la cvs as cs J S ep ec ea cl G=>?_⟩
 refine⟨p,_,rfl,SqT.of ep,rfl,_,_,rfl,_,_,rfl,rfl,?_⟩
 exact⟨_,rfl,la,_,rfl,ea,λ t J2 S2 f2 e2=>q t as cs J2 (S.trans S2) e2 G⟩
theorem zfy (T:Bi mg)(D:DefOk K mg "tie_between" s_tie_between ["web","a","b"]):‹1› "tie_between" ["web","a","b"] (spTB K):=by
 exists 0,sc_tie_between
 obtain⟨n,ts,wv,u,v,rfl,isw,few60,q⟩:=h
 have units:∀ {x:Nat},x<=3->(A.deeper (envOfC "tie_between" (defScope s_tie_between) s.heap.objs.size f cdv)).units+x<cLine:=λ {x} hu=>by have:=hr.units;left
 obtain⟨g0,g,ws,rfl,hg0,hg,hall,hlw⟩:=zax isw
 refine⟨_,(zac (zat (i:=3) nd rfl (uap rfl) (zbk (zaa (zah (zc5 rfl) rfl T.z_min (by symm) (zaa (pv 1) (zaa (pv 2) zab))) (zaa (zah (zfm rfl) rfl T.z_max (by symm) (zaa (pv 1) (zaa (pv 2) zab))) zab)))) (zac (zbg PassesOwn.never rfl (zez true rfl T.z_enumerate (zaa (zaq zaz (pv 0) zad (λ _ _=>rfl)) zab)) (zb3 (n:=2) rfl (zai (zag (i:=4) nd rfl (uap rfl)) (zai (zag (i:=5) nd rfl (uap rfl)) za3))) (zaf (zbh (zap zrz (zg6 zki (pv 5) zkm (zkl zad)) (pv 3) (nomark _)) (zaf (zan (pv 4))) zay))) (zaf (zan zbn)))),?_⟩
 refine⟨_,rfl,_,rfl,_,_,rfl,_,rfl,_,rfl,_,_,rfl,(by show 2<=1000;decide),λ te J1 S1 f1 e1=>?_⟩
 have eMin:(if (v:Int)<(u:Int) then (v:Int) else u)=min (u:Int) v:=by split <;> left
 have eMax:(if (v:Int)>(u:Int) then (v:Int) else u)=max (u:Int) v:=by split <;> left
 rw[eMin,eMax] at e1
 refine⟨_,rfl,g0,_,_,_,rfl,rfl,SqT.of (S1 _ _ hg0),rfl,g,rfl,⟨ws,SqX.of (S1 _ _ hg)⟩,?_⟩
 refine⟨λ i m σ J=>m=ts.length-i/\i<=ts.length/\(∃ y4 y5:Option V,σ=[some (.ref g0),some (.int (u:Int)),some (.int (v:Int)),some (.ref te),y4,y5])/\Same J1 J/\∀ k,k<i->isTB ts u v k=false,⟨_,rfl,ubj _,⟨none,none,rfl⟩,Same.refl _,λ k hk=>(by left)⟩,?_⟩
 rintro i m σ J ⟨rfl,hi,⟨y4,y5,rfl⟩,sm,pre⟩
 have sH:=S1.trans sm
 have sq:SqX true K J g ws:=SqX.of (sH _ _ hg)
 by_cases hlt:i<ts.length
 ·refine .inr ⟨⟨ws,ws[i]'(by left),sq,by simp [show i<ws.length by left]⟩,λ σ' J'=>∃ m',m'<ts.length-i/\(m'=ts.length-(i+1)/\i+1<=ts.length/\(∃ y4 y5:Option V,σ'=[some (.ref g0),some (.int (u:Int)),some (.int (v:Int)),some (.ref te),y4,y5])/\Same J1 J'/\∀ k,k<i+1->isTB ts u v k=false),λ _ _ h=>h,λ x J' hy=>?_⟩
  obtain⟨T',y,hT,rfl,rfl,ey⟩:=hy
  have hyi:=ey ws sq
  obtain⟨ta,hta,htie⟩:=zbu hall hlt
  rw[hta] at hyi
  cases hyi
  have S2:=zam (o:=.tup [.int (i:Nat),.ref ta]) hT
  have htie':=S2 _ _ (sH _ _ htie)
  refine⟨T',_,rfl,SqT.of zaj,rfl,_,_,rfl,_,_,rfl,rfl,?_⟩
  refine⟨_,rfl,_,rfl,ta,_,rfl,htie',λ tc J3 S3 e3=>?_⟩
  have e3':J3 tc=some (.tup (([(tieAt ts i).1,(tieAt ts i).2.1]:List Int).map V.int)):=e3
  have e1':J3 te=some (.tup (([min (u:Int) v,max (u:Int) v]:List Int).map V.int)):=S3 _ _ (S2 _ _ (sm _ _ e1))
  refine⟨_,rfl,.tuple (([(tieAt ts i).1,(tieAt ts i).2.1]:List Int).map .int),.tuple (([min (u:Int) v,max (u:Int) v]:List Int).map .int),⟨tc,_,rfl,e3',IsAll.ints _⟩,⟨te,_,rfl,e1',IsAll.ints _⟩,zd1 _,zd1 _,?_,_,rfl,?_⟩
  ·have d1:=zfk [(tieAt ts i).1,(tieAt ts i).2.1]
   have d2:PyData.depth (.tuple (([(tieAt ts i).1,(tieAt ts i).2.1]:List Int).map .int))=PyData.depthAll (([(tieAt ts i).1,(tieAt ts i).2.1]:List Int).map .int)+1:=rfl
   exact units (ubr (Nat.min_le_left _ _) (by rw[d2];left))
  have eq:PyData.eqv (.tuple (([(tieAt ts i).1,(tieAt ts i).2.1]:List Int).map .int)) (.tuple (([min (u:Int) v,max (u:Int) v]:List Int).map .int))=isTB ts u v i:=zq0 _ _ _ _
  rw[eq]
  have SS:=S2.trans S3
  refine ite2 (λ c=>?_) (λ c=>?_)
  ·have et:tbN ts u v=some i:=by
    unfold tbN
    refine List.find?_range_eq_some.mpr ⟨c,uaj.mpr hlt,λ j hj=>?_⟩
    rw[pre j hj];rfl
   have q1:=q J3 (sH.trans SS)
   rw[et] at q1
   exact⟨_,rfl,q1⟩
  ·refine⟨ts.length-(i+1),by left,rfl,hlt,⟨_,_,rfl⟩,sm.trans SS,λ k hk=>?_⟩
   by_cases z:k=i
   ·rw[z];exact udd.mpr c
   ·exact pre k (by left)
 ·have e:i=ts.length:=by left
  subst e
  refine .inl ⟨⟨ws,sq,by left⟩,?_⟩
  have et:tbN ts u v=none:=by
   unfold tbN
   refine uf1.mpr λ k hk=>?_
   rw[pre k (uaj.mp hk)];exact uas
  have q1:=q J sH
  rw[et] at q1
  exact q1
theorem zq2 (T:Bi mg)(D:DefOk K mg "whole" s_whole ["web"]):‹1› "whole" ["web"] (spWhole K):=by
 exists 0,sc_whole
 obtain⟨n,ts,v,rfl,hw,few60,q⟩:=h
 obtain⟨g0,g,ws,rfl,hg0,hg,hall,hlw⟩:=zax hw
 refine⟨_,(zaf (zan (zar (zdh rfl) rfl T.z_tuple (by symm) (zaa (zar zdc rfl T.z_range (by symm) (zaa (zah zao rfl T.z_len (by symm) (zaa (zaq zaz (pv 0) zad (λ _ _=>rfl)) zab)) zab)) zab)))),?_⟩
 refine⟨_,rfl,g0,_,_,_,rfl,rfl,SqT.of hg0,rfl,g,_,rfl,.inr (SqT.of hg),_,rfl,λ r hr'=>?_⟩
 refine⟨r,_,rfl,zaj,by left,by left,λ l H' S f e=>q l H' ((zam hr').trans S) ((zam (o:=.rng 0 _) hr').free f) ?_⟩
 rw[e,show ((ws.length:Nat):Int).toNat=ts.length by left]
theorem ze7 (T:Bi mg)(D:DefOk K mg "_law_weights" s__law_weights ["web"]):‹1› "_law_weights" ["web"] (spLWeights K):=by
 exists 0,sc__law_weights
 obtain⟨n,ts,v,rfl,hw,ok,q⟩:=h
 have few60:=ok.few
 obtain⟨g0,g,ws,rfl,hg0,hg,hall,hlw⟩:=zax hw
 refine⟨_,(zac (zat (i:=1) nd rfl (uap rfl) (zbb zab)) (zac (zat (i:=2) nd rfl (uap rfl) zad) (zac (zbg PassesOwn.never rfl (zbm (zaq zaz (pv 0) zad (λ _ _=>rfl))) (zb3 (n:=3) rfl (zai (zag (i:=3) nd rfl (uap rfl)) (zai (zag (i:=4) nd rfl (uap rfl)) (zai (zag (i:=5) nd rfl (uap rfl)) za3)))) (zac (zba (zcu ua7 ubv ubu zbv (pv 1) (zaa (za1 zb1 (za1 zgn (pv 5) (za1 zct zad zad)) (pv 2)) zab))) (zaf (zat (i:=2) nd rfl (uap rfl) (za1 zb1 (pv 2) (pv 2)))))) (zaf (zan (pv 1)))))),?_⟩
 refine⟨(by show 0<=1000;decide),λ l J0 S0 f0 e0=>?_⟩
 refine⟨_,rfl,g0,_,_,_,rfl,rfl,SqT.of (S0 _ _ hg0),rfl,g,rfl,⟨_,SqT.of (S0 _ _ hg)⟩,?_⟩
 refine zc2 (xs:=ws) (λ i σ J=>∃ y3 y4 y5:Option V,σ=[some (.ref g0),some (.ref l),some (.int (2^i)),y3,y4,y5]/\Same H J/\J l=some (.lst (wts ts i))) ⟨none,none,none,rfl,S0,e0⟩ (λ i σ J _ h=>by obtain⟨_,_,_,_,s,_⟩:=h;exact SqT.of (s _ _ hg)) (λ i x σ J hx h=>?_) (λ σ J h=>?_)
 ·obtain⟨y3,y4,y5,rfl,s1,e1⟩:=h
  have hi:i<ts.length:=by have:=(ual.mp hx).1;left
  obtain⟨ta,hta,htie⟩:=zbu hall hi
  have tk:=ok.tie _ (zav hi).2
  rw[hta] at hx
  cases hx
  refine⟨ta,_,rfl,SqT.of (s1 _ _ htie),rfl,_,_,rfl,_,_,rfl,_,_,rfl,rfl,?_⟩
  refine⟨_,rfl,.inl ⟨rfl,_,SqL.of e1⟩,_,rfl,_,_,rfl,rfl,⟨by decide,by decide,by decide⟩,_,_,rfl,rfl,.inl ⟨by left,by left⟩,_,rfl,_,_,rfl,rfl,l,_,_,rfl,rfl,e1,(by unfold wts;rw[uae,ua8];left),λ J1 b1 e2=>?_⟩
  refine⟨_,rfl,_,rfl,_,_,rfl,rfl,?_⟩
  refine⟨some (V.int (tieAt ts i).1),some (V.int (tieAt ts i).2.1),some (V.int (tieAt ts i).2.2),?_,λ b o e=>b1 _ _ (zal e f0) (s1 _ _ e),by rw[e2,zp6];rfl⟩
  have ep:(2:Int)^i+2^i=2^(i+1):=by rw[Int.pow_succ];left
  show [some (V.ref g0),some (V.ref l),some (V.int (2^i+2^i)),some (V.int (tieAt ts i).1),some (V.int (tieAt ts i).2.1),some (V.int (tieAt ts i).2.2)]=_
  rw[ep]
 ·obtain⟨y3,y4,y5,rfl,s1,e1⟩:=h
  exact⟨_,rfl,q l J s1 f0 (by rw[e1,hlw])⟩
def spSame0 (K:uad):Sp:=λ _ _ _ _=>False
def spSame1 (K:uad):Sp:=λ vs H Q _=>∃ v,vs=[v,v]/\(v=.non\/∃ i,v=.int i)/\∀ H',Same H H'->Q (.bl true) H'
theorem zqq:DefOk K mg "_law_same" s__law_same ["found","due"]->‹0› "_law_same" ["found","due"] (spSame0 K):=λ ⟨f,fd,F,b,m⟩=>by
 have no:∀ vs H Q E,¬ spSame0 K vs H Q E:=λ vs H Q E h=>h
 exact⟨f,fd,⟨λ vs H Q E h=>absurd h (no vs H Q E),λ A outer s H args us vs Q E _ _ _ _ h=>absurd h (no vs H Q E)⟩,b,F.kp,m⟩
theorem zqp (T:Bi mg)(D:DefOk K mg "_law_same" s__law_same ["found","due"])(O__law_same:‹0› "_law_same" ["found","due"] (spSame0 K)):‹1› "_law_same" ["found","due"] (spSame1 K):=by
 exists 0,sc__law_same
 obtain⟨v,rfl,hv,q⟩:=h
 refine⟨_,(zac (zbh (zbl (zah (zbs (n:="tuple")) rfl T.z_isinstance (by symm) (zaa (pv 1) (zaa (zb7 (v:=.ty "tuple") rfl T.z_tuple (by symm) rfl) zab)))) (zac (zbh (PW.pt (zcd (zbx (zbl (zah (zbs (n:="tuple")) rfl T.z_isinstance (by symm) (zaa (pv 0) (zaa (zb7 (v:=.ty "tuple") rfl T.z_tuple (by symm) rfl) zab))))) (zbz (zap zoe (zah zao rfl T.z_len (by symm) (zaa (pv 0) zab)) (zah zao rfl T.z_len (by symm) (zaa (pv 1) zab)) (nomark _))))) (zaf (zan zck)) zay) (zaf (zan (zah (zbp rfl) rfl T.z_all (by symm) (zaa (za7 (N:=["found","due"]) (sc0:=defScope s__law_same) (own:=["one","other"]) (fr:=[]) (js:=[]) rfl (zn6 true true rfl T.z_zip (zaa (pv 0) (zaa (pv 1) zab))) (λ _ _ _ _=>(zb2 (n:=2) rfl (zai (zag (i:=0) (by show ua0 [("one":Str),("other":Str)];decide +kernel) rfl (uap rfl)) (zai (zag (i:=1) (by show ua0 [("one":Str),("other":Str)];decide +kernel) rfl (uap rfl)) za3)))) (λ _ _ _ _=>zbc) (λ _ _ _ _=>(zae O__law_same hr rfl (zaa (pv 0) (zaa (pv 1) zab))))) zab))))) zay) (zaf (zan (zcv (za8 zce (pv 0) (pv 1) (nomark _)) (zcg (zn8 (zah (zbs (n:="bool")) rfl T.z_isinstance (by symm) (zaa (pv 0) (zaa (zb7 (v:=.ty "bool") rfl T.z_bool (by symm) rfl) zab))))))))),?_⟩
 rcases hv with rfl | ⟨i,rfl⟩
 ·refine⟨_,rfl,_,_,_,rfl,.non,rfl,_,rfl,iteF ?_⟩
  refine⟨_,rfl,_,rfl,rfl,_,rfl,?_⟩
  exact iteT ⟨_,rfl,_,_,_,rfl,.non,rfl,_,rfl,q H (Same.refl H)⟩
 ·refine⟨_,rfl,_,_,_,rfl,.int _,rfl,_,rfl,iteF ?_⟩
  refine⟨_,rfl,_,rfl,rfl,_,rfl,?_⟩
  have e:decide (V.int i=V.int i)=true:=decide_eq_true rfl
  rw[e]
  exact iteT ⟨_,rfl,_,_,_,rfl,.int _,rfl,_,rfl,q H (Same.refl H)⟩
theorem pick2 (m m':Int)(b:Bool):atI [V.int m,V.int m'] (if b=true then 1 else 0)=some (.int (if b=true then m' else m)):=by cases b <;> rfl
theorem zf3 (T:Bi mg)(D:DefOk K mg "_law_most" s__law_most ["pot","k"])(O__law_take:‹1› "_law_take" ["pot","many"] spTake):‹2› "_law_most" ["pot","k"] spMost:=by
 exists 1,sc__law_most
 obtain⟨p,k,rfl,hp,q⟩:=h
 refine⟨_,(zac (zat (i:=2) nd rfl (uap rfl) (zaq zau (zbb (zaa zad (zaa zad (zaa zad (zaa zad (zaa zad (zaa zad (zaa zad (zaa zad zab))))))))) (zae O__law_take hr rfl (zaa (pv 0) (zaa zad zab))) (λ _ _=>rfl))) (zaf (zan (zaq zau (zbb (zaa (pv 2) (zaa (zah (zc5 rfl) rfl T.z_min (by symm) (zaa (pv 2) (zaa zad zab))) zab))) (zar zpm rfl T.z_int (by symm) (zaa (za8 zfw (pv 1) zad (nomark _)) zab)) (λ _ _=>rfl))))),?_⟩
 refine⟨(by show 8<=1000;decide),λ l0 J1 S1 f1 e1=>?_⟩
 have n0:l0≠p:=λ z=>by
  obtain⟨a',b',e',_⟩:=hp
  rw[z,e'] at f1;cases f1
 refine⟨_,rfl,p,8,rfl,hp.same S1,by decide,by decide,λ rr J2 rr0 rr1 b2 p2=>?_⟩
 obtain⟨mm,mm1,mm24,hatm⟩:∃ m:Int,1<=m/\m<=24/\atI [V.int 8,V.int 8,V.int 5,V.int 8,V.int 12,V.int 8,V.int 8,V.int 24] rr=some (.int m):=by
  have:rr=0\/rr=1\/rr=2\/rr=3\/rr=4\/rr=5\/rr=6\/rr=7:=by left
  rcases this with rfl | rfl | rfl | rfl | rfl | rfl | rfl | rfl
  ·exact⟨8,by decide,by decide,rfl⟩
  ·exact⟨8,by decide,by decide,rfl⟩
  ·exact⟨5,by decide,by decide,rfl⟩
  ·exact⟨8,by decide,by decide,rfl⟩
  ·exact⟨12,by decide,by decide,rfl⟩
  ·exact⟨8,by decide,by decide,rfl⟩
  ·exact⟨8,by decide,by decide,rfl⟩
  ·exact⟨24,by decide,by decide,rfl⟩
 refine⟨l0,_,_,_,rfl,rfl,SqL.of (b2 _ _ n0 e1),hatm,?_⟩
 refine⟨_,rfl,_,rfl,_,_,rfl,(by show 2<=1000;decide),λ l1 J3 S3 f3 e3=>?_⟩
 have B:But p H J3:=(Same.but S1).trans (b2.trans (Same.but S3))
 refine⟨_,rfl,_,_,rfl,rfl,.inr ⟨_,rfl,l1,_,_,_,rfl,rfl,SqL.of e3,pick2 _ _ _,?_⟩⟩
 generalize decide ((0:Int)<k)=bb
 refine q _ J3 B (p2.same S3) ?_ ?_
 ·cases bb with
  | true=>rw[if_pos rfl];split <;> left
  | false=>exact mm1
 ·cases bb with
  | true=>rw[if_pos rfl];split <;> left
  | false=>exact mm24
def nbr (ts:List Tie)(j k:Nat):Option Nat:=if (en ts k).1=j then some (en ts k).2 else if (en ts k).2=j then some (en ts k).1 else none
def rowsN (ts:List Tie)(ks:List Nat)(j:Nat):List Nat:=ks.filterMap (nbr ts j)
theorem zlo {n:Int}{ts:List Tie}{ks:List Nat}(ok:WebOk n ts)(ko:KeepOk ts.length ks)(j c:Nat):c∈rowsN ts ks j↔Adj ts ks j c:=by
 unfold rowsN
 rw[ub3]
 constructor
 ·rintro ⟨k,hk,e⟩
  refine⟨k,hk,a2_iff.mpr ?_⟩
  unfold nbr at e
  by_cases z:(en ts k).1=j
  ·rw[if_pos z] at e
   exact .inl ⟨z.symm,(ua3 e).symm⟩
  ·rw[if_neg z] at e
   by_cases y:(en ts k).2=j
   ·rw[if_pos y] at e
    exact .inr ⟨y.symm,(ua3 e).symm⟩
   ·rw[if_neg y] at e;cases e
 ·rintro ⟨k,hk,m⟩
  have lt:=(zul ok (ko.2 k hk)).1
  refine⟨k,hk,?_⟩
  unfold nbr
  rcases a2_iff.mp m with ⟨z1,z2⟩ | ⟨z1,z2⟩
  ·rw[if_pos (show (en ts k).1=j from z1.symm),z2];rfl
  ·have z1':(en ts k).2=j:=z1.symm
   rw[if_neg (by left),if_pos z1',z2];rfl
theorem zmw {n:Int}{ts:List Tie}{ks:List Nat}(ok:WebOk n ts)(ko:KeepOk ts.length ks)(j:Nat):(rowsN ts ks j).Nodup:=by
 unfold rowsN
 rw[ua0,udh]
 refine ub5 ?_ ko.1
 intro k k' hk hk' lt c hc c' hc' e
 subst e
 have arc:∀ {k},k∈ks->nbr ts j k=some c->(j,c,(tieAt ts k).2.2)∈arcs2 (tieAt ts k):=λ {k} hk e=>by
  refine a2_iff.mpr ?_
  unfold nbr at e
  by_cases z:(en ts k).1=j
  ·rw[if_pos z] at e;exact .inl ⟨z.symm,(ua3 e).symm⟩
  ·rw[if_neg z] at e
   by_cases y:(en ts k).2=j
   ·rw[if_pos y] at e;exact .inr ⟨y.symm,(ua3 e).symm⟩
   ·rw[if_neg y] at e;cases e
 exact uau lt (zev ok (ko.2 k hk) (ko.2 k' hk') (arc hk hc) (arc hk' hc'))
theorem znw {ts:List Tie}{ks:List Nat}{k j:Nat}:rowsN ts (ks++[k]) j=rowsN ts ks j++(nbr ts j k).toList:=by
 unfold rowsN
 rw[uc7]
 cases e:nbr ts j k <;> simp [e]
def spPlainW (K:uad):Sp:=λ vs H Q _=>∃ n ts v,vs=[v]/\Is K H (webD n ts) v/\ts.length<=60/\∀ H',Same H H'->Q (.bl (ts.all λ t=>decide (t.2.2=1))) H'
theorem zmt {ts:List Tie}{i:Nat}(h:i<ts.length):ts[i]?=some (tieAt ts i):=by
 obtain⟨h1,h2⟩:=zav h
 exact h1
theorem zkr (T:Bi mg)(D:DefOk K mg "is_plain" s_is_plain ["web"]):‹1› "is_plain" ["web"] (spPlainW K):=by
 exists 0,sc_is_plain
 obtain⟨n,ts,v,rfl,hw,few60,q⟩:=h
 obtain⟨g0,g,ws,rfl,hg0,hg,hall,hlw⟩:=zax hw
 refine⟨_,(zaf (zan (zah (zbp rfl) rfl T.z_all (by symm) (zaa (za7 (N:=["web"]) (sc0:=defScope s_is_plain) (own:=["tie"]) (fr:=[]) (js:=[]) rfl (zbm (zaq zaz (pv 0) zad (λ _ _=>rfl))) (λ _ _ _ _=>(zag (i:=0) (by show ua0 [("tie":Str)];decide +kernel) rfl (uap rfl))) (λ _ _ _ _=>zbc) (λ _ _ _ _=>(za8 zce (zaq zbf (pv 0) zad (λ _ _=>rfl)) zad (nomark _)))) zab)))),?_⟩
 refine⟨_,rfl,g0,_,_,_,rfl,rfl,SqT.of hg0,rfl,g,rfl,⟨_,SqT.of hg⟩,?_⟩
 refine zbr hg (λ σ'=>σ'.length=1) (λ i v _=>v=.bl (decide ((tieAt ts i).2.2=1))) (by left) (by rfl) (λ _ _ _ _ _ h=>h) (λ i x σ' H' hx s2 sg C hC=>?_) (λ L ys H' hL s2 hH hly hys=>?_)
 ·match σ',sg with
  | [o],_ =>
   have hi:i<ts.length:=by have:=(ual.mp hx).1;left
   obtain⟨ta,hta,htie⟩:=zbu hall hi
   rw[hta] at hx
   cases hx
   refine⟨_,rfl,ta,_,_,_,rfl,rfl,SqT.of (s2 _ _ htie),rfl,rfl,hC _ _ _ rfl (Same.refl _) ?_⟩
   by_cases z:(tieAt ts i).2.2=1
   ·rw[decide_eq_true z,decide_eq_true (congrArg V.int z)]
   ·rw[decide_eq_false z,decide_eq_false λ h=>z (by injection h)]
 ·refine⟨L,_,rfl,SqL.of (by rw[hH,zbt hly hys]),?_⟩
  have e:((uac ws.length).map λ i=>decide ((tieAt ts i).2.2=1)).all id=ts.all λ t=>decide (t.2.2=1):=by
   rw[udf,ucq,ubo,ubo]
   constructor
   ·intro h t ht
    obtain⟨j,hj,rfl⟩:=ues ht
    have:=h j (uaj.mpr (by left))
    have e2:=zmt hj
    rw[uaf hj] at e2
    rw[ua3 e2]
    exact this
   ·intro h j hj
    have hj':j<ts.length:=by have:=uaj.mp hj;left
    exact h _ (zav hj').2
  rw[e]
  exact q H' s2
def spPlain52 (K:uad):Sp:=λ vs H Q _=>∃ (p:Addr)(m:Int),vs=[.ref p,.int m]/\Pot H p/\1<=m/\m<=24/\∀ (v:V)(H':Hp)(n:Int)(ts:List Tie),But p H H'->Pot H' p->WebOk n ts->Is K H' (webD n (ones ts)) v->Q v H'
theorem zhk (T:Bi mg)(D:DefOk K mg "_law_plain" s__law_plain ["pot","most"])(O__law_web:‹3› "_law_web" ["pot","most"] (spWeb K)):‹4› "_law_plain" ["pot","most"] (spPlain52 K):=by
 exists 3,sc__law_plain
 obtain⟨p,m,rfl,hp,m1,m24,q⟩:=h
 refine⟨_,(zac (zb0 (zae O__law_web hr rfl (zaa (pv 0) (zaa (pv 1) zab))) (zb3 (n:=2) rfl (zai (zag (i:=2) nd rfl (uap rfl)) (zai (zag (i:=3) nd rfl (uap rfl)) za3)))) (zaf (zan (zbk (zaa (pv 2) (zaa (zar za2 rfl T.z_tuple (by symm) (zaa (za7 (N:=["pot","most","n","ties"]) (sc0:=defScope s__law_plain) (own:=["a","b","length"]) (fr:=[]) (js:=[]) rfl (zbm (pv 3)) (λ _ _ _ _=>(zb2 (n:=3) rfl (zai (zag (i:=0) (by show ua0 [("a":Str),("b":Str),("length":Str)];decide +kernel) rfl (uap rfl)) (zai (zag (i:=1) (by show ua0 [("a":Str),("b":Str),("length":Str)];decide +kernel) rfl (uap rfl)) (zai (zag (i:=2) (by show ua0 [("a":Str),("b":Str),("length":Str)];decide +kernel) rfl (uap rfl)) za3))))) (λ _ _ _ _=>zbc) (λ _ _ _ _=>(zbk (zaa (pv 0) (zaa (pv 1) (zaa zad zab)))))) zab)) zab)))))),?_⟩
 refine⟨_,rfl,_,rfl,p,m,rfl,hp,m1,m24,λ wv H1 n ts b1 p1 ok _ isw=>?_⟩
 have few60:=ok.few
 obtain⟨g0,g,ws,rfl,hg0,hg,hall,hlw⟩:=zax isw
 refine⟨g0,_,rfl,SqT.of hg0,rfl,_,_,rfl,_,_,rfl,rfl,?_⟩
 refine⟨_,rfl,_,rfl,g,rfl,⟨_,SqT.of hg⟩,?_⟩
 refine zbr hg (λ σ'=>σ'.length=3) (λ i x H'=>∃ t,x=.ref t/\H' t=some (.tup ([(tieAt ts i).1,(tieAt ts i).2.1,(1:Int)].map V.int))) (by left) (by rfl) (λ i x H H' k h=>by obtain⟨t,e1,e2⟩:=h;exact⟨t,e1,k _ _ e2⟩) (λ i x σ' H' hx s2 sg C hC=>?_) (λ L ys H2 hL s2 hH hly hys=>?_)
 ·match σ',sg with
  | [o1,o2,o3],_ =>
   have hi:i<ts.length:=by have:=(ual.mp hx).1;left
   obtain⟨ta,hta,htie⟩:=zbu hall hi
   rw[hta] at hx
   cases hx
   refine⟨ta,_,rfl,SqT.of (s2 _ _ htie),rfl,_,_,rfl,_,_,rfl,_,_,rfl,rfl,?_⟩
   exact⟨_,rfl,_,rfl,(by show 3<=1000;decide),λ t J S f e=>hC _ _ _ rfl S ⟨t,rfl,e⟩⟩
 ·refine⟨L,_,rfl,hH,λ p2 J S f e=>⟨(by show 2<=1000;decide),λ r J2 S2 f2 e2=>?_⟩⟩
  have S12:=s2.trans (S.trans S2)
  refine q _ J2 n ts (b1.trans (Same.but S12)) (p1.same S12) ok ⟨r,_,rfl,e2,.int n,_,rfl,rfl,.ref p2,[],rfl,⟨p2,ys,rfl,S2 _ _ e,?_⟩,rfl⟩
  have l1:((ones ts).map tieD).length=ts.length:=by rw[uae,za0]
  refine IsAll.of (by rw[hly,hlw,l1]) λ i d v hd hv=>?_
  have hi:i<ts.length:=by have:=(ual.mp hd).1;left
  have ed:d=tieD ((tieAt ts i).1,(tieAt ts i).2.1,1):=by
   rw[uak,(zav (ts:=ones ts) (k:=i) (by rw[za0];exact hi)).1,zg9 hi] at hd
   exact (ua3 hd).symm
  obtain⟨t,rfl,e3⟩:=hys i v hv
  rw[ed]
  exact⟨t,_,rfl,(S.trans S2) _ _ e3,IsAll.ints _⟩
def spNeedP (K:uad):Sp:=λ vs H Q _=>∃ (n:Int)(ts:List Tie)(wv:V),vs=[wv]/\Is K H (webD n (ones ts)) wv/\ts.length<=60/\∀ H',Same H H'->Q .non H'
theorem zhe (T:Bi mg)(D:DefOk K mg "need_plain" s_need_plain ["web"])(O_is_plain:‹1› "is_plain" ["web"] (spPlainW K)):‹2› "need_plain" ["web"] (spNeedP K):=by
 exists 1,sc_need_plain
 obtain⟨n,ts,wv,rfl,isw,few,q⟩:=h
 refine⟨_,(zaf (zbh (zbx (zbl (zae O_is_plain hr rfl (zaa (pv 0) zab)))) (zaf zls) zay)),?_⟩
 refine⟨_,rfl,n,ones ts,wv,rfl,isw,by rw[za0];exact few,λ H1 s1=>?_⟩
 rw[zmy]
 exact⟨_,rfl,iteF (q H1 s1)⟩
theorem zud {D:List (Option Int)}{n v:Nat}(lD:D.length=n)(hv:v<n):atI (D.map ov) (v:Int)=some (ov (Far.get D v)):=zaw (uaw _) (by rw[ubf];exact zkn (by left))
def spLM (K:uad):Sp:=λ vs H Q _=>∃ (n:Int)(ts:List Tie)(ks:List Nat)(wv kv:V),vs=[wv,kv]/\WK K H n (ones ts) ks wv kv/\WebOk n ts/\∀ v H',Same H H'->LmV H' (lmF (dstF ts (uac ts.length)) (dstF ts ks) (allP n.toNat 0) (0,0,0)) v->Q v H'
theorem zhh (T:Bi mg)(D:DefOk K mg "least_more" s_least_more ["web","keep"])(O_need_plain:‹3› "need_plain" ["web"] (spNeedP K))(O_fars_from:‹3› "fars_from" ["web","keep","root"] (spFars K))(O_whole:‹3› "whole" ["web"] (spWhole K)):‹4› "least_more" ["web","keep"] (spLM K):=by
 exists 3,sc_least_more
 obtain⟨n,ts,ks,wv,kv,rfl,wk,ok,q⟩:=h
 have few60:=ok.few
 have n1:=ok.n1
 have n24:=ok.n24
 have ko:KeepOk ts.length ks:=by have:=wk.2.2.2;rw[za0] at this;exact this
 obtain⟨g0,gg,ws,rfl,hg0,hg,hall,hlw⟩:=zax wk.1
 refine⟨_,(zac (zba (zae O_need_plain hr rfl (zaa (pv 0) zab))) (zac (zat (i:=2) nd rfl (uap rfl) (zbk (zaa zad (zaa zad (zaa zad zab))))) (zac (zbg PassesOwn.never rfl (zbe rfl T.z_range (zaa (zaq zaz (pv 0) zad (λ _ _=>rfl)) zab)) (zag (i:=3) nd rfl (uap rfl)) (zac (zat (i:=4) nd rfl (uap rfl) (zae O_fars_from hr rfl (zaa (pv 0) (zaa (zae O_whole hr rfl (zaa (pv 0) zab)) (zaa (pv 3) zab))))) (zac (zat (i:=5) nd rfl (uap rfl) (zae O_fars_from hr rfl (zaa (pv 0) (zaa (pv 1) (zaa (pv 3) zab))))) (zaf (zbg PassesOwn.never rfl (zn7 rfl T.z_range (zaa (za1 zb1 (pv 3) zad) (zaa (zaq zaz (pv 0) zad (λ _ _=>rfl)) zab))) (zag (i:=6) nd rfl (uap rfl)) (zac (zbh (PW.pt (zlq (zap zcw (zaq zau (pv 4) (pv 6) (λ _ _=>rfl)) zbn (nomark _)) (zg4 (zap ze2 (zaq zau (pv 5) (pv 6) (λ _ _=>rfl)) zbn (nomark _))))) (zaf (zan zbn)) zay) (zaf (zbh (PW.pt (zlq (zap zcw (zaq zau (pv 4) (pv 6) (λ _ _=>rfl)) zbn (nomark _)) (zg4 (zap zfw (za1 zcl (zaq zau (pv 5) (pv 6) (λ _ _=>rfl)) (zaq zau (pv 4) (pv 6) (λ _ _=>rfl))) (zaq zaz (pv 2) zad (λ _ _=>rfl)) (nomark _))))) (zaf (zat (i:=2) nd rfl (uap rfl) (zbk (zaa (za1 zcl (zaq zau (pv 5) (pv 6) (λ _ _=>rfl)) (zaq zau (pv 4) (pv 6) (λ _ _=>rfl))) (zaa (pv 3) (zaa (pv 6) zab)))))) zay)))))))) (zaf (zan (pv 2)))))),?_⟩
 refine⟨_,rfl,n,ts,_,rfl,wk.1,few60,λ J0 S0=>?_⟩
 refine⟨(by show 3<=1000;decide),λ t0 J1 S1 f1 e1=>?_⟩
 have S01:=S0.trans S1
 refine⟨_,rfl,g0,_,_,_,rfl,rfl,SqT.of (S01 _ _ hg0),rfl,n,rfl,by left,by left,?_⟩
 obtain⟨F,eF⟩:∃ F,F=lmF (dstF ts (uac ts.length)) (dstF ts ks):=⟨_,rfl⟩
 rw[← eF] at q
 refine zbo (n:=n.toNat) (λ i σ J=>∃ (t:Addr)(m:Int × Int × Int)(y3 y4 y5 y6:Option V),σ=[some (.ref g0),some kv,some (.ref t),y3,y4,y5,y6]/\Same J1 J/\J t=some (.tup (([m.1,m.2.1,m.2.2]:List Int).map V.int))/\F (allP n.toNat 0) (0,0,0)=F (allP n.toNat i) m) ⟨t0,(0,0,0),none,none,none,none,rfl,Same.refl _,e1,rfl⟩ (λ i σ J hi h=>?_) (λ σ J h=>?_)
 ·obtain⟨t,m,y3,y4,y5,y6,rfl,sm,ht,inv⟩:=h
  have S0J:=S01.trans sm
  have isJ:=Is.same S0J _ wk.1
  refine⟨_,rfl,_,rfl,n,ones ts,_,rfl,isJ,by rw[za0];exact few60,λ lk J2 S2 f2 e2=>?_⟩
  rw[za0] at e2
  refine⟨_,rfl,n,ones ts,uac ts.length,_,.ref lk,0+(i:Int),rfl,⟨Is.same S2 _ isJ,wk.2.1,zb4 e2,by rw[za0];exact za6 ts⟩,by left,by left,λ ln D1 J3 S3 f3 e3 lD1 hD1=>?_⟩
  refine⟨_,rfl,_,rfl,_,rfl,n,ones ts,ks,_,kv,0+(i:Int),rfl,(wk.same S0J).same (S2.trans S3),by left,by left,λ lk2 D2 J4 S4 f4 e4 lD2 hD2=>?_⟩
  have ei:(0+(i:Int)).toNat=i:=by left
  rw[ei] at hD1 hD2
  have S24:=S2.trans (S3.trans S4)
  refine⟨_,rfl,_,_,rfl,rfl,_,rfl,g0,_,_,_,rfl,rfl,SqT.of ((S0J.trans S24) _ _ hg0),rfl,_,_,rfl,⟨by left,by left,by left,by left⟩,?_⟩
  refine zbo (n:=(n-(0+(i:Int)+1)).toNat) (λ j σ J'=>∃ (t:Addr)(m:Int × Int × Int)(y6:Option V),σ=[some (.ref g0),some kv,some (.ref t),some (.int (0+(i:Int))),some (.ref ln),some (.ref lk2),y6]/\Same J4 J'/\J' t=some (.tup (([m.1,m.2.1,m.2.2]:List Int).map V.int))/\F (allP n.toNat 0) (0,0,0)=F (rowP n.toNat i (i+1+j)++allP n.toNat (i+1)) m) ⟨t,m,_,rfl,Same.refl _,S24 _ _ ht,by rw[inv,zp1 (by left)]⟩ (λ j σ J' hj h=>?_) (λ σ J' h=>?_)
  ·obtain⟨t,m,y6,rfl,sm',ht,inv⟩:=h
   obtain⟨v,ev⟩:∃ v,v=i+1+j:=⟨_,rfl⟩
   have evI:0+(i:Int)+1+(j:Int)=(v:Int):=by left
   rw[evI]
   have hv:v<n.toNat:=by left
   rw[← ev,znx hv,List.cons_append] at inv
   have en:=zfi (za6 ts) (hD1 v hv)
   have ek:=zfi ko (hD2 v hv)
   have at1:=zud (v:=v) lD1 hv
   have at2:=zud (v:=v) lD2 hv
   have h3:J' ln=some (.lst (D1.map ov)):=sm' _ _ (S4 _ _ e3)
   have h4:J' lk2=some (.lst (D2.map ov)):=sm' _ _ e4
   have SJ':=S0J.trans (S24.trans sm')
   have nxt:i+1+(j+1)=v+1:=by left
   refine⟨_,rfl,_,rfl,ln,_,_,_,rfl,rfl,SqL.of h3,at1,rfl,_,rfl,?_⟩
   cases e1:Far.get D1 v with
   | none =>
    rw[e1] at at1 en
    refine iteF ⟨_,rfl,_,rfl,ln,_,_,_,rfl,rfl,SqL.of h3,at1,rfl,_,rfl,iteF ⟨t,m,_,rfl,sm',ht,?_⟩⟩
    rw[inv,nxt,eF,zho en.symm]
   | some x =>
    rw[e1] at at1 en
    refine iteT ⟨_,rfl,_,rfl,lk2,_,_,_,rfl,rfl,SqL.of h4,at2,rfl,_,rfl,?_⟩
    cases e2:Far.get D2 v with
    | none =>
     rw[e2] at ek
     exact iteT (q _ J' SJ' (.inl ⟨rfl,by rw[inv,eF,zkv en.symm ek.symm]⟩))
    | some y =>
     rw[e2] at at2 ek
     refine iteF ⟨_,rfl,_,rfl,ln,_,_,_,rfl,rfl,SqL.of h3,at1,rfl,_,rfl,iteT ⟨_,rfl,_,rfl,lk2,_,_,_,rfl,rfl,SqL.of h4,at2,_,rfl,_,rfl,ln,_,_,_,rfl,rfl,SqL.of h3,at1,_,_,rfl,rfl,_,rfl,t,_,_,_,rfl,rfl,SqT.of ht,rfl,_,_,rfl,rfl,_,rfl,ite2 (λ c=>?_) (λ c=>?_)⟩⟩
     ·have c':m.1<y-x:=of_decide_eq_true c
      refine⟨_,rfl,_,rfl,lk2,_,_,_,rfl,rfl,SqL.of h4,at2,_,rfl,_,rfl,ln,_,_,_,rfl,rfl,SqL.of h3,at1,_,_,rfl,rfl,_,rfl,_,rfl,(by show 3<=1000;decide),λ t' J5 S5 f5 e5=>⟨t',(y-x,(i:Int),(v:Int)),_,rfl,sm'.trans S5,by rw[e5,ue1];rfl,?_⟩⟩
      rw[inv,nxt,eF,zlz en.symm ek.symm,if_pos c']
     ·have c':¬ m.1<y-x:=λ z=>c (decide_eq_true z)
      refine⟨t,m,_,rfl,sm',ht,?_⟩
      rw[inv,nxt,eF,zlz en.symm ek.symm,if_neg c']
  ·obtain⟨t,m,y6,rfl,sm',ht,inv⟩:=h
   rw[zqr (by left),List.nil_append] at inv
   exact⟨t,m,_,_,_,_,rfl,sm.trans (S24.trans sm'),ht,inv⟩
 ·obtain⟨t,m,y3,y4,y5,y6,rfl,sm,ht,inv⟩:=h
  refine⟨_,rfl,q _ J (S01.trans sm) (.inr ⟨t,m,rfl,?_,ht⟩)⟩
  rw[inv,zrt (uai _),eF];rfl
theorem zes (T:Bi mg)(D:DefOk K mg "_law_weighed" s__law_weighed ["web","keep","start"])(O__law_weights:‹1› "_law_weights" ["web"] (spLWeights K)):‹2› "_law_weighed" ["web","keep","start"] (spWeighed K):=by
 exists 1,sc__law_weighed
 obtain⟨n,ts,ks,wv,kv,r,rfl,⟨isw,ok,isk,ko⟩,r0,r1,q⟩:=h
 have units:∀ {u:Nat},u<=4->(A.deeper (envOfC "_law_weighed" (defScope s__law_weighed) s.heap.objs.size f cdv)).units+u<cLine:=λ {u} hu=>by have:=hr.units;left
 have few60:=ok.few
 have n1:=ok.n1
 have n24:=ok.n24
 obtain⟨g0,g,ws,rfl,hg0,hg,hall,hlw⟩:=zax isw
 obtain⟨kp,rfl,hkp⟩:=zca isk
 have KB:=zbj ok ko
 have P:Far.Pos (arcsW ts ks):=by rw[zij];exact Far.zpz KB
 have inn:∀ u v l,(u,v,l)∈arcsW ts ks->u<n.toNat/\v<n.toNat:=λ u v l h=>by
  rw[zij] at h
  obtain⟨l',k',m',_⟩:=Far.arcsC_mem.mp h
  exact zcr ok ko m'
 obtain⟨δ,dd⟩:∃ δ:Nat->Option Int,∀ v,Far.Dst (arcsW ts ks) r.toNat v (δ v):=⟨λ v=>Classical.choose (Far.zdb P r.toNat v),λ v=>Classical.choose_spec (Far.zdb P r.toNat v)⟩
 refine⟨_,(zac (zat (i:=3) nd rfl (uap rfl) (zae O__law_weights hr rfl (zaa (pv 0) zab))) (zac (zat (i:=4) nd rfl (uap rfl) (za1 zg7 (zbb (zaa zbn zab)) (zaq zaz (pv 0) zad (λ _ _=>rfl)))) (zac (zb0 zad (zeq (pv 4) (pv 2) zcf)) (zac (zbg PassesOwn.never rfl (zbe rfl T.z_range (zaa (zaq zaz (pv 0) zad (λ _ _=>rfl)) zab)) (zag (i:=5) nd rfl (uap rfl)) (zac (zat (i:=6) nd rfl (uap rfl) (zar zel rfl T.z_list (by symm) (zaa (pv 4) zab))) (zac (zbg PassesOwn.never rfl (zbm (pv 1)) (zag (i:=7) nd rfl (uap rfl)) (zac (zb0 (zaq zaz (zaq zaz (pv 0) zad (λ _ _=>rfl)) (pv 7) (λ _ _=>rfl)) (zb3 (n:=3) rfl (zai (zag (i:=8) nd rfl (uap rfl)) (zai (zag (i:=9) nd rfl (uap rfl)) (zai (zag (i:=10) nd rfl (uap rfl)) za3))))) (zaf (zbg PassesOwn.never rfl (zb6 (zbb (zaa (zbk (zaa (pv 8) (zaa (pv 9) zab))) (zaa (zbk (zaa (pv 9) (zaa (pv 8) zab))) zab)))) (zb3 (n:=2) rfl (zai (zag (i:=11) nd rfl (uap rfl)) (zai (zag (i:=12) nd rfl (uap rfl)) za3))) (zaf (zbh (zap zcw (zaq zau (pv 4) (pv 11) (λ _ _=>rfl)) zbn (nomark _)) (zac (zat (i:=13) nd rfl (uap rfl) (za1 zb1 (zaq zau (pv 4) (pv 11) (λ _ _=>rfl)) (zaq zau (pv 3) (pv 7) (λ _ _=>rfl)))) (zaf (zbh (PW.pt (zcd (zap ze2 (zaq zau (pv 4) (pv 12) (λ _ _=>rfl)) zbn (nomark _)) (zbz (zap zfw (zaq zau (pv 4) (pv 12) (λ _ _=>rfl)) (pv 13) (nomark _))))) (zaf (zb0 (pv 13) (zeq (pv 4) (pv 12) zcf))) zay))) zay)))))) (zaf (zbh (zap zrz (pv 6) (pv 4) (nomark _)) (zaf (zan (pv 4))) zay))))) (zaf (zan (pv 4))))))),?_⟩
 refine⟨_,rfl,n,ts,_,rfl,isw,ok,λ lw Jw Sw fw ew=>?_⟩
 refine⟨(by show 1<=1000;decide),λ t0 J1 S1 f1 e1=>⟨_,rfl,g0,_,_,_,rfl,rfl,SqT.of (S1 _ _ (Sw _ _ hg0)),rfl,t0,n,_,rfl,rfl,e1,by left,by left,λ lf J2 S2 f2 e2=>?_⟩⟩
 have S12:=Sw.trans (S1.trans S2)
 have ff:H lf=none:=(Sw.trans S1).free f2
 have nwf:lw≠lf:=λ z=>by rw[← z,S1 _ _ ew] at f2;cases f2
 have ew2:=S2 _ _ (S1 _ _ ew)
 refine⟨_,rfl,_,rfl,lf,_,r,r.toNat,rfl,rfl,e2,zco r0 (by rw[ubg];left),?_⟩
 have keepF:∀ {J:Hp}{o:HO},Same H J->Same H (upd J lf o):=λ {J o} s b o e=>by rw[zas (zal e ff)];exact s _ _ e
 have fst:(uay n.toNat V.non).set r.toNat (.int 0)=(((uay n.toNat (none:Option Int)).set r.toNat (some 0)).map ov):=by
  rw[ugl,uf0];rfl
 rw[fst]
 have S0:Far.Snd (arcsW ts ks) n.toNat r.toNat ((uay n.toNat none).set r.toNat (some 0)):=Far.Snd.first (by left)
 refine⟨_,rfl,g0,_,_,_,rfl,rfl,SqT.of (keepF S12 _ _ hg0),rfl,n,rfl,by left,by left,?_⟩
 refine zbo (n:=n.toNat) (λ i σ J=>∃ (DD:List (Option Int))(y4 ye y5 y6 y7 y8 y9 y10 y11:Option V),σ=[some (.ref g0),some (.ref kp),some (.int r),some (.ref lw),some (.ref lf),y4,ye,y5,y6,y7,y8,y9,y10,y11]/\J lw=some (.lst (wts ts ts.length))/\Same H J/\J lf=some (.lst (DD.map ov))/\Far.Snd (arcsW ts ks) n.toNat r.toNat DD/\Far.Done n.toNat δ DD i)
  ⟨_,none,none,none,none,none,none,none,none,none,rfl,(by rw[zas nwf];exact ew2),keepF S12,zaj,S0,Far.zmu P (by left) dd S0⟩ (λ i σ J hi h=>?_) (λ σ J h=>?_)
 ·obtain⟨D0,y4,ye,y5,y6,y7,y8,y9,y10,y11,rfl,hw,sm,hf,sd,dn⟩:=h
  refine⟨_,rfl,lf,_,rfl,.inl hf,λ le Je Se fe ee=>?_⟩
  have nel:le≠lf:=λ z=>by rw[z,hf] at fe;cases fe
  refine⟨_,rfl,kp,rfl,⟨_,SqT.of (Se _ _ (sm _ _ hkp))⟩,?_⟩
  refine zc2 (xs:=(keepI ks).map V.int) (λ i' σ J=>∃ (DD:List (Option Int))(y4 y5 y6 y7 y8 y9 y10 y11:Option V),σ=[some (.ref g0),some (.ref kp),some (.int r),some (.ref lw),some (.ref lf),y4,some (.ref le),y5,y6,y7,y8,y9,y10,y11]/\J le=some (.lst (D0.map ov))/\J lw=some (.lst (wts ts ts.length))/\Same H J/\J lf=some (.lst (DD.map ov))/\Far.Rnd (arcsW ts ks) n.toNat r.toNat δ D0 (λ z=>z∈arcsW ts (ks.take i')) DD)
   ⟨D0,_,_,_,_,_,_,_,_,rfl,ee,Se _ _ hw,sm.trans Se,Se _ _ hf,(Far.Rnd.start sd).less λ a z=>(by cases z)⟩ (λ i' σ J _ h=>?_) (λ i' x σ J hx h=>?_) (λ σ J h=>?_)
  ·obtain⟨DD,y4,y5,y6,y7,y8,y9,y10,y11,rfl,_,_,sm,_⟩:=h
   exact SqT.of (sm _ _ hkp)
  ·obtain⟨DD,y4,y5,y6,y7,y8,y9,y10,y11,rfl,hle,hw,sm,hf,rn⟩:=h
   obtain⟨k,hk,rfl⟩:=zeh hx
   have hkl:k<ts.length:=ko.2 k (uat hk)
   obtain⟨ta,hta,htie⟩:=zbu hall hkl
   obtain⟨t,et⟩:∃ t,t=tieAt ts k:=⟨_,rfl⟩
   rw[← et] at htie
   have tk:=ok.tie _ (zav hkl).2
   rw[← et] at tk
   refine⟨_,rfl,g0,_,_,_,rfl,rfl,SqT.of (sm _ _ hg0),rfl,_,rfl,g,_,_,_,rfl,rfl,SqT.of (sm _ _ hg),zaw (uaw _) hta,ta,_,rfl,SqT.of (sm _ _ htie),rfl,_,_,rfl,_,_,rfl,_,_,rfl,rfl,?_⟩
   refine⟨_,rfl,_,rfl,(by show 2<=1000;decide),λ t1 K1 T1 u1 v1=>⟨_,rfl,_,rfl,(by show 2<=1000;decide),λ t2 K2 T2 u2 v2=>⟨(by show 2<=1000;decide),λ t3 K3 T3 u3 v3=>⟨t3,rfl,⟨_,SqL.of v3⟩,?_⟩⟩⟩⟩
   have T13:=T1.trans (T2.trans T3)
   have v1':=T3 _ _ (T2 _ _ v1)
   have v2':=T3 _ _ v2
   have n3:t3≠lf:=λ z=>by rw[z,T2 _ _ (T1 _ _ hf)] at u3;cases u3
   refine zd4 (xs:=[V.ref t1,.ref t2]) (λ j σ J=>∃ (DD:List (Option Int))(y9 y10 y11:Option V),σ=[some (.ref g0),some (.ref kp),some (.int r),some (.ref lw),some (.ref lf),y4,some (.ref le),some (.int (k:Int)),some (.int t.1),some (.int t.2.1),some (.int t.2.2),y9,y10,y11]/\J le=some (.lst (D0.map ov))/\J lw=some (.lst (wts ts ts.length))/\Same H J/\J lf=some (.lst (DD.map ov))/\Far.Rnd (arcsW ts ks) n.toNat r.toNat δ D0 (λ z=>z∈arcsW ts (ks.take i')\/z∈(arcs2W ts k).take j) DD/\But lf K3 J)
    ⟨DD,_,_,_,rfl,T13 _ _ hle,T13 _ _ hw,sm.trans T13,T13 _ _ hf,rn.less λ a z=>z.elim id λ z=>(by cases z),But.refl⟩ (λ j σ J _ h=>?_) (λ j x σ J hx h=>?_) (λ σ J h=>?_)
   ·obtain⟨DD,y9,y10,y11,rfl,_,_,_,_,_,b3⟩:=h
    exact SqL.of (b3 _ _ n3 v3)
   ·obtain⟨DD,y9,y10,y11,rfl,hle,hw,sm,hf,rn,b3⟩:=h
    have tkp:TupKeep K3 J:=λ a xs e=>b3 _ _ (λ z=>by rw[z,T13 _ _ ‹_›] at e;cases e) e
    obtain⟨p,u,v,rfl,hp,u0,un,v0,vn,arc,more⟩:∃ p u v,x=.ref p/\J p=some (.tup [.int u,.int v])/\0<=u/\u<n/\0<=v/\v<n/\(u.toNat,v.toNat,wOf ts k)∈arcsW ts ks/\∀ z,z∈(arcs2W ts k).take (j+1)->z∈(arcs2W ts k).take j\/z=(u.toNat,v.toNat,wOf ts k):=by
     have mem:∀ z,z∈arcs2W ts k->z∈arcsW ts ks:=λ z hz=>arcsW_mem.mpr ⟨k,uat hk,hz⟩
     have mW:∀ {z},z=(t.1.toNat,t.2.1.toNat,wOf ts k)\/z=(t.2.1.toNat,t.1.toNat,wOf ts k)->z∈arcs2W ts k:=λ {z} hz=>by unfold arcs2W;rw[← et];simpa using hz
     match j,hx with
     | 0,hx=>cases hx;exact⟨t1,t.1,t.2.1,rfl,tkp _ _ v1',by left,by left,by left,by left,mem _ (mW (.inl rfl)),λ z hz=>by unfold arcs2W at *;rw[← et] at *;simpa using hz⟩
     | 1,hx=>cases hx;exact⟨t2,t.2.1,t.1,rfl,tkp _ _ v2',by left,by left,by left,by left,mem _ (mW (.inr rfl)),λ z hz=>by unfold arcs2W at *;rw[← et] at *;simpa using hz⟩
    refine⟨p,_,rfl,SqT.of hp,rfl,_,_,rfl,_,_,rfl,rfl,?_⟩
    have lD:=rn.snd.len
    have next:∀ {D':List (Option Int)},Far.Rnd (arcsW ts ks) n.toNat r.toNat δ D0 (Far.plus (λ z=>z∈arcsW ts (ks.take i')\/z∈(arcs2W ts k).take j) (u.toNat,v.toNat,wOf ts k)) D'->Far.Rnd (arcsW ts ks) n.toNat r.toNat δ D0 (λ z=>z∈arcsW ts (ks.take i')\/z∈(arcs2W ts k).take (j+1)) D':=λ h=>h.less λ z hz=>by
     rcases hz with hz | hz
     ·exact .inl (.inl hz)
     ·exact (more z hz).elim (λ y=>.inl (.inr y)) .inr
    have at1:=zaw u0 (zkn (D:=DD) (i:=u.toNat) (by left))
    have at2:=zaw v0 (zkn (D:=DD) (i:=v.toNat) (by left))
    refine⟨_,rfl,_,rfl,lf,_,_,_,rfl,rfl,SqL.of hf,at1,rfl,_,rfl,?_⟩
    cases gu:Far.get DD u.toNat with
    | none=>exact iteF ⟨DD,_,_,_,rfl,hle,hw,sm,hf,next (rn.no gu),b3⟩
    | some d =>
     rw[gu] at at1
     refine iteT ⟨_,rfl,_,rfl,lf,_,_,_,rfl,rfl,SqL.of hf,at1,_,rfl,_,rfl,lw,_,_,_,rfl,rfl,SqL.of hw,zng hkl,_,_,rfl,rfl,?_⟩
     refine⟨_,rfl,_,rfl,lf,_,_,_,rfl,rfl,SqL.of hf,at2,rfl,_,rfl,?_⟩
     have put:∀ (hv:Far.get DD v.toNat=none\/∃ y,Far.get DD v.toNat=some y/\d+wOf ts k<y),Far.Rnd (arcsW ts ks) n.toNat r.toNat δ D0 (λ z=>z∈arcsW ts (ks.take i')\/z∈(arcs2W ts k).take (j+1)) (DD.set v.toNat (some (d+wOf ts k))):=λ hv=>next (rn.put dd arc (by left) gu hv P)
     have eset:(DD.map ov).set v.toNat (.int (d+wOf ts k))=(DD.set v.toNat (some (d+wOf ts k))).map ov:=by rw[ugl];rfl
     cases gv:Far.get DD v.toNat with
     | none =>
      refine iteT (iteT ?_)
      refine⟨_,rfl,_,rfl,_,rfl,lf,_,_,_,rfl,rfl,hf,zco v0 (by rw[uae];left),?_⟩
      exact⟨_,_,_,_,rfl,(by rw[zas nel];exact hle),(by rw[zas nwf];exact hw),keepF sm,(by rw[zaj,eset]),put (.inl gv),b3.trans But.upd⟩
     | some y =>
      rw[gv] at at2
      refine iteF ⟨_,rfl,_,rfl,lf,_,_,_,rfl,rfl,SqL.of hf,at2,_,rfl,_,_,rfl,rfl,_,rfl,ite2 (λ c=>?_) (λ c=>?_)⟩
      ·refine⟨_,rfl,_,rfl,_,rfl,lf,_,_,_,rfl,rfl,hf,zco v0 (by rw[uae];left),?_⟩
       exact⟨_,_,_,_,rfl,(by rw[zas nel];exact hle),(by rw[zas nwf];exact hw),keepF sm,(by rw[zaj,eset]),put (.inr ⟨y,gv,of_decide_eq_true c⟩),b3.trans But.upd⟩
      ·have hy:y<=d+wOf ts k:=by
        have:=of_decide_eq_false (udd.mpr c);left
       exact⟨DD,_,_,_,rfl,hle,hw,sm,hf,next (rn.old gu gv hy),b3⟩
   ·obtain⟨DD,y9,y10,y11,rfl,hle,hw,sm,hf,rn,_⟩:=h
    refine⟨DD,_,_,_,_,_,_,_,_,rfl,hle,hw,sm,hf,rn.less λ z hz=>?_⟩
    exact (znd hk hz).elim .inl .inr
  ·obtain⟨DD,y4,y5,y6,y7,y8,y9,y10,y11,rfl,hle,hw',sm',hf',rn⟩:=h
   have lk:((keepI ks).map V.int).length=ks.length:=by unfold keepI;rw[uae,uae]
   rw[lk,uc4] at rn
   refine⟨_,rfl,_,rfl,.list (D0.map ovD),.list (DD.map ovD),zr6 hle,zr6 hf',zhs _,zhs _,units ?_,_,rfl,ite2 (λ c=>?_) (λ c=>?_)⟩
   ·have:=zh0 D0
    have:=Nat.min_le_left (PyData.depth (.list (D0.map ovD))) (PyData.depth (.list (DD.map ovD)))
    have e:PyData.depth (.list (D0.map ovD))=PyData.depthAll (D0.map ovD)+1:=rfl
    left
   ·have eD:D0=DD:=zo9 c
    subst eD
    refine⟨_,rfl,q lf D0 J sm' ff hf' sd.len λ v hv=>?_⟩
    have ev:Far.get D0 v=δ v:=Classical.byContradiction λ ne=>by
     obtain⟨v',hv',n0,n1⟩:=rn.next dd P inn sd (λ a h=>h) ((δ v).getD 0).toNat v hv ne λ d e=>by rw[e];exact uai _
     exact n0 n1
    rw[ev];exact dd v
   ·exact⟨DD,_,_,_,_,_,_,_,_,_,rfl,hw',sm',hf',rn.snd,Far.Done.round dd P inn sd rn (λ a h=>h) dn⟩
 ·obtain⟨DD,y4,ye,y5,y6,y7,y8,y9,y10,y11,rfl,hw,sm,hf,sd,dn⟩:=h
  have all:=dn.all
  exact⟨_,rfl,q lf DD J sm ff hf sd.len λ v hv=>by rw[all v hv];exact dd v⟩
theorem zhj (T:Bi mg)(D:DefOk K mg "_law_tree" s__law_tree ["web","keep","root"])(O__law_weights:‹2› "_law_weights" ["web"] (spLWeights K))(O__law_weighed:‹2› "_law_weighed" ["web","keep","start"] (spWeighed K)):‹3› "_law_tree" ["web","keep","root"] (spLTree K):=by
 exists 2,sc__law_tree
 obtain⟨n,ts,ks,wv,kv,r,rfl,wk,r0,r1,q⟩:=h
 have ok:=wk.2.1
 have ko:=wk.2.2.2
 have few60:=ok.few
 have n1:=ok.n1
 have n24:=ok.n24
 have KB:=zbj ok ko
 obtain⟨g0,g,ws,rfl,hg0,hg,hall,hlw⟩:=zax wk.1
 obtain⟨kp,rfl,hkp⟩:=zca wk.2.2.1
 refine⟨_,(zac (zat (i:=3) nd rfl (uap rfl) (zae O__law_weights hr rfl (zaa (pv 0) zab))) (zac (zat (i:=4) nd rfl (uap rfl) (zae O__law_weighed hr rfl (zaa (pv 0) (zaa (pv 1) (zaa (pv 2) zab))))) (zac (zat (i:=5) nd rfl (uap rfl) (za1 zg7 (zbb (zaa zbn zab)) (zaq zaz (pv 0) zad (λ _ _=>rfl)))) (zac (zbg PassesOwn.never rfl (zbm (pv 1)) (zag (i:=6) nd rfl (uap rfl)) (zac (zb0 (zaq zaz (zaq zaz (pv 0) zad (λ _ _=>rfl)) (pv 6) (λ _ _=>rfl)) (zb3 (n:=3) rfl (zai (zag (i:=7) nd rfl (uap rfl)) (zai (zag (i:=8) nd rfl (uap rfl)) (zai (zag (i:=9) nd rfl (uap rfl)) za3))))) (zaf (zbg PassesOwn.never rfl (zb6 (zbb (zaa (zbk (zaa (pv 7) (zaa (pv 8) zab))) (zaa (zbk (zaa (pv 8) (zaa (pv 7) zab))) zab)))) (zb3 (n:=2) rfl (zai (zag (i:=10) nd rfl (uap rfl)) (zai (zag (i:=11) nd rfl (uap rfl)) za3))) (zaf (zbh (PW.pt (zlq (zap zcw (zaq zau (pv 4) (pv 10) (λ _ _=>rfl)) zbn (nomark _)) (zg4 (zap zce (zaq zau (pv 4) (pv 11) (λ _ _=>rfl)) (za1 zb1 (zaq zau (pv 4) (pv 10) (λ _ _=>rfl)) (zaq zau (pv 3) (pv 6) (λ _ _=>rfl))) (nomark _))))) (zaf (zb0 (pv 10) (zeq (pv 5) (pv 11) zcf))) zay)))))) (zaf (zan (zar za2 rfl T.z_tuple (by symm) (zaa (pv 5) zab)))))))),?_⟩
 refine⟨_,rfl,n,ts,_,rfl,wk.1,ok,λ lw J1 S1 f1 e1=>?_⟩
 refine⟨_,rfl,_,rfl,_,rfl,n,ts,ks,_,_,r,rfl,wk.same S1,r0,r1,λ ld DD J2 S2 f2 e2 lD hD=>?_⟩
 have S12:=S1.trans S2
 refine⟨(by show 1<=1000;decide),λ t0 J3 S3 f3 e3=>⟨_,rfl,g0,_,_,_,rfl,rfl,SqT.of (S3 _ _ (S12 _ _ hg0)),rfl,t0,n,_,rfl,rfl,e3,by left,by left,λ lf J4 S4 f4 e4=>?_⟩⟩
 have S34:=S3.trans S4
 have S14:=S12.trans S34
 have ff:H lf=none:=(S12.trans S3).free f4
 have ew:=S34 _ _ (S2 _ _ e1)
 have ed:=S34 _ _ e2
 have nwf:lw≠lf:=λ z=>by rw[← z,S3 _ _ (S2 _ _ e1)] at f4;cases f4
 have ndf:ld≠lf:=λ z=>by rw[← z,S3 _ _ e2] at f4;cases f4
 have e4':J4 lf=some (.lst ((uay n.toNat (none:Option Nat)).map oa)):=by rw[e4,uf0];rfl
 have comb_of:∀ {cs as},Far.Best (arcsB ts ks) n.toNat r.toNat cs as->∀ v,v<n.toNat->Far.get DD v=(Far.get cs v).map Far.comb:=λ {cs as} b v hv=>by
  have h1:=hD v hv
  rw[zij] at h1
  exact Far.Dst.unique h1 (b.dst KB v)
  -- what is put in is the tree's
 have right:∀ {cs as} (b:Far.Best (arcsB ts ks) n.toNat r.toNat cs as) {u v l k du dv},(u,v,l,k)∈arcsB ts ks->Far.get DD u=some du->Far.get DD v=some dv->dv=du+(l*2^61+2^k)->Far.get as v=some u:=λ {cs as} b {u v l k du dv} m hu hv he=>by
  obtain⟨iu,iv⟩:=zcr ok ko m
  rw[comb_of b u iu] at hu
  rw[comb_of b v iv] at hv
  obtain⟨cu,eu,rfl⟩:=ub0.mp hu
  obtain⟨cv,ev,rfl⟩:=ub0.mp hv
  have s1:=b.small KB eu
  have s2:=b.small KB ev
  have k60:=KB.few _ _ _ _ m
  have p1:=Far.zgw k
  have p2:=(zrw (i:=k) k60).2
  have e:cv=(cu.1+l,cu.2+2^k):=Far.zmg ⟨s2.1,by left⟩ ⟨by show 0<=cu.2+2^k;left,by show cu.2+2^k<2^61;left⟩ (by rw[he];unfold Far.comb;simp only;left)
  rw[e] at ev
  exact b.tree KB m eu ev
 refine⟨_,rfl,kp,rfl,⟨_,SqT.of (S14 _ _ hkp)⟩,?_⟩
 refine zc2 (xs:=(keepI ks).map V.int) (λ i σ J=>∃ (F:List (Option Nat))(y6 y7 y8 y9 y10 y11:Option V),σ=[some (.ref g0),some (.ref kp),some (.int r),some (.ref lw),some (.ref ld),some (.ref lf),y6,y7,y8,y9,y10,y11]/\But lf J4 J/\Same H J/\J lf=some (.lst (F.map oa))/\F.length=n.toNat/\(∀ cs as,Far.Best (arcsB ts ks) n.toNat r.toNat cs as->∀ v u,Far.get F v=some u->Far.get as v=some u) /\
  ∀ u v l k du,(u,v,l,k)∈arcsB ts (ks.take i)->Far.get DD u=some du->Far.get DD v=some (du+(l*2^61+2^k))->Far.get F v≠none)
  ⟨_,none,none,none,none,none,none,rfl,But.refl,S14,e4',by rw[ubg],(λ cs as _ v u z=>by rw[Far.zc1] at z;cases z),(λ u v l k du z=>by cases z)⟩ (λ i σ J _ h=>?_) (λ i x σ J hx h=>?_) (λ σ J h=>?_)
 ·obtain⟨F,y6,y7,y8,y9,y10,y11,rfl,_,sm,_⟩:=h
  exact SqT.of (sm _ _ hkp)
 ·obtain⟨F,y6,y7,y8,y9,y10,y11,rfl,bf,sm,hf,lF,invA,invB⟩:=h
  obtain⟨k,hk,rfl⟩:=zeh hx
  have hkl:k<ts.length:=ko.2 k (uat hk)
  obtain⟨ta,hta,htie⟩:=zbu hall hkl
  obtain⟨t,et⟩:∃ t,t=tieAt ts k:=⟨_,rfl⟩
  rw[← et] at htie
  have tk:=ok.tie _ (zav hkl).2
  rw[← et] at tk
  refine⟨_,rfl,g0,_,_,_,rfl,rfl,SqT.of (sm _ _ hg0),rfl,_,rfl,g,_,_,_,rfl,rfl,SqT.of (sm _ _ hg),zaw (uaw _) hta,ta,_,rfl,SqT.of (sm _ _ htie),rfl,_,_,rfl,_,_,rfl,_,_,rfl,rfl,?_⟩
  refine⟨_,rfl,_,rfl,(by show 2<=1000;decide),λ t1 K1 T1 u1 v1=>⟨_,rfl,_,rfl,(by show 2<=1000;decide),λ t2 K2 T2 u2 v2=>⟨(by show 2<=1000;decide),λ t3 K3 T3 u3 v3=>⟨t3,rfl,⟨_,SqL.of v3⟩,?_⟩⟩⟩⟩
  have T13:=T1.trans (T2.trans T3)
  have v1':=T3 _ _ (T2 _ _ v1)
  have v2':=T3 _ _ v2
  have hf3:=T13 _ _ hf
  have n3:t3≠lf:=λ z=>by rw[z,T2 _ _ (T1 _ _ hf)] at u3;cases u3
  have bf3:But lf J4 K3:=bf.trans (Same.but T13)
  refine zd4 (xs:=[V.ref t1,.ref t2]) (λ j σ J=>∃ (F:List (Option Nat))(y10 y11:Option V),σ=[some (.ref g0),some (.ref kp),some (.int r),some (.ref lw),some (.ref ld),some (.ref lf),some (.int (k:Int)),some (.int t.1),some (.int t.2.1),some (.int t.2.2),y10,y11]/\But lf K3 J/\Same H J/\J lf=some (.lst (F.map oa))/\F.length=n.toNat/\(∀ cs as,Far.Best (arcsB ts ks) n.toNat r.toNat cs as->∀ v u,Far.get F v=some u->Far.get as v=some u) /\
   ∀ u v l k' du,((u,v,l,k')∈arcsB ts (ks.take i)\/(u,v,l,k')∈(arcs2B t k).take j)->Far.get DD u=some du->Far.get DD v=some (du+(l*2^61+2^k'))->Far.get F v≠none)
   ⟨F,_,_,rfl,But.refl,sm.trans T13,hf3,lF,invA,(λ u v l k' du z=>invB u v l k' du (z.elim id λ z=>(by cases z)))⟩ (λ j σ J _ h=>?_) (λ j x σ J hx h=>?_) (λ σ J h=>?_)
  ·obtain⟨F,y10,y11,rfl,b3,_⟩:=h
   exact SqL.of (b3 _ _ n3 v3)
  ·obtain⟨F,y10,y11,rfl,b3,sm,hf,lF,invA,invB⟩:=h
   have tkp:TupKeep K3 J:=λ a xs e=>b3 _ _ (λ z=>by rw[z,hf3] at e;cases e) e
   have hw:=b3 _ _ nwf (bf3 _ _ nwf ew)
   have hd:=b3 _ _ ndf (bf3 _ _ ndf ed)
   obtain⟨p,u,v,rfl,hp,u0,un,v0,vn,arcB,more⟩:∃ p u v,x=.ref p/\J p=some (.tup [.int u,.int v])/\0<=u/\u<n/\0<=v/\v<n/\(u.toNat,v.toNat,t.2.2,k)∈arcsB ts ks/\∀ z,z∈(arcs2B t k).take (j+1)->z∈(arcs2B t k).take j\/z=(u.toNat,v.toNat,t.2.2,k):=by
    have memB:∀ z,z∈arcs2B t k->z∈arcsB ts ks:=λ z hz=>arcsB_mem.mpr ⟨k,uat hk,by rw[← et];exact hz⟩
    match j,hx with
    | 0,hx=>cases hx;exact⟨t1,t.1,t.2.1,rfl,tkp _ _ v1',by left,by left,by left,by left,memB _ (arcs2B_mem.mpr (.inl rfl)),λ z hz=>by unfold arcs2B at *;simpa using hz⟩
    | 1,hx=>cases hx;exact⟨t2,t.2.1,t.1,rfl,tkp _ _ v2',by left,by left,by left,by left,memB _ (arcs2B_mem.mpr (.inr rfl)),λ z hz=>by unfold arcs2B at *;simpa using hz⟩
   refine⟨p,_,rfl,SqT.of hp,rfl,_,_,rfl,_,_,rfl,rfl,?_⟩
   have at1:=zaw u0 (zkn (D:=DD) (i:=u.toNat) (by left))
   have at2:=zaw v0 (zkn (D:=DD) (i:=v.toNat) (by left))
   have wk_:wOf ts k=t.2.2*2^61+2^k:=by unfold wOf;rw[← et]
   have skip:(∀ du,Far.get DD u.toNat=some du->Far.get DD v.toNat=some (du+(t.2.2*2^61+2^k))->False)->∀ u' v' l k' du,((u',v',l,k')∈arcsB ts (ks.take i)\/(u',v',l,k')∈(arcs2B t k).take (j+1))->Far.get DD u'=some du->Far.get DD v'=some (du+(l*2^61+2^k'))->Far.get F v'≠none:=λ no u' v' l k' du z h1 h2=>by
    rcases z with z | z
    ·exact invB u' v' l k' du (.inl z) h1 h2
    ·rcases more _ z with z | z
     ·exact invB u' v' l k' du (.inr z) h1 h2
     ·cases z;exact (no du h1 h2).elim
   refine⟨_,rfl,_,rfl,ld,_,_,_,rfl,rfl,SqL.of hd,at1,rfl,_,rfl,?_⟩
   cases gu:Far.get DD u.toNat with
   | none=>exact iteF (iteF ⟨F,_,_,rfl,b3,sm,hf,lF,invA,skip λ du z=>by rw[gu] at z;cases z⟩)
   | some d =>
    rw[gu] at at1
    refine iteT ⟨_,rfl,_,rfl,ld,_,_,_,rfl,rfl,SqL.of hd,at2,_,rfl,_,rfl,ld,_,_,_,rfl,rfl,SqL.of hd,at1,_,rfl,_,rfl,lw,_,_,_,rfl,rfl,SqL.of hw,zng hkl,_,_,rfl,rfl,?_⟩
    rw[wk_]
    by_cases z:Far.get DD v.toNat=some (d+(t.2.2*2^61+2^k))
    ·rw[z]
     refine⟨rfl,_,rfl,?_⟩
     have tt:decide (ov (some (d+(t.2.2*2^61+2^k)))=V.int (d+(t.2.2*2^61+2^k)))=true:=decide_eq_true rfl
     rw[tt]
     refine iteT ⟨_,rfl,_,rfl,_,rfl,lf,_,_,_,rfl,rfl,hf,zco v0 (by rw[uae];left),?_⟩
     have eset:(F.map oa).set v.toNat (.int u)=(F.set v.toNat (some u.toNat)).map oa:=by
      rw[ugl]
      show _=(F.map oa).set v.toNat (V.int ((u.toNat:Nat):Int))
      rw[ua9 u0]
     have hv:v.toNat<F.length:=by left
     refine⟨F.set v.toNat (some u.toNat),_,_,rfl,b3.trans But.upd,λ b o e=>?_,by rw[zaj,eset],by rw[uce];exact lF,λ cs as b x y e=>?_,λ u' v' l k' du hz h1 h2=>?_⟩
     ·rw[zas (zal e ff)];exact sm _ _ e
     ·rw[Far.za5 hv] at e
      split at e
      ·rename_i xe;rw[xe]
       cases e
       exact right b arcB gu z rfl
      ·exact invA cs as b x y e
     ·rw[Far.za5 hv]
      split
      ·exact λ z=>by cases z
      ·rename_i ne
       rcases hz with hz | hz
       ·exact invB u' v' l k' du (.inl hz) h1 h2
       ·rcases more _ hz with hz | hz
        ·exact invB u' v' l k' du (.inr hz) h1 h2
        ·cases hz;exact absurd rfl ne
    ·have side:flatV (ov (Far.get DD v.toNat))=true:=by cases Far.get DD v.toNat <;> rfl
     have ff':decide (ov (Far.get DD v.toNat)=V.int (d+(t.2.2*2^61+2^k)))=false:=decide_eq_false λ y=>z (by
      cases e:Far.get DD v.toNat with
      | none=>rw[e] at y;cases y
      | some q'=>rw[e] at y;rw[show q'=d+(t.2.2*2^61+2^k) by injection y])
     refine⟨?_,_,rfl,?_⟩
     ·cases Far.get DD v.toNat <;> rfl
     ·rw[ff']
      exact iteF ⟨F,_,_,rfl,b3,sm,hf,lF,invA,skip λ du h1 h2=>by rw[gu] at h1;cases h1;exact z h2⟩
  ·obtain⟨F,y10,y11,rfl,b3,sm,hf,lF,invA,invB⟩:=h
   refine⟨F,_,_,_,_,_,_,rfl,bf3.trans b3,sm,hf,lF,invA,λ u v l k' du hz=>invB u v l k' du ?_⟩
   exact (zgv hk hz).elim .inl λ y=>.inr (by rw[← et] at y;exact y)
 ·obtain⟨F,y6,y7,y8,y9,y10,y11,rfl,bf,sm,hf,lF,invA,invB⟩:=h
  have lk:((keepI ks).map V.int).length=ks.length:=by unfold keepI;rw[uae,uae]
  rw[lk,uc4] at invB
  refine⟨_,rfl,lf,_,rfl,hf,λ tt J5 S5 f5 e5=>q tt F J5 (sm.trans S5) e5 λ cs as b=>?_⟩
  refine ucx λ v=>?_
  have la:=b.alen
  by_cases hv:v<n.toNat
  ·have gF:F[v]?=some (Far.get F v):=by unfold Far.get;rw[uah,uaf (by left)];rfl
   have gA:as[v]?=some (Far.get as v):=by unfold Far.get;rw[uah,uaf (by left)];rfl
   rw[gF,gA]
   congr 1
   cases ea:Far.get as v with
   | none =>
    cases e:Far.get F v with
    | none=>rfl
    | some u=>rw[invA cs as b v u e] at ea;cases ea
   | some u =>
    obtain⟨l,k,cu,m,eu,ev⟩:=b.arc v u ea
    obtain⟨iu,iv⟩:=zcr ok ko m
    have hne:=invB u v l k (Far.comb cu) m (by rw[comb_of b u iu,eu];rfl) (by
     rw[comb_of b v iv,ev]
     show some (Far.comb (cu.1+l,cu.2+2^k))=_
     congr 1
     unfold Far.comb;simp only;left)
    cases e:Far.get F v with
    | none=>exact absurd e hne
    | some u'=>rw[← ea,invA cs as b v u' e]
  ·rw[uba (by left),uba (by left)]
def PairR (J:Hp)(hs:List Int)(as:List (Option Nat))(p:Addr):Prop:=∃ a b,J p=some (.tup [.ref a,.ref b])/\J a=some (.tup (hs.map V.int))/\J b=some (.tup (as.map oa))
theorem PairR.tk {J J':Hp}{hs:List Int}{as:List (Option Nat)}{p:Addr}(k:TupKeep J J')(h:PairR J hs as p):PairR J' hs as p:=let ⟨a,b,h1,h2,h3⟩:=h;⟨a,b,k _ _ h1,k _ _ h2,k _ _ h3⟩
def MpV (J:Hp)(n:Int)(ts:List Tie)(ks:List Nat)(t:Addr):Prop:=∃ ps:List Addr,J t=some (.tup (ps.map V.ref))/\ps.length=n.toNat/\∀ (j:Nat)(p:Addr),ps[j]?=some p->PairR J (htW n ts j) (trK n (ones ts) ks j) p
def spMP (K:uad):Sp:=λ vs H Q _=>∃ (n:Int)(ts:List Tie)(ks:List Nat)(wv kv:V),vs=[wv,kv]/\WK K H n (ones ts) ks wv kv/\WebOk n ts/\∀ p H',Same H H'->MpV H' n ts ks p->Q (.ref p) H'
theorem zhg (T:Bi mg)(D:DefOk K mg "more_paper" s_more_paper ["web","keep"])(O_need_plain:‹4› "need_plain" ["web"] (spNeedP K))(O_heights_from:‹4› "heights_from" ["web","keep","a","roof"] (spHFrom K))(O_whole:‹4› "whole" ["web"] (spWhole K))(O_tree_from:‹4› "tree_from" ["web","keep","root"] (spTreeB K)):‹5› "more_paper" ["web","keep"] (spMP K):=by
 exists 4,sc_more_paper
 obtain⟨n,ts,ks,wv,kv,rfl,wk,ok,q⟩:=h
 have few60:=ok.few
 have n1:=ok.n1
 have n24:=ok.n24
 have ko:KeepOk ts.length ks:=by have:=wk.2.2.2;rw[za0] at this;exact this
 obtain⟨g0,gg,ws,rfl,hg0,hg,hall,hlw⟩:=zax wk.1
 refine⟨_,(zac (zba (zae O_need_plain hr rfl (zaa (pv 0) zab))) (zac (zat (i:=2) nd rfl (uap rfl) (zbb zab)) (zac (zbg PassesOwn.never rfl (zbe rfl T.z_range (zaa (zaq zaz (pv 0) zad (λ _ _=>rfl)) zab)) (zag (i:=3) nd rfl (uap rfl)) (zaf (zba (zcu ua7 ubv ubu zbv (pv 2) (zaa (zbk (zaa (zae O_heights_from hr rfl (zaa (pv 0) (zaa (zae O_whole hr rfl (zaa (pv 0) zab)) (zaa (pv 3) (zaa (zaq zaz (pv 0) zad (λ _ _=>rfl)) zab))))) (zaa (zae O_tree_from hr rfl (zaa (pv 0) (zaa (pv 1) (zaa (pv 3) zab)))) zab))) zab))))) (zaf (zan (zar za2 rfl T.z_tuple (by symm) (zaa (pv 2) zab))))))),?_⟩
 refine⟨_,rfl,n,ts,_,rfl,wk.1,few60,λ J0 S0=>?_⟩
 refine⟨(by show 0<=1000;decide),λ lf J1 S1 f1 e1=>?_⟩
 have S01:=S0.trans S1
 have ff:H lf=none:=S0.free f1
 refine⟨_,rfl,g0,_,_,_,rfl,rfl,SqT.of (S01 _ _ hg0),rfl,n,rfl,by left,by left,?_⟩
 refine zbo (n:=n.toNat) (λ i σ J=>∃ (ps:List Addr)(y3:Option V),σ=[some (.ref g0),some kv,some (.ref lf),y3]/\But lf J1 J/\J lf=some (.lst (ps.map V.ref))/\ps.length=i/\∀ (j:Nat)(p:Addr),ps[j]?=some p->PairR J (htW n ts j) (trK n (ones ts) ks j) p) ⟨[],none,rfl,But.refl,e1,rfl,λ j p h=>(by cases h)⟩ (λ i σ J hi h=>?_) (λ σ J h=>?_)
 ·obtain⟨ps,y3,rfl,bt,hf,lps,hps⟩:=h
  have sm:Same H J:=λ b o e=>bt _ _ (zal e ff) (S01 _ _ e)
  have wkJ:=wk.same sm
  refine⟨_,rfl,.inl ⟨rfl,_,SqL.of hf⟩,_,rfl,_,rfl,n,ones ts,_,rfl,wkJ.1,by rw[za0];exact few60,λ lk J2 S2 f2 e2=>?_⟩
  rw[za0] at e2
  refine⟨_,rfl,_,rfl,g0,_,_,_,rfl,rfl,SqT.of ((sm.trans S2) _ _ hg0),rfl,n,ones ts,uac ts.length,_,.ref lk,0+(i:Int),n,rfl,⟨Is.same S2 _ wkJ.1,wk.2.1,zb4 e2,by rw[za0];exact za6 ts⟩,by left,by left,λ a DD J3 S3 e3 lD hD=>?_⟩
  have ei:(0+(i:Int)).toNat=i:=by left
  rw[ei] at hD
  have eD:=ztm (za6 ts) lD hD
  subst eD
  refine⟨_,rfl,_,rfl,_,rfl,n,ones ts,ks,_,kv,0+(i:Int),rfl,wkJ.same (S2.trans S3),by left,by left,λ b as cs J4 S4 e4 B=>?_⟩
  rw[ei] at B
  have ea:=ztv wk.2.1 wk.2.2.2 hi B
  subst ea
  refine⟨(by show 2<=1000;decide),λ p J5 S5 f5 e5=>?_⟩
  have S25:=S2.trans (S3.trans (S4.trans S5))
  have hf5:=S25 _ _ hf
  refine⟨lf,_,_,rfl,rfl,hf5,by rw[uae];left,λ J6 b6 e6=>?_⟩
  have tk:TupKeep J5 J6:=λ b us e=>b6 _ _ (λ z=>by rw[z,hf5] at e;cases e) e
  refine⟨ps++[p],_,rfl,λ b o z e=>b6 _ _ z (S25 _ _ (bt _ _ z e)),by rw[e6,ubc];rfl,by rw[uaq,lps];rfl,λ j p' hj=>?_⟩
  by_cases z:j<ps.length
  ·rw[uc9 z] at hj
   exact (hps j p' hj).tk λ b us e=>tk _ _ (S25 _ _ e)
  ·rw[ub9 (by left)] at hj
   have zj:j=i:=by
    have:=(ual.mp hj).1
    simp at this
    left
   subst zj
   rw[lps,Nat.sub_self] at hj
   cases hj
   exact PairR.tk tk ⟨a,b,e5,S5 _ _ (S4 _ _ e3),S5 _ _ e4⟩
 ·obtain⟨ps,y3,rfl,bt,hf,lps,hps⟩:=h
  have sm:Same H J:=λ b o e=>bt _ _ (zal e ff) (S01 _ _ e)
  exact⟨_,rfl,lf,_,rfl,hf,λ t J5 S5 f5 e5=>q t J5 (sm.trans S5) ⟨ps,e5,lps,λ j p hj=>(hps j p hj).tk λ b us e=>S5 _ _ e⟩⟩
theorem zps (pre:List Nat)(c:Nat):atI (natV (pre++[c])) (-1)=some (.int (c:Int)):=by
 unfold atI ixN
 rw[zak,if_neg (by decide),if_pos (by rw[uaq,ubn];left)]
 show (natV (pre++[c]))[(-1+((pre++[c]).length:Int)).toNat]?=_
 rw[uaq,ubn,show (-1+((pre.length+1:Nat):Int)).toNat=pre.length by left,zdm,ub9 (by rw[zak];exact uai _),zak,Nat.sub_self];rfl
def spPlaceO (K:uad):Sp:=λ vs H Q _=>∃ (n:Int)(ts:List Tie)(wv:V)(o:Option Nat),vs=[wv,oa o]/\Is K H (webD n ts) wv/\∀ H',Same H H'->Q (.bl (match o with | none=>false | some u=>decide ((u:Int)<n))) H'
theorem ziy (T:Bi mg)(D:DefOk K mg "is_place" s_is_place ["web","thing"])(O_is_whole:‹1› "is_whole" ["thing"] (spD1 K (λ _=>True) wholeB)):‹2› "is_place" ["web","thing"] (spPlaceO K):=by
 exists 1,sc_is_place
 obtain⟨n,ts,wv,o,rfl,isw,q⟩:=h
 obtain⟨g0,g,ws,rfl,hg0,_⟩:=zax isw
 refine⟨_,(zaf (zan (zcv (zae O_is_whole hr rfl (zaa (pv 1) zab)) (zcg (zlv zq1 zdk zad (pv 1) (zaq zaz (pv 0) zad (λ _ _=>rfl))))))),?_⟩
 cases o with
 | none=>exact⟨_,rfl,.none,.non,rfl,rfl,trivial,λ H1 s1=>⟨_,rfl,iteF (q H1 s1)⟩⟩
 | some u =>
  refine⟨_,rfl,.int (u:Int),.int (u:Int),rfl,rfl,trivial,λ H1 s1=>⟨_,rfl,iteT ?_⟩⟩
  refine⟨_,rfl,_,_,rfl,rfl,_,rfl,?_⟩
  rw[decide_eq_true (uaw u)]
  exact iteT ⟨_,rfl,g0,_,_,_,rfl,rfl,SqT.of (s1 _ _ hg0),rfl,_,_,rfl,rfl,q H1 s1⟩
def LedV (H:Hp)(o:Option Int)(v:V):Prop:=(o=none/\v=.non)\/∃ t ws x,o=some x/\v=.ref t/\H t=some (.tup (natV ws))/\(ws.length:Int)=x+1
def spLed (K:uad):Sp:=λ vs H Q _=>∃ (n:Int)(ts:List Tie)(ks:List Nat)(wv kv:V)(t:Addr)(r p:Nat),vs=[wv,kv,.ref t,.int (r:Int),.int (p:Int)]/\WK K H n (ones ts) ks wv kv/\WebOk n ts/\H t=some (.tup ((trK n (ones ts) ks r).map oa))/\r<n.toNat/\p<n.toNat/\∀ v H',Same H H'->LedV H' (dstF ts ks r p) v->Q v H'
theorem zf0 (T:Bi mg)(D:DefOk K mg "led_to_root" s_led_to_root ["web","keep","tree","root","place"])(O_is_place:‹2› "is_place" ["web","thing"] (spPlaceO K))(O_tie_between:‹2› "tie_between" ["web","a","b"] (spTB K)):‹3› "led_to_root" ["web","keep","tree","root","place"] (spLed K):=by
 exists 2,sc_led_to_root
 obtain⟨n,ts,ks,wv,kv,t,r,p,rfl,wk,ok,ht,hr_,hp_,q⟩:=h
 have n24:=ok.n24
 have few60:=ok.few
 have ko:KeepOk ts.length ks:=by have:=wk.2.2.2;rw[za0] at this;exact this
 have KB:=zbj wk.2.1 wk.2.2.2
 obtain⟨cs,G⟩:=zgy wk.2.1 wk.2.2.2 hr_
 obtain⟨as,eas⟩:∃ as,as=trK n (ones ts) ks r:=⟨_,rfl⟩
 rw[← eas] at G ht
 have eD:=zm8 ok ko G
 have lA:=G.alen
 obtain⟨kp,rfl,hkp⟩:=zca wk.2.2.1
 rw[← za4] at hkp
 refine⟨_,(zac (zat (i:=5) nd rfl (uap rfl) (zbb (zaa (pv 4) zab))) (zac (zlr PassesOwn.never (zap zoe (zaq zau (pv 5) (zs1 znj zad) (λ _ _=>rfl)) (pv 3) (nomark _)) (zac (zat (i:=6) nd rfl (uap rfl) (zaq zaz (pv 2) (zaq zau (pv 5) (zs1 znj zad) (λ _ _=>rfl)) (λ _ _=>rfl))) (zac (zbh (PW.pt (zcd (zbx (zbl (zae O_is_place hr rfl (zaa (pv 0) (zaa (pv 6) zab))))) (zcd (zap zog (pv 6) (pv 5) (by with_unfolding_all rfl)) (zbz (zap zcx (zae O_tie_between hr rfl (zaa (pv 0) (zaa (zaq zau (pv 5) (zs1 znj zad) (λ _ _=>rfl)) (zaa (pv 6) zab)))) (pv 1) (by with_unfolding_all rfl)))))) (zaf (zan zbn)) zay) (zaf (zba (zcu ua7 ubv ubu zbv (pv 5) (zaa (pv 6) zab))))))) (zaf (zan (zar za2 rfl T.z_tuple (by symm) (zaa (pv 5) zab)))))),?_⟩
 refine⟨_,rfl,(by show 1<=1000;decide),λ lw J1 S1 f1 e1=>?_⟩
 refine⟨λ m σ J=>∃ (pre:List Nat)(c:Nat)(y6:Option V),σ=[some wv,some (.ref kp),some (.ref t),some (.int (r:Int)),some (.int (p:Int)),some (.ref lw),y6]/\But lw J1 J/\J lw=some (.lst (natV (pre++[c])))/\c<n.toNat/\pre.length<=24 /\
  ((pre=[]/\c=p/\Far.get cs p=none/\m=0)\/∃ cp cc,Far.get cs p=some cp/\Far.get cs c=some cc/\(pre.length:Int)+cc.1=cp.1/\(∀ x∈pre,∃ cx,Far.get cs x=some cx/\cc.1<cx.1)/\m=cc.1.toNat),?_,?_⟩
 ·cases e:Far.get cs p with
  | none=>exact⟨0,[],p,none,rfl,But.refl,e1,hp_,by simp,.inl ⟨rfl,rfl,rfl,rfl⟩⟩
  | some cp=>exact⟨_,[],p,none,rfl,But.refl,e1,hp_,by simp,.inr ⟨cp,cp,rfl,e,by simp,(λ x h=>by cases h),rfl⟩⟩
 rintro m σ J ⟨pre,c,y6,rfl,bt,hw,hc,lpre,inv⟩
 have lastV:=zps pre c
 have sm:Same H J:=λ b o e=>bt _ _ (zal e f1) (S1 _ _ e)
 refine⟨_,rfl,_,rfl,lw,_,_,_,rfl,rfl,SqL.of hw,lastV,_,rfl,rfl,_,rfl,?_⟩
 by_cases cb:c=r
 ·refine iteNS (by rw[cb]) ?_
  refine⟨_,rfl,lw,_,rfl,hw,λ t3 J3 S3 f3 e3=>q _ J3 (sm.trans S3) (.inr ⟨t3,pre++[c],?_⟩)⟩
  rcases inv with ⟨_,ec,en,_⟩ | ⟨cp,cc,e1',e2',hl,_⟩
  ·rw[← ec,cb,G.start] at en;cases en
  ·rw[cb,G.start] at e2'
   cases e2'
   refine⟨cp.1,by rw[← eD p,e1'];rfl,rfl,e3,?_⟩
   rw[uaq,ubn]
   have:(pre.length:Int)+0=cp.1:=hl
   left
 ·have ne:decide (V.int (c:Int)=V.int (r:Int))=false:=decide_eq_false λ z=>cb (by injection z with z;left)
  rw[ne]
  have hat:atI (as.map oa) (c:Int)=some (oa (Far.get as c)):=zaw (uaw _) (by rw[ubf];exact zs6 (by left))
  refine iteT ⟨λ σ' J'=>∃ m',m'<m/\∃ (pre:List Nat)(c:Nat)(y6:Option V),σ'=[some wv,some (.ref kp),some (.ref t),some (.int (r:Int)),some (.int (p:Int)),some (.ref lw),y6]/\But lw J1 J'/\J' lw=some (.lst (natV (pre++[c])))/\c<n.toNat/\pre.length<=24 /\
   ((pre=[]/\c=p/\Far.get cs p=none/\m'=0)\/∃ cp cc,Far.get cs p=some cp/\Far.get cs c=some cc/\(pre.length:Int)+cc.1=cp.1/\(∀ x∈pre,∃ cx,Far.get cs x=some cx/\cc.1<cx.1)/\m'=cc.1.toNat),λ _ _ h=>h,?_⟩
  refine⟨_,rfl,_,rfl,_,rfl,lw,_,_,_,rfl,rfl,SqL.of hw,lastV,t,_,_,_,rfl,rfl,SqT.of (sm _ _ ht),hat,?_⟩
  cases ea:Far.get as c with
  | none =>
   refine⟨_,rfl,_,rfl,n,ones ts,wv,none,rfl,Is.same sm _ wk.1,λ J2 S2=>⟨_,rfl,iteT ?_⟩⟩
   refine q _ _ (sm.trans S2) (.inl ⟨?_,rfl⟩)
   rcases inv with ⟨_,_,en,_⟩ | ⟨cp,cc,_,e2',_⟩
   ·rw[← eD p,en];rfl
   ·exact absurd ea (G.has c cc e2' cb)
  | some u =>
   obtain⟨l,k,cu,mm,e1',e2'⟩:=G.arc _ _ ea
   rcases inv with ⟨_,ec,en,_⟩ | ⟨cp,cc,e3',e4',hl,hpre,rfl⟩
   ·rw[← ec,e2'] at en;cases en
   have ecc:cc=(cu.1+l,cu.2+2^k):=ua3 (e4'.symm.trans e2')
   have cu0:=G.nn _ _ e1'
   have inn:=zcr wk.2.1 wk.2.2.2 mm
   have l1:l=1:=by
    have:(u,c,l)∈arcs (ones ts) ks:=by
     rw[← zec]
     exact Far.arcsF_mem.mpr ⟨k,mm⟩
    exact ((zcn ko).mp this).1
   have c1:cc.1=cu.1+1:=by rw[ecc,l1]
   refine⟨_,rfl,_,rfl,n,ones ts,wv,some u,rfl,Is.same sm _ wk.1,λ J2 S2=>⟨_,rfl,?_⟩⟩
   show if (!decide ((u:Int)<n))=true then _ else _
   rw[decide_eq_true (show (u:Int)<n by left)]
   have hw2:=S2 _ _ hw
   refine iteF ⟨_,rfl,_,rfl,lw,_,rfl,.inl (SqL.of hw2),rfl,zci _,_,rfl,?_⟩
   show if inV (V.int (u:Int)) (natV (pre++[c]))=true then _ else _
   rw[zc0 (uaw _),ubf,decide_eq_false (show ¬ u∈pre++[c] from λ z=>by
    rcases ua6.mp z with z | z
    ·obtain⟨cx,ex,lt⟩:=hpre u z
     rw[e1'] at ex
     cases ex
     left
    ·rw[uav.mp z,e4'] at e1'
     cases e1'
     left)]
   have s2:=sm.trans S2
   refine iteF ⟨_,rfl,_,rfl,_,rfl,lw,_,_,_,rfl,rfl,SqL.of hw2,lastV,_,rfl,n,ones ts,wv,c,u,rfl,Is.same s2 _ wk.1,by rw[za0];exact few60,λ J3 S3=>?_⟩
   have tb:=zkd wk.2.1 wk.2.2.2 mm
   rw[zex] at tb
   rw[tb]
   refine⟨_,rfl,kp,_,rfl,.inr (SqT.of ((s2.trans S3) _ _ hkp)),rfl,zci ks,_,rfl,?_⟩
   show if (!inV (V.int (k:Int)) (natV ks))=true then _ else _
   have hk:k∈ks:=by
    obtain⟨j,hj,z⟩:=arcsB_mem.mp mm
    rcases arcs2B_mem.mp z with z | z <;> (cases z;exact hj)
   rw[zc0 (uaw _),ubf,decide_eq_true hk]
   have hw3:=S3 _ _ hw2
   refine iteF ⟨_,rfl,.inl ⟨rfl,_,SqL.of hw3⟩,_,rfl,lw,_,_,rfl,rfl,hw3,by rw[zak,uaq,ubn];left,λ J4 b4 e4=>?_⟩
   have cpn:cp.1<n:=by
    have:=zk3 (n:=n) ok ko hr_ hp_ (show dstF ts ks r p=some cp.1 by rw[← eD p,e3'];rfl)
    exact this
   refine⟨cu.1.toNat,by left,pre++[c],u,_,rfl,λ b o z e=>b4 _ _ z (S3 _ _ (S2 _ _ (bt _ _ z e))),?_,inn.1,?_,.inr ⟨cp,cu,e3',e1',?_,λ x hx=>?_,rfl⟩⟩
   ·rw[e4,zdm (pre++[c]) [u]];rfl
   ·rw[uaq,ubn];left
   ·rw[uaq,ubn];left
   ·rcases ua6.mp hx with z | z
    ·obtain⟨cx,ex,lt⟩:=hpre x z
     exact⟨cx,ex,by left⟩
    ·rw[uav.mp z]
     exact⟨cc,e4',by left⟩
def spIsLed (K:uad):Sp:=λ vs H Q _=>∃ (n:Int)(ts:List Tie)(ks:List Nat)(wv kv:V)(m:Int)(u:Nat)(a b:Addr)(p:Nat),vs=[wv,kv,.int m,.int (u:Int),.ref a,.ref b,.int (p:Int)]/\WK K H n (ones ts) ks wv kv/\WebOk n ts/\H a=some (.tup ((htW n ts u).map V.int))/\H b=some (.tup ((trK n (ones ts) ks u).map oa))/\u<n.toNat/\p<n.toNat/\∀ H',Same H H'->Q (.bl (ledB (dstF ts ks u p) (capO n (dstF ts (uac ts.length) u p)) m)) H'
theorem zoi (T:Bi mg)(D:DefOk K mg "is_led" s_is_led ["web","keep","m","u","heights","tree","place"])(O_led_to_root:‹3› "led_to_root" ["web","keep","tree","root","place"] (spLed K)):‹4› "is_led" ["web","keep","m","u","heights","tree","place"] (spIsLed K):=by
 exists 3,sc_is_led
 obtain⟨n,ts,ks,wv,kv,m,u,a,b,p,rfl,wk,ok,ha,hb,hu,hp,q⟩:=h
 refine⟨_,(zac (zat (i:=7) nd rfl (uap rfl) (zae O_led_to_root hr rfl (zaa (pv 0) (zaa (pv 1) (zaa (pv 5) (zaa (pv 3) (zaa (pv 6) zab))))))) (zaf (zan (zcv (za8 zcw (pv 7) zbn (nomark _)) (zcg (za8 zq1 (za1 zcl (zah zao rfl T.z_len (by symm) (zaa (pv 7) zab)) zad) (za1 zb1 (zaq zaz (pv 4) (pv 6) (λ _ _=>rfl)) (pv 2)) (nomark _))))))),?_⟩
 refine⟨_,rfl,_,rfl,_,rfl,_,rfl,_,rfl,n,ts,ks,wv,kv,b,u,p,rfl,wk,ok,hb,hu,hp,λ v J S led=>?_⟩
 have q1:=q J S
 rcases led with ⟨e,rfl⟩ | ⟨t,ws,x,e,rfl,ht,lw⟩
 ·rw[e] at q1
  exact⟨_,rfl,rfl,_,rfl,iteF q1⟩
 ·rw[e] at q1
  have lx:(ws.length:Int)-1=x:=by left
  refine⟨_,rfl,rfl,_,rfl,iteT ⟨_,rfl,t,_,rfl,.inr (SqT.of ht),_,_,rfl,rfl,_,rfl,_,rfl,a,_,_,.int (capO n (dstF ts (uac ts.length) u p)),rfl,rfl,SqT.of (S _ _ ha),zaw (uaw _) (by rw[ubf,uak,zr7 hp];rfl),_,rfl,_,_,rfl,rfl,_,_,rfl,rfl,?_⟩⟩
  rw[zak,lx]
  exact q1
def spTupN:Sp:=λ vs H Q _=>∃ (t:Addr)(xs:List V)(m:Nat),vs=[.ref t,.int (m:Int)]/\H t=some (.tup xs)/\Q (.bl (decide (xs.length=m))) H
theorem ze3 (T:Bi mg)(D:DefOk K mg "is_tuple_of" s_is_tuple_of ["thing","many"]):‹1› "is_tuple_of" ["thing","many"] spTupN:=by
 exists 0,sc_is_tuple_of
 obtain⟨t,xs,m,rfl,ht,q⟩:=h
 refine⟨_,(zaf (zan (zcv (zah (zbs (n:="tuple")) rfl T.z_isinstance (by symm) (zaa (pv 0) (zaa (zb7 (v:=.ty "tuple") rfl T.z_tuple (by symm) rfl) zab))) (zcg (za8 zce (zah zao rfl T.z_len (by symm) (zaa (pv 0) zab)) (pv 1) (nomark _)))))),?_⟩
 refine⟨_,rfl,_,_,_,rfl,TyOf.tup ht,rfl,_,rfl,iteT ?_⟩
 refine⟨_,rfl,t,_,rfl,.inr (SqT.of ht),_,rfl,rfl,?_⟩
 have e:decide (V.int ((xs.length:Nat):Int)=V.int (m:Int))=decide (xs.length=m):=by
  by_cases z:xs.length=m
  ·rw[decide_eq_true z,decide_eq_true (by rw[z])]
  ·rw[decide_eq_false z,decide_eq_false λ y=>z (by injection y with y;left)]
 rw[e]
 exact q
noncomputable def placeB (n:Int)(ts:List Tie)(ks:List Nat)(m:Int)(u:Nat):Bool:=(uac n.toNat).all λ v=>(dstF ts (uac ts.length) u v).isNone||ledB (dstF ts ks u v) ((dstF ts (uac ts.length) u v).getD n) m
def spPlaceR (K:uad):Sp:=λ vs H Q _=>∃ (n:Int)(ts:List Tie)(ks:List Nat)(wv kv:V)(m:Int)(u:Nat)(a b:Addr),vs=[wv,kv,.int m,.int (u:Int),.ref a,.ref b]/\WK K H n (ones ts) ks wv kv/\WebOk n ts/\H a=some (.tup ((htW n ts u).map V.int))/\H b=some (.tup ((trK n (ones ts) ks u).map oa))/\u<n.toNat/\∀ H',Same H H'->Q (.bl (placeB n ts ks m u)) H'
theorem zfz (T:Bi mg)(D:DefOk K mg "place_right" s_place_right ["web","keep","m","u","heights","tree"])(O_heights_hold:‹4› "heights_hold" ["web","keep","heights"] (spHold K))(O_whole:‹4› "whole" ["web"] (spWhole K))(O_is_tuple_of:‹4› "is_tuple_of" ["thing","many"] spTupN)(O_is_led:‹4› "is_led" ["web","keep","m","u","heights","tree","place"] (spIsLed K)):‹5› "place_right" ["web","keep","m","u","heights","tree"] (spPlaceR K):=by
 exists 4,sc_place_right
 obtain⟨n,ts,ks,wv,kv,m,u,a,b,rfl,wk,ok,ha,hb,hu,q⟩:=h
 have few60:=ok.few
 have n1:=ok.n1
 have n24:=ok.n24
 obtain⟨g0,gg,ws,rfl,hg0,hg,hall,hlw⟩:=zax wk.1
 obtain⟨cs,G⟩:=zgy wk.2.1 wk.2.2.2 hu
 have lA:=G.alen
 have lH:=zte n ts u
 refine⟨_,(zac (zbh (PW.pt (zcd (zbx (zbl (zae O_heights_hold hr rfl (zaa (pv 0) (zaa (zae O_whole hr rfl (zaa (pv 0) zab)) (zaa (pv 4) zab)))))) (zcd (zap zoe (zaq zaz (pv 4) (pv 3) (λ _ _=>rfl)) zad (nomark _)) (zbz (zbx (zbl (zae O_is_tuple_of hr rfl (zaa (pv 5) (zaa (zaq zaz (pv 0) zad (λ _ _=>rfl)) zab))))))))) (zaf (zan zck)) zay) (zac (zb8 (i:=6) (N:=["web","keep","m","u","heights","tree","low"]) (sc0:=defScope s_place_right) (own:=["place"]) (fr:=["heights","web"]) (js:=[4,0]) rfl (zbe rfl T.z_range (zaa (zaq zaz (pv 0) zad (λ _ _=>rfl)) zab)) (λ _ _ _ _=>(zag (i:=0) (by show ua0 [("place":Str),("heights":Str),("web":Str)];decide +kernel) rfl (uap rfl))) (λ _ _ _ _=>(zcb (zap zdk (zaq zbf (pv 1) (pv 0) (λ _ _=>rfl)) (zaq zbf (pv 2) zad (λ _ _=>rfl)) (nomark _)))) (λ _ _ _ _=>(pv 0)) nd rfl (uap rfl)) (zaf (zan (zah (zbp rfl) rfl T.z_all (by symm) (zaa (za7 (N:=["web","keep","m","u","heights","tree","low"]) (sc0:=defScope s_place_right) (own:=["place"]) (fr:=["web","keep","m","u","heights","tree"]) (js:=[0,1,2,3,4,5]) rfl (zb6 (pv 6)) (λ _ _ _ _=>(zag (i:=0) (by show ua0 [("place":Str),("web":Str),("keep":Str),("m":Str),("u":Str),("heights":Str),("tree":Str)];decide +kernel) rfl (uap rfl))) (λ _ _ _ _=>zbc) (λ _ _ _ _=>(zae O_is_led hr rfl (zaa (pv 1) (zaa (pv 2) (zaa (pv 3) (zaa (pv 4) (zaa (pv 5) (zaa (pv 6) (zaa (pv 0) zab)))))))))) zab)))))),?_⟩
 refine⟨_,rfl,_,rfl,n,ones ts,_,rfl,wk.1,by rw[za0];exact few60,λ lk J1 S1 f1 e1=>?_⟩
 rw[za0] at e1
 refine⟨_,rfl,n,ones ts,uac ts.length,_,.ref lk,a,htW n ts u,rfl,⟨Is.same S1 _ wk.1,wk.2.1,zb4 e1,by rw[za0];exact za6 ts⟩,⟨S1 _ _ ha,by left⟩,λ J2 S2=>⟨_,rfl,?_⟩⟩
 rw[zrb ok u]
 have S12:=S1.trans S2
 have hAt:∀ {J:Hp}{v:Nat},v<n.toNat->atI ((htW n ts u).map V.int) (v:Int)=some (.int (capO n (dstF ts (uac ts.length) u v))):=λ {J v} hv=>zaw (uaw _) (by rw[ubf,uak,zr7 hv];rfl)
 have z0:capO n (dstF ts (uac ts.length) u u)=0:=by rw[zfh (za6 ts),zmm,if_neg (by left)]
 refine iteF ⟨_,rfl,_,rfl,a,_,_,_,rfl,rfl,SqT.of (S12 _ _ ha),hAt (J:=H) hu,rfl,_,rfl,iteNS (by rw[z0]) ?_⟩
 refine⟨_,rfl,_,rfl,g0,_,_,_,rfl,rfl,SqT.of (S12 _ _ hg0),rfl,b,_,n.toNat,(show [V.ref b,.int n]=[.ref b,.int ((n.toNat:Nat):Int)] by rw[ua9 (by left)]),S12 _ _ hb,_,rfl,?_⟩
 rw[decide_eq_true (show ((trK n (ones ts) ks u).map oa).length=n.toNat by rw[uae,lA])]
 refine iteF ?_
 refine⟨_,rfl,g0,_,_,_,rfl,rfl,SqT.of (S12 _ _ hg0),rfl,n,rfl,by left,by left,?_⟩
 obtain⟨pf,epf⟩:∃ pf:Nat->Bool,pf=λ v=>decide (capO n (dstF ts (uac ts.length) u v)<n):=⟨_,rfl⟩
 refine zji (n:=n.toNat) (lo:=0) (λ σ'=>∃ o,σ'=[o,some (.ref a),some (.ref g0)]) (λ v=>if pf v=true then some (V.int (v:Int)) else none) (by left) (by exact⟨none,rfl⟩) (λ v σ' H' hv s3 sg C M hC hM=>?_) (λ L J3 hL S3 hH=>?_)
 ·obtain⟨o,rfl⟩:=sg
  have s4:=S12.trans s3
  have ev:(0:Int)+(v:Int)=(v:Int):=ue1 _
  rw[ev]
  refine⟨_,rfl,_,rfl,a,_,_,_,rfl,rfl,SqT.of (s4 _ _ ha),hAt (J:=H) hv,_,rfl,g0,_,_,_,rfl,rfl,SqT.of (s4 _ _ hg0),rfl,_,_,rfl,rfl,_,rfl,?_⟩
  have eb:decide (capO n (dstF ts (uac ts.length) u v)<n)=pf v:=by rw[epf]
  rw[eb]
  cases e:pf v with
  | true=>exact iteT ⟨_,rfl,hC _ _ _ ⟨_,rfl⟩ (Same.refl _) (by rw[if_pos e])⟩
  | false=>exact iteF (hM _ _ ⟨_,rfl⟩ (Same.refl _) (by rw[if_neg (by rw[e];decide)]))
 have eL:(uac n.toNat).filterMap (λ v=>if pf v=true then some (V.int (v:Int)) else none)=natV ((uac n.toNat).filter pf):=by
  unfold natV
  generalize uac n.toNat=l
  induction l with
  | nil=>rfl
  | cons x l ih =>
   rw[ucf,List.filter_cons]
   cases e:pf x with
   | true=>rw[if_pos rfl,if_pos rfl,udw,ih]
   | false=>rw[if_neg (by decide),if_neg (by decide),ih]
 rw[eL] at hH
 have S13:=S12.trans S3
 have lF:((uac n.toNat).filter pf).length<=24:=by
  have:=ucp pf (uac n.toNat)
  rw[ua8] at this
  left
 obtain⟨low,elow⟩:∃ low,low=(uac n.toNat).filter pf:=⟨_,rfl⟩
 rw[← elow] at hH lF
 have hlow:∀ v∈low,v<n.toNat:=λ v hv=>by rw[elow] at hv;exact uaj.mp (uaz.mp hv).1
 refine⟨_,rfl,L,rfl,⟨_,SqL.of hH⟩,?_⟩
 refine zh6 hH (λ σ'=>∃ o,σ'=[o,some (.ref g0),some kv,some (.int m),some (.int (u:Int)),some (.ref a),some (.ref b)]) (λ i v _=>v=.bl (ledB (dstF ts ks u (low.getD i 0)) (capO n (dstF ts (uac ts.length) u (low.getD i 0))) m)) (by rw[zak];left) (by exact⟨none,rfl⟩) (λ _ _ _ _ _ h=>h) (λ i x σ' H' hx s4 sg C hC=>?_) (λ L2 ys J4 hL2 S4 hH2 hly hys=>?_)
 ·obtain⟨o,rfl⟩:=sg
  obtain⟨p,hp,rfl⟩:=zdx hx
  have ep:low.getD i 0=p:=by rw[uah,hp];rfl
  rw[ep] at hC
  have s5:=S13.trans s4
  exact⟨_,rfl,_,rfl,_,rfl,_,rfl,_,rfl,_,rfl,_,rfl,n,ts,ks,_,kv,m,u,a,b,p,rfl,wk.same s5,ok,s5 _ _ ha,s5 _ _ hb,hu,hlow p (uat hp),λ H5 S5=>hC _ _ _ ⟨_,rfl⟩ S5 rfl⟩
 refine⟨L2,_,rfl,SqL.of (by rw[hH2,zbt (hly.trans (zak low)) hys]),?_⟩
 have q1:=q J4 (S13.trans S4)
 have e:placeB n ts ks m u=((uac low.length).map λ i=>ledB (dstF ts ks u (low.getD i 0)) (capO n (dstF ts (uac ts.length) u (low.getD i 0))) m).all id:=by
  have z:=congrArg (List.map λ v=>ledB (dstF ts ks u v) (capO n (dstF ts (uac ts.length) u v)) m) (L3.zbd low 0)
  rw[uci] at z
  have z':((uac low.length).map λ i=>ledB (dstF ts ks u (low.getD i 0)) (capO n (dstF ts (uac ts.length) u (low.getD i 0))) m)=low.map λ v=>ledB (dstF ts ks u v) (capO n (dstF ts (uac ts.length) u v)) m:=z
  rw[z',elow]
  unfold placeB
  rw[udf,ucq,ubo,ubo]
  have one:∀ v,v<n.toNat->(pf v=true↔(dstF ts (uac ts.length) u v).isNone=false):=λ v hv=>by
   rw[epf]
   show decide _=true↔_
   rw[decide_eq_true_iff,zkx ok hu hv]
   cases e:dstF ts (uac ts.length) u v with
   | none=>simp
   | some x =>
    have:=zk3 ok (za6 ts) hu hv e
    simp;exact this
  constructor
  ·intro h v hv
   obtain⟨h1,h2⟩:=uaz.mp hv
   have hv':=uaj.mp h1
   have h3:=h v h1
   rw[(one v hv').mp h2,Bool.false_or] at h3
   show ledB _ _ _=true
   rw[zkx ok hu hv'];exact h3
  ·intro h v hv
   have hv':=uaj.mp hv
   cases e:(dstF ts (uac ts.length) u v).isNone with
   | true=>rfl
   | false =>
    have:=h v (uaz.mpr ⟨hv,(one v hv').mpr e⟩)
    rw[Bool.false_or,← zkx ok hu hv'];exact this
 rw[e] at q1;exact q1
def spMoreR (K:uad):Sp:=λ vs H Q _=>∃ (n:Int)(ts:List Tie)(ks:List Nat)(wv kv:V)(m:Int)(t:Addr),vs=[wv,kv,.int m,.ref t]/\WK K H n (ones ts) ks wv kv/\WebOk n ts/\MpV H n ts ks t/\∀ H',Same H H'->Q (.bl (moreB n ts ks m)) H'
theorem zhf (T:Bi mg)(D:DefOk K mg "more_right" s_more_right ["web","keep","m","paper"])(O_need_plain:‹5› "need_plain" ["web"] (spNeedP K))(O_is_tuple_of:‹5› "is_tuple_of" ["thing","many"] spTupN)(O_place_right:‹5› "place_right" ["web","keep","m","u","heights","tree"] (spPlaceR K)):‹6› "more_right" ["web","keep","m","paper"] (spMoreR K):=by
 exists 5,sc_more_right
 obtain⟨n,ts,ks,wv,kv,m,t,rfl,wk,ok,⟨ps,ht,lps,hps⟩,q⟩:=h
 have few60:=ok.few
 have n1:=ok.n1
 have n24:=ok.n24
 obtain⟨g0,gg,ws,rfl,hg0,hg,hall,hlw⟩:=zax wk.1
 have lV:(ps.map V.ref).length=n.toNat:=by rw[uae,lps]
 refine⟨_,(zac (zba (zae O_need_plain hr rfl (zaa (pv 0) zab))) (zac (zbh (PW.pt (zcd (zbx (zbl (zae O_is_tuple_of hr rfl (zaa (pv 3) (zaa (zaq zaz (pv 0) zad (λ _ _=>rfl)) zab))))) (zbz (zbx (zbl (zah (zbp rfl) rfl T.z_all (by symm) (zaa (za7 (N:=["web","keep","m","paper"]) (sc0:=defScope s_more_right) (own:=["pair"]) (fr:=[]) (js:=[]) rfl (zbm (pv 3)) (λ _ _ _ _=>(zag (i:=0) (by show ua0 [("pair":Str)];decide +kernel) rfl (uap rfl))) (λ _ _ _ _=>zbc) (λ _ _ _ _=>(zae O_is_tuple_of hr rfl (zaa (pv 0) (zaa zad zab))))) zab))))))) (zaf (zan zck)) zay) (zaf (zan (zah (zbp rfl) rfl T.z_all (by symm) (zaa (za7 (N:=["web","keep","m","paper"]) (sc0:=defScope s_more_right) (own:=["u","pair"]) (fr:=["web","keep","m"]) (js:=[0,1,2]) rfl (zez true rfl T.z_enumerate (zaa (pv 3) zab)) (λ _ _ _ _=>(zb2 (n:=2) rfl (zai (zag (i:=0) (by show ua0 [("u":Str),("pair":Str),("web":Str),("keep":Str),("m":Str)];decide +kernel) rfl (uap rfl)) (zai (zag (i:=1) (by show ua0 [("u":Str),("pair":Str),("web":Str),("keep":Str),("m":Str)];decide +kernel) rfl (uap rfl)) za3)))) (λ _ _ _ _=>zbc) (λ _ _ _ _=>(zae O_place_right hr rfl (zaa (pv 2) (zaa (pv 3) (zaa (pv 4) (zaa (pv 0) (zaa (zaq zbf (pv 1) zad (λ _ _=>rfl)) (zaa (zaq zbf (pv 1) zad (λ _ _=>rfl)) zab))))))))) zab)))))),?_⟩
 refine⟨_,rfl,n,ts,_,rfl,wk.1,few60,λ J0 S0=>?_⟩
 refine⟨_,rfl,_,rfl,g0,_,_,_,rfl,rfl,SqT.of (S0 _ _ hg0),rfl,t,_,n.toNat,(show [V.ref t,.int n]=[.ref t,.int ((n.toNat:Nat):Int)] by rw[ua9 (by left)]),S0 _ _ ht,_,rfl,?_⟩
 rw[decide_eq_true lV]
 refine iteF ⟨_,rfl,t,rfl,⟨_,SqT.of (S0 _ _ ht)⟩,?_⟩
 have item:∀ {i:Nat}{x:V},(ps.map V.ref)[i]?=some x->∃ p,ps[i]?=some p/\x=.ref p:=λ {i x} h=>by
  rw[uak] at h
  obtain⟨p,h1,h2⟩:=ub0.mp h
  exact⟨p,h1,h2.symm⟩
 refine zbr (S0 _ _ ht) (λ σ'=>σ'.length=1) (λ i v _=>v=.bl ((λ _=>true) i)) (by left) (by rfl) (λ _ _ _ _ _ h=>h) (λ i x σ' H' hx s2 sg C hC=>?_) (λ L ys J1 hL S1 hH hly hys=>?_)
 ·match σ',sg with
  | [o],_ =>
   obtain⟨p,hp,rfl⟩:=item hx
   obtain⟨a,b,e1,_⟩:=hps i p hp
   exact⟨_,rfl,p,_,2,rfl,(S0.trans s2) _ _ e1,hC _ _ _ rfl (Same.refl _) rfl⟩
 refine⟨L,_,rfl,SqL.of (by rw[hH,zbt (hly.trans lV) hys]),_,rfl,?_⟩
 have e1:((uac n.toNat).map λ _=>true).all id=true:=by simp
 rw[e1]
 have S01:=S0.trans S1
 refine iteF ⟨_,rfl,t,rfl,⟨_,SqX.of (t:=true) (S01 _ _ ht)⟩,?_⟩
 refine zm6 (S01 _ _ ht) (λ σ'=>∃ o1 o2,σ'=[o1,o2,some (.ref g0),some kv,some (.int m)]) (λ i v _=>v=.bl (placeB n ts ks m i)) (by left) (by exact⟨none,none,rfl⟩) (λ _ _ _ _ _ h=>h) (λ i x U σ' H' hx s2 hU sg C hC=>?_) (λ L2 ys2 J2 hL2 S2 hH2 hly2 hys2=>?_)
 ·obtain⟨o1,o2,rfl⟩:=sg
  have hi:i<n.toNat:=by have:=(ual.mp hx).1;left
  obtain⟨p,hp,rfl⟩:=item hx
  have SU:=zam (H:=H') (o:=.tup [.int (i:Nat),.ref p]) hU
  have s3:=(S01.trans s2).trans SU
  obtain⟨a,b,e1,e2,e3⟩:=(hps i p hp).tk λ b us e=>s3 _ _ e
  refine⟨U,_,rfl,SqT.of zaj,rfl,_,_,rfl,_,_,rfl,rfl,?_⟩
  exact⟨_,rfl,_,rfl,_,rfl,_,rfl,_,rfl,p,_,_,_,rfl,rfl,SqT.of e1,rfl,_,rfl,p,_,_,_,rfl,rfl,SqT.of e1,rfl,n,ts,ks,_,kv,m,i,a,b,rfl,wk.same s3,ok,e2,e3,hi,λ H5 S5=>hC _ _ _ ⟨_,_,rfl⟩ (SU.trans S5) rfl⟩
 refine⟨L2,_,rfl,SqL.of (by rw[hH2,zbt (hly2.trans lV) hys2]),?_⟩
 have q1:=q J2 (S01.trans S2)
 have e:moreB n ts ks m=((uac n.toNat).map λ i=>placeB n ts ks m i).all id:=by
  rw[udf];rfl
 rw[e] at q1;exact q1
def spTTies (K:uad):Sp:=λ vs H Q _=>∃ (n:Int)(ts:List Tie)(wv:V)(t:Addr)(r:Nat),vs=[wv,.ref t]/\Is K H (webD n ts) wv/\WebOk n ts/\r<n.toNat/\H t=some (.tup ((trA n ts r).map oa))/\∀ l H',Same H H'->H l=none->H' l=some (.lst (natV (trT n ts r)))->Q (.ref l) H'
theorem ziw (T:Bi mg)(D:DefOk K mg "tree_ties" s_tree_ties ["web","tree"])(O_tie_between:‹1› "tie_between" ["web","a","b"] (spTB K)):‹2› "tree_ties" ["web","tree"] (spTTies K):=by
 exists 1,sc_tree_ties
 obtain⟨n,ts,wv,t,r,rfl,isw,ok,hrn,ht,q⟩:=h
 have few60:=ok.few
 have n24:=ok.n24
 obtain⟨cs,B⟩:=zc6 ok hrn
 have lA:=B.alen
 refine⟨_,(zaf (zan (za7 (N:=["web","tree"]) (sc0:=defScope s_tree_ties) (own:=["place","ahead"]) (fr:=["web"]) (js:=[0]) rfl (zez true rfl T.z_enumerate (zaa (pv 1) zab)) (λ _ _ _ _=>(zb2 (n:=2) rfl (zai (zag (i:=0) (by show ua0 [("place":Str),("ahead":Str),("web":Str)];decide +kernel) rfl (uap rfl)) (zai (zag (i:=1) (by show ua0 [("place":Str),("ahead":Str),("web":Str)];decide +kernel) rfl (uap rfl)) za3)))) (λ _ _ _ _=>(zcb (zap zcw (pv 1) zbn (nomark _)))) (λ _ _ _ _=>(zae O_tie_between hr rfl (zaa (pv 2) (zaa (pv 0) (zaa (pv 1) zab)))))))),?_⟩
 refine⟨_,rfl,t,rfl,⟨_,SqX.of (t:=true) ht⟩,?_⟩
 refine zjj (t:=true) ht (λ σ'=>∃ o1 o2,σ'=[o1,o2,some wv]) (λ v=>((Far.get (trA n ts r) v).bind λ u=>tbN ts v u).map λ k:Nat=>V.int (k:Int)) (by rw[uae];left) (by exact⟨none,none,rfl⟩) (λ i x U σ' H' hx s2 hU sg C L hC hL=>?_) (λ L J hL S hH=>?_)
 ·obtain⟨o1,o2,rfl⟩:=sg
  have hi:i<(trA n ts r).length:=by have:=(ual.mp hx).1;rw[uae] at this;exact this
  rw[zs6 hi] at hx
  cases hx
  refine⟨U,_,rfl,SqT.of zaj,rfl,_,_,rfl,_,_,rfl,rfl,?_⟩
  refine⟨_,rfl,?_⟩
  have SU:=zam (H:=H') (o:=.tup [.int (i:Nat),oa (Far.get (trA n ts r) i)]) hU
  cases e:Far.get (trA n ts r) i with
  | none =>
   exact⟨rfl,_,rfl,iteF (hL _ _ ⟨_,_,rfl⟩ (by rw[e] at SU;exact SU) (by rw[e];rfl))⟩
  | some u =>
   obtain⟨k,l,tb,_⟩:=zqh ok hrn e
   rw[e] at SU
   refine⟨rfl,_,rfl,iteT ⟨_,rfl,_,rfl,_,rfl,n,ts,wv,i,u,rfl,Is.same (s2.trans SU) _ isw,few60,λ H5 s5=>?_⟩⟩
   rw[tb]
   exact hC _ _ _ ⟨_,_,rfl⟩ (SU.trans s5) (by rw[e];show (tbN ts i u).map _=_;rw[tb];rfl)
 ·refine q L J S hL ?_
  rw[hH,uae,lA]
  unfold trT natV
  rw[uex]
def spPosts (K:uad):Sp:=λ vs H Q _=>∃ (n:Int)(ts:List Tie)(wv:V)(p:Addr)(rs:List Nat),vs=[wv,.ref p]/\Is K H (webD n ts) wv/\WebOk n ts/\H p=some (.tup (natV rs))/\rs.length<=24/\(∀ r∈rs,r<n.toNat)/\∀ t H',Same H H'->H' t=some (.tup (natV (ptK n ts rs)))->Q (.ref t) H'
theorem zhb (T:Bi mg)(D:DefOk K mg "post_trees" s_post_trees ["web","posts"])(O_tree_ties:‹3› "tree_ties" ["web","tree"] (spTTies K))(O_tree_from:‹3› "tree_from" ["web","keep","root"] (spTreeB K))(O_whole:‹3› "whole" ["web"] (spWhole K)):‹4› "post_trees" ["web","posts"] (spPosts K):=by
 exists 3,sc_post_trees
 obtain⟨n,ts,wv,p,rs,rfl,isw,ok,hp,lrs,hrs,q⟩:=h
 have few60:=ok.few
 have n24:=ok.n24
 refine⟨_,(zac (zat (i:=2) nd rfl (uap rfl) (zbb zab)) (zac (zbg PassesOwn.never rfl (zbm (pv 1)) (zag (i:=3) nd rfl (uap rfl)) (zaf (zba (zcu ua7 udb uda zgq (pv 2) (zaa (zae O_tree_ties hr rfl (zaa (pv 0) (zaa (zae O_tree_from hr rfl (zaa (pv 0) (zaa (zae O_whole hr rfl (zaa (pv 0) zab)) (zaa (pv 3) zab)))) zab))) zab))))) (zaf (zan (zar za2 rfl T.z_tuple (by symm) (zaa (zah (zc4 rfl) rfl T.z_sorted (by symm) (zaa (zar (zek rfl) rfl T.z_set (by symm) (zaa (pv 2) zab)) zab)) zab)))))),?_⟩
 refine⟨(by show 0<=1000;decide),λ lf J1 S1 f1 e1=>?_⟩
 have fl:∀ l:List Nat,(∀ r∈l,r<n.toNat)->l.length<=24->(l.flatMap (trT n ts)).length<=552:=λ l h hl=>by
  have h1:=zo8 (f:=trT n ts) (m:=23) l λ r hr=>ubr (znl ok (h r hr)) (by left)
  have h2:=Nat.mul_le_mul_right 23 hl
  left
 refine⟨_,rfl,p,rfl,⟨_,SqT.of (S1 _ _ hp)⟩,?_⟩
 refine zc2 (xs:=natV rs) (λ i σ J=>∃ y3:Option V,σ=[some wv,some (.ref p),some (.ref lf),y3]/\But lf J1 J/\J lf=some (.lst (natV ((rs.take i).flatMap (trT n ts))))) ⟨none,rfl,But.refl,e1⟩ (λ i σ J _ h=>?_) (λ i x σ J hx h=>?_) (λ σ J h=>?_)
 ·obtain⟨y3,rfl,bt,_⟩:=h
  exact SqT.of (bt _ _ (zal hp f1) (S1 _ _ hp))
 ·obtain⟨y3,rfl,bt,hf⟩:=h
  obtain⟨r,hr_,rfl⟩:=zdx hx
  have hrn:=hrs r (uat hr_)
  have sm:Same H J:=λ b o e=>bt _ _ (zal e f1) (S1 _ _ e)
  have tn:rs.take (i+1)=rs.take i++[r]:=by rw[udv,hr_];rfl
  refine⟨_,rfl,.inl ⟨rfl,_,SqL.of hf⟩,_,rfl,_,rfl,_,rfl,n,ts,wv,rfl,Is.same sm _ isw,few60,λ lk J2 S2 f2 e2=>?_⟩
  have is2:=Is.same (sm.trans S2) _ isw
  refine⟨_,rfl,n,ts,uac ts.length,wv,.ref lk,(r:Int),rfl,⟨is2,ok,zb4 e2,za6 ts⟩,by left,by left,λ t as cs J3 S3 e3 B=>?_⟩
  rw[ubf] at B
  have ea:=ztw ok hrn B
  subst ea
  refine⟨n,ts,wv,t,r,rfl,Is.same S3 _ is2,ok,hrn,e3,λ l4 J4 S4 f4 e4=>?_⟩
  have S24:=S2.trans (S3.trans S4)
  have l1:=fl (rs.take i) (λ r hr=>hrs r (List.mem_of_mem_take hr)) (by rw[ud5];left)
  have l2:=znl ok hrn
  refine⟨lf,l4,_,_,rfl,rfl,S24 _ _ hf,e4,by rw[zak,zak];left,λ J5 b5 e5=>⟨_,rfl,λ b o z e=>b5 _ _ z (S24 _ _ (bt _ _ z e)),?_⟩⟩
  rw[e5,tn,ucn,zdm]
  simp
 ·obtain⟨y3,rfl,bt,hf⟩:=h
  rw[zak,uc4] at hf
  have sm:Same H J:=λ b o e=>bt _ _ (zal e f1) (S1 _ _ e)
  have l1:=fl rs hrs lrs
  obtain⟨fu,efu⟩:∃ fu,fu=rs.flatMap (trT n ts):=⟨_,rfl⟩
  rw[← efu] at hf l1
  have mfu:∀ k,k∈ptK n ts rs↔k∈fu:=λ k=>by rw[zkj ok hrs,efu,uck]
  have few:=zqo (ns:=keepI fu) (m:=60) λ x hx=>by
   obtain⟨c,hc,rfl⟩:=ube.mp hx
   have:=(zep n ts rs).2 c ((mfu c).mpr hc)
   left
  rw[za4] at hf
  refine⟨_,rfl,lf,keepI fu,rfl,hf,by unfold keepI;rw[uae];left,λ q1 J2 S2 f2 e2=>⟨q1,_,_,rfl,e2,by left,λ ms m1 m2 m3 l3 J3 S3 f3 e3=>⟨l3,_,rfl,e3,λ t J4 S4 f4 e4=>?_⟩⟩⟩
  rw[zkg m1 m2 m3 (zep n ts rs).1 mfu] at e4
  exact q t J4 (sm.trans (S2.trans (S3.trans S4))) e4
theorem zon (f:Nat->Option Nat):∀ ks:List Nat,ks.filterMap (λ k=>(f k).map λ v:Nat=>V.int (v:Int))=natV (ks.filterMap f)
 | []=>rfl
 | k::r=>by
  rw[ucf,ucf,zon f r]
  cases f k <;> rfl
theorem zhc (T:Bi mg)(D:DefOk K mg "neighbours" s_neighbours ["web","keep","place"]):‹1› "neighbours" ["web","keep","place"] (spNeigh K):=by
 exists 0,sc_neighbours
 obtain⟨n,ts,ks,wv,kv,p,rfl,wk,q⟩:=h
 have ok:=wk.2.1
 have ko:=wk.2.2.2
 have few60:=ok.few
 have lks:=ko.len
 obtain⟨g0,g,ws,rfl,hg0,hg,hall,hlw⟩:=zax wk.1
 obtain⟨kp,rfl,hkp⟩:=zca wk.2.2.1
 have len:((keepI ks).map V.int).length=ks.length:=by unfold keepI;rw[uae,uae]
 refine⟨_,(zac (zb8 (i:=3) (N:=["web","keep","place","ties"]) (sc0:=defScope s_neighbours) (own:=["tie"]) (fr:=["web"]) (js:=[0]) rfl (zbm (pv 1)) (λ _ _ _ _=>(zag (i:=0) (by show ua0 [("tie":Str),("web":Str)];decide +kernel) rfl (uap rfl))) (λ _ _ _ _=>zbc) (λ _ _ _ _=>(zaq zbf (zaq zbf (pv 1) zad (λ _ _=>rfl)) (pv 0) (λ _ _=>rfl))) nd rfl (uap rfl)) (zaf (zan (za1 zko (za7 (N:=["web","keep","place","ties"]) (sc0:=defScope s_neighbours) (own:=["a","b","length"]) (fr:=["place"]) (js:=[2]) rfl (zb6 (pv 3)) (λ _ _ _ _=>(zb2 (n:=3) rfl (zai (zag (i:=0) (by show ua0 [("a":Str),("b":Str),("length":Str),("place":Str)];decide +kernel) rfl (uap rfl)) (zai (zag (i:=1) (by show ua0 [("a":Str),("b":Str),("length":Str),("place":Str)];decide +kernel) rfl (uap rfl)) (zai (zag (i:=2) (by show ua0 [("a":Str),("b":Str),("length":Str),("place":Str)];decide +kernel) rfl (uap rfl)) za3))))) (λ _ _ _ _=>(zcb (zap zce (pv 0) (pv 3) (nomark _)))) (λ _ _ _ _=>(pv 1))) (za7 (N:=["web","keep","place","ties"]) (sc0:=defScope s_neighbours) (own:=["a","b","length"]) (fr:=["place"]) (js:=[2]) rfl (zb6 (pv 3)) (λ _ _ _ _=>(zb2 (n:=3) rfl (zai (zag (i:=0) (by show ua0 [("a":Str),("b":Str),("length":Str),("place":Str)];decide +kernel) rfl (uap rfl)) (zai (zag (i:=1) (by show ua0 [("a":Str),("b":Str),("length":Str),("place":Str)];decide +kernel) rfl (uap rfl)) (zai (zag (i:=2) (by show ua0 [("a":Str),("b":Str),("length":Str),("place":Str)];decide +kernel) rfl (uap rfl)) za3))))) (λ _ _ _ _=>(zcb (zap zce (pv 1) (pv 3) (nomark _)))) (λ _ _ _ _=>(pv 0))))))),?_⟩
 refine⟨_,rfl,kp,rfl,⟨_,SqT.of hkp⟩,?_⟩
 refine zbr hkp (λ σ'=>∃ o,σ'=[o,some (.ref g0)]) (λ i v J=>∃ t k,ks[i]?=some k/\v=.ref t/\J t=some (.tup [.int (tieAt ts k).1,.int (tieAt ts k).2.1,.int (tieAt ts k).2.2])) (by left) (by exact⟨none,rfl⟩) (λ i v H H' tk ⟨t,k,h0,h1,h2⟩=>⟨t,k,h0,h1,tk _ _ h2⟩) (λ i x σ' H' hx s2 sg C hC=>?_) (λ L ys H2 hL s2 hH hly hys=>?_)
 ·obtain⟨o,rfl⟩:=sg
  obtain⟨k,hk,rfl⟩:=zeh hx
  have hkl:k<ts.length:=ko.2 k (uat hk)
  obtain⟨ta,hta,htie⟩:=zbu hall hkl
  exact⟨_,rfl,g0,_,_,_,rfl,rfl,SqT.of (s2 _ _ hg0),rfl,_,rfl,g,_,_,_,rfl,rfl,SqT.of (s2 _ _ hg),zaw (uaw _) hta,hC _ _ _ ⟨_,rfl⟩ (Same.refl _) ⟨ta,k,hk,rfl,s2 _ _ htie⟩⟩
 have half:∀ (J:Hp)(i:Nat)(x:V),Same H2 J->ys[i]?=some x->∃ t k,ks.getD i 0=k/\k<ts.length/\x=.ref t/\J t=some (.tup [.int (tieAt ts k).1,.int (tieAt ts k).2.1,.int (tieAt ts k).2.2]):=λ J i x S hx=>by
  obtain⟨t,k,h0,h1,h2⟩:=hys i x hx
  exact⟨t,k,by rw[uah,h0];rfl,ko.2 k (uat h0),h1,S _ _ h2⟩
 refine⟨_,rfl,L,rfl,⟨_,SqL.of hH⟩,?_⟩
 refine zd6 hH (λ σ'=>∃ o1 o2 o3,σ'=[o1,o2,o3,some (.int p)]) (λ i=>(nb1 ts p (ks.getD i 0)).map λ v:Nat=>V.int (v:Int)) (by left) (by exact⟨none,none,none,rfl⟩) (λ i x σ' H' hx s3 sg C M hC hM=>?_) (λ L3 H3 hL3 s3 hH3=>?_)
 ·obtain⟨o1,o2,o3,rfl⟩:=sg
  obtain⟨t,k,ek,hkl,rfl,ht⟩:=half H' i x s3 hx
  have tk:=ok.tie _ (zav hkl).2
  refine⟨t,_,rfl,SqT.of ht,rfl,_,_,rfl,_,_,rfl,_,_,rfl,rfl,?_⟩
  refine⟨_,rfl,_,rfl,rfl,_,rfl,?_⟩
  rw[ek] at hC hM
  by_cases z:(tieAt ts k).1=p
  ·rw[decide_eq_true (by rw[z])]
   refine iteT ⟨_,rfl,hC _ _ _ ⟨_,_,_,rfl⟩ (Same.refl _) ?_⟩
   unfold nb1;rw[if_pos z]
   show some (V.int _)=some (V.int _)
   rw[ua9 (by left)]
  ·rw[decide_eq_false λ e=>z (by injection e)]
   refine iteF (hM _ _ ⟨_,_,_,rfl⟩ (Same.refl _) ?_)
   unfold nb1;rw[if_neg z];rfl
 refine⟨_,rfl,L,rfl,⟨_,SqL.of (s3 _ _ hH)⟩,?_⟩
 refine zd6 (s3 _ _ hH) (λ σ'=>∃ o1 o2 o3,σ'=[o1,o2,o3,some (.int p)]) (λ i=>(nb2 ts p (ks.getD i 0)).map λ v:Nat=>V.int (v:Int)) (by left) (by exact⟨none,none,none,rfl⟩) (λ i x σ' H' hx s4 sg C M hC hM=>?_) (λ L4 H4 hL4 s4 hH4=>?_)
 ·obtain⟨o1,o2,o3,rfl⟩:=sg
  obtain⟨t,k,ek,hkl,rfl,ht⟩:=half H' i x (s3.trans s4) hx
  have tk:=ok.tie _ (zav hkl).2
  refine⟨t,_,rfl,SqT.of ht,rfl,_,_,rfl,_,_,rfl,_,_,rfl,rfl,?_⟩
  refine⟨_,rfl,_,rfl,rfl,_,rfl,?_⟩
  rw[ek] at hC hM
  by_cases z:(tieAt ts k).2.1=p
  ·rw[decide_eq_true (by rw[z])]
   refine iteT ⟨_,rfl,hC _ _ _ ⟨_,_,_,rfl⟩ (Same.refl _) ?_⟩
   unfold nb2;rw[if_pos z]
   show some (V.int _)=some (V.int _)
   rw[ua9 (by left)]
  ·rw[decide_eq_false λ e=>z (by injection e)]
   refine iteF (hM _ _ ⟨_,_,_,rfl⟩ (Same.refl _) ?_)
   unfold nb2;rw[if_neg z];rfl
 have ly:ys.length=ks.length:=by rw[hly,len]
 rw[ly,zit (λ k=>(nb1 ts p k).map λ v:Nat=>V.int (v:Int)) 0,zon] at hH3
 rw[ly,zit (λ k=>(nb2 ts p k).map λ v:Nat=>V.int (v:Int)) 0,zon] at hH4
 have l1:(natV (ks.filterMap (nb1 ts p))).length<=ks.length:=by unfold natV;rw[uae];exact udc _ _
 have l2:(natV (ks.filterMap (nb2 ts p))).length<=ks.length:=by unfold natV;rw[uae];exact udc _ _
 refine⟨L3,L4,_,_,rfl,rfl,s4 _ _ hH3,hH4,by left,λ pp J S fr e=>q pp J (s2.trans (s3.trans (s4.trans S))) ((s2.trans (s3.trans s4)).free fr) ?_⟩
 rw[e];unfold nbN natV;rw[ubc]
theorem zef (T:Bi mg)(D:DefOk K mg "is_rising" s_is_rising ["parts"]):‹1› "is_rising" ["parts"] spRisI:=by
 exists 0,sc_is_rising
 obtain⟨p,ns,rfl,hp,hn,q⟩:=h
 refine⟨_,(zaf (zan (zah (zbp rfl) rfl T.z_all (by symm) (zaa (za7 (N:=["parts"]) (sc0:=defScope s_is_rising) (own:=["low","high"]) (fr:=[]) (js:=[]) rfl (zn6 true true rfl T.z_zip (zaa (pv 0) (zaa (zg6 zki (pv 0) (zkl zad) zkm) zab))) (λ _ _ _ _=>(zb2 (n:=2) rfl (zai (zag (i:=0) (by show ua0 [("low":Str),("high":Str)];decide +kernel) rfl (uap rfl)) (zai (zag (i:=1) (by show ua0 [("low":Str),("high":Str)];decide +kernel) rfl (uap rfl)) za3)))) (λ _ _ _ _=>zbc) (λ _ _ _ _=>(za8 zdk (pv 0) (pv 1) (nomark _)))) zab)))),?_⟩
 refine⟨_,rfl,_,rfl,_,rfl,p,_,rfl,hp,λ p2 H1 S1 hp2=>?_⟩
 refine⟨p,p2,rfl,⟨_,SqT.of (S1 _ _ hp)⟩,⟨_,SqT.of hp2⟩,?_⟩
 have e2':H1 p2=some (.tup ((ns.drop 1).map V.int)):=by rw[hp2,cut1,List.map_drop]
 refine zmf (t1:=true) (t2:=true) (xs:=ns.map V.int) (zs:=(ns.drop 1).map V.int) (S1 _ _ hp) e2' (λ σ'=>σ'.length=2) (λ i v _=>v=.bl (decide (ns.getD i 0<(ns.drop 1).getD i 0))) (by rw[uae];left) (by rfl) (λ _ _ _ _ _ h=>h) (λ i x z U σ' H' hx hz s hU sg C hC=>?_) (λ L zs H' hL s hH hly hys=>?_)
 ·match σ',sg with
  | [o1,o2],_ =>
   rw[uak] at hx hz
   obtain⟨a,ha,rfl⟩:=ub0.mp hx
   obtain⟨b,hb,rfl⟩:=ub0.mp hz
   refine⟨U,_,rfl,SqT.of zaj,rfl,_,_,rfl,_,_,rfl,rfl,?_⟩
   refine⟨_,rfl,_,rfl,a,b,rfl,rfl,?_⟩
   refine hC _ _ _ rfl (zam hU) ?_
   have e1:ns.getD i 0=a:=by simp [uc6,ha]
   have e3:(ns.drop 1).getD i 0=b:=by simp only [uc6,hb];rfl
   rw[e1,e3]
 ·refine⟨L,_,rfl,SqL.of (by rw[hH,zbt hly hys]),?_⟩
  have q':=q H' (S1.trans s)
  unfold risI at q'
  rw[uae,uae]
  exact q'
def spPlace (K:uad):Sp:=λ vs H Q _=>∃ (n:Int)(ts:List Tie)(wv:V)(i:Int),vs=[wv,.int i]/\Is K H (webD n ts) wv/\∀ H',Same H H'->Q (.bl (decide (0<=i)&&decide (i<n))) H'
def placesB (n:Int)(ns:List Int):Bool:=ns.all λ i=>decide (0<=i)&&decide (i<n)
def spUnlike (K:uad):Sp:=λ vs H Q _=>∃ (n:Int)(ts:List Tie)(wv:V)(p:Addr)(ns:List Int),vs=[wv,.ref p]/\Is K H (webD n ts) wv/\IntT H p ns/\∀ H',Same H H'->Q (.bl (placesB n ns&&decide ns.Nodup)) H'
theorem zks (T:Bi mg)(D:DefOk K mg "is_place" s_is_place ["web","thing"])(O_is_whole:‹1› "is_whole" ["thing"] (spD1 K (λ _=>True) wholeB)):‹2› "is_place" ["web","thing"] (spPlace K):=by
 exists 1,sc_is_place
 obtain⟨n,ts,wv,i,rfl,isw,q⟩:=h
 obtain⟨g0,g,ws,rfl,hg0,_⟩:=zax isw
 refine⟨_,(zaf (zan (zcv (zae O_is_whole hr rfl (zaa (pv 1) zab)) (zcg (zlv zq1 zdk zad (pv 1) (zaq zaz (pv 0) zad (λ _ _=>rfl))))))),?_⟩
 refine⟨_,rfl,.int i,.int i,rfl,rfl,trivial,λ H1 s1=>⟨_,rfl,iteT ?_⟩⟩
 have q0:=q H1 s1
 refine⟨_,rfl,_,_,rfl,rfl,_,rfl,ite2 (λ c=>?_) (λ c=>?_)⟩
 ·rw[show decide (0<=i)=true from c,uhg] at q0
  exact⟨_,rfl,g0,_,_,_,rfl,rfl,SqT.of (s1 _ _ hg0),rfl,_,_,rfl,rfl,q0⟩
 ·rw[show decide (0<=i)=false from udd.mpr c,ug8] at q0
  exact q0
theorem zdd (T:Bi mg)(D:DefOk K mg "are_unlike_places" s_are_unlike_places ["web","thing"])(O_is_place:‹2› "is_place" ["web","thing"] (spPlace K)):‹3› "are_unlike_places" ["web","thing"] (spUnlike K):=by
 exists 2,sc_are_unlike_places
 obtain⟨n,ts,wv,p,ns,rfl,isw,it,q⟩:=h
 have lm:(ns.map V.int).length=ns.length:=uae _
 have l1000:=it.2
 refine⟨_,(zac (zbh (PW.pt (zcd (zbx (zbl (zah (zbs (n:="tuple")) rfl T.z_isinstance (by symm) (zaa (pv 1) (zaa (zb7 (v:=.ty "tuple") rfl T.z_tuple (by symm) rfl) zab))))) (zbz (zbx (zbl (zah (zbp rfl) rfl T.z_all (by symm) (zaa (za7 (N:=["web","thing"]) (sc0:=defScope s_are_unlike_places) (own:=["part"]) (fr:=["web"]) (js:=[0]) rfl (zbm (pv 1)) (λ _ _ _ _=>(zag (i:=0) (by show ua0 [("part":Str),("web":Str)];decide +kernel) rfl (uap rfl))) (λ _ _ _ _=>zbc) (λ _ _ _ _=>(zae O_is_place hr rfl (zaa (pv 1) (zaa (pv 0) zab))))) zab))))))) (zaf (zan zck)) zay) (zaf (zan (za8 zce (zah zfn rfl T.z_len (by symm) (zaa (zar (zpl rfl) rfl T.z_set (by symm) (zaa (pv 1) zab)) zab)) (zah zao rfl T.z_len (by symm) (zaa (pv 1) zab)) (nomark _))))),?_⟩
 refine⟨_,rfl,_,_,_,rfl,TyOf.tup it.1,rfl,_,rfl,iteF ?_⟩
 refine⟨_,rfl,p,rfl,⟨_,SqT.of it.1⟩,?_⟩
 refine zbr it.1 (λ σ'=>∃ o,σ'=[o,some wv]) (λ i v _=>v=.bl ((λ i=>decide (0<=ns.getD i 0)&&decide (ns.getD i 0<n)) i)) (by left) (by exact⟨none,rfl⟩) (λ _ _ _ _ _ h=>h) (λ i x σ' H' hx s2 sg C hC=>?_) (λ L ys H2 hL s2 hH hly hys=>?_)
 ·obtain⟨o,rfl⟩:=sg
  rw[uak] at hx
  obtain⟨j,hj,rfl⟩:=ub0.mp hx
  have ej:ns.getD i 0=j:=by rw[uah,hj];rfl
  refine⟨_,rfl,_,rfl,n,ts,wv,j,rfl,Is.same s2 _ isw,λ H5 s5=>hC _ _ _ ⟨_,rfl⟩ s5 ?_⟩
  show V.bl (decide (0<=j)&&decide (j<n))=V.bl (decide (0<=ns.getD i 0)&&decide (ns.getD i 0<n))
  rw[ej]
 ·refine⟨L,_,rfl,SqL.of (by rw[hH,zbt (hly.trans lm) hys]),_,rfl,?_⟩
  have eall:((uac ns.length).map λ i=>decide (0<=ns.getD i 0)&&decide (ns.getD i 0<n)).all id=placesB n ns:=by
   have z:=congrArg (List.map λ j:Int=>decide (0<=j)&&decide (j<n)) (L3.zbd ns 0)
   rw[uci] at z
   have z':((uac ns.length).map λ i=>decide (0<=ns.getD i 0)&&decide (ns.getD i 0<n))=ns.map λ j=>decide (0<=j)&&decide (j<n):=z
   rw[z',udf];rfl
  have q1:∀ {J:Hp},Same H2 J->Q (.bl (placesB n ns&&decide ns.Nodup)) J:=λ S=>q _ (s2.trans S)
  refine iteB2 (λ c=>?_) (λ c=>?_)
  ·rw[eall] at c
   refine⟨_,rfl,p,ns,rfl,s2 _ _ it.1,l1000,λ u J S f e=>?_⟩
   refine⟨u,_,_,rfl,e,_,rfl,p,_,rfl,.inr (SqT.of (S _ _ (s2 _ _ it.1))),rfl,?_⟩
   have q2:=q1 S
   rw[c,uhg] at q2
   have ed:decide (V.int ((HT.setN ns ns.length:Nat):Int)=V.int (((ns.map V.int).length:Nat):Int))=decide ns.Nodup:=by
    rw[lm]
    by_cases z:ns.Nodup
    ·rw[decide_eq_true z,(zed ns).mpr z,decide_eq_true rfl]
    ·rw[decide_eq_false z]
     exact decide_eq_false λ y=>z ((zed ns).mp (by injection y with y;left))
   rw[ed];exact q2
  ·rw[eall] at c
   have q2:=q1 (Same.refl _)
   rw[c,ug8] at q2
   exact q2
def nbW (n:Int)(ts:List Tie):Nat->List Nat:=nbS n (ones ts) (uac (ones ts).length)
def spShare:Sp:=λ vs H Q _=>∃ d:Int,vs=[.int d]/\1<=d/\∀ H',Same H H'->Q .non H'
theorem zhd (T:Bi mg)(D:DefOk K mg "need_share" s_need_share ["d"])(O_is_whole:‹1› "is_whole" ["thing"] (spD1 K (λ _=>True) wholeB)):‹2› "need_share" ["d"] spShare:=by
 exists 1,sc_need_share
 obtain⟨d,rfl,d1,q⟩:=h
 refine⟨_,(zaf (zbh (PW.pt (zcd (zbx (zbl (zae O_is_whole hr rfl (zaa (pv 0) zab)))) (zbz (zap zdk (pv 0) zad (nomark _))))) (zaf zls) zay)),?_⟩
 refine⟨_,rfl,.int d,.int d,rfl,rfl,trivial,λ H1 s1=>⟨_,rfl,iteF ⟨_,rfl,_,_,rfl,rfl,_,rfl,?_⟩⟩⟩
 rw[decide_eq_false (by left)]
 exact iteF (q H1 s1)
def spBare (K:uad):Sp:=λ vs H Q _=>∃ (n:Int)(ts:List Tie)(wv:V)(p:Nat)(g:Addr)(gs:List Nat),vs=[wv,.int (p:Int),.ref g]/\Is K H (webD n (ones ts)) wv/\WebOk n ts/\H g=some (.lst (natV gs))/\∀ l H',Same H H'->H l=none->H' l=some (.lst (natV (bareG (nbW n ts) gs p)))->Q (.ref l) H'
theorem zmn (l gs:List Nat):(uac l.length).filterMap (λ i=>if (!gs.contains (l.getD i 0))=true then some (V.int ((l.getD i 0:Nat):Int)) else none)=natV (l.filter λ q=>!gs.contains q):=zg3 (λ q=>!gs.contains q) l
theorem zr1 {n:Int}{ts:List Tie}{ks:List Nat}(ok:WebOk n ts)(ko:KeepOk ts.length ks){l:List Nat}{p:Nat}(hl:l.Nodup)(hm:∀ q,q∈l↔Adj ts ks p q):l.length<64:=by
 have:=zch (b:=uac n.toNat) hl λ q hq=>uaj.mpr (zp3 ok ko p q ((hm q).mp hq))
 rw[ua8] at this
 have:=ok.n24
 left
theorem zc9 (m:Nat):KeepOk m (uac m):=⟨ubk,λ k hk=>uaj.mp hk⟩
theorem zdv (T:Bi mg)(D:DefOk K mg "bare_neighbours" s_bare_neighbours ["web","place","guarded"])(O_neighbours:‹1› "neighbours" ["web","keep","place"] (spNeigh K))(O_whole:‹1› "whole" ["web"] (spWhole K)):‹2› "bare_neighbours" ["web","place","guarded"] (spBare K):=by
 exists 1,sc_bare_neighbours
 obtain⟨n,ts,wv,p,g,gs,rfl,isw,ok,hg,q⟩:=h
 have ok1:=zcj ok
 have few1:=ok1.few
 have ko1:=zc9 (ones ts).length
 refine⟨_,(zaf (zan (za7 (N:=["web","place","guarded"]) (sc0:=defScope s_bare_neighbours) (own:=["other"]) (fr:=["guarded"]) (js:=[2]) rfl (zb6 (zah zb5 rfl T.z_sorted (by symm) (zaa (zae O_neighbours hr rfl (zaa (pv 0) (zaa (zae O_whole hr rfl (zaa (pv 0) zab)) (zaa (pv 1) zab)))) zab))) (λ _ _ _ _=>(zag (i:=0) (by show ua0 [("other":Str),("guarded":Str)];decide +kernel) rfl (uap rfl))) (λ _ _ _ _=>(zcb (zap zby (pv 0) (pv 1) (by with_unfolding_all rfl)))) (λ _ _ _ _=>(pv 0))))),?_⟩
 refine⟨_,rfl,_,rfl,n,ones ts,wv,rfl,isw,few1,λ kp J1 S1 f1 e1=>?_⟩
 have isk:Is K J1 (keepD (uac (ones ts).length)) (.ref kp):=⟨kp,_,rfl,e1,by rw[za4];exact IsAll.ints _⟩
 refine⟨_,rfl,n,ones ts,uac (ones ts).length,wv,.ref kp,(p:Int),rfl,⟨Is.same S1 _ isw,ok1,isk,ko1⟩,λ l J2 S2 f2 e2=>?_⟩
 have ndl:=zop ok1 ko1 p
 rw[za4] at e2
 have lk:(keepI (nbN (ones ts) (uac (ones ts).length) (p:Int))).length=(nbN (ones ts) (uac (ones ts).length) (p:Int)).length:=uae _
 refine⟨l,_,rfl,SqL.of e2,by rw[lk];exact zr1 ok1 ko1 ndl (zoo ok1 ko1 p),λ ms pm pw l3 f3=>?_⟩
 have em:=zr3 ok1 ko1 ndl (zoo ok1 ko1 p) pm pw
 have lb:=zhn (n:=n) (ts:=ones ts) (ks:=uac (ones ts).length) p
 have n24:=ok.n24
 have e3:(upd J2 l3 (.lst (ms.map V.int))) l3=some (.lst (natV (nbW n ts p))):=by
  rw[zaj,em,za4];rfl
 have lw:(natV (nbW n ts p)).length=(nbW n ts p).length:=zak _
 have lb':(nbW n ts p).length<=n.toNat:=lb
 have S12:=S1.trans (S2.trans (zam (o:=.lst (ms.map V.int)) f3))
 refine⟨l3,rfl,⟨_,SqL.of e3⟩,?_⟩
 refine zd6 e3 (λ σ'=>∃ u,σ'=[u,some (.ref g)]) (λ i=>if (!gs.contains ((nbW n ts p).getD i 0))=true then some (V.int (((nbW n ts p).getD i 0:Nat):Int)) else none) (by left) (by exact⟨none,rfl⟩) (λ i x σ' H' hx s3 sg C M hC hM=>?_) (λ L3 H3 hL3 s3 hH3=>?_)
 ·obtain⟨u,rfl⟩:=sg
  obtain⟨k,hk,rfl⟩:=zdx hx
  have ek:(nbW n ts p).getD i 0=k:=by rw[uah,hk];rfl
  rw[ek] at hC hM
  refine⟨_,rfl,_,rfl,g,_,rfl,.inl (SqL.of (s3 _ _ (S12 _ _ hg))),rfl,zci gs,_,rfl,?_⟩
  show if (!inV (V.int (k:Int)) (natV gs))=true then _ else _
  rw[zc0 (uaw _),ubf]
  have ec:decide (k∈gs)=gs.contains k:=by rw[uca]
  rw[ec]
  exact ite2 (λ c=>⟨_,rfl,hC _ _ _ ⟨_,rfl⟩ (Same.refl _) (by rw[if_pos c])⟩) (λ c=>hM _ _ ⟨_,rfl⟩ (Same.refl _) (by rw[if_neg c]))
 ·rw[lw,zmn] at hH3
  exact q L3 H3 (S12.trans s3) (S12.free hL3) hH3
def pairD (e:Nat × List Nat):PyData:=.tuple [.int (e.1:Int),keepD e.2]
def grdD (l:List (Nat × List Nat)):PyData:=.tuple (l.map pairD)
theorem zdq (l:List (Nat × List Nat)):tupAll (l.map pairD)=true:=by
 induction l with
 | nil=>rfl
 | cons e l ih =>
  show (tupD (pairD e)&&tupAll (l.map pairD))=true
  rw[ih,uhh]
  show (true&&(tupD (keepD e.2)&&true))=true
  rw[zqe];rfl
theorem zja {n:Int}{ts:List Tie}(p q:Nat)(h:q∈nbW n ts p):q<n.toNat:=uaj.mp (uaz.mp h).1
theorem zo3 {n:Int}{ts:List Tie}{d:Int}{p:Nat}{s:GS}(g:Grd (nbW n ts) d p s):s.1.length<=p/\s.2.length<=n.toNat:=by
 constructor
 ·have:=zch (b:=uac p) g.up λ u hu=>by
   obtain⟨e,he,rfl⟩:=ube.mp hu
   exact uaj.mpr (g.low e he)
  rw[uae,ua8] at this
  exact this
 ·have:=zch (b:=uac n.toNat) g.nd λ u hu=>by
   rw[← g.all] at hu
   obtain⟨e,he,hu⟩:=uck.mp hu
   exact uaj.mpr (zja _ _ ((g.sub e he).subset hu))
  rw[ua8] at this
  exact this
def spGuards (K:uad):Sp:=λ vs H Q _=>∃ (n:Int)(ts:List Tie)(wv:V)(d:Int),vs=[wv,.int d]/\Is K H (webD n (ones ts)) wv/\WebOk n ts/\1<=d/\∀ v H',Same H H'->Is K H' (grdD (swG (nbW n ts) d n.toNat).1) v->Q v H'
theorem ziz (T:Bi mg)(D:DefOk K mg "guards_by" s_guards_by ["web","d"])(O_need_plain:‹2› "need_plain" ["web"] (spNeedP K))(O_need_share:‹2› "need_share" ["d"] spShare)(O_bare_neighbours:‹2› "bare_neighbours" ["web","place","guarded"] (spBare K)):‹3› "guards_by" ["web","d"] (spGuards K):=by
 exists 2,sc_guards_by
 obtain⟨n,ts,wv,d,rfl,isw,ok,d1,q⟩:=h
 have few60:=ok.few
 have n24:=ok.n24
 have n1:=ok.n1
 refine⟨_,(zac (zba (zae O_need_plain hr rfl (zaa (pv 0) zab))) (zac (zba (zae O_need_share hr rfl (zaa (pv 1) zab))) (zac (zat (i:=2) nd rfl (uap rfl) (zbb zab)) (zac (zat (i:=3) nd rfl (uap rfl) (zbb zab)) (zac (zbg PassesOwn.never rfl (zbe rfl T.z_range (zaa (zaq zaz (pv 0) zad (λ _ _=>rfl)) zab)) (zag (i:=4) nd rfl (uap rfl)) (zac (zat (i:=5) nd rfl (uap rfl) (zae O_bare_neighbours hr rfl (zaa (pv 0) (zaa (pv 4) (zaa (pv 3) zab))))) (zaf (zbh (zap zt9 (zah zao rfl T.z_len (by symm) (zaa (pv 5) zab)) (pv 1) (nomark _)) (zac (zba (zcu ua7 ubv ubu zbv (pv 2) (zaa (zbk (zaa (pv 4) (zaa (zar za2 rfl T.z_tuple (by symm) (zaa (pv 5) zab)) zab))) zab))) (zaf (zba (zcu ua7 udb uda zmz (pv 3) (zaa (pv 5) zab))))) zay)))) (zaf (zan (zar za2 rfl T.z_tuple (by symm) (zaa (pv 2) zab))))))))),?_⟩
 refine⟨_,rfl,n,ts,wv,rfl,isw,few60,λ H1 s1=>?_⟩
 refine⟨_,rfl,d,rfl,d1,λ H2 s2=>?_⟩
 refine⟨(by show 0<=1000;decide),λ lt J1 S1 f1 e1=>⟨(by show 0<=1000;decide),λ lg J2 S2 f2 e2=>?_⟩⟩
 have S02:Same H J2:=s1.trans (s2.trans (S1.trans S2))
 have flt:H lt=none:=(s1.trans s2).free f1
 have flg:H lg=none:=(s1.trans (s2.trans S1)).free f2
 have ntg:lt≠lg:=λ z=>by rw[← z,e1] at f2;cases f2
 obtain⟨g0,g,ws,rfl,hg0,hg,hall,hlw⟩:=zax isw
 refine⟨_,rfl,g0,_,_,_,rfl,rfl,SqT.of (S02 _ _ hg0),rfl,n,rfl,by left,by left,?_⟩
 refine zbo (n:=n.toNat) (λ i σ J=>∃ (y4 y5:Option V)(vs:List V),σ=[some (.ref g0),some (.int d),some (.ref lt),some (.ref lg),y4,y5]/\Same H J/\J lt=some (.lst vs)/\IsAll K J ((swG (nbW n ts) d i).1.map pairD) vs/\J lg=some (.lst (natV (swG (nbW n ts) d i).2))) ⟨none,none,[],rfl,S02,S2 _ _ e1,rfl,e2⟩ (λ i σ J hi h=>?_) (λ σ J h=>?_)
 ·obtain⟨y4,y5,vs,rfl,sm,hlt,hvs,hlg⟩:=h
  have gr:=znp (N:=nbW n ts) (d:=d) (λ p=>zdw p) i
  obtain⟨c1,c2⟩:=zo3 gr
  have lv:vs.length=(swG (nbW n ts) d i).1.length:=by rw[hvs.length,uae]
  rw[show (0+(i:Int))=(i:Int) by left]
  refine⟨_,rfl,_,rfl,_,rfl,n,ts,_,i,lg,_,rfl,Is.same sm _ isw,ok,hlg,λ b J3 S3 f3 e3=>?_⟩
  refine⟨_,rfl,b,_,rfl,.inl (SqL.of e3),_,rfl,_,_,rfl,rfl,_,rfl,?_⟩
  have lb:(bareG (nbW n ts) (swG (nbW n ts) d i).2 i).length<=n.toNat:=ubr (ucp _ _) (zhn i)
  rw[zak]
  refine ite2 (λ c=>?_) (λ c=>?_)
  ·have cc:d<=((bareG (nbW n ts) (swG (nbW n ts) d i).2 i).length:Int):=of_decide_eq_true c
   have es:swG (nbW n ts) d (i+1)=((swG (nbW n ts) d i).1++[(i,bareG (nbW n ts) (swG (nbW n ts) d i).2 i)],(swG (nbW n ts) d i).2++bareG (nbW n ts) (swG (nbW n ts) d i).2 i):=by
    rw[swG,stepG,if_pos cc]
   refine⟨_,rfl,.inl ⟨rfl,_,SqL.of (S3 _ _ hlt)⟩,_,rfl,_,rfl,b,_,rfl,e3,λ tp J4 S4 f4 e4=>⟨(by show 2<=1000;decide),λ tq J5 S5 f5 e5=>?_⟩⟩
   have S35:=S3.trans (S4.trans S5)
   refine⟨lt,_,_,rfl,rfl,S35 _ _ hlt,by left,λ J6 b6 e6=>?_⟩
   have e3':=S5 _ _ (S4 _ _ e3)
   have bne:b≠lt:=λ z=>by rw[z,hlt] at f3;cases f3
   refine⟨_,rfl,.inl ⟨rfl,_,SqL.of (b6 _ _ (Ne.symm ntg) (S35 _ _ hlg))⟩,_,rfl,lg,b,_,_,rfl,rfl,b6 _ _ (Ne.symm ntg) (S35 _ _ hlg),b6 _ _ bne e3',by rw[zak,zak];left,λ J7 b7 e7=>?_⟩
   rw[es]
   have hnew:Is K J5 (pairD (i,bareG (nbW n ts) (swG (nbW n ts) d i).2 i)) (.ref tq):=by
    refine⟨tq,_,rfl,e5,_,_,rfl,rfl,_,_,rfl,⟨tp,_,rfl,S5 _ _ e4,?_⟩,rfl⟩
    rw[za4];exact IsAll.ints _
   have hvs5:=IsAll.snoc hnew (IsAll.same S35 _ hvs)
   have tu:tupAll ((swG (nbW n ts) d i).1.map pairD++[pairD (i,bareG (nbW n ts) (swG (nbW n ts) d i).2 i)])=true:=by
    have:=zdq ((swG (nbW n ts) d i).1++[(i,bareG (nbW n ts) (swG (nbW n ts) d i).2 i)])
    rw[ubc] at this;exact this
   have hvs6:=IsAll.but b6 (S35 _ _ hlt) _ tu hvs5
   have hvs7:=IsAll.but b7 (b6 _ _ (Ne.symm ntg) (S35 _ _ hlg)) _ tu hvs6
   refine⟨_,_,vs++[.ref tq],rfl,λ a o e=>b7 _ _ (zal e flg) (b6 _ _ (zal e flt) (S35 _ _ (sm _ _ e))),b7 _ _ ntg e6,?_,?_⟩
   ·show IsAll K J7 (((swG (nbW n ts) d i).1++[(i,bareG (nbW n ts) (swG (nbW n ts) d i).2 i)]).map pairD) _
    rw[ubc];exact hvs7
   ·rw[e7];unfold natV;rw[ubc]
  ·have cc:¬ d<=((bareG (nbW n ts) (swG (nbW n ts) d i).2 i).length:Int):=λ z=>c (decide_eq_true z)
   have es:swG (nbW n ts) d (i+1)=swG (nbW n ts) d i:=by rw[swG,stepG,if_neg cc]
   rw[es]
   exact⟨_,_,vs,rfl,sm.trans S3,S3 _ _ hlt,IsAll.same S3 _ hvs,S3 _ _ hlg⟩
 ·obtain⟨y4,y5,vs,rfl,sm,hlt,hvs,hlg⟩:=h
  exact⟨_,rfl,lt,_,rfl,hlt,λ tt J8 S8 f8 e8=>q _ J8 (sm.trans S8) ⟨tt,_,rfl,e8,IsAll.same S8 _ hvs⟩⟩
def spAllG (K:uad):Sp:=λ vs H Q _=>∃ (v:V)(l:List (Nat × List Nat)),vs=[v]/\Is K H (grdD l) v/\(l.flatMap (·.2)).length<=1000/\∀ b H',Same H H'->H b=none->H' b=some (.lst (natV (l.flatMap (·.2))))->Q (.ref b) H'
theorem zb9 {K:uad}{H:Hp}{e:Nat × List Nat}{v:V}(h:Is K H (pairD e) v):∃ t tp:Addr,v=.ref t/\H t=some (.tup [.int (e.1:Int),.ref tp])/\H tp=some (.tup (natV e.2)):=by
 obtain⟨t,vs,rfl,ht,v1,r1,rfl,h1,v2,r2,rfl,⟨tp,zs,rfl,htp,hzs⟩,h3⟩:=h
 obtain rfl:v1=.int (e.1:Int):=h1
 obtain rfl:r2=[]:=h3
 rw[IsAll.of_ints hzs,← za4] at htp
 exact⟨t,tp,rfl,ht,htp⟩
theorem zf2 (T:Bi mg)(D:DefOk K mg "all_guarded" s_all_guarded ["told"]):‹1› "all_guarded" ["told"] (spAllG K):=by
 exists 0,sc_all_guarded
 obtain⟨v,l,rfl,isv,few,q⟩:=h
 obtain⟨t,xs,rfl,ht,hxs⟩:=isv
 have lx:xs.length=l.length:=by rw[hxs.length,uae]
 refine⟨_,(zac (zat (i:=1) nd rfl (uap rfl) (zbb zab)) (zac (zbg PassesOwn.never rfl (zbm (pv 0)) (zb3 (n:=2) rfl (zai (zag (i:=2) nd rfl (uap rfl)) (zai (zag (i:=3) nd rfl (uap rfl)) za3))) (zaf (zba (zcu ua7 udb uda zgp (pv 1) (zaa (pv 3) zab))))) (zaf (zan (pv 1))))),?_⟩
 refine⟨(by show 0<=1000;decide),λ b J1 S1 f1 e1=>?_⟩
 refine⟨_,rfl,t,rfl,⟨_,SqT.of (S1 _ _ ht)⟩,?_⟩
 refine zk1 (t:=true) (xs:=xs) (λ i σ J=>∃ (y2 y3:Option V),σ=[some (.ref t),some (.ref b),y2,y3]/\Same H J/\J b=some (.lst (natV ((l.take i).flatMap (·.2))))) ⟨none,none,rfl,S1,e1⟩ (λ i σ J _ h=>?_) (λ i x σ J hx h=>?_) (λ σ J h=>?_)
 ·obtain⟨y2,y3,rfl,sm,_⟩:=h
  exact SqX.of (t:=true) (sm _ _ ht)
 ·obtain⟨y2,y3,rfl,sm,hb⟩:=h
  have hi:i<l.length:=by have:=(ual.mp hx).1;left
  have el:l[i]?=some l[i]:=uaf hi
  obtain⟨x',ex,ix⟩:=hxs.at_ (show (l.map pairD)[i]?=some (pairD l[i]) by rw[uak,el];rfl)
  rw[hx] at ex
  cases ex
  obtain⟨tt,tp,rfl,htt,htp⟩:=zb9 ix
  refine⟨tt,_,rfl,SqT.of (sm _ _ htt),rfl,_,_,rfl,_,_,rfl,rfl,?_⟩
  have tn:(l.take (i+1)).flatMap (·.2)=(l.take i).flatMap (·.2)++l[i].2:=by
   rw[udv,el,ucn];simp
  have le:((l.take (i+1)).flatMap (·.2)).length<=(l.flatMap (·.2)).length:=by
   conv=>rhs;rw[← ueh (i+1) l,ucn,uaq]
   left
  rw[tn,uaq] at le
  refine⟨_,rfl,.inl ⟨rfl,_,SqL.of hb⟩,_,rfl,b,tp,_,_,rfl,rfl,hb,sm _ _ htp,by rw[zak,zak];left,λ J2 b2 e2=>?_⟩
  refine⟨_,_,rfl,λ a o e=>b2 _ _ (zal e f1) (sm _ _ e),?_⟩
  rw[e2,tn];unfold natV;rw[ubc]
 ·obtain⟨y2,y3,rfl,sm,hb⟩:=h
  rw[lx,uc4] at hb
  exact⟨_,rfl,q b J sm f1 hb⟩
def GoodE (n:Int)(ts:List Tie)(d:Int)(e:Nat × List Nat):Prop:=e.1<n.toNat/\e.2.Sublist (nbW n ts e.1)/\d<=(e.2.length:Int)
def spGR (K:uad):Sp:=λ vs H Q _=>∃ (n:Int)(ts:List Tie)(wv:V)(d:Int)(e:Nat × List Nat)(v:V),vs=[wv,.int d,v]/\Is K H (webD n (ones ts)) wv/\WebOk n ts/\Is K H (pairD e) v/\GoodE n ts d e/\∀ H',Same H H'->Q (.bl true) H'
theorem zf1 (T:Bi mg)(D:DefOk K mg "guard_right" s_guard_right ["web","d","pair"])(O_is_tuple_of:‹3› "is_tuple_of" ["thing","many"] spTupN)(O_is_place:‹3› "is_place" ["web","thing"] (spPlace K))(O_are_unlike_places:‹3› "are_unlike_places" ["web","thing"] (spUnlike K))(O_is_rising:‹3› "is_rising" ["parts"] spRisI)(O_tie_between:‹3› "tie_between" ["web","a","b"] (spTB K)):‹4› "guard_right" ["web","d","pair"] (spGR K):=by
 exists 3,sc_guard_right
 obtain⟨n,ts,wv,d,e,v,rfl,isw,ok,isv,⟨ge,gs,gd⟩,q⟩:=h
 have ok1:=zcj ok
 have few1:=ok1.few
 have n24:=ok.n24
 have ko1:=zc9 (ones ts).length
 have up:=ugm gs (zr2 e.1)
 have lt:∀ q∈e.2,q<n.toNat:=λ q hq=>zja _ _ (gs.subset hq)
 have le:e.2.length<=n.toNat:=ubr gs.length_le (zhn e.1)
 obtain⟨t,tp,rfl,ht,htp⟩:=zb9 isv
 have lk:(keepI e.2).length=e.2.length:=uae _
 have iT:IntT H tp (keepI e.2):=⟨by rw[htp,za4],by left⟩
 have eu:(placesB n (keepI e.2)&&decide (keepI e.2).Nodup)=true:=by
  rw[ubd]
  constructor
  ·unfold placesB
   refine ubo.mpr λ i hi=>?_
   obtain⟨k,hk,rfl⟩:=ube.mp hi
   have:=lt k hk
   rw[decide_eq_true (uaw _),decide_eq_true (by left)];rfl
  ·refine decide_eq_true ?_
   unfold keepI
   rw[ua0,ubx]
   exact up.imp λ h=>by left
 refine⟨_,(zac (zbh (PW.pt (zcd (zbx (zbl (zae O_is_tuple_of hr rfl (zaa (pv 2) (zaa zad zab))))) (zcd (zbx (zbl (zae O_is_place hr rfl (zaa (pv 0) (zaa (zaq zaz (pv 2) zad (λ _ _=>rfl)) zab))))) (zbz (zbx (zbl (zae O_are_unlike_places hr rfl (zaa (pv 0) (zaa (zaq zaz (pv 2) zad (λ _ _=>rfl)) zab))))))))) (zaf (zan zck)) zay) (zac (zb0 (pv 2) (zb3 (n:=2) rfl (zai (zag (i:=3) nd rfl (ufy rfl)) (zai (zag (i:=4) nd rfl (uap rfl)) za3)))) (zac (zbh (PW.pt (zcd (zbx (zbl (zae O_is_rising hr rfl (zaa (pv 4) zab)))) (zbz (zap zdk (zah zao rfl T.z_len (by symm) (zaa (pv 4) zab)) (pv 1) (nomark _))))) (zaf (zan zck)) zay) (zaf (zan (zah (zbp rfl) rfl T.z_all (by symm) (zaa (za7 (N:=["web","d","pair","guard","places"]) (sc0:=defScope s_guard_right) (own:=["place"]) (fr:=["web","guard"]) (js:=[0,3]) rfl (zbm (pv 4)) (λ _ _ _ _=>(zag (i:=0) (by show ua0 [("place":Str),("web":Str),("guard":Str)];decide +kernel) rfl (uap rfl))) (λ _ _ _ _=>zbc) (λ _ _ _ _=>(za8 zcw (zae O_tie_between hr rfl (zaa (pv 1) (zaa (pv 2) (zaa (pv 0) zab)))) zbn (nomark _)))) zab))))))),?_⟩
 refine⟨_,rfl,t,_,2,rfl,ht,?_⟩
 refine⟨_,rfl,iteF ?_⟩
 refine⟨_,rfl,_,rfl,t,_,_,_,rfl,rfl,SqT.of ht,rfl,n,ones ts,wv,_,rfl,isw,λ J1 S1=>?_⟩
 rw[decide_eq_true (uaw e.1),decide_eq_true (show (e.1:Int)<n by left)]
 refine⟨_,rfl,iteF ?_⟩
 refine⟨_,rfl,_,rfl,t,_,_,_,rfl,rfl,SqT.of (S1 _ _ ht),rfl,n,ones ts,wv,tp,_,rfl,Is.same S1 _ isw,iT.same S1,λ J2 S2=>?_⟩
 rw[eu]
 refine⟨_,rfl,iteF ?_⟩
 have S12:=S1.trans S2
 refine⟨_,rfl,t,_,rfl,SqT.of (S12 _ _ ht),rfl,_,_,rfl,_,_,rfl,rfl,?_⟩
 refine⟨_,rfl,tp,keepI e.2,rfl,(iT.same S12).1,by left,λ J3 S3=>?_⟩
 rw[zny up]
 have S13:=S12.trans S3
 refine⟨_,rfl,iteF ⟨_,rfl,tp,_,rfl,.inr (SqT.of (S13 _ _ htp)),_,rfl,_,_,rfl,rfl,_,rfl,?_⟩⟩
 rw[zak,decide_eq_false (by left)]
 refine iteF ?_
 refine⟨_,rfl,tp,rfl,⟨_,SqT.of (S13 _ _ htp)⟩,?_⟩
 refine zbr (S13 _ _ htp) (λ σ'=>∃ o,σ'=[o,some wv,some (.int (e.1:Int))]) (λ _ x _=>x=.bl true) (by rw[zak];left) (by exact⟨none,rfl⟩) (λ _ _ _ _ _ h=>h) (λ i x σ' H' hx s2 sg C hC=>?_) (λ L ys H2 hL s2 hH hly hys=>?_)
 ·obtain⟨o,rfl⟩:=sg
  obtain⟨k,hk,rfl⟩:=zdx hx
  refine⟨_,rfl,_,rfl,_,rfl,n,ones ts,wv,e.1,k,rfl,Is.same (S13.trans s2) _ isw,few1,λ J4 S4=>?_⟩
  have ad:=(zhm ok1 ko1).mp (gs.subset (uat hk))
  obtain⟨k',hk',m⟩:=ad
  obtain⟨j,ej,_⟩:=zno ok1 ko1 (arcs_mem.mpr ⟨k',hk',m⟩)
  rw[ej]
  exact⟨rfl,hC _ _ _ ⟨_,rfl⟩ S4 rfl⟩
 ·refine⟨L,_,rfl,SqL.of (by rw[hH,zbt (f:=λ _=>true) hly hys]),?_⟩
  have e:((uac (natV e.2).length).map λ _=>true).all id=true:=by simp
  rw[e]
  exact q H2 (S13.trans s2)
def spGsR (K:uad):Sp:=λ vs H Q _=>∃ (n:Int)(ts:List Tie)(wv:V)(d:Int)(l:List (Nat × List Nat))(v:V),vs=[wv,.int d,v]/\Is K H (webD n (ones ts)) wv/\WebOk n ts/\1<=d/\Is K H (grdD l) v/\(∀ e∈l,GoodE n ts d e)/\(l.map (·.1)).Nodup/\(l.flatMap (·.2)).Nodup/\l.length<=24/\(l.flatMap (·.2)).length<=24/\(∀ p,p<n.toNat->((bareG (nbW n ts) (l.flatMap (·.2)) p).length:Int)<d)/\∀ H',Same H H'->Q (.bl true) H'
theorem zi8 {l:List Nat}(h:l.Nodup):HT.setN (keepI l) (keepI l).length=(keepI l).length:=by
 refine (zed _).mpr ?_
 unfold keepI
 rw[ua0,ubx]
 exact List.Pairwise.imp (λ h z=>h (by left)) h
theorem ze6 (T:Bi mg)(D:DefOk K mg "guards_right" s_guards_right ["web","d","told"])(O_need_plain:‹4› "need_plain" ["web"] (spNeedP K))(O_need_share:‹4› "need_share" ["d"] spShare)(O_guard_right:‹4› "guard_right" ["web","d","pair"] (spGR K))(O_all_guarded:‹4› "all_guarded" ["told"] (spAllG K))(O_bare_neighbours:‹4› "bare_neighbours" ["web","place","guarded"] (spBare K)):‹5› "guards_right" ["web","d","told"] (spGsR K):=by
 exists 4,sc_guards_right
 obtain⟨n,ts,wv,d,l,v,rfl,isw,ok,d1,isv,good,nd1,nd2,l24,g24,low,q⟩:=h
 have few60:=ok.few
 have n24:=ok.n24
 have n1:=ok.n1
 refine⟨_,(zac (zba (zae O_need_plain hr rfl (zaa (pv 0) zab))) (zac (zba (zae O_need_share hr rfl (zaa (pv 1) zab))) (zac (zbh (PW.pt (zcd (zbx (zbl (zah (zbs (n:="tuple")) rfl T.z_isinstance (by symm) (zaa (pv 2) (zaa (zb7 (v:=.ty "tuple") rfl T.z_tuple (by symm) rfl) zab))))) (zbz (zbx (zbl (zah (zbp rfl) rfl T.z_all (by symm) (zaa (za7 (N:=["web","d","told","guards","guarded"]) (sc0:=defScope s_guards_right) (own:=["pair"]) (fr:=["web","d"]) (js:=[0,1]) rfl (zbm (pv 2)) (λ _ _ _ _=>(zag (i:=0) (by show ua0 [("pair":Str),("web":Str),("d":Str)];decide +kernel) rfl (uap rfl))) (λ _ _ _ _=>zbc) (λ _ _ _ _=>(zae O_guard_right hr rfl (zaa (pv 1) (zaa (pv 2) (zaa (pv 0) zab)))))) zab))))))) (zaf (zan zck)) zay) (zac (zb8 (i:=3) (N:=["web","d","told","guards","guarded"]) (sc0:=defScope s_guards_right) (own:=["guard","places"]) (fr:=[]) (js:=[]) rfl (zbm (pv 2)) (λ _ _ _ _=>(zb2 (n:=2) rfl (zai (zag (i:=0) (by show ua0 [("guard":Str),("places":Str)];decide +kernel) rfl (uap rfl)) (zai (zag (i:=1) (by show ua0 [("guard":Str),("places":Str)];decide +kernel) rfl (uap rfl)) za3)))) (λ _ _ _ _=>zbc) (λ _ _ _ _=>(pv 0)) nd rfl (uap rfl)) (zac (zat (i:=4) nd rfl (ufy rfl) (zae O_all_guarded hr rfl (zaa (pv 2) zab))) (zac (zbh (PW.pt (zcd (zap zdk (zah zfn rfl T.z_len (by symm) (zaa (zar (zgu rfl) rfl T.z_set (by symm) (zaa (pv 3) zab)) zab)) (zah zao rfl T.z_len (by symm) (zaa (pv 3) zab)) (nomark _)) (zbz (zap zdk (zah zfn rfl T.z_len (by symm) (zaa (zar (zgu rfl) rfl T.z_set (by symm) (zaa (pv 4) zab)) zab)) (zah zao rfl T.z_len (by symm) (zaa (pv 4) zab)) (nomark _))))) (zaf (zan zck)) zay) (zaf (zan (zah (zbp rfl) rfl T.z_all (by symm) (zaa (za7 (N:=["web","d","told","guards","guarded"]) (sc0:=defScope s_guards_right) (own:=["place"]) (fr:=["web","guarded","d"]) (js:=[0,4,1]) rfl (zbe rfl T.z_range (zaa (zaq zaz (pv 0) zad (λ _ _=>rfl)) zab)) (λ _ _ _ _=>(zag (i:=0) (by show ua0 [("place":Str),("web":Str),("guarded":Str),("d":Str)];decide +kernel) rfl (uap rfl))) (λ _ _ _ _=>zbc) (λ _ _ _ _=>(za8 zdk (zah zea rfl T.z_len (by symm) (zaa (zae O_bare_neighbours hr rfl (zaa (pv 1) (zaa (pv 0) (zaa (pv 2) zab)))) zab)) (pv 3) (nomark _)))) zab)))))))))),?_⟩
 refine⟨_,rfl,n,ts,wv,rfl,isw,few60,λ H1 s1=>?_⟩
 refine⟨_,rfl,d,rfl,d1,λ H2 s2=>?_⟩
 have s12:=s1.trans s2
 obtain⟨t,xs,rfl,ht,hxs⟩:=isv
 have lx:xs.length=l.length:=by rw[hxs.length,uae]
 have ht2:=s12 _ _ ht
 refine⟨_,rfl,_,_,_,rfl,TyOf.tup ht2,rfl,_,rfl,iteF ?_⟩
 refine⟨_,rfl,t,rfl,⟨_,SqT.of ht2⟩,?_⟩
 have elt:∀ {i:Nat}{x:V},xs[i]?=some x->∃ e,l[i]?=some e/\Is K H (pairD e) x:=λ {i x} hx=>by
  have hi:i<l.length:=by have:=(ual.mp hx).1;left
  have el:l[i]?=some l[i]:=uaf hi
  obtain⟨x',ex,ix⟩:=hxs.at_ (show (l.map pairD)[i]?=some (pairD l[i]) by rw[uak,el];rfl)
  rw[hx] at ex
  cases ex
  exact⟨_,el,ix⟩
 refine zbr ht2 (λ σ'=>∃ o,σ'=[o,some wv,some (.int d)]) (λ _ x _=>x=.bl true) (by left) (by exact⟨none,rfl⟩) (λ _ _ _ _ _ h=>h) (λ i x σ' H' hx s3 sg C hC=>?_) (λ L ys H3 hL s3 hH hly hys=>?_)
 ·obtain⟨o,rfl⟩:=sg
  obtain⟨e,he,ix⟩:=elt hx
  have S:=s12.trans s3
  exact⟨_,rfl,_,rfl,_,rfl,n,ts,wv,d,e,x,rfl,Is.same S _ isw,ok,Is.same S _ ix,good e (uat he),λ J S4=>hC _ _ _ ⟨_,rfl⟩ S4 rfl⟩
 refine⟨L,_,rfl,SqL.of (by rw[hH,zbt (f:=λ _=>true) hly hys]),?_⟩
 have e:((uac xs.length).map λ _=>true).all id=true:=by simp
 rw[e]
 have S3:=s12.trans s3
 refine⟨_,rfl,iteF ?_⟩
 refine⟨_,rfl,t,rfl,⟨_,SqT.of (S3 _ _ ht)⟩,?_⟩
 refine zbr (S3 _ _ ht) (λ σ'=>∃ o1 o2,σ'=[o1,o2]) (λ i x _=>x=.int ((l.map (·.1)).getD i 0:Nat)) (by left) (by exact⟨none,none,rfl⟩) (λ _ _ _ _ _ h=>h) (λ i x σ' H' hx s4 sg C hC=>?_) (λ L4 ys4 H4 hL4 s4 hH4 hly4 hys4=>?_)
 ·obtain⟨o1,o2,rfl⟩:=sg
  obtain⟨e,he,ix⟩:=elt hx
  obtain⟨tt,tp,rfl,htt,htp⟩:=zb9 ix
  refine⟨tt,_,rfl,SqT.of ((S3.trans s4) _ _ htt),rfl,_,_,rfl,_,_,rfl,rfl,?_⟩
  refine⟨_,rfl,hC _ _ _ ⟨_,_,rfl⟩ (Same.refl _) ?_⟩
  rw[uah,uak,he];rfl
 have S4:=S3.trans s4
 have e4:H4 L4=some (.lst ((keepI (l.map (·.1))).map V.int)):=by
  rw[hH4]
  refine congrArg (λ z=>some (HO.lst z)) (ucx λ i=>?_)
  unfold keepI
  rw[uak,uak]
  by_cases hi:i<l.length
  ·have ey:ys4[i]?=some ys4[i]:=uaf (by left)
   rw[ey,hys4 i _ ey,uah,uaf (show i<(l.map (·.1)).length by rw[uae];exact hi)];rfl
  ·rw[uba (by left),uba (by rw[uae];left)];rfl
 refine⟨_,rfl,.ref t,l,rfl,⟨t,xs,rfl,S4 _ _ ht,IsAll.same S4 _ hxs⟩,by left,λ b H5 S5 f5 e5=>?_⟩
 have e4':=S5 _ _ e4
 have S05:=S4.trans S5
 have lk1:(keepI (l.map (·.1))).length=l.length:=by unfold keepI;rw[uae,uae]
 have lk2:(keepI (l.flatMap (·.2))).length=(l.flatMap (·.2)).length:=uae _
 have lv:∀ m:List Int,(m.map V.int).length=m.length:=λ m=>uae _
 refine⟨_,rfl,L4,_,rfl,e4',by left,λ q1 H6 S6 f6 e6=>?_⟩
 refine⟨q1,_,_,rfl,e6,_,rfl,L4,_,rfl,.inl (SqL.of (S6 _ _ e4')),_,_,rfl,rfl,_,rfl,?_⟩
 rw[zi8 nd1,lv,decide_eq_false (uf8 _)]
 refine iteF ?_
 have e5':H6 b=some (.lst ((keepI (l.flatMap (·.2))).map V.int)):=by rw[S6 _ _ e5,za4]
 refine⟨_,rfl,b,_,rfl,e5',by left,λ q2 H7 S7 f7 e7=>?_⟩
 refine⟨q2,_,_,rfl,e7,_,rfl,b,_,rfl,.inl (SqL.of (S7 _ _ e5')),_,_,rfl,rfl,_,rfl,?_⟩
 rw[zi8 nd2,lv,decide_eq_false (uf8 _)]
 refine iteF ?_
 have S07:=S05.trans (S6.trans S7)
 obtain⟨g0,g,ws,rfl,hg0,hg,hall,hlw⟩:=zax isw
 refine⟨_,rfl,g0,_,_,_,rfl,rfl,SqT.of (S07 _ _ hg0),rfl,n,rfl,by left,by left,?_⟩
 refine zm5 (n:=n.toNat) (lo:=0) (λ σ'=>∃ o,σ'=[o,some (.ref g0),some (.ref b),some (.int d)]) (λ _ x _=>x=.bl true) (by left) (by exact⟨none,rfl⟩) (λ _ _ _ _ _ h=>h) (λ i σ' H' hi s8 sg C hC=>?_) (λ L8 ys8 H8 hL8 s8 hH8 hly8 hys8=>?_)
 ·obtain⟨o,rfl⟩:=sg
  rw[show (0+(i:Int))=(i:Int) by left]
  refine⟨_,rfl,_,rfl,_,rfl,n,ts,_,i,b,_,rfl,Is.same (S07.trans s8) _ isw,ok,s8 _ _ (S7 _ _ (S6 _ _ e5)),λ lb J S9 f9 e9=>?_⟩
  refine⟨lb,_,rfl,.inl (SqL.of e9),_,rfl,_,_,rfl,rfl,hC _ _ _ ⟨_,rfl⟩ S9 ?_⟩
  rw[zak]
  exact congrArg V.bl (decide_eq_true (low i hi))
 ·refine⟨L8,_,rfl,SqL.of (by rw[hH8,zbt (f:=λ _=>true) hly8 hys8]),?_⟩
  have e:((uac n.toNat).map λ _=>true).all id=true:=by simp
  rw[e]
  exact q H8 (S07.trans s8)
def bareB (ts:List Tie)(G:List Nat)(k:Nat):Bool:=!decide ((tieAt ts k).1.toNat∈G)||!decide ((tieAt ts k).2.1.toNat∈G)
def btK (ts:List Tie)(G:List Nat):List Nat:=(uac ts.length).filter (bareB ts G)
def spBT (K:uad):Sp:=λ vs H Q _=>∃ (n:Int)(ts:List Tie)(wv gv:V)(l:List (Nat × List Nat)),vs=[wv,gv]/\Is K H (webD n ts) wv/\WebOk n ts/\Is K H (grdD l) gv/\(l.flatMap (·.2)).length<=1000/\∀ b H',Same H H'->H b=none->H' b=some (.lst (natV (btK ts (l.flatMap (·.2)))))->Q (.ref b) H'
theorem zi2 (T:Bi mg)(D:DefOk K mg "bare_ties" s_bare_ties ["web","told"])(O_all_guarded:‹1› "all_guarded" ["told"] (spAllG K))(O_whole:‹1› "whole" ["web"] (spWhole K)):‹2› "bare_ties" ["web","told"] (spBT K):=by
 exists 1,sc_bare_ties
 obtain⟨n,ts,wv,gv,l,rfl,isw,ok,isg,few,q⟩:=h
 have few60:=ok.few
 refine⟨_,(zac (zat (i:=2) nd rfl (ufy rfl) (zae O_all_guarded hr rfl (zaa (pv 1) zab))) (zaf (zan (za7 (N:=["web","told","guarded"]) (sc0:=defScope s_bare_ties) (own:=["tie"]) (fr:=["web","guarded"]) (js:=[0,2]) rfl (zbm (zae O_whole hr rfl (zaa (pv 0) zab))) (λ _ _ _ _=>(zag (i:=0) (by show ua0 [("tie":Str),("web":Str),("guarded":Str)];decide +kernel) rfl (uap rfl))) (λ _ _ _ _=>(zcb (PW.pt (zcd (zap zby (zaq zbf (zaq zbf (zaq zbf (pv 1) zad (λ _ _=>rfl)) (pv 0) (λ _ _=>rfl)) zad (λ _ _=>rfl)) (pv 2) (by with_unfolding_all rfl)) (zbz (zap zby (zaq zbf (zaq zbf (zaq zbf (pv 1) zad (λ _ _=>rfl)) (pv 0) (λ _ _=>rfl)) zad (λ _ _=>rfl)) (pv 2) (by with_unfolding_all rfl))))))) (λ _ _ _ _=>(pv 0)))))),?_⟩
 refine⟨_,rfl,gv,l,rfl,isg,few,λ lg J1 S1 f1 e1=>?_⟩
 obtain⟨G,eG⟩:∃ G,G=l.flatMap (·.2):=⟨_,rfl⟩
 rw[← eG] at e1 q
 refine⟨_,rfl,n,ts,wv,rfl,Is.same S1 _ isw,few60,λ lk J2 S2 f2 e2=>?_⟩
 obtain⟨g0,gg,ws,rfl,hg0,hg,hall,hlw⟩:=zax isw
 have S12:=S1.trans S2
 refine⟨lk,rfl,⟨_,SqT.of e2⟩,?_⟩
 refine zjh e2 (λ σ'=>∃ o,σ'=[o,some (.ref g0),some (.ref lg)]) (λ i=>if bareB ts G ((uac ts.length).getD i 0)=true then some (V.int (((uac ts.length).getD i 0:Nat):Int)) else none) (by rw[zak,ua8];left) (by exact⟨none,rfl⟩) (λ i x σ' H' hx s2 sg C L hC hL=>?_) (λ L J4 hL S4 hH=>?_)
 ·obtain⟨o,rfl⟩:=sg
  obtain⟨k,hk,rfl⟩:=zdx hx
  have ek:(uac ts.length).getD i 0=k:=by rw[uah,hk];rfl
  have hkl:k<ts.length:=uaj.mp (uat hk)
  rw[ek] at hC hL
  obtain⟨ta,hta,htie⟩:=zbu hall hkl
  have tk:=ok.tie _ (zav hkl).2
  have s3:=S12.trans s2
  have hlg:=s2 _ _ (S2 _ _ e1)
  refine⟨_,rfl,g0,_,_,_,rfl,rfl,SqT.of (s3 _ _ hg0),rfl,_,rfl,gg,_,_,_,rfl,rfl,SqT.of (s3 _ _ hg),zaw (uaw _) hta,ta,_,_,_,rfl,rfl,SqT.of (s3 _ _ htie),rfl,_,rfl,lg,_,rfl,.inl (SqL.of hlg),rfl,zci _,_,rfl,?_⟩
  show if (!inV (V.int (tieAt ts k).1) (natV G))=true then _ else _
  rw[zc0 tk.1]
  cases d1:decide ((tieAt ts k).1.toNat∈G) with
  | false=>exact iteT ⟨_,rfl,hC _ _ _ ⟨_,rfl⟩ (Same.refl _) (by rw[if_pos (by unfold bareB;rw[d1];rfl)])⟩
  | true =>
   refine iteF ⟨_,rfl,g0,_,_,_,rfl,rfl,SqT.of (s3 _ _ hg0),rfl,_,rfl,gg,_,_,_,rfl,rfl,SqT.of (s3 _ _ hg),zaw (uaw _) hta,ta,_,_,_,rfl,rfl,SqT.of (s3 _ _ htie),rfl,_,rfl,lg,_,rfl,.inl (SqL.of hlg),rfl,zci _,_,rfl,?_⟩
   show if (!inV (V.int (tieAt ts k).2.1) (natV G))=true then _ else _
   rw[zc0 (show 0<=(tieAt ts k).2.1 by left)]
   cases d2:decide ((tieAt ts k).2.1.toNat∈G) with
   | false=>exact iteT ⟨_,rfl,hC _ _ _ ⟨_,rfl⟩ (Same.refl _) (by rw[if_pos (by unfold bareB;rw[d1,d2];rfl)])⟩
   | true=>exact iteF (hL _ _ ⟨_,rfl⟩ (Same.refl _) (by rw[if_neg (by unfold bareB;rw[d1,d2];decide)]))
 rw[zak,zg3 (bareB ts G) (uac ts.length)] at hH
 exact q L J4 (S12.trans S4) (S12.free hL) hH
def GdsW (n:Int)(ts:List Tie)(l:List (Nat × List Nat)):Prop:=l.length<=24/\(l.flatMap (·.2)).length<=24/\∀ e∈l,e.1<n.toNat/\∀ p∈e.2,p<n.toNat/\∃ k,tbN ts e.1 p=some k/\k<ts.length
theorem zl8 {α β:Type}{f:α->List β}{m:Nat}:∀ (l:List α),(∀ x∈l,(f x).length<=m)->(l.flatMap f).length<=l.length*m
 | [],_=>ubj _
 | x::r,h=>by
  have h1:=h x uan
  have h2:=zl8 r λ y hy=>h y (uam _ hy)
  rw[ugd,uaq,ua5,Nat.succ_mul]
  left
theorem zsi {n:Int}{T:List Tie}{ks G:List Nat}(ok:WebOk n T)(hb:∀ k,k<T.length->bareB T G k=true->k∈ks){u v:Nat}{x:Int}(h:Far.Walk (arcs T (uac T.length)) u v x):Far.Walk (arcs T ks) u v x\/∃ p i j,p∈G/\Far.Walk (arcs T (uac T.length)) u p i/\Far.Walk (arcs T (uac T.length)) p v j/\i+j=x:=by
 induction h with
 | nil=>exact .inl Far.Walk.nil
 | @snoc w v l x hw m ih =>
  rcases ih with z | ⟨p,i,j,hp,h1,h2,e⟩
  ·obtain⟨k,hk,mk⟩:=arcs_mem.mp m
   have hkl:=uaj.mp hk
   by_cases c:k∈ks
   ·exact .inl (z.snoc (arcs_mem.mpr ⟨k,c,mk⟩))
   ·refine .inr ⟨w,x,l,?_,hw,?_,rfl⟩
    ·have nb:¬ bareB T G k=true:=λ y=>c (hb k hkl y)
     unfold bareB at nb
     rw[uc0,ue6,ue6,decide_eq_false_iff_not,decide_eq_false_iff_not] at nb
     have g1:(tieAt T k).1.toNat∈G:=Classical.byContradiction λ y=>nb (.inl y)
     have g2:(tieAt T k).2.1.toNat∈G:=Classical.byContradiction λ y=>nb (.inr y)
     rcases arcs2_mem.mp mk with e1 | e1
     ·rw[show w=(tieAt T k).1.toNat from congrArg Prod.fst e1];exact g1
     ·rw[show w=(tieAt T k).2.1.toNat from congrArg Prod.fst e1];exact g2
    ·have:=(Far.Walk.nil (A:=arcs T (uac T.length)) (s:=w)).snoc m
     rw[ue1] at this;exact this
  ·exact .inr ⟨p,i,j+l,hp,h1,h2.snoc m,by left⟩
theorem zqb {n:Int}{ts:List Tie}{ks:List Nat}{l:List (Nat × List Nat)}(ok:WebOk n ts)(ko:KeepOk ts.length ks)(gw:GdsW n (ones ts) l)(hb:∀ k,k<(ones ts).length->bareB (ones ts) (l.flatMap (·.2)) k=true->k∈ks)(hp:∀ k∈ptK n (ones ts) (l.map (·.1)),k∈ks){u v:Nat}{x:Int}(h:dstF ts (uac ts.length) u v=some x):∃ y,dstF ts ks u v=some y/\y<=x+2:=by
 have oko:=zcj ok
 have w0:=(zcp (za6 ts) u v).1 x h
 have w1:Far.Walk (arcs (ones ts) (uac (ones ts).length)) u v x:=by rw[za0];exact w0
 rcases zsi oko hb w1 with z | ⟨p,i,j,pG,h1,h2,e⟩
 ·obtain⟨y,ey,le⟩:=(zcp ko u v).2 x z
  exact⟨y,ey,by left⟩
 ·obtain⟨e',he',pe⟩:=uck.mp pG
  obtain⟨gn,gp⟩:=gw.2.2 e' he'
  obtain⟨pn,k,ek,hk⟩:=gp p pe
  have rs:∀ r∈l.map (·.1),r<n.toNat:=λ r hr=>by
   obtain⟨e2,h2,rfl⟩:=ube.mp hr
   exact (gw.2.2 e2 h2).1
  have gr:e'.1∈l.map (·.1):=ube.mpr ⟨e',he',rfl⟩
  have sy:=zj8 oko (za6 (ones ts))
    -- the guard's own tie
  obtain⟨m1,m2⟩:=zsq ek
  have len1:(tieAt (ones ts) k).2.2=1:=by rw[za0] at hk;rw[zg9 hk]
  have arc:(e'.1,p,1)∈arcs (ones ts) (uac (ones ts).length):=by
   refine arcs_mem.mpr ⟨k,uaj.mpr hk,arcs2_mem.mpr ?_⟩
   by_cases c:p<e'.1
   ·refine .inr ?_
    rw[show (tieAt (ones ts) k).2.1.toNat=e'.1 by left,show (tieAt (ones ts) k).1.toNat=p by left,len1]
   ·refine .inl ?_
    rw[show (tieAt (ones ts) k).1.toNat=e'.1 by left,show (tieAt (ones ts) k).2.1.toNat=p by left,len1]
  have gp1:Far.Walk (arcs (ones ts) (uac (ones ts).length)) e'.1 p 1:=by
   have:=(Far.Walk.nil (A:=arcs (ones ts) (uac (ones ts).length)) (s:=e'.1)).snoc arc
   rw[ue1] at this;exact this
  have far:∀ {b:Nat}{y:Int},Far.Walk (arcs (ones ts) (uac (ones ts).length)) e'.1 b y->∃ z,z<=y/\Far.Walk (arcs (ones ts) ks) e'.1 b z:=λ {b y} hw=>by
   obtain⟨o,ho⟩:=Far.zdb (zmp oko (zep n (ones ts) (l.map (·.1)))) e'.1 b
   have d:=zqv oko rs gr ho
   obtain⟨z,ez,le⟩:=d.2 y hw
   refine⟨z,le,?_⟩
   have wz:=ho.1 z ez
   have sub:∀ {b:Nat}{y:Int},Far.Walk (arcs (ones ts) (ptK n (ones ts) (l.map (·.1)))) e'.1 b y->Far.Walk (arcs (ones ts) ks) e'.1 b y:=λ {b y} hw=>by
    induction hw with
    | nil=>exact Far.Walk.nil
    | snoc _ m ih =>
     obtain⟨k2,hk2,mk⟩:=arcs_mem.mp m
     exact ih.snoc (arcs_mem.mpr ⟨k2,hp k2 hk2,mk⟩)
   exact sub wz
  obtain⟨z1,l1,k1⟩:=far (gp1.trans (h1.back sy))
  obtain⟨z2,l2,k2⟩:=far (gp1.trans h2)
  have ko':KeepOk (ones ts).length ks:=by rw[za0];exact ko
  obtain⟨y,ey,le⟩:=(zcp ko u v).2 _ ((k1.back (zj8 oko ko')).trans k2)
  exact⟨y,ey,by left⟩
theorem zq4 {n:Int}{ts:List Tie}{ks:List Nat}{l:List (Nat × List Nat)}(ok:WebOk n ts)(ko:KeepOk ts.length ks)(gw:GdsW n (ones ts) l)(hb:∀ k,k<(ones ts).length->bareB (ones ts) (l.flatMap (·.2)) k=true->k∈ks)(hp:∀ k∈ptK n (ones ts) (l.map (·.1)),k∈ks):moreB n ts ks 2=true/\∃ t',lmF (dstF ts (uac ts.length)) (dstF ts ks) (allP n.toNat 0) (0,0,0)=some t'/\t'.1<=2:=by
 have h:∃ t',lmF (dstF ts (uac ts.length)) (dstF ts ks) (allP n.toNat 0) (0,0,0)=some t'/\t'.1<=2:=(zfb (m:=2) (t:=(0,0,0)) (by decide)).mpr λ u v _ x hx=>by
  obtain⟨y,ey,le⟩:=zqb ok ko gw hb hp hx
  exact⟨y,ey,by left⟩
 exact⟨(zq5 ko (by decide)).mpr h,h⟩
theorem zsp {n:Int}{T:List Tie}(ok:WebOk n T){k:Nat}(hk:k<T.length):tbN T (tieAt T k).1.toNat (tieAt T k).2.1.toNat=some k:=by
 have m:((tieAt T k).1.toNat,(tieAt T k).2.1.toNat,(tieAt T k).2.2)∈arcs T (uac T.length):=arcs_mem.mpr ⟨k,uaj.mpr hk,arcs2_mem.mpr (.inl rfl)⟩
 obtain⟨j,ej,hj,_⟩:=zno ok (za6 T) m
 rw[ej,zru ok hj hk (uec ej) (zoy ok hk)]
theorem znb {n:Int}{ts:List Tie}{d:Int}{G:List Nat}(ok:WebOk n ts)(d1:1<=d)(h:∀ y,y<n.toNat->((bareG (nbW n ts) G y).length:Int)<d):((btK (ones ts) G).length:Int)<=n*(d-1):=by
 have oko:=zcj ok
 have n1:=ok.n1
 have sub:∀ k∈btK (ones ts) G,k∈(uac n.toNat).flatMap λ y=>(bareG (nbW n ts) G y).map λ x=>(tbN (ones ts) y x).getD 0:=λ k hk=>by
  unfold btK at hk
  obtain⟨hkr,hb⟩:=uaz.mp hk
  have hkl:=uaj.mp hkr
  have tk:=oko.tie _ (zav hkl).2
  have ts1:=zsp oko hkl
  have adj:Adj (ones ts) (uac (ones ts).length) (tieAt (ones ts) k).1.toNat (tieAt (ones ts) k).2.1.toNat:=⟨k,hkr,a2_iff.mpr (.inl ⟨rfl,rfl⟩)⟩
  have adj':Adj (ones ts) (uac (ones ts).length) (tieAt (ones ts) k).2.1.toNat (tieAt (ones ts) k).1.toNat:=⟨k,hkr,a2_iff.mpr (.inr ⟨rfl,rfl⟩)⟩
  unfold bareB at hb
  rw[uc0,ue6,ue6,decide_eq_false_iff_not,decide_eq_false_iff_not] at hb
  have inb:∀ {x y:Nat},Adj (ones ts) (uac (ones ts).length) y x->x∉G->y<n.toNat->tbN (ones ts) y x=some k->k∈(uac n.toNat).flatMap λ y=>(bareG (nbW n ts) G y).map λ x=>(tbN (ones ts) y x).getD 0:=λ {x y} ad hx hy et=>by
   refine uck.mpr ⟨y,uaj.mpr hy,ube.mpr ⟨x,?_,by rw[et];rfl⟩⟩
   unfold bareG
   refine uaz.mpr ⟨(zhm oko (za6 (ones ts))).mpr ad,?_⟩
   simpa using hx
  rcases hb with z | z
  ·refine inb adj' z (by left) ?_
   rw[zex];exact ts1
  ·exact inb adj z (by left) ts1
 have nd:(btK (ones ts) G).Nodup:=uek.sublist uco
 have h1:=zch nd sub
 have h2:=zl8 (f:=λ y=>(bareG (nbW n ts) G y).map λ x=>(tbN (ones ts) y x).getD 0) (m:=(d-1).toNat) (uac n.toNat) λ y hy=>by
  rw[uae]
  have:=h y (uaj.mp hy)
  left
 rw[ua8] at h2
 have e:((n.toNat*(d-1).toNat:Nat):Int)=n*(d-1):=by rw[Int.natCast_mul,ua9 (by left),ua9 (by left)]
 left
def spBesF (K:uad):Sp:=λ vs H Q _=>∃ n ts ks wv kp,∃ tp:Bool,vs=[wv,.ref kp]/\WKE K H n ts ks wv kp tp/\∀ l as H',Same H H'->H l=none->Bes H' l as (λ j=>natV (rowsN ts ks j))->as.length=n.toNat->(∀ a∈as,H a=none)->Q (.ref l) H'
theorem ze8 (T:Bi mg)(D:DefOk K mg "_law_beside" s__law_beside ["web","keep"]):‹1› "_law_beside" ["web","keep"] (spBesF K):=by
 exists 0,sc__law_beside
 obtain⟨n,ts,ks,wv,kp,tp,rfl,wk,q⟩:=h
 have ok:=wk.2.1
 have ko:=wk.2.2.2
 have n1:=ok.n1
 have n24:=ok.n24
 have few60:=ok.few
 have kl:=ko.len
 obtain⟨g0,g,ws,rfl,hg0,hg,hall,hlw⟩:=zax wk.1
 have hkp:=wk.2.2.1
 have lenK:(natV ks).length=ks.length:=by unfold natV;rw[uae]
 have N24:n.toNat<=24:=by left
 refine⟨_,(zac (zb8 (i:=2) (N:=["web","keep","found","number","a","b","length"]) (sc0:=defScope s__law_beside) (own:=["place"]) (fr:=[]) (js:=[]) rfl (zbe rfl T.z_range (zaa (zaq zaz (pv 0) zad (λ _ _=>rfl)) zab)) (λ _ _ _ _=>(zag (i:=0) (by show ua0 [("place":Str)];decide +kernel) rfl (uap rfl))) (λ _ _ _ _=>zbc) (λ _ _ _ _=>(zbb zab)) nd rfl (uap rfl)) (zac (zbg PassesOwn.never rfl (zt2 (pv 1)) (zag (i:=3) nd rfl (uap rfl)) (zac (zb0 (zaq zaz (zaq zaz (pv 0) zad (λ _ _=>rfl)) (pv 3) (λ _ _=>rfl)) (zb3 (n:=3) rfl (zai (zag (i:=4) nd rfl (uap rfl)) (zai (zag (i:=5) nd rfl (uap rfl)) (zai (zag (i:=6) nd rfl (uap rfl)) za3))))) (zac (zba (zcu ua7 ubv ubu zbv (zaq zau (pv 2) (pv 4) (λ _ _=>rfl)) (zaa (pv 5) zab))) (zaf (zba (zcu ua7 ubv ubu zbv (zaq zau (pv 2) (pv 5) (λ _ _=>rfl)) (zaa (pv 4) zab))))))) (zaf (zan (pv 2))))),?_⟩
 refine⟨_,rfl,g0,_,_,_,rfl,rfl,SqT.of hg0,rfl,n,rfl,by left,by left,?_⟩
 refine zk6 (n:=n.toNat) (lo:=0) (λ σ'=>σ'.length=1) (by left) (by rfl) (λ i σ' H' hi s6 sg C hC=>?_) (λ L as J1 hL S1 hH las ndA noA new=>?_)
 ·match σ',sg with
  | [o],_=>exact⟨(by show 0<=1000;decide),λ l H5 s5 f5 e5=>hC _ _ _ rfl s5 f5 e5⟩
 have B1:=Bes.new hH ndA noA λ a ha=>(new a ha).2
 have fas:∀ a∈as,H a=none:=λ a ha=>(new a ha).1
 refine⟨_,rfl,kp,rfl,tp,⟨_,SqX.of (t:=tp) (S1 _ _ hkp)⟩,?_⟩
 refine zk1 (t:=tp) (xs:=natV ks) (λ i σ J=>∃ (y3 y4 y5 y6:Option V),σ=[some (.ref g0),some (.ref kp),some (.ref L),y3,y4,y5,y6]/\Same H J/\Bes J L as λ j=>natV (rowsN ts (ks.take i) j)) ⟨none,none,none,none,rfl,S1,B1⟩ (λ i σ J _ h=>?_) (λ i x σ J hx h=>?_) (λ σ J h=>?_)
 ·obtain⟨y3,y4,y5,y6,rfl,sm,_⟩:=h
  exact SqX.of (t:=tp) (sm _ _ hkp)
 ·obtain⟨y3,y4,y5,y6,rfl,sm,B⟩:=h
  obtain⟨k,hk,rfl⟩:=zdx hx
  have hkm:=uat hk
  have hkl:k<ts.length:=ko.2 k hkm
  obtain⟨ta,hta,htie⟩:=zbu hall hkl
  obtain⟨e1,e2,e3,e4⟩:=zul ok hkl
  have tn:ks.take (i+1)=ks.take i++[k]:=by rw[udv,hk];rfl
  have lr:∀ j,(rowsN ts (ks.take i) j).length<=60:=λ j=>by
   unfold rowsN
   have h1:=udc (nbr ts j) (ks.take i)
   have h2:=List.length_take_le i ks
   have h3:(ks.take i).length<=ks.length:=by rw[ud5];left
   left
  have lrV:∀ j,(natV (rowsN ts (ks.take i) j)).length<=60:=λ j=>by unfold natV;rw[uae];exact lr j
  refine⟨_,rfl,g0,_,_,_,rfl,rfl,SqT.of (sm _ _ hg0),rfl,_,rfl,g,_,_,_,rfl,rfl,SqT.of (sm _ _ hg),zaw (uaw _) hta,?_⟩
  refine⟨ta,_,rfl,SqT.of (sm _ _ htie),rfl,_,_,rfl,_,_,rfl,_,_,rfl,rfl,?_⟩
  rw[← e3,← e4]
  obtain⟨a1,i1,v1,r1⟩:=B.ix (i:=(en ts k).1) (by left)
  refine⟨_,rfl,_,rfl,L,_,_,.ref a1,rfl,rfl,SqL.of B.top,zaw (uaw _) v1,.inl ⟨rfl,_,SqL.of r1⟩,_,rfl,?_⟩
  refine⟨a1,_,_,rfl,rfl,r1,by have:=lrV (en ts k).1;left,λ J3 b3 h3=>?_⟩
  have ma1:=uat i1
  have B3:=B.put i1 b3 h3
  have sm3:Same H J3:=λ b o e=>b3 _ _ (zal e (fas a1 ma1)) (sm _ _ e)
  have nab:(en ts k).2≠(en ts k).1:=by left
  obtain⟨a2,i2,v2,r2⟩:=B3.ix (i:=(en ts k).2) (by left)
  rw[if_neg nab] at r2
  refine⟨_,rfl,_,rfl,L,_,_,.ref a2,rfl,rfl,SqL.of B3.top,zaw (uaw _) v2,.inl ⟨rfl,_,SqL.of r2⟩,_,rfl,?_⟩
  refine⟨a2,_,_,rfl,rfl,r2,by have:=lrV (en ts k).2;left,λ J5 b5 h5=>?_⟩
  have ma2:=uat i2
  have B5:=B3.put i2 b5 h5
  have ef:(λ j=>if j=(en ts k).2 then natV (rowsN ts (ks.take i) (en ts k).2)++[V.int (((en ts k).1:Nat):Int)] else if j=(en ts k).1 then natV (rowsN ts (ks.take i) (en ts k).1)++[V.int (((en ts k).2:Nat):Int)] else natV (rowsN ts (ks.take i) j))=λ j=>natV (rowsN ts (ks.take (i+1)) j):=funext λ j=>by
   rw[tn,znw]
   unfold nbr
   by_cases z:j=(en ts k).2
   ·subst z
    rw[if_pos rfl,if_neg (Ne.symm nab),if_pos rfl]
    unfold natV;rw[ubc];rfl
   ·rw[if_neg z]
    by_cases y:j=(en ts k).1
    ·subst y
     rw[if_pos rfl,if_pos rfl]
     unfold natV;rw[ubc];rfl
    ·rw[if_neg y,if_neg (Ne.symm y),if_neg (Ne.symm z)]
     unfold natV;rw[ubc];simp
  rw[ef] at B5
  exact⟨_,_,_,_,rfl,λ b o e=>b5 _ _ (zal e (fas a2 ma2)) (sm3 _ _ e),B5⟩
 ·obtain⟨y3,y4,y5,y6,rfl,sm,B⟩:=h
  rw[lenK,uc4] at B
  exact⟨_,rfl,q L as J sm hL B las fas⟩
theorem zqf (l:List (List Int)):tupAll (l.map tupH)=true:=by
 induction l with
 | nil=>rfl
 | cons a l ih =>
  show (tupD (tupH a)&&tupAll (l.map tupH))=true
  rw[ih,uhh]
  show tupAll (a.map .int)=true
  induction a with
  | nil=>rfl
  | cons x a ih=>exact ih
theorem zl9 (a b:List Int):PyData.eqv (tupH a) (.tuple (b.map .int))=decide (a=b):=zma a b
theorem zqy {l l':List Int}(h:l.Perm l'):l.sum=l'.sum:=by
 induction h with
 | nil=>rfl
 | cons x _ ih=>rw[ueo,ueo,ih]
 | swap x y l=>rw[ueo,ueo,ueo,ueo];left
 | trans _ _ a b=>exact a.trans b
theorem sort2 {ms:List Int}{a b:Int}(pm:ms.Perm [a,b])(pw:ms.Pairwise (λ a b=>a<=b)):ms=[min a b,max a b]:=by
 have l2:=pm.length_eq
 match ms,l2 with
 | [x,y],_ =>
  have h:x<=y:=by simpa using pw
  have m1:=pm.mem_iff (a:=x)
  have m2:=pm.symm.mem_iff (a:=a)
  have m3:=pm.symm.mem_iff (a:=b)
  have m4:=pm.mem_iff (a:=y)
  simp at m1 m2 m3 m4
  have sm:x+y=a+b:=by
   have:=zqy pm
   simpa using this
  have:x=min a b:=by left
  have:y=max a b:=by left
  simp only [*]
def spTKp (K:uad):Sp:=λ vs H Q _=>∃ (n:Int)(ts:List Tie)(wv:V)(p:Addr)(rs:List Nat),vs=[wv,.ref p]/\Is K H (webD n ts) wv/\WebOk n ts/\H p=some (.lst (natV rs))/\rs.length<=24/\(∀ r∈rs,r<n.toNat)/\∀ t H',Same H H'->H' t=some (.tup (natV (ptK n ts rs)))->Q (.ref t) H'
theorem zdl (T:Bi mg)(D:DefOk K mg "_law_tree_keep" s__law_tree_keep ["web","roots"])(O__law_tree:‹3› "_law_tree" ["web","keep","root"] (spLTree K)):‹4› "_law_tree_keep" ["web","roots"] (spTKp K):=by
 exists 3,sc__law_tree_keep
 obtain⟨n,ts,wv,p,rs,rfl,isw,ok,hp,lrs,hrs,q⟩:=h
 have units:∀ {x:Nat},x<=3->(A.deeper (envOfC "_law_tree_keep" (defScope s__law_tree_keep) s.heap.objs.size f cdv)).units+x<cLine:=λ {x} hu=>by have:=hr.units;left
 have few60:=ok.few
 have n24:=ok.n24
 have n1:=ok.n1
 obtain⟨g0,g,ws,rfl,hg0,hg,hall,hlw⟩:=zax isw
 refine⟨_,(zac (zat (i:=2) nd rfl (uap rfl) (zar (zdh rfl) rfl T.z_tuple (by symm) (zaa (zar zdc rfl T.z_range (by symm) (zaa (zah zao rfl T.z_len (by symm) (zaa (zaq zaz (pv 0) zad (λ _ _=>rfl)) zab)) zab)) zab))) (zac (zat (i:=3) nd rfl (ufy rfl) (zbb zab)) (zac (zbg PassesOwn.never rfl (zb6 (pv 1)) (zag (i:=4) nd rfl (uap rfl)) (zac (zat (i:=5) nd rfl (uap rfl) (zae O__law_tree hr rfl (zaa (pv 0) (zaa (pv 2) (zaa (pv 4) zab))))) (zaf (zba (zcu ua7 udb uda zgq (pv 3) (zaa (za7 (N:=["web","roots","every","along","root","tree"]) (sc0:=defScope s__law_tree_keep) (own:=["place","one"]) (fr:=[]) (js:=[]) rfl (zez true rfl T.z_enumerate (zaa (pv 5) zab)) (λ _ _ _ _=>(zb2 (n:=2) rfl (zai (zag (i:=0) (by show ua0 [("place":Str),("one":Str)];decide +kernel) rfl (uap rfl)) (zai (zag (i:=1) (by show ua0 [("place":Str),("one":Str)];decide +kernel) rfl (uap rfl)) za3)))) (λ _ _ _ _=>(zcb (zap zcw (pv 1) zbn (nomark _)))) (λ _ _ _ _=>(zar za2 rfl T.z_tuple (by symm) (zaa (zah zh7 rfl T.z_sorted (by symm) (zaa (zbb (zaa (pv 0) (zaa (pv 1) zab))) zab)) zab)))) zab)))))) (zaf (zan (zar za2 rfl T.z_tuple (by symm) (zaa (za7 (N:=["web","roots","every","along","root","tree"]) (sc0:=defScope s__law_tree_keep) (own:=["number"]) (fr:=["web","along"]) (js:=[0,3]) rfl (zbm (pv 2)) (λ _ _ _ _=>(zag (i:=0) (by show ua0 [("number":Str),("web":Str),("along":Str)];decide +kernel) rfl (uap rfl))) (λ _ _ _ _=>(zcb (zap zs4 (zg6 zki (zaq zbf (zaq zbf (pv 1) zad (λ _ _=>rfl)) (pv 0) (λ _ _=>rfl)) zkm (zkl zad)) (pv 2) (by with_unfolding_all rfl)))) (λ _ _ _ _=>(pv 0))) zab))))))),?_⟩
 refine⟨_,rfl,g0,_,_,_,rfl,rfl,SqT.of hg0,rfl,g,_,rfl,.inr (SqT.of hg),_,rfl,λ rg hrg=>⟨rg,_,rfl,zaj,uaw _,by left,λ ev J1 S1 f1 e1=>?_⟩⟩
 rw[ubf,hlw] at e1
 have S01:=(zam (o:=.rng 0 (ws.length:Int)) hrg).trans S1
 refine⟨(by show 0<=1000;decide),λ la J2 S2 f2 e2=>?_⟩
 have S02:=S01.trans S2
 have fa:H la=none:=S01.free f2
 refine⟨_,rfl,p,rfl,⟨_,SqL.of (S02 _ _ hp)⟩,?_⟩
 have nev:ev≠la:=λ z=>by rw[z,f2] at e1;cases e1
 refine zd4 (xs:=natV rs) (λ i σ J=>∃ (vs:List V)(pp:List (List Int))(y4 y5:Option V),σ=[some (.ref g0),some (.ref p),some (.ref ev),some (.ref la),y4,y5]/\But la J2 J/\J la=some (.lst vs)/\vs.length<=i*24/\IsAll K J (pp.map tupH) vs/\∀ a b,[a,b]∈pp↔∃ r∈rs.take i,Edge n ts r a b) ⟨[],[],none,none,rfl,But.refl,e2,ubj _,rfl,λ a b=>by simp⟩ (λ i σ J _ h=>?_) (λ i x σ J hx h=>?_) (λ σ J h=>?_)
 ·obtain⟨vs,pp,y4,y5,rfl,bt,_⟩:=h
  exact SqL.of (bt _ _ (zal hp fa) (S02 _ _ hp))
 ·obtain⟨vs,pp,y4,y5,rfl,bt,ha,lvs,hvs,hpp⟩:=h
  obtain⟨r,hr_,rfl⟩:=zdx hx
  have hrn:=hrs r (uat hr_)
  have hi:=(ual.mp hr_).1
  have tn:rs.take (i+1)=rs.take i++[r]:=by rw[udv,hr_];rfl
  have sm:Same H J:=λ b o e=>bt _ _ (zal e fa) (S02 _ _ e)
  have eJ:J ev=some (.tup (natV (uac ts.length))):=bt _ _ nev (S2 _ _ e1)
  refine⟨_,rfl,_,rfl,_,rfl,n,ts,uac ts.length,_,.ref ev,(r:Int),rfl,⟨Is.same sm _ isw,ok,zb4 eJ,za6 ts⟩,by left,by left,λ t F J3 S3 e3 hF=>?_⟩
  rw[ubf] at hF
  obtain⟨cs,B⟩:=zc6 ok hrn
  have eF:=hF cs _ B
  subst eF
  have lF:=B.alen
  have ha3:=S3 _ _ ha
  refine⟨_,rfl,.inl ⟨rfl,_,SqL.of ha3⟩,?_⟩
  refine⟨_,rfl,t,rfl,⟨_,SqX.of (t:=true) e3⟩,?_⟩
  refine zk5 (t:=true) (K':=K) e3 (λ σ'=>σ'.length=2) (λ v=>(Far.get (trA n ts r) v).map λ u:Nat=>tupH [min (v:Int) u,max (v:Int) u]) (λ i d e=>?_) (by rw[uae];left) (by rfl) (λ j x U σ' H' hx s2 hU sg C L hC hL=>?_) (λ L ys J4 hL S4 hH hly hys=>?_)
  ·obtain⟨u,_,rfl⟩:=ub0.mp e
   rfl
  ·match σ',sg with
   | [o1,o2],_ =>
    have hj:j<(trA n ts r).length:=by have:=(ual.mp hx).1;rw[uae] at this;exact this
    rw[zs6 hj] at hx
    cases hx
    refine⟨U,_,rfl,SqT.of zaj,rfl,_,_,rfl,_,_,rfl,rfl,?_⟩
    have SU:=zam (H:=H') (o:=.tup [.int (j:Nat),oa (Far.get (trA n ts r) j)]) hU
    refine⟨_,rfl,?_⟩
    cases e:Far.get (trA n ts r) j with
    | none =>
     rw[e] at SU
     exact⟨rfl,_,rfl,iteF (hL _ _ rfl SU (by rw[e];rfl))⟩
    | some u =>
     rw[e] at SU
     refine⟨rfl,_,rfl,iteT ⟨_,rfl,_,rfl,(by show 2<=1000;decide),λ l5 J5 S5 f5 e5=>?_⟩⟩
     refine⟨l5,[(j:Int),(u:Int)],rfl,SqL.of e5,by simp,λ ms pm pw l6 hl6=>⟨l6,_,rfl,zaj,λ t7 J7 S7 f7 e7=>?_⟩⟩
     rw[sort2 pm pw] at e7
     exact hC _ _ (tupH [min (j:Int) u,max (j:Int) u]) _ rfl (SU.trans (S5.trans ((zam hl6).trans S7))) (by rw[e];rfl) ⟨t7,_,rfl,e7,IsAll.ints [min (j:Int) u,max (j:Int) u]⟩
  rw[uae,lF] at hly hys
  refine⟨la,L,_,_,rfl,rfl,S4 _ _ ha3,hH,by left,λ J5 b5 e5=>?_⟩
  have eq2:(uac n.toNat).filterMap (λ v=>(Far.get (trA n ts r) v).map λ u:Nat=>tupH [min (v:Int) u,max (v:Int) u])=((uac n.toNat).filterMap λ v=>(Far.get (trA n ts r) v).map λ u:Nat=>[min (v:Int) u,max (v:Int) u]).map tupH:=by
   rw[uex]
   refine congrArg (λ z=>uft z _) (funext λ v=>?_)
   cases Far.get (trA n ts r) v <;> rfl
  rw[eq2] at hys
  have tk:tupAll ((pp++((uac n.toNat).filterMap λ v=>(Far.get (trA n ts r) v).map λ u:Nat=>[min (v:Int) u,max (v:Int) u])).map tupH)=true:=zqf _
  rw[ubc] at tk
  refine⟨vs++ys,pp++((uac n.toNat).filterMap λ v=>(Far.get (trA n ts r) v).map λ u:Nat=>[min (v:Int) u,max (v:Int) u]),_,_,rfl,λ b o z e=>b5 _ _ z (S4 _ _ (S3 _ _ (bt _ _ z e))),e5,by rw[uaq];left,?_,λ a b=>?_⟩
  ·rw[ubc]
   exact IsAll.but b5 (S4 _ _ ha3) _ tk (IsAll.append (IsAll.same (S3.trans S4) _ hvs) hys)
  ·rw[ua6,hpp a b,tn]
   constructor
   ·rintro (⟨r',hr',z⟩ | z)
    ·exact⟨r',ucv _ hr',z⟩
    ·obtain⟨v,_,z⟩:=ub3.mp z
     obtain⟨u,eu,z⟩:=ub0.mp z
     simp only [List.cons.injEq,and_true] at z
     exact⟨r,by simp,v,u,eu,z.1.symm,z.2.symm⟩
   ·rintro ⟨r',hr',z⟩
    rcases ua6.mp hr' with y | y
    ·exact .inl ⟨r',y,z⟩
    ·rw[uav.mp y] at z
     obtain⟨v,u,z0,z1,z2⟩:=z
     obtain⟨_,_,_,_,_,hv,_⟩:=zqh ok hrn z0
     exact .inr (ub3.mpr ⟨v,uaj.mpr hv,by rw[z0,z1,z2];rfl⟩)
 ·obtain⟨vs,pp,y4,y5,rfl,bt,ha,lvs,hpp,mpp⟩:=h
  rw[zak,uc4] at mpp
  have sm:Same H J:=λ b o e=>bt _ _ (zal e fa) (S02 _ _ e)
  have eJ:J ev=some (.tup (natV (uac ts.length))):=bt _ _ nev (S2 _ _ e1)
  have depT:∀ l:List Int,PyData.depth (.tuple (l.map .int))<=2:=λ l=>ufj (zfk l)
  refine⟨_,rfl,ev,rfl,⟨_,SqT.of eJ⟩,?_⟩
  obtain⟨bf,ebf⟩:∃ bf:Nat->Bool,bf=λ k=>(pp.map tupH).any λ d=>PyData.eqv d (.tuple (([(tieAt ts k).1,(tieAt ts k).2.1]:List Int).map .int)):=⟨_,rfl⟩
  have bfm:∀ k,bf k=true↔∃ r∈rs,Edge n ts r (tieAt ts k).1 (tieAt ts k).2.1:=λ k=>by
   rw[← mpp,ebf]
   show ((pp.map tupH).any λ d=>PyData.eqv d (.tuple (([(tieAt ts k).1,(tieAt ts k).2.1]:List Int).map .int)))=true↔_
   rw[List.any_map,ub4]
   constructor
   ·rintro ⟨x,hx,z⟩
    have z:PyData.eqv (tupH x) (.tuple (([(tieAt ts k).1,(tieAt ts k).2.1]:List Int).map .int))=true:=z
    rw[zl9] at z
    rw[← of_decide_eq_true z];exact hx
   ·intro hx
    refine⟨_,hx,?_⟩
    show PyData.eqv (tupH _) (.tuple (([(tieAt ts k).1,(tieAt ts k).2.1]:List Int).map .int))=true
    rw[zl9];exact decide_eq_true rfl
  refine zjh eJ (λ σ'=>∃ o,σ'=[o,some (.ref g0),some (.ref la)]) (λ i=>if bf ((uac ts.length).getD i 0)=true then some (V.int (((uac ts.length).getD i 0:Nat):Int)) else none) (by rw[zak,ua8];left) (by exact⟨none,rfl⟩) (λ i x σ' H' hx s2 sg C L hC hL=>?_) (λ L J4 hL S4 hH=>?_)
  ·obtain⟨o,rfl⟩:=sg
   obtain⟨k,hk,rfl⟩:=zdx hx
   have ek:(uac ts.length).getD i 0=k:=by rw[uah,hk];rfl
   have hkl:k<ts.length:=uaj.mp (uat hk)
   rw[ek] at hC hL
   obtain⟨ta,hta,htie⟩:=zbu hall hkl
   have s3:=sm.trans s2
   refine⟨_,rfl,g0,_,_,_,rfl,rfl,SqT.of (s3 _ _ hg0),rfl,_,rfl,g,_,_,_,rfl,rfl,SqT.of (s3 _ _ hg),zaw (uaw _) hta,_,rfl,ta,_,rfl,s3 _ _ htie,λ tb J5 S5 e5=>?_⟩
   have e5':J5 tb=some (.tup (([(tieAt ts k).1,(tieAt ts k).2.1]:List Int).map V.int)):=e5
   have hu2:=depT [(tieAt ts k).1,(tieAt ts k).2.1]
   refine⟨_,rfl,la,pp.map tupH,vs,.tuple (([(tieAt ts k).1,(tieAt ts k).2.1]:List Int).map .int),rfl,S5 _ _ (s2 _ _ ha),IsAll.same (s2.trans S5) _ hpp,⟨tb,_,rfl,e5',IsAll.ints _⟩,(λ d hd=>?_),zd1 _,?_,_,rfl,?_⟩
   ·obtain⟨hs,_,rfl⟩:=ube.mp hd
    exact zd1 _
   ·exact ucb (Nat.add_le_add (uai _) hu2) (units (x:=3) (uai _))
   have eb:((pp.map tupH).any λ d=>PyData.eqv d (.tuple (([(tieAt ts k).1,(tieAt ts k).2.1]:List Int).map .int)))=bf k:=by rw[ebf]
   rw[eb]
   cases e:bf k with
   | true=>exact iteT ⟨_,rfl,hC _ _ _ ⟨_,rfl⟩ S5 (by rw[if_pos e])⟩
   | false=>exact iteF (hL _ _ ⟨_,rfl⟩ S5 (by rw[if_neg (by rw[e];decide)]))
  rw[zak,zg3 bf (uac ts.length)] at hH
  refine⟨L,_,rfl,hH,λ t J5 S5 f5 e5=>q t J5 (sm.trans (S4.trans S5)) ?_⟩
  rw[e5]
  refine congrArg (λ z=>some (HO.tup (natV z))) (zc8 (udq _ ubk) (zep n ts rs).1 λ k=>?_)
  rw[uaz,uaj,bfm,zkj ok hrs]
  constructor
  ·rintro ⟨hk,r,hr',z⟩
   exact⟨r,hr',(zkc ok (hrs r hr')).mpr ⟨hk,z⟩⟩
  ·rintro ⟨r,hr',z⟩
   obtain⟨hk,z⟩:=(zkc ok (hrs r hr')).mp z
   exact⟨hk,r,hr',z⟩
theorem zcz {α β:Type}(f:α->β):∀ (l:List α)(k:Nat),(l.map f).eraseIdx k=(l.eraseIdx k).map f
 | [],_=>rfl
 | _::_,0=>rfl
 | a::l,k+1=>congrArg (f a::·) (zcz f l k)
def B2 (p q:Addr)(J J':Hp):Prop:=∀ b o,b≠p->b≠q->J b=some o->J' b=some o
theorem B2.refl {p q:Addr}{J:Hp}:B2 p q J J:=λ _ _ _ _ e=>e
theorem B2.same {p q:Addr}{J J' J'':Hp}(h:B2 p q J J')(S:Same J' J''):B2 p q J J'':=λ b o x y e=>S _ _ (h b o x y e)
theorem B2.one {p q:Addr}{J J' J'':Hp}(h:B2 p q J J')(S:But p J' J''):B2 p q J J'':=λ b o x y e=>S _ _ x (h b o x y e)
theorem B2.two {p q:Addr}{J J' J'':Hp}(h:B2 p q J J')(S:But q J' J''):B2 p q J J'':=λ b o x y e=>S _ _ y (h b o x y e)
def spOG (K:uad):Sp:=λ vs H Q _=>∃ (p:Addr)(n:Int)(ts:List Tie)(wv:V)(d:Int),vs=[.ref p,wv,.int d]/\Pot H p/\Is K H (webD n (ones ts)) wv/\WebOk n ts/\1<=d/\d<=24/\∀ v H' l,But p H H'->Pot H' p->Is K H' (grdD l) v->Og (nbW n ts) d n.toNat n.toNat l->Q v H'
theorem zde (T:Bi mg)(D:DefOk K mg "_law_other_guards" s__law_other_guards ["pot","web","d"])(O__law_take:‹1› "_law_take" ["pot","many"] spTake)(O__law_beside:‹1› "_law_beside" ["web","keep"] (spBesF K)):‹2› "_law_other_guards" ["pot","web","d"] (spOG K):=by
 exists 1,sc__law_other_guards
 obtain⟨p,n,ts,wv,d,rfl,hp,isw,ok,d1,d24,q⟩:=h
 have ok1:=zcj ok
 have few1:=ok1.few
 obtain⟨xsp,ep⟩:=hp.lst
 have n24:=ok.n24
 have n1:=ok.n1
 have ko1:=zc9 (ones ts).length
 have hN:∀ p,(nbW n ts p).length<=24:=λ p=>ubr (zhn p) (by left)
 obtain⟨g0,g,ws,rfl,hg0,hg,hall,hlw⟩:=zax isw
 refine⟨_,(zac (zat (i:=3) nd rfl (uap rfl) (zae O__law_beside hr rfl (zaa (pv 1) (zaa (zar (zd9 rfl) rfl T.z_list (by symm) (zaa (zar zdc rfl T.z_range (by symm) (zaa (zah zao rfl T.z_len (by symm) (zaa (zaq zaz (pv 1) zad (λ _ _=>rfl)) zab)) zab)) zab)) zab)))) (zac (zat (i:=4) nd rfl (uap rfl) (zbb zab)) (zac (zat (i:=5) nd rfl (ufy rfl) (zbb zab)) (zac (zbg PassesOwn.never rfl (zbe rfl T.z_range (zaa (zaq zaz (pv 1) zad (λ _ _=>rfl)) zab)) (zag (i:=6) nd rfl (uap rfl)) (zac (zat (i:=7) nd rfl (ufy rfl) (za7 (N:=["pot","web","d","beside","found","guarded","turn","free","many","guard","places","cut"]) (sc0:=defScope s__law_other_guards) (own:=["some"]) (fr:=["guarded"]) (js:=[5]) rfl (zb6 (pv 3)) (λ _ _ _ _=>(zag (i:=0) (by show ua0 [("some":Str),("guarded":Str)];decide +kernel) rfl (uap rfl))) (λ _ _ _ _=>zbc) (λ _ _ _ _=>(zqz (N:=["some","guarded"]) (sc0:=defScope s__law_other_guards) (own:=["other"]) (fr:=["guarded"]) (js:=[1]) rfl (zqx (zah zh8 rfl T.z_sorted (by symm) (zaa (pv 0) zab))) (λ _ _ _ _=>(zag (i:=0) (by show ua0 [("other":Str),("guarded":Str)];decide +kernel) rfl (uap rfl))) (λ _ _ _ _=>(zcb (zap zg8 (pv 0) (pv 1) (by with_unfolding_all rfl)))) (λ _ _ _ _=>(pv 0)))))) (zac (zb8 (i:=8) (N:=["pot","web","d","beside","found","guarded","turn","free","many","guard","places","cut"]) (sc0:=defScope s__law_other_guards) (own:=["place"]) (fr:=["free","d"]) (js:=[7,2]) rfl (zbe rfl T.z_range (zaa (zaq zaz (pv 1) zad (λ _ _=>rfl)) zab)) (λ _ _ _ _=>(zag (i:=0) (by show ua0 [("place":Str),("free":Str),("d":Str)];decide +kernel) rfl (uap rfl))) (λ _ _ _ _=>(zcb (zap zt9 (zah zea rfl T.z_len (by symm) (zaa (zaq zq7 (pv 1) (pv 0) (λ _ _=>rfl)) zab)) (pv 2) (nomark _)))) (λ _ _ _ _=>(pv 0)) nd rfl (uap rfl)) (zaf (zbh (zap zfw (zah zao rfl T.z_len (by symm) (zaa (pv 8) zab)) zad (nomark _)) (zac (zat (i:=9) nd rfl (uap rfl) (zaq zau (pv 8) (zae O__law_take hr rfl (zaa (pv 0) (zaa (zah zao rfl T.z_len (by symm) (zaa (pv 8) zab)) zab))) (λ _ _=>rfl))) (zac (zat (i:=10) nd rfl (uap rfl) (zar zel rfl T.z_list (by symm) (zaa (zaq zau (pv 7) (pv 9) (λ _ _=>rfl)) zab))) (zac (zbg PassesOwn.never rfl (zbe rfl T.z_range (zaa (zae O__law_take hr rfl (zaa (pv 0) (zaa (zah (zc5 rfl) rfl T.z_min (by symm) (zaa (pv 2) (zaa (za1 zb1 (za1 zcl (zah zao rfl T.z_len (by symm) (zaa (pv 10) zab)) (pv 2)) zad) zab))) zab))) zab)) (zag (i:=11) nd rfl (uap rfl)) (zaf (zba (zcu ua7 uhc ug9 zlx (pv 10) (zaa (zae O__law_take hr rfl (zaa (pv 0) (zaa (zah zao rfl T.z_len (by symm) (zaa (pv 10) zab)) zab))) zab))))) (zac (zba (zcu ua7 ubv ubu zbv (pv 4) (zaa (zbk (zaa (pv 9) (zaa (zar za2 rfl T.z_tuple (by symm) (zaa (pv 10) zab)) zab))) zab))) (zaf (zat (i:=5) nd rfl (ufy rfl) (za1 zko (pv 5) (pv 10)))))))) zay))))) (zaf (zan (zar za2 rfl T.z_tuple (by symm) (zaa (pv 4) zab)))))))),?_⟩
 refine⟨_,rfl,_,rfl,g0,_,_,_,rfl,rfl,SqT.of hg0,rfl,g,_,rfl,.inr (SqT.of hg),_,rfl,λ rg hrg=>⟨rg,_,rfl,zaj,uaw _,by left,λ kp hkp=>?_⟩⟩
 obtain⟨J0,eJ0⟩:∃ J0,J0=upd (upd H rg (.rng 0 (ws.length:Int))) kp (.lst ((uac ((ws.length:Nat):Int).toNat).map λ i:Nat=>V.int (i:Int))):=⟨_,rfl⟩
 have e0:J0 kp=some (.lst (natV (uac (ones ts).length))):=by rw[eJ0,zaj,ubf,hlw];rfl
 have S0:Same H J0:=by rw[eJ0];exact (zam hrg).trans (zam hkp)
 rw[← eJ0]
 refine⟨n,ones ts,uac (ones ts).length,_,kp,false,rfl,⟨Is.same S0 _ isw,ok1,e0,ko1⟩,λ lb as J1 S1 f1 B1 la fas=>?_⟩
 refine⟨(by show 0<=1000;decide),λ lt J2 S2 f2 e2=>⟨(by show 0<=1000;decide),λ lg J3 S3 f3 e3=>?_⟩⟩
 have S02:=S0.trans (S1.trans S2)
 have S03:=S02.trans S3
 have flt:H lt=none:=(S0.trans S1).free f2
 have B3:=B1.same (S2.trans S3)
 have e2':=S3 _ _ e2
 have nlb:lb≠lt:=λ z=>by
  have:=B1.top
  rw[z,f2] at this;cases this
 have nas:∀ i a,as[i]?=some a->a≠lt:=λ i a ha z=>by
  have:=B1.row i a ha
  rw[z,f2] at this;cases this
 have nasp:∀ i a,as[i]?=some a->a≠p:=λ i a ha z=>by
  have:=fas a (uat ha)
  rw[z,S0 _ _ ep] at this;cases this
 have ng0p:g0≠p:=λ z=>by rw[z,ep] at hg0;cases hg0
 have ngt:lg≠lt:=λ z=>by rw[z,e2] at f3;cases f3
 have ng0:g0≠lt:=λ z=>by rw[z,flt] at hg0;cases hg0
 refine⟨_,rfl,g0,_,_,_,rfl,rfl,SqT.of (S03 _ _ hg0),rfl,n,rfl,by left,by left,?_⟩
 have pot3:=hp.same S03
 have plt:p≠lt:=λ z=>by rw[z,flt] at ep;cases ep
 have nlbp:lb≠p:=λ z=>by rw[z,S0 _ _ ep] at f1;cases f1
 have hnd:∀ p,(nbW n ts p).Nodup:=λ p=>zdw p
 refine zbo (n:=n.toNat) (λ i σ J=>∃ (y6 y7 y8 y9 y10 y11:Option V)(lg:Addr)(vs:List V)(l:List (Nat × List Nat)),σ=[some (.ref p),some (.ref g0),some (.int d),some (.ref lb),some (.ref lt),some (.ref lg),y6,y7,y8,y9,y10,y11]/\B2 p lt J3 J/\Pot J p/\J lt=some (.lst vs)/\IsAll K J (l.map pairD) vs/\lg≠lt/\lg≠p/\J lg=some (.lst (natV (l.flatMap (·.2))))/\Og (nbW n ts) d n.toNat i l) ⟨none,none,none,none,none,none,lg,[],[],rfl,B2.refl,pot3,e2',rfl,ngt,(λ z=>by rw[z,S02 _ _ ep] at f3;cases f3),e3,Og.start _ _ _⟩ (λ i σ J hi h=>?_) (λ σ J h=>?_)
 ·obtain⟨y6,y7,y8,y9,y10,y11,lg,vs,l,rfl,bt,pt,hlt,hvs,ngt,ngp,hlg,og⟩:=h
  have c1:=og.len
  have lv:vs.length=l.length:=by rw[hvs.length,uae]
  have hbJ:=bt _ _ nlbp nlb B3.top
  have G24:(l.flatMap (·.2)).length<=24:=by
   have:=zch (b:=uac n.toNat) og.nd λ x hx=>by
    obtain⟨e,he,hx⟩:=uck.mp hx
    exact uaj.mpr (zja _ _ ((og.good e he).2.1.subset hx))
   rw[ua8] at this;left
  obtain⟨G,eG⟩:∃ G,G=l.flatMap (·.2):=⟨_,rfl⟩
  rw[← eG] at hlg G24
  refine⟨_,rfl,lb,rfl,⟨_,SqL.of hbJ⟩,?_⟩
  refine zpg hbJ (λ σ'=>∃ o,σ'=[o,some (.ref lg)]) (λ j xs=>xs=natV (bareG (nbW n ts) G j)) (by rw[uae];left) (by exact⟨none,rfl⟩) (λ j z σ' H' hz s4 sg C hC=>?_) (λ L ys J4 hL s4 hH4 ly hys=>?_)
  ·obtain⟨o,rfl⟩:=sg
   rw[uak] at hz
   obtain⟨a,ha,rfl⟩:=ub0.mp hz
   have hrow:=s4 _ _ (bt _ _ (nasp j a ha) (nas j a ha) (B3.row j a ha))
   rw[za4] at hrow
   have ndl:=zmw ok1 ko1 j
   have lk:(keepI (rowsN (ones ts) (uac (ones ts).length) j)).length=(rowsN (ones ts) (uac (ones ts).length) j).length:=uae _
   refine⟨_,rfl,a,_,rfl,SqL.of hrow,by rw[lk];exact zr1 ok1 ko1 ndl (zlo ok1 ko1 j),λ ms pm pw l3 f3=>?_⟩
   have em:=zr3 ok1 ko1 ndl (zlo ok1 ko1 j) pm pw
   have e3:(upd H' l3 (.lst (ms.map V.int))) l3=some (.lst (natV (nbW n ts j))):=by
    rw[zaj,em,za4];rfl
   have lw:(natV (nbW n ts j)).length=(nbW n ts j).length:=zak _
   have lb':=hN j
   have S5:=zam (o:=.lst (ms.map V.int)) f3
   refine⟨l3,rfl,⟨_,SqL.of e3⟩,?_⟩
   refine zd6 e3 (λ σ'=>∃ u,σ'=[u,some (.ref lg)]) (λ i=>if (!G.contains ((nbW n ts j).getD i 0))=true then some (V.int (((nbW n ts j).getD i 0:Nat):Int)) else none) (by left) (by exact⟨none,rfl⟩) (λ i x σ' H' hx s5 sg C M hC hM=>?_) (λ L3 H3 hL3 s5 hH3=>?_)
   ·obtain⟨u,rfl⟩:=sg
    obtain⟨k,hk,rfl⟩:=zdx hx
    have ek:(nbW n ts j).getD i 0=k:=by rw[uah,hk];rfl
    rw[ek] at hC hM
    refine⟨_,rfl,_,rfl,lg,_,rfl,.inl (SqL.of (s5 _ _ (S5 _ _ (s4 _ _ hlg)))),rfl,zci _,_,rfl,?_⟩
    show if (!inV (V.int (k:Int)) (natV G))=true then _ else _
    rw[zc0 (uaw _),ubf]
    have ec:decide (k∈G)=G.contains k:=by rw[uca]
    rw[ec]
    exact ite2 (λ c=>⟨_,rfl,hC _ _ _ ⟨_,rfl⟩ (Same.refl _) (by rw[if_pos c])⟩) (λ c=>hM _ _ ⟨_,rfl⟩ (Same.refl _) (by rw[if_neg c]))
   ·rw[lw,zmn] at hH3
    exact hC _ L3 _ H3 ⟨_,rfl⟩ (S5.trans s5) (S5.free hL3) hH3 rfl
  have lya:ys.length=n.toNat:=by rw[ly,uae,la]
  have atF:∀ p,p<n.toNat->∃ l,ys[p]?=some (.ref l)/\J l=none/\J4 l=some (.lst (natV (bareG (nbW n ts) G p))):=λ p hp=>by
   have e:ys[p]?=some ys[p]:=uaf (by left)
   obtain⟨l,xs,e1,_,e3,e4,e5⟩:=hys p _ e
   exact⟨l,by rw[e,e1],e3,by rw[e4,e5]⟩
  refine⟨_,rfl,g0,_,_,_,rfl,rfl,SqT.of (s4 _ _ (bt _ _ ng0p ng0 (S03 _ _ hg0))),rfl,n,rfl,by left,by left,?_⟩
  refine zji (n:=n.toNat) (lo:=0) (λ σ'=>∃ o,σ'=[o,some (.ref L),some (.int d)]) (λ p=>if badG (nbW n ts) d G p=true then some (V.int (p:Int)) else none) (by left) (by exact⟨none,rfl⟩) (λ p σ' H' hp s5 sg C M hC hM=>?_) (λ L5 J5 hL5 s5 hH5=>?_)
  ·obtain⟨o,rfl⟩:=sg
   rw[show (0+(p:Int))=(p:Int) by left]
   obtain⟨l,e1,_,e3⟩:=atF p hp
   refine⟨_,rfl,_,rfl,L,_,_,_,rfl,rfl,SqL.of (s5 _ _ hH4),zaw (uaw _) e1,l,_,rfl,.inl (SqL.of (s5 _ _ e3)),_,rfl,_,_,rfl,rfl,_,rfl,?_⟩
   rw[zak]
   refine ite2 (λ c=>?_) (λ c=>?_)
   ·have cc:badG (nbW n ts) d G p=true:=decide_eq_true (of_decide_eq_true c)
    exact⟨_,rfl,hC _ _ _ ⟨_,rfl⟩ (Same.refl _) (by rw[if_pos cc])⟩
   ·have cc:¬ badG (nbW n ts) d G p=true:=λ z=>c (decide_eq_true (of_decide_eq_true z))
    exact hM _ _ ⟨_,rfl⟩ (Same.refl _) (by rw[if_neg cc])
  rw[zdt] at hH5
  have s45:=s4.trans s5
  have hlt5:=s45 _ _ hlt
  refine⟨_,rfl,L5,_,rfl,.inl (SqL.of hH5),_,_,rfl,rfl,_,rfl,?_⟩
  rw[zak]
  obtain⟨fs,efs⟩:∃ fs,fs=(uac n.toNat).filter (badG (nbW n ts) d G):=⟨_,rfl⟩
  have lfs:fs.length<=24:=by
   have:=ucp (badG (nbW n ts) d G) (uac n.toNat)
   rw[ua8,← efs] at this;left
  rw[← efs] at hH5 ⊢
  refine ite2 (λ c=>?_) (λ c=>?_)
  ·have c0:0<fs.length:=by have:=of_decide_eq_true c;left
   have p5:=pt.same s45
   have nL5p:L5≠p:=λ z=>by
    obtain⟨xs,e⟩:=(pt.same s4).lst
    rw[z,e] at hL5;cases hL5
   have nLp:L≠p:=λ z=>by
    obtain⟨xs,e⟩:=pt.lst
    rw[z,e] at hL;cases hL
   refine⟨_,rfl,_,rfl,_,rfl,L5,_,rfl,.inl (SqL.of hH5),p,_,rfl,p5,by rw[zak];left,by rw[zak];left,λ r J6 r0 r1 b6 p6=>?_⟩
   rw[zak] at r1
   have hrl:r.toNat<fs.length:=by left
   obtain⟨gd,egd⟩:∃ gd,gd=fs[r.toNat]:=⟨_,rfl⟩
   have atg:fs[r.toNat]?=some gd:=by rw[egd];exact uaf hrl
   have gm:gd∈(uac n.toNat).filter (badG (nbW n ts) d G):=efs ▸ uat atg
   have gdn:=uaj.mp (uaz.mp gm).1
   have gbad:=(uaz.mp gm).2
   have gbig:d<=((bareG (nbW n ts) G gd).length:Int):=of_decide_eq_true gbad
   have g24:(bareG (nbW n ts) G gd).length<=24:=ubr (ucp _ _) (hN gd)
   have atg':(natV fs)[r.toNat]?=some (.int (gd:Int)):=by unfold natV;rw[uak,atg];rfl
   refine⟨L5,_,_,_,rfl,rfl,SqL.of (b6 _ _ nL5p hH5),zaw r0 atg',?_⟩
   obtain⟨lf,e1,flf,e3⟩:=atF gd gdn
   have nlf:lf≠p:=λ z=>by
    obtain⟨xs,e⟩:=pt.lst
    rw[z,e] at flf;cases flf
   have e3':=b6 _ _ nlf (s5 _ _ e3)
   refine⟨_,rfl,_,rfl,L,_,_,_,rfl,rfl,SqL.of (b6 _ _ nLp (s5 _ _ hH4)),zaw (uaw _) e1,lf,_,rfl,.inl e3',λ pl J7 S7 f7 e7=>?_⟩
   obtain⟨bs,ebs⟩:∃ bs,bs=bareG (nbW n ts) G gd:=⟨_,rfl⟩
   rw[← ebs] at e7 g24 gbig
   have p7:=p6.same S7
   have emin:∀ {x:Int},x=(bs.length:Int)-d+1->(0<(if x<d then x else d))/\(if x<d then x else d)<=d/\(if x<d then x else d)<=(bs.length:Int)-d+1:=λ {x} e=>by split <;> left
   have npl:pl≠p:=λ z=>by
    obtain⟨xs,e⟩:=p6.lst
    rw[z,e] at f7;cases f7
   refine⟨_,rfl,_,rfl,_,rfl,pl,_,rfl,.inl (SqL.of e7),_,rfl,_,_,rfl,rfl,_,_,rfl,rfl,_,_,rfl,?_⟩
   rw[zak]
   obtain⟨em1,em2,em3⟩:=emin rfl
   refine⟨p,_,rfl,p7,em1,by left,λ ct J8 ct0 ct1 b8 p8=>⟨ct,rfl,by left,by left,?_⟩⟩
   have e8:=b8 _ _ npl e7
   refine zbo (n:=ct.toNat) (λ k σ J=>∃ (y11:Option V)(ps:List Nat),σ=[some (.ref p),some (.ref g0),some (.int d),some (.ref lb),some (.ref lt),some (.ref lg),some (.int (0+(i:Int))),some (.ref L),some (.ref L5),some (.int (gd:Int)),some (.ref pl),y11]/\B2 p pl J8 J/\Pot J p/\J pl=some (.lst (natV ps))/\ps.Sublist bs/\ps.length+k=bs.length) ⟨_,bs,rfl,B2.refl,p8,e8,List.Sublist.refl _,rfl⟩ (λ k σ J hk h=>?_) (λ σ J' h=>?_)
   ·obtain⟨y11,ps,rfl,bk,pk,ek,sk,lk⟩:=h
    have lnp:(natV ps).length=ps.length:=zak _
    refine⟨_,rfl,.inl ⟨rfl,_,SqL.of ek⟩,_,rfl,_,rfl,pl,_,rfl,.inl (SqL.of ek),p,_,rfl,pk,by left,by left,λ at_ J9 a0 a1 b9 p9=>?_⟩
    have ha:at_.toNat<ps.length:=by left
    have e9:=b9 _ _ npl ek
    have ea:(natV ps)[at_.toNat]?=some (.int (ps[at_.toNat]:Int)):=by unfold natV;rw[uak,uaf ha];rfl
    refine⟨pl,_,at_,at_.toNat,_,rfl,rfl,e9,by left,by left,?_,ea,?_⟩
    ·exact (zhu (by unfold ixN;rw[if_pos a0,if_pos (by rw[zak];left)])).1
    refine⟨_,ps.eraseIdx at_.toNat,rfl,(bk.one b9).two But.upd,?_,?_,(List.eraseIdx_sublist _ _).trans sk,?_⟩
    ·obtain⟨a',b',e',z⟩:=p9
     exact⟨a',b',by rw[zas (Ne.symm npl)];exact e',z⟩
    ·rw[zaj];unfold natV;exact congrArg (λ z=>some (HO.lst z)) (zcz _ _ _)
    ·rw[uev ha];left
   ·skip
    obtain⟨y11,ps,rfl,bk,pk,ek,sk,lk⟩:=h
    have keep:∀ {b:Addr}{ob:HO},b≠p->J5 b=some ob->J' b=some ob:=λ {b ob} z e=>bk _ _ z (λ y=>by
     have:=b6 _ _ z e
     rw[y,f7] at this;cases this) (b8 _ _ z (S7 _ _ (b6 _ _ z e)))
    have hltz:=keep (Ne.symm plt) hlt5
    have npt:pl≠lt:=λ z=>by
     have:=b6 _ _ (Ne.symm plt) hlt5
     rw[← z,f7] at this;cases this
    refine⟨_,rfl,.inl ⟨rfl,_,SqL.of hltz⟩,_,rfl,_,rfl,pl,_,rfl,ek,λ tp Ja Sa fa ea=>⟨(by show 2<=1000;decide),λ tq Jb Sb fb eb=>?_⟩⟩
    have Sab:=Sa.trans Sb
    refine⟨lt,_,_,rfl,rfl,Sab _ _ hltz,by left,λ Jc bc ec=>?_⟩
    have ekc:=bc _ _ npt (Sab _ _ ek)
    refine⟨_,rfl,_,rfl,lg,pl,_,_,rfl,rfl,bc _ _ ngt (Sab _ _ (keep ngp (s45 _ _ hlg))),ekc,by rw[zak,zak];left,λ l9 J9 S9 f9 e9=>?_⟩
    have hnew:Is K Jb (pairD (gd,ps)) (.ref tq):=by
     refine⟨tq,_,rfl,eb,_,_,rfl,rfl,_,_,rfl,⟨tp,_,rfl,Sb _ _ ea,?_⟩,rfl⟩
     rw[za4];exact IsAll.ints _
    have tkz:TupKeep J5 J':=λ b us e=>keep (λ z=>by
     obtain⟨xs,e'⟩:=p5.lst
     rw[z,e'] at e;cases e) e
    have hvsb:=IsAll.snoc hnew (IsAll.same Sab _ (IsAll.tk tkz _ (zdq l) (IsAll.same s45 _ hvs)))
    have tu:tupAll (l.map pairD++[pairD (gd,ps)])=true:=by
     have:=zdq (l++[(gd,ps)])
     rw[ubc] at this;exact this
    have hvsc:=IsAll.but bc (Sab _ _ hltz) _ tu hvsb
    have pc:Pot Jc p:=by
     obtain⟨a',b',e',z⟩:=pk.same Sab
     exact⟨a',b',bc _ _ plt e',z⟩
    have eG2:(l++[(gd,ps)]).flatMap (·.2)=G++ps:=by rw[ucn,← eG];simp
    refine⟨_,_,_,_,_,_,l9,vs++[.ref tq],l++[(gd,ps)],rfl,λ b ob z y e=>S9 _ _ (bc _ _ y (Sab _ _ (keep z (s45 _ _ (bt _ _ z y e))))),pc.same S9,S9 _ _ ec,?_,(λ z=>by rw[z,ec] at f9;cases f9),(λ z=>by
     obtain⟨xs,e'⟩:=pc.lst
     rw[z,e'] at f9;cases f9),?_,?_⟩
    ·rw[ubc];exact IsAll.same S9 _ hvsc
    ·rw[e9,eG2];unfold natV;rw[ubc]
    ·refine og.step hnd gdn (eG ▸ gbad) (by rw[← eG,← ebs];exact sk) (by left) ?_
     rw[← eG,← ebs];left
  ·have en:fs=[]:=by
    cases fs with
    | nil=>rfl
    | cons a r=>exact absurd (decide_eq_true (by rw[ua5];left)) c
   exact⟨_,_,_,_,_,_,lg,vs,l,rfl,bt.same s45,pt.same s45,hlt5,IsAll.same s45 _ hvs,ngt,ngp,(by rw[← eG];exact s45 _ _ hlg),og.rest (by rw[← eG,← efs];exact en)⟩
 ·obtain⟨y6,y7,y8,y9,y10,y11,lg,vs,l,rfl,bt,pt,hlt,hvs,ngt,ngp,hlg,og⟩:=h
  exact⟨_,rfl,lt,_,rfl,hlt,λ tt J8 S8 f8 e8=>q _ J8 l (λ a o z e=>S8 _ _ (bt _ _ z (zal e flt) (S03 _ _ e))) (pt.same S8) ⟨tt,_,rfl,e8,IsAll.same S8 _ hvs⟩ og⟩
def spPOf (K:uad):Sp:=λ vs H Q _=>∃ (v:V)(l:List (Nat × List Nat)),vs=[v]/\Is K H (grdD l) v/\l.length<=24/\∀ t H' rs,Same H H'->H' t=some (.tup (natV rs))->rs.Perm (l.map (·.1))->Q (.ref t) H'
theorem zq3 {ms:List Int}{ks:List Nat}(h:ms.Perm (keepI ks)):∃ rs:List Nat,ms=keepI rs/\rs.Perm ks:=by
 refine⟨ms.map uf7,?_,?_⟩
 ·unfold keepI
  rw[uci]
  refine (ugx ms).symm.trans (udi λ x hx=>?_)
  obtain⟨k,_,rfl⟩:=ube.mp (h.mem_iff.mp hx)
  rfl
 ·have:=h.map uf7
  refine this.trans (List.Perm.of_eq ?_)
  unfold keepI
  rw[uci]
  refine (udi λ x _=>?_).trans (ugx ks)
  rfl
theorem zl7 {l:List (Nat × List Nat)}{ys:List V}(hl:ys.length=l.length)(h:∀ (i:Nat) (v:V),ys[i]?=some v->v=V.int ((l.map (·.1)).getD i 0:Nat)):ys=(keepI (l.map (·.1))).map V.int:=by
 refine ucx λ i=>?_
 unfold keepI
 rw[uak,uak]
 by_cases hi:i<l.length
 ·have ey:ys[i]?=some ys[i]:=uaf (by left)
  rw[ey,h i _ ey,uah,uaf (show i<(l.map (·.1)).length by rw[uae];exact hi)];rfl
 ·rw[uba (by left),uba (by rw[uae];left)];rfl
theorem zkp (T:Bi mg)(D:DefOk K mg "posts_of" s_posts_of ["told"]):‹1› "posts_of" ["told"] (spPOf K):=by
 exists 0,sc_posts_of
 obtain⟨v,l,rfl,isv,l24,q⟩:=h
 obtain⟨t,xs,rfl,ht,hxs⟩:=isv
 have lx:xs.length=l.length:=by rw[hxs.length,uae]
 refine⟨_,(zaf (zan (zar za2 rfl T.z_tuple (by symm) (zaa (zah zb5 rfl T.z_sorted (by symm) (zaa (za7 (N:=["told"]) (sc0:=defScope s_posts_of) (own:=["guard","places"]) (fr:=[]) (js:=[]) rfl (zbm (pv 0)) (λ _ _ _ _=>(zb2 (n:=2) rfl (zai (zag (i:=0) (by show ua0 [("guard":Str),("places":Str)];decide +kernel) rfl (uap rfl)) (zai (zag (i:=1) (by show ua0 [("guard":Str),("places":Str)];decide +kernel) rfl (uap rfl)) za3)))) (λ _ _ _ _=>zbc) (λ _ _ _ _=>(pv 0))) zab)) zab)))),?_⟩
 refine⟨_,rfl,t,rfl,⟨_,SqT.of ht⟩,?_⟩
 refine zbr ht (λ σ'=>∃ o1 o2,σ'=[o1,o2]) (λ i x _=>x=.int ((l.map (·.1)).getD i 0:Nat)) (by left) (by exact⟨none,none,rfl⟩) (λ _ _ _ _ _ h=>h) (λ i x σ' H' hx s4 sg C hC=>?_) (λ L4 ys4 H4 hL4 s4 hH4 hly4 hys4=>?_)
 ·obtain⟨o1,o2,rfl⟩:=sg
  have hi:i<l.length:=by have:=(ual.mp hx).1;left
  have el:l[i]?=some l[i]:=uaf hi
  obtain⟨x',ex,ix⟩:=hxs.at_ (show (l.map pairD)[i]?=some (pairD l[i]) by rw[uak,el];rfl)
  rw[hx] at ex
  cases ex
  obtain⟨tt,tp,rfl,htt,htp⟩:=zb9 ix
  refine⟨tt,_,rfl,SqT.of (s4 _ _ htt),rfl,_,_,rfl,_,_,rfl,rfl,?_⟩
  refine⟨_,rfl,hC _ _ _ ⟨_,_,rfl⟩ (Same.refl _) ?_⟩
  rw[uah,uak,el];rfl
 rw[zl7 (by left) hys4] at hH4
 have lk1:(keepI (l.map (·.1))).length=l.length:=by unfold keepI;rw[uae,uae]
 refine⟨L4,_,rfl,SqL.of hH4,by left,λ ms pm pw l5 hl5=>⟨l5,_,rfl,zaj,λ t6 J6 S6 f6 e6=>?_⟩⟩
 obtain⟨rs,e,pr⟩:=zq3 pm
 rw[e,← za4] at e6
 exact q t6 J6 rs (s4.trans ((zam hl5).trans S6)) e6 pr
noncomputable def gkK (n:Int)(ts:List Tie)(l:List (Nat × List Nat)):List Nat:=(uac ts.length).filter λ k=>decide (k∈btK (ones ts) (l.flatMap (·.2))\/k∈ptK n (ones ts) (l.map (·.1)))
theorem zl6 (n:Int)(ts:List Tie)(l:List (Nat × List Nat)):KeepOk ts.length (gkK n ts l):=⟨udq _ ubk,λ k hk=>uaj.mp (uaz.mp hk).1⟩
theorem gkK_mem {n:Int}{ts:List Tie}{l:List (Nat × List Nat)}{k:Nat}:k∈gkK n ts l↔k∈btK (ones ts) (l.flatMap (·.2))\/k∈ptK n (ones ts) (l.map (·.1)):=by
 unfold gkK
 rw[uaz,uaj,decide_eq_true_iff]
 refine⟨And.right,λ h=>⟨?_,h⟩⟩
 rcases h with h | h
 ·have:=uaj.mp (uaz.mp h).1
  rw[za0] at this;exact this
 ·have:=(zep n (ones ts) (l.map (·.1))).2 k h
  rw[za0] at this;exact this
theorem zsf (ts:List Tie)(G:List Nat):KeepOk ts.length (btK ts G):=⟨udq _ ubk,λ k hk=>uaj.mp (uaz.mp hk).1⟩
theorem zsz {n:Int}{ts:List Tie}(ok:WebOk n ts){rs rs':List Nat}(h:rs.Perm rs'):ptK n ts rs=ptK n ts rs':=by
 unfold ptK
 refine uge λ k _=>?_
 rw[ucq,ub4,ub4]
 exact⟨λ ⟨r,hr,z⟩=>⟨r,h.mem_iff.mp hr,z⟩,λ ⟨r,hr,z⟩=>⟨r,h.mem_iff.mpr hr,z⟩⟩
def spGK (K:uad):Sp:=λ vs H Q _=>∃ (n:Int)(ts:List Tie)(wv v:V)(l:List (Nat × List Nat)),vs=[wv,v]/\Is K H (webD n (ones ts)) wv/\WebOk n ts/\Is K H (grdD l) v/\l.length<=24/\(l.flatMap (·.2)).length<=24/\(∀ e∈l,e.1<n.toNat)/\∀ t H',Same H H'->H' t=some (.tup (natV (gkK n ts l)))->Q (.ref t) H'
theorem zln {m:Nat}{ks:List Nat}(ko:KeepOk m ks)(k:Int)(h:HT.setS (keepI ks) (keepI ks).length k=true):0<=k/\k<(m:Nat):=by
 obtain⟨c,hc,rfl⟩:=ube.mp ((zds _ k).mp h)
 have:=ko.2 c hc
 left
theorem zfe (ks:List Nat):(keepI ks).length=ks.length:=by unfold keepI;rw[uae]
theorem zns {ks:List Nat}{k:Nat}:HT.setS (keepI ks) (keepI ks).length (k:Int)=true↔k∈ks:=by
 rw[zds]
 unfold keepI
 rw[ube]
 exact⟨λ ⟨c,hc,e⟩=>by rw[← Int.ofNat.inj e];exact hc,λ h=>⟨k,h,rfl⟩⟩
theorem zhi (T:Bi mg)(D:DefOk K mg "guard_keep" s_guard_keep ["web","told"])(O_need_plain:‹4› "need_plain" ["web"] (spNeedP K))(O_bare_ties:‹4› "bare_ties" ["web","told"] (spBT K))(O_posts_of:‹4› "posts_of" ["told"] (spPOf K))(O_post_trees:‹4› "post_trees" ["web","posts"] (spPosts K)):‹5› "guard_keep" ["web","told"] (spGK K):=by
 exists 4,sc_guard_keep
 obtain⟨n,ts,wv,v,l,rfl,isw,ok,isv,l24,g24,hl,q⟩:=h
 have ok1:=zcj ok
 have few1:=ok1.few
 have few60:=ok.few
 refine⟨_,(zac (zba (zae O_need_plain hr rfl (zaa (pv 0) zab))) (zaf (zan (zar za2 rfl T.z_tuple (by symm) (zaa (zah (zc4 rfl) rfl T.z_sorted (by symm) (zaa (za1 zt6 (zar (zek rfl) rfl T.z_set (by symm) (zaa (zae O_bare_ties hr rfl (zaa (pv 0) (zaa (pv 1) zab))) zab)) (zar (zpk rfl) rfl T.z_set (by symm) (zaa (zae O_post_trees hr rfl (zaa (pv 0) (zaa (zae O_posts_of hr rfl (zaa (pv 1) zab)) zab))) zab))) zab)) zab))))),?_⟩
 refine⟨_,rfl,n,ts,wv,rfl,isw,few60,λ H1 s1=>?_⟩
 refine⟨_,rfl,_,rfl,n,ones ts,wv,v,l,rfl,Is.same s1 _ isw,ok1,Is.same s1 _ isv,by left,λ b H2 s2 f2 e2=>?_⟩
 have bo:=zsf (ones ts) (l.flatMap (·.2))
 have po:=zep n (ones ts) (l.map (·.1))
 have lb:=bo.len
 have lp:=po.len
 rw[za4] at e2
 have S2:=s1.trans s2
 refine⟨b,_,rfl,e2,by rw[zfe];left,λ q1 H3 s3 f3 e3=>?_⟩
 have S3:=S2.trans s3
 refine⟨_,rfl,_,rfl,v,l,rfl,Is.same S3 _ isv,l24,λ tp H4 rs s4 e4 pr=>?_⟩
 have S4:=S3.trans s4
 refine⟨n,ones ts,wv,tp,rs,rfl,Is.same S4 _ isw,ok1,e4,by rw[pr.length_eq,uae];exact l24,λ r hr=>?_,λ tf H5 s5 e5=>?_⟩
 ·obtain⟨e,he,rfl⟩:=ube.mp (pr.mem_iff.mp hr)
  exact hl e he
 rw[zsz ok1 pr,za4] at e5
 refine⟨tf,_,rfl,e5,by rw[zfe];left,λ q2 H6 s6 f6 e6=>?_⟩
 have e3':=(s4.trans (s5.trans s6)) _ _ e3
 have c1:=zph (keepI (btK (ones ts) (l.flatMap (·.2))))
 have c2:=zph (keepI (ptK n (ones ts) (l.map (·.1))))
 have f1':=zmh c1 (zln bo)
 have f2':=zmh c2 (zln po)
 refine⟨q1,q2,_,_,_,_,rfl,rfl,(λ z=>by rw[← z,(s4.trans s5) _ _ e3] at f6;cases f6),e3',e6,c1,c2,by left,λ r2 S2' n2 H7 s7 f7 e7 c3 m3=>?_⟩
 have bd3:∀ k,S2' k=true->0<=k/\k<(ts.length:Nat):=λ k h=>by
  rw[← za0]
  rcases (m3 k).mp h with h | h
  ·exact zln bo k h
  ·exact zln po k h
 have f3':=zmh c3 bd3
 refine⟨r2,_,_,rfl,e7,by left,λ ms m1 m2 m3' l3 H8 s8 f8 e8=>⟨l3,_,rfl,e8,λ kp H9 s9 f9 e9=>?_⟩⟩
 obtain⟨ek,ko3⟩:=zjl c3 m1 m2 m3' bd3
 rw[ek] at e9
 refine q kp H9 (S4.trans (s5.trans (s6.trans (s7.trans (s8.trans s9))))) ?_
 rw[e9]
 refine congrArg (λ z=>some (HO.tup (natV z))) (zc8 ko3.1 (zl6 n ts l).1 λ k=>?_)
 rw[gkK_mem,uaz,uaj,m3,zns,zns]
 refine⟨And.right,λ h=>⟨?_,h⟩⟩
 rw[← gkK_mem] at h
 exact (zl6 n ts l).2 k h
def spSD (K:uad)(S:PyData->Prop):Sp:=λ vs H Q _=>∃ (d:PyData)(v u:V),vs=[v,u]/\S d/\Is K H d v/\Is K H d u/\∀ H',Same H H'->Q (.bl true) H'
def SD1 (d:PyData):Prop:=d=.none\/∃ i,d=.int i
def SDT (S:PyData->Prop)(d:PyData):Prop:=∃ ds,d=.tuple ds/\ds.length<=1000/\∀ x∈ds,S x
theorem znv {vs:List V}{H:Hp}{Q:VK}{E:XK}(h:spSD K SD1 vs H Q E):spSame1 K vs H Q E:=by
 obtain⟨d,v,u,rfl,hd,hv,hu,q⟩:=h
 rcases hd with rfl | ⟨i,rfl⟩
 ·have e1:v=.non:=hv
  have e2:u=.non:=hu
  subst e1;subst e2
  exact⟨.non,rfl,.inl rfl,q⟩
 ·have e1:v=.int i:=hv
  have e2:u=.int i:=hu
  subst e1;subst e2
  exact⟨.int i,rfl,.inr ⟨i,rfl⟩,q⟩
theorem znu {S:PyData->Prop}{kk:Nat}(T:Bi mg)(D:DefOk K mg "_law_same" s__law_same ["found","due"])(O__law_same:Ok P w K mg base kk "_law_same" ["found","due"] (spSD K S)):Ok P w K mg base (kk+1) "_law_same" ["found","due"] (spSD K (SDT S)):=by
 refine zs7 (k:=kk) D sc__law_same (λ vs H Q E h=>?_) (λ f cdv A outer s H vs Q E hr h=>?_)
 ·obtain⟨d,v,u,rfl,_⟩:=h
  rfl
 obtain⟨d,v,u,rfl,⟨ds,rfl,l1,hS⟩,isv,isu,q⟩:=h
 have nd:=sc__law_same.nd
 obtain⟨p,xs,rfl,hp,hxs⟩:=isv
 obtain⟨g,zs,rfl,hg,hzs⟩:=isu
 have lx:=hxs.length
 have lz:=hzs.length
 refine⟨_,(zac (zbh (zbl (zah (zbs (n:="tuple")) rfl T.z_isinstance (by symm) (zaa (pv 1) (zaa (zb7 (v:=.ty "tuple") rfl T.z_tuple (by symm) rfl) zab)))) (zac (zbh (PW.pt (zcd (zbx (zbl (zah (zbs (n:="tuple")) rfl T.z_isinstance (by symm) (zaa (pv 0) (zaa (zb7 (v:=.ty "tuple") rfl T.z_tuple (by symm) rfl) zab))))) (zbz (zap zoe (zah zao rfl T.z_len (by symm) (zaa (pv 0) zab)) (zah zao rfl T.z_len (by symm) (zaa (pv 1) zab)) (nomark _))))) (zaf (zan zck)) zay) (zaf (zan (zah (zbp rfl) rfl T.z_all (by symm) (zaa (za7 (N:=["found","due"]) (sc0:=defScope s__law_same) (own:=["one","other"]) (fr:=[]) (js:=[]) rfl (zn6 true true rfl T.z_zip (zaa (pv 0) (zaa (pv 1) zab))) (λ _ _ _ _=>(zb2 (n:=2) rfl (zai (zag (i:=0) (by show ua0 [("one":Str),("other":Str)];decide +kernel) rfl (uap rfl)) (zai (zag (i:=1) (by show ua0 [("one":Str),("other":Str)];decide +kernel) rfl (uap rfl)) za3)))) (λ _ _ _ _=>zbc) (λ _ _ _ _=>(zae O__law_same hr rfl (zaa (pv 0) (zaa (pv 1) zab))))) zab))))) zay) (zaf (zan (zcv (za8 zce (pv 0) (pv 1) (nomark _)) (zcg (zn8 (zah (zbs (n:="bool")) rfl T.z_isinstance (by symm) (zaa (pv 0) (zaa (zb7 (v:=.ty "bool") rfl T.z_bool (by symm) rfl) zab))))))))),?_⟩
 refine⟨_,rfl,_,_,_,rfl,TyOf.tup hg,rfl,_,rfl,iteT ?_⟩
 refine⟨_,rfl,_,_,_,rfl,TyOf.tup hp,rfl,_,rfl,iteF ⟨_,rfl,p,_,rfl,.inr (SqT.of hp),_,rfl,g,_,rfl,.inr (SqT.of hg),rfl,_,rfl,iteNS (by rw[lx,lz]) ?_⟩⟩
 refine⟨_,rfl,_,rfl,p,g,rfl,⟨_,SqT.of hp⟩,⟨_,SqT.of hg⟩,?_⟩
 refine zmf (t1:=true) (t2:=true) (xs:=xs) (zs:=zs) hp hg (λ σ'=>σ'.length=2) (λ i v _=>v=.bl true) (by left) (by rfl) (λ _ _ _ _ _ h=>h) (λ i x z U σ' H' hxi hzi s hU sg C hC=>?_) (λ L ys H' hL s hH hly hys=>?_)
 ·match σ',sg with
  | [o1,o2],_ =>
   have hi:i<ds.length:=by have:=(ual.mp hxi).1;left
   have ed:ds[i]?=some ds[i]:=uaf hi
   obtain⟨x',ex,ix⟩:=hxs.at_ ed
   obtain⟨z',ez,iz⟩:=hzs.at_ ed
   rw[hxi] at ex
   cases ex
   rw[hzi] at ez
   cases ez
   have s3:=s.trans (zam (o:=.tup [x,z]) hU)
   refine⟨U,_,rfl,SqT.of zaj,rfl,_,_,rfl,_,_,rfl,rfl,?_⟩
   exact⟨_,rfl,_,rfl,ds[i],x,z,rfl,hS _ (uel hi),Is.same s3 _ ix,Is.same s3 _ iz,λ H5 s5=>hC _ _ _ rfl ((zam hU).trans s5) rfl⟩
 ·refine⟨L,_,rfl,SqL.of (by rw[hH,zbt (f:=λ _=>true) hly hys]),?_⟩
  have e:((uac (min xs.length zs.length)).map λ _=>true).all id=true:=by simp
  rw[e]
  exact q H' s
def GF (n:Int)(ts:List Tie)(d:Int)(l:List (Nat × List Nat)):Prop:=(∀ e∈l,GoodE n ts d e)/\(l.map (·.1)).Nodup/\(l.flatMap (·.2)).Nodup/\l.length<=24/\(l.flatMap (·.2)).length<=24/\∀ p,p<n.toNat->((bareG (nbW n ts) (l.flatMap (·.2)) p).length:Int)<d
theorem zth {n:Int}{ts:List Tie}{d:Int}{l:List (Nat × List Nat)}(ok:WebOk n ts)(g:∀ e∈l,GoodE n ts d e)(nd:(l.flatMap (·.2)).Nodup):(l.flatMap (·.2)).length<=24:=by
 have:=zch (b:=uac n.toNat) nd λ x hx=>by
  obtain⟨e,he,hx⟩:=uck.mp hx
  exact uaj.mpr (zja _ _ ((g e he).2.1.subset hx))
 rw[ua8] at this
 have:=ok.n24
 left
theorem zus {n:Int}{ts:List Tie}{d:Int}{l:List (Nat × List Nat)}(ok:WebOk n ts)(h:Og (nbW n ts) d n.toNat n.toNat l):GF n ts d l:=⟨λ e he=>h.good e he,h.up,h.nd,by have:=h.len;have:=ok.n24;left,zth ok (λ e he=>h.good e he) h.nd,h.done⟩
theorem zur {n:Int}{ts:List Tie}{d:Int}(ok:WebOk n ts)(d1:1<=d):GF n ts d (swG (nbW n ts) d n.toNat).1:=by
 have gr:=znp (N:=nbW n ts) (d:=d) (λ p=>zdw p) n.toNat
 obtain⟨c1,c2⟩:=zo3 gr
 have low:=zrv (N:=nbW n ts) d1 n.toNat
 have n24:=ok.n24
 refine⟨λ e he=>⟨gr.low e he,gr.sub e he,gr.big e he⟩,gr.up,by rw[gr.all];exact gr.nd,by left,by rw[gr.all];left,λ p hp=>?_⟩
 rw[gr.all]
 have:=low p hp
 unfold goodG at this
 have:=of_decide_eq_false this
 left
theorem zux {n:Int}{ts:List Tie}{d:Int}{l:List (Nat × List Nat)}(ok:WebOk n ts)(h:GF n ts d l):GdsW n (ones ts) l:=by
 refine⟨h.2.2.2.1,h.2.2.2.2.1,λ e he=>⟨(h.1 e he).1,λ p hp=>?_⟩⟩
 have ok1:=zcj ok
 have ko1:=zc9 (ones ts).length
 have m:=(h.1 e he).2.1.subset hp
 obtain⟨k',hk',m'⟩:=(zhm ok1 ko1).mp m
 obtain⟨j,ej,hj,_⟩:=zno ok1 ko1 (arcs_mem.mpr ⟨k',hk',m'⟩)
 exact⟨zja _ _ m,j,ej,hj⟩
theorem zm3 (ks:List Nat)(h:ks.length<=1000):SDT SD1 (keepD ks):=⟨_,rfl,by unfold keepI;rw[uae,uae];exact h,λ x hx=>by
 obtain⟨i,_,rfl⟩:=ube.mp hx
 exact .inr ⟨i,rfl⟩⟩
def GV (K:uad)(n:Int)(ts:List Tie)(d:Int)(J:Hp)(v:V):Prop:=∃ l,Is K J (grdD l) v/\GF n ts d l
def spLaw (K:uad):Sp:=λ vs H Q _=>∃ (a:Addr)(ns:List Int),vs=[.ref a]/\SqL K H a (ns.map V.int)/\ns.length<=63/\∀ H',Q (.bl true) H'
theorem zua {f:Addr}{fd:FuncData}(T:Bi mg)(F:Fun K "law" "law" s_law f fd)(O__law_pot:‹6› "_law_pot" ["script","k"] (spPot K))(O__law_most:‹6› "_law_most" ["pot","k"] spMost)(O__law_take:‹6› "_law_take" ["pot","many"] spTake)(O__law_plain:‹6› "_law_plain" ["pot","most"] (spPlain52 K))(O_guards_by:‹6› "guards_by" ["web","d"] (spGuards K))(O__law_other_guards:‹6› "_law_other_guards" ["pot","web","d"] (spOG K))(O__law_tree_keep:‹6› "_law_tree_keep" ["web","roots"] (spTKp K))(O_guard_keep:‹6› "guard_keep" ["web","told"] (spGK K))(O__law_same:‹6› "_law_same" ["found","due"] (spSD K (SDT SD1)))(O_least_more:‹6› "least_more" ["web","keep"] (spLM K))(O_guards_right:‹6› "guards_right" ["web","d","told"] (spGsR K))(O_more_paper:‹6› "more_paper" ["web","keep"] (spMP K))(O_more_right:‹6› "more_right" ["web","keep","m","paper"] (spMoreR K)):FnOk P w K mg base CX0 7 f fd ["script"] (spLaw K):=by
 refine F.ok (k:=6) sc_law (λ vs H Q E h=>?_) (λ cdv A outer s H vs Q E hr h=>?_)
 ·obtain⟨a,ns,rfl,_⟩:=h
  rfl
 obtain⟨a,ns,rfl,hS,h63,q⟩:=h
 have nd:=sc_law.nd
 have hl:(ns.map V.int).length=ns.length:=uae _
 refine⟨_,(zac (zbg PassesOwn.never rfl (zbe rfl T.z_range (zaa (zah (zfm rfl) rfl T.z_max (by symm) (zaa zad (zaa (zah (zc5 rfl) rfl T.z_min (by symm) (zaa zad (zaa (zah zao rfl T.z_len (by symm) (zaa (pv 0) zab)) zab))) zab))) zab)) (zag (i:=1) nd rfl (uap rfl)) (zac (zat (i:=2) nd rfl (uap rfl) (zae O__law_pot hr rfl (zaa (pv 0) (zaa (pv 1) zab)))) (zac (zat (i:=3) nd rfl (uap rfl) (zae O__law_plain hr rfl (zaa (pv 2) (zaa (zae O__law_most hr rfl (zaa (pv 2) (zaa (pv 1) zab))) zab)))) (zac (zat (i:=4) nd rfl (uap rfl) (za1 zb1 zad (zae O__law_take hr rfl (zaa (pv 2) (zaa zad zab))))) (zaf (zbg PassesOwn.never rfl (zb6 (zbb (zaa (zae O_guards_by hr rfl (zaa (pv 3) (zaa (pv 4) zab))) (zaa (zae O__law_other_guards hr rfl (zaa (pv 2) (zaa (pv 3) (zaa (pv 4) zab)))) zab)))) (zag (i:=5) nd rfl (uap rfl)) (zac (zat (i:=6) nd rfl (ufy rfl) (zbb zab)) (zac (zbg PassesOwn.never rfl (zbm (pv 5)) (zb3 (n:=2) rfl (zai (zag (i:=7) nd rfl (uap rfl)) (zai (zag (i:=8) nd rfl (uap rfl)) za3))) (zaf (zba (zcu ua7 udb uda zgp (pv 6) (zaa (pv 8) zab))))) (zac (zb8 (i:=9) (N:=["script","k","pot","web","d","told","guarded","guard","places","free","along","keep","more"]) (sc0:=defScope s_law) (own:=["number","tie"]) (fr:=["guarded"]) (js:=[6]) rfl (zez true rfl T.z_enumerate (zaa (zaq zaz (pv 3) zad (λ _ _=>rfl)) zab)) (λ _ _ _ _=>(zb2 (n:=2) rfl (zai (zag (i:=0) (by show ua0 [("number":Str),("tie":Str),("guarded":Str)];decide +kernel) rfl (uap rfl)) (zai (zag (i:=1) (by show ua0 [("number":Str),("tie":Str),("guarded":Str)];decide +kernel) rfl (uap rfl)) za3)))) (λ _ _ _ _=>(zcb (PW.pt (zcd (zap zby (zaq zbf (pv 1) zad (λ _ _=>rfl)) (pv 2) (by with_unfolding_all rfl)) (zbz (zap zby (zaq zbf (pv 1) zad (λ _ _=>rfl)) (pv 2) (by with_unfolding_all rfl))))))) (λ _ _ _ _=>(pv 0)) nd rfl (uap rfl)) (zac (zat (i:=10) nd rfl (uap rfl) (zae O__law_tree_keep hr rfl (zaa (pv 3) (zaa (za7 (N:=["script","k","pot","web","d","told","guarded","guard","places","free","along","keep","more"]) (sc0:=defScope s_law) (own:=["guard","places"]) (fr:=[]) (js:=[]) rfl (zbm (pv 5)) (λ _ _ _ _=>(zb2 (n:=2) rfl (zai (zag (i:=0) (by show ua0 [("guard":Str),("places":Str)];decide +kernel) rfl (uap rfl)) (zai (zag (i:=1) (by show ua0 [("guard":Str),("places":Str)];decide +kernel) rfl (uap rfl)) za3)))) (λ _ _ _ _=>zbc) (λ _ _ _ _=>(pv 0))) zab)))) (zac (zat (i:=11) nd rfl (uap rfl) (zae O_guard_keep hr rfl (zaa (pv 3) (zaa (pv 5) zab)))) (zac (zbh (PW.pt (zcd (zbx (zbl (zae O__law_same hr rfl (zaa (pv 11) (zaa (zar za2 rfl T.z_tuple (by symm) (zaa (zah (zc4 rfl) rfl T.z_sorted (by symm) (zaa (zar (zek rfl) rfl T.z_set (by symm) (zaa (za1 zko (pv 9) (zar zel rfl T.z_list (by symm) (zaa (pv 10) zab))) zab)) zab)) zab)) zab))))) (zbz (zap zfw (zah zao rfl T.z_len (by symm) (zaa (pv 9) zab)) (za1 zgn (zaq zaz (pv 3) zad (λ _ _=>rfl)) (za1 zcl (pv 4) zad)) (nomark _))))) (zaf (zan zck)) zay) (zac (zat (i:=12) nd rfl (uap rfl) (zae O_least_more hr rfl (zaa (pv 3) (zaa (pv 11) zab)))) (zac (zbh (PW.pt (zcd (zap ziv (zae O_guards_right hr rfl (zaa (pv 3) (zaa (pv 4) (zaa (pv 5) zab)))) zck (nomark _)) (zcd (zap ze2 (pv 12) zbn (nomark _)) (zbz (zap zfw (zaq zaz (pv 12) zad (λ _ _=>rfl)) zad (nomark _)))))) (zaf (zan zck)) zay) (zaf (zbh (zap ziv (zae O_more_right hr rfl (zaa (pv 3) (zaa (pv 11) (zaa zad (zaa (zae O_more_paper hr rfl (zaa (pv 3) (zaa (pv 11) zab))) zab))))) zck (nomark _)) (zaf (zan zck)) zay)))))))))))))))) (zaf (zan zck))),?_⟩
 refine⟨_,rfl,a,_,rfl,.inl hS,_,_,rfl,_,_,rfl,_,rfl,?_,?_,?_⟩
 ·split <;> split <;> left
 ·rw[hl];split <;> split <;> left
 generalize hj:(if (if (((ns.map V.int).length:Nat):Int)<5 then (((ns.map V.int).length:Nat):Int) else 5)>1 then (if (((ns.map V.int).length:Nat):Int)<5 then (((ns.map V.int).length:Nat):Int) else 5) else 1)=j
 have j12:j<=5:=by rw[← hj];split <;> split <;> left
 refine zbo (n:=j.toNat) (λ i σ H'=>∃ x1 x2 x3 x4 x5 x6 x7 x8 x9 x10 x11 x12:Option V,σ=[some (.ref a),x1,x2,x3,x4,x5,x6,x7,x8,x9,x10,x11,x12]/\Same H H') ⟨none,none,none,none,none,none,none,none,none,none,none,none,rfl,Same.refl H⟩ ?turn (λ σ H' _=>q H')
 rintro i σ H0 hi ⟨x1,x2,x3,x4,x5,x6,x7,x8,x9,x10,x11,x12,rfl,s0⟩
 refine⟨_,rfl,_,rfl,a,_,ns,rfl,s0.seq hS,by left,by left,λ l H1 s1 fl p1=>?_⟩
 have s01:Same H H1:=s0.trans s1
 have fl0:H l=none:=s0.free fl
 refine⟨_,rfl,_,rfl,_,rfl,l,_,rfl,p1,λ m H1' b2 p2 m1 m24=>⟨l,m,rfl,p2,m1,m24,λ wv H2 n ts b3 p3 ok isw=>?_⟩⟩
 have few60:=ok.few
 have n1:=ok.n1
 have n24:=ok.n24
 have ok1:=zcj ok
 have B2':But l H1 H2:=b2.trans b3
 have tkb:∀ {J J':Hp},But l J J'->Pot J l->TupKeep J J':=λ b pp=>by
  obtain⟨xs,e⟩:=pp.lst
  exact λ a ys h=>b _ _ (λ z=>by rw[z,e] at h;cases h) h
 have isB:∀ {J J':Hp},TupKeep J J'->Is K J (webD n (ones ts)) wv->Is K J' (webD n (ones ts)) wv:=λ k h=>Is.tk k _ (zsk n (ones ts)) h
 obtain⟨g0,g,ws,rfl,hg0,hg,hall,hlw⟩:=zax isw
 refine⟨_,rfl,l,5,rfl,p3,by decide,by decide,λ r J3 r0 r1 b3' q3=>⟨_,_,rfl,rfl,?_⟩⟩
 have tk3:=tkb b3' p3
 have is3:=isB tk3 isw
 have d1:1<=1+r:=by left
 have d24:1+r<=24:=by left
 obtain⟨d,ed⟩:∃ d,d=1+r:=⟨_,rfl⟩
 rw[← ed] at d1 d24
 refine⟨_,rfl,_,rfl,n,ts,_,d,(by rw[ed];rfl),is3,ok,d1,λ v1 J4 S4 isv1=>?_⟩
 refine⟨_,rfl,_,rfl,_,rfl,l,n,ts,_,d,(by rw[ed];rfl),q3.same S4,Is.same S4 _ is3,ok,d1,d24,λ v2 J5 l2 b5 q5 isv2 og=>⟨(by show 2<=1000;decide),λ ld J6 S6 f6 e6=>⟨ld,rfl,⟨_,SqL.of e6⟩,?_⟩⟩⟩
 have tk5:=tkb b5 (q3.same S4)
 have is6:=Is.same S6 _ (isB tk5 (Is.same S4 _ is3))
 have B6:But l H1 J6:=B2'.trans (b3'.trans ((Same.but S4).trans (b5.trans (Same.but S6))))
 have rows:∀ v∈[v1,v2],GV K n ts d J6 v:=λ v hv=>by
  simp only [uar,ua1,or_false] at hv
  rcases hv with rfl | rfl
  ·exact⟨_,Is.same S6 _ (Is.tk tk5 _ (zdq _) isv1),zur ok d1⟩
  ·exact⟨_,Is.same S6 _ isv2,zus ok og⟩
 refine zd4 (xs:=[v1,v2]) (λ i' σ J=>∃ (y5 y6 y7 y8 y9 y10 y11 y12:Option V),σ=[some (.ref a),some (.int (0+(i:Int))),some (.ref l),some (.ref g0),some (.int d),y5,y6,y7,y8,y9,y10,y11,y12]/\Same J6 J) ⟨_,_,_,_,_,_,_,_,(by rw[ed];rfl),Same.refl _⟩ (λ i' σ J _ h=>?_) (λ i' x σ J hx h=>?_) (λ σ J h=>?_)
 ·obtain⟨y5,y6,y7,y8,y9,y10,y11,y12,rfl,sm⟩:=h
  exact SqL.of (sm _ _ e6)
 ·obtain⟨y5,y6,y7,y8,y9,y10,y11,y12,rfl,sm⟩:=h
  obtain⟨gl,isg0,gf⟩:=rows x (uat hx)
  have isg:=Is.same sm _ isg0
  have isJ:=Is.same sm _ is6
  have gw:=zux ok gf
  obtain⟨good,gnd,fnd,l24,f24,glow⟩:=gf
  obtain⟨t,xs,rfl,ht,hxs⟩:=id isg
  have lx:xs.length=gl.length:=by rw[hxs.length,uae]
  have elt:∀ {i:Nat}{x:V},xs[i]?=some x->∃ e,gl[i]?=some e/\Is K J (pairD e) x:=λ {i x} hx=>by
   have hi:i<gl.length:=by have:=(ual.mp hx).1;left
   have el:gl[i]?=some gl[i]:=uaf hi
   obtain⟨x',ex,ix⟩:=hxs.at_ (show (gl.map pairD)[i]?=some (pairD gl[i]) by rw[uak,el];rfl)
   rw[hx] at ex
   cases ex
   exact⟨_,el,ix⟩
  refine⟨(by show 0<=1000;decide),λ b K1 T1 f1 e1=>?_⟩
  refine⟨_,rfl,t,rfl,⟨_,SqT.of (T1 _ _ ht)⟩,?_⟩
  refine zk1 (t:=true) (xs:=xs) (λ i' σ J'=>∃ (y7 y8:Option V),σ=[some (.ref a),some (.int (0+(i:Int))),some (.ref l),some (.ref g0),some (.int d),some (.ref t),some (.ref b),y7,y8,y9,y10,y11,y12]/\Same J J'/\J' b=some (.lst (natV ((gl.take i').flatMap (·.2))))) ⟨_,_,rfl,T1,e1⟩ (λ i' σ J' _ h=>?_) (λ i' x σ J' hx h=>?_) (λ σ J' h=>?_)
  ·obtain⟨y7,y8,rfl,sm',_⟩:=h
   exact SqX.of (t:=true) (sm' _ _ ht)
  ·obtain⟨y7,y8,rfl,sm',hb⟩:=h
   obtain⟨e,el,ix⟩:=elt hx
   obtain⟨tt,tp,rfl,htt,htp⟩:=zb9 ix
   refine⟨tt,_,rfl,SqT.of (sm' _ _ htt),rfl,_,_,rfl,_,_,rfl,rfl,?_⟩
   have tn:(gl.take (i'+1)).flatMap (·.2)=(gl.take i').flatMap (·.2)++e.2:=by
    rw[udv,el,ucn];simp
   have le:((gl.take (i'+1)).flatMap (·.2)).length<=(gl.flatMap (·.2)).length:=by
    conv=>rhs;rw[← ueh (i'+1) gl,ucn,uaq]
    left
   rw[tn,uaq] at le
   refine⟨_,rfl,.inl ⟨rfl,_,SqL.of hb⟩,_,rfl,b,tp,_,_,rfl,rfl,hb,sm' _ _ htp,by rw[zak,zak];left,λ K2 b2 e2=>?_⟩
   refine⟨_,_,rfl,λ a o e=>b2 _ _ (zal e f1) (sm' _ _ e),?_⟩
   rw[e2,tn];unfold natV;rw[ubc]
  obtain⟨y7,y8,rfl,sm',hb⟩:=h
  rw[lx,uc4] at hb
  obtain⟨G,eG⟩:∃ G,G=gl.flatMap (·.2):=⟨_,rfl⟩
  rw[← eG] at hb
  have S6':Same J6 J':=sm.trans sm'
  obtain⟨g0',g',ws',e0,hg0J,hgJ,hallJ,hlwJ⟩:=zax (Is.same S6' _ is6)
  cases e0
    -- the ties that are free
  refine⟨_,rfl,g0,_,_,_,rfl,rfl,SqT.of hg0J,rfl,g',rfl,⟨_,SqX.of (t:=true) hgJ⟩,?_⟩
  refine zjj (t:=true) hgJ (λ σ'=>∃ o1 o2,σ'=[o1,o2,some (.ref b)]) (λ k=>if bareB (ones ts) G k=true then some (V.int (k:Int)) else none) (by rw[hlwJ,za0];left) (by exact⟨none,none,rfl⟩) (λ k x U σ' H' hx s2 hU sg C L hC hL=>?_) (λ L K4 hL S4' hH=>?_)
  ·obtain⟨o1,o2,rfl⟩:=sg
   have hk:k<(ones ts).length:=by have:=(ual.mp hx).1;left
   obtain⟨ta,hta,htie⟩:=zbu hallJ hk
   rw[hx] at hta
   cases hta
   refine⟨U,_,rfl,SqT.of zaj,rfl,_,_,rfl,_,_,rfl,rfl,?_⟩
   have SU:=zam (H:=H') (o:=.tup [.int (k:Nat),.ref ta]) hU
   have s3:=s2.trans SU
   have tk:=ok1.tie _ (zav hk).2
   refine⟨_,rfl,ta,_,_,_,rfl,rfl,SqT.of (s3 _ _ htie),rfl,_,rfl,b,_,rfl,.inl (SqL.of (s3 _ _ hb)),rfl,zci _,_,rfl,?_⟩
   show if (!inV (V.int (tieAt (ones ts) k).1) (natV G))=true then _ else _
   rw[zc0 tk.1]
   cases d1:decide ((tieAt (ones ts) k).1.toNat∈G) with
   | false=>exact iteT ⟨_,rfl,hC _ _ _ ⟨_,_,rfl⟩ SU (by rw[if_pos (by unfold bareB;rw[d1];rfl)])⟩
   | true =>
    refine iteF ⟨_,rfl,ta,_,_,_,rfl,rfl,SqT.of (s3 _ _ htie),rfl,_,rfl,b,_,rfl,.inl (SqL.of (s3 _ _ hb)),rfl,zci _,_,rfl,?_⟩
    show if (!inV (V.int (tieAt (ones ts) k).2.1) (natV G))=true then _ else _
    rw[zc0 (show 0<=(tieAt (ones ts) k).2.1 by left)]
    cases d2:decide ((tieAt (ones ts) k).2.1.toNat∈G) with
    | false=>exact iteT ⟨_,rfl,hC _ _ _ ⟨_,_,rfl⟩ SU (by rw[if_pos (by unfold bareB;rw[d1,d2];rfl)])⟩
    | true=>exact iteF (hL _ _ ⟨_,_,rfl⟩ SU (by rw[if_neg (by unfold bareB;rw[d1,d2];decide)]))
  rw[hlwJ,zdt] at hH
  have hH':K4 L=some (.lst (natV (btK (ones ts) G))):=hH
  have S64:=S6'.trans S4'
  have SJ4:=sm'.trans S4'
    -- along
  refine⟨_,rfl,_,rfl,t,rfl,⟨_,SqT.of (SJ4 _ _ ht)⟩,?_⟩
  refine zbr (SJ4 _ _ ht) (λ σ'=>∃ o1 o2,σ'=[o1,o2]) (λ i x _=>x=.int ((gl.map (·.1)).getD i 0:Nat)) (by left) (by exact⟨none,none,rfl⟩) (λ _ _ _ _ _ h=>h) (λ i x σ' H' hx s4 sg C hC=>?_) (λ L5 ys5 K5 hL5 s5 hH5 hly5 hys5=>?_)
  ·obtain⟨o1,o2,rfl⟩:=sg
   obtain⟨e,he,ix⟩:=elt hx
   obtain⟨tt,tp,rfl,htt,htp⟩:=zb9 ix
   refine⟨tt,_,rfl,SqT.of ((SJ4.trans s4) _ _ htt),rfl,_,_,rfl,_,_,rfl,rfl,?_⟩
   refine⟨_,rfl,hC _ _ _ ⟨_,_,rfl⟩ (Same.refl _) ?_⟩
   rw[uah,uak,he];rfl
  rw[zl7 (by left) hys5,← za4] at hH5
  have S65:=S64.trans s5
  have gn:∀ r∈gl.map (·.1),r<n.toNat:=λ r hr=>by
   obtain⟨e,he,rfl⟩:=ube.mp hr
   exact (good e he).1
  refine⟨n,ones ts,_,L5,gl.map (·.1),rfl,Is.same S65 _ is6,ok1,hH5,by rw[uae];exact l24,gn,λ tf K7 S7 e7=>?_⟩
  have S67:=S65.trans S7
  refine⟨_,rfl,_,rfl,n,ts,_,_,gl,rfl,Is.same S67 _ is6,ok,Is.same (SJ4.trans (s5.trans S7)) _ isg,l24,f24,λ e he=>(good e he).1,λ kp K8 S8 e8=>?_⟩
  have S68:=S67.trans S8
  have hL8:=S8 _ _ (S7 _ _ (s5 _ _ hH'))
  have bo:=zsf (ones ts) G
  have po:=zep n (ones ts) (gl.map (·.1))
  have lb:=bo.len
  have lp:=po.len
  have len1:(ones ts).length=ts.length:=za0
  refine⟨_,rfl,_,rfl,_,rfl,tf,_,rfl,.inr (S8 _ _ e7),λ la K9 S9 f9 e9=>⟨L,la,_,_,rfl,rfl,S9 _ _ hL8,e9,by rw[zak,zak];left,λ lc Ka Sa fa ea=>?_⟩⟩
  have ea':Ka lc=some (.lst ((keepI (btK (ones ts) G++ptK n (ones ts) (gl.map (·.1)))).map V.int)):=by
   rw[ea,← za4];unfold natV;rw[ubc]
  refine⟨lc,_,rfl,ea',by rw[zfe,uaq];left,λ q1 Kb Sb fb eb=>?_⟩
  have c1:=zph (keepI (btK (ones ts) G++ptK n (ones ts) (gl.map (·.1))))
  have bd:∀ k,HT.setS (keepI (btK (ones ts) G++ptK n (ones ts) (gl.map (·.1)))) (keepI (btK (ones ts) G++ptK n (ones ts) (gl.map (·.1)))).length k=true->0<=k/\k<(ts.length:Nat):=λ k h=>by
   obtain⟨c,hc,rfl⟩:=ube.mp ((zds _ k).mp h)
   rcases ua6.mp hc with z | z
   ·have:=bo.2 c z;left
   ·have:=po.2 c z;left
  have f1':=zmh c1 bd
  refine⟨q1,_,_,rfl,eb,by left,λ ms m1 m2 m3' l3 Kc Sc fc ec=>⟨l3,_,rfl,ec,λ kq Kd Sd fd ed=>?_⟩⟩
  obtain⟨ek,ko3⟩:=zjl c1 m1 m2 m3' bd
  have eks:(uac ts.length).filter (λ k:Nat=>HT.setS (keepI (btK (ones ts) G++ptK n (ones ts) (gl.map (·.1)))) (keepI (btK (ones ts) G++ptK n (ones ts) (gl.map (·.1)))).length (k:Int))=gkK n ts gl:=zc8 ko3.1 (zl6 n ts gl).1 λ k=>by
   rw[gkK_mem,uaz,uaj,zns,ua6,← eG]
   refine⟨And.right,λ h=>⟨?_,h⟩⟩
   rcases h with z | z
   ·have:=bo.2 k z;left
   ·have:=po.2 k z;left
  rw[ek,eks] at ed
  have ko:=zl6 n ts gl
  have lko:=ko.len
  have S8d:=S9.trans (Sa.trans (Sb.trans (Sc.trans Sd)))
  refine⟨keepD (gkK n ts gl),_,_,rfl,zm3 _ (by left),zb4 (S8d _ _ e8),zb4 ed,λ Ke Se=>⟨_,rfl,iteF ?_⟩⟩
  have S8e:=S8d.trans Se
  have S6e:=S68.trans S8e
  have hL9:=S8e _ _ hL8
  have hg0e:=S8e _ _ (S8 _ _ (S7 _ _ (s5 _ _ (S4' _ _ hg0J))))
  have few:=znb ok d1 glow
  rw[← eG] at few
  refine⟨_,rfl,L,_,rfl,.inl (SqL.of hL9),_,rfl,g0,_,_,_,rfl,rfl,SqT.of hg0e,rfl,_,rfl,_,_,rfl,rfl,_,_,rfl,rfl,.inr ⟨by left,by left⟩,_,_,rfl,rfl,_,rfl,?_⟩
  rw[zak,decide_eq_false (by left)]
  refine iteF ?_
  have wk:WK K Ke n (ones ts) (gkK n ts gl) (.ref g0) (.ref kp):=⟨Is.same S6e _ is6,ok1,zb4 (S8e _ _ e8),by rw[za0];exact ko⟩
  obtain⟨mb,t',et',le'⟩:=zq4 ok ko gw (λ k hk hb=>gkK_mem.mpr (.inl (uaz.mpr ⟨uaj.mpr hk,hb⟩))) (λ k hk=>gkK_mem.mpr (.inr hk))
  refine⟨_,rfl,_,rfl,n,ts,_,_,_,rfl,wk,ok,λ va Kf Sf lav=>?_⟩
  have SJe:Same J Ke:=SJ4.trans (s5.trans (S7.trans (S8.trans S8e)))
  rcases lav with ⟨_,eo⟩ | ⟨ta,mm,rfl,eo,hta⟩
  ·rw[et'] at eo;cases eo
  rw[et'] at eo
  cases eo
  refine⟨_,rfl,_,rfl,_,rfl,n,ts,_,d,gl,_,rfl,Is.same (S6e.trans Sf) _ is6,ok,d1,Is.same (SJe.trans Sf) _ isg,good,gnd,fnd,l24,f24,glow,λ Kg Sg=>?_⟩
  refine⟨_,_,rfl,rfl,_,rfl,iteF ?_⟩
  refine⟨_,rfl,rfl,_,rfl,iteF ?_⟩
  refine⟨_,rfl,ta,_,_,_,rfl,rfl,SqT.of (Sg _ _ hta),rfl,_,_,rfl,rfl,_,rfl,?_⟩
  rw[decide_eq_false (by left)]
  refine iteF ?_
  have wkg:=wk.same (Sf.trans Sg)
  refine⟨_,rfl,_,rfl,_,rfl,_,rfl,n,ts,_,_,_,rfl,wkg,ok,λ pa Kh Sh mpa=>?_⟩
  refine⟨n,ts,_,_,_,2,pa,rfl,wkg.same Sh,ok,mpa,λ Ki Si=>?_⟩
  rw[mb]
  refine⟨_,_,rfl,rfl,_,rfl,iteF ?_⟩
  exact⟨_,_,_,_,_,_,_,_,rfl,S6e.trans (Sf.trans (Sg.trans (Sh.trans Si)))⟩
 ·obtain⟨y5,y6,y7,y8,y9,y10,y11,y12,rfl,sm⟩:=h
  exact⟨_,_,_,_,_,_,_,_,_,_,_,_,rfl,λ b o e=>sm _ _ (B6 _ _ (zal e fl0) (s01 _ _ e))⟩
end
end Me
namespace Me
open PySem PySem.Spec PyProof.Rows L2 L3
abbrev Bdq (x:Str)(st:Stmt)(ps:List Str):Prop:=∀ (kV doc pm:Value)(an:Option Addr)(cdv ct:Value)(us:List Value),us.length=ps.length->bindArgs (uc2 x x (defArgs st) (defBody st) (defScope st) .none kV doc pm an cdv ct) ⟨us,[]⟩=pure (ps.zip us)
theorem zun {K:uad}{h:Heap}{mg:Str->Option Value}{x:Str}{st:Stmt}{ps:List Str}{f:Addr}{od an:Option Addr}{sl:Array (Option Value)}{oc kV dc pm cd ct:Value}(X:K.In h)(G:h.Ns mainGlobals mg)
  (b:∀ (kV doc pm:Value)(an:Option Addr)(cdv ct:Value)(us:List Value),us.length=ps.length->bindArgs (uc2 x x (defArgs st) (defBody st) (defScope st) .none kV doc pm an cdv ct) ⟨us,[]⟩=pure (ps.zip us))
  (a:ubq K mainGlobals x=some (some (.ref f))) (l:K.lookup f=some ⟨oc,od,.func (uc2 x x (defArgs st) (defBody st) (defScope st) .none kV dc pm an cd ct),sl⟩) (c:uet K cd x=true) (k:ued K (.ref f)=true):DefOk K mg x st ps:=by
 have F:=zr9 (st:=st) l c k
 exact⟨f,_,F,F.binds b,PySem.W.mg_of X G a⟩
theorem dq {p:Program}{K:uad}{h:Heap}{mg:Str->Option Value}{x:Str}{st:Stmt}{ps:List Str}(f c j u:Nat)(X:K.In h)(G:h.Ns mainGlobals mg)
  (b:∀ (kV doc pm:Value)(an:Option Addr)(cdv ct:Value)(us:List Value),us.length=ps.length->bindArgs (uc2 x x (defArgs st) (defBody st) (defScope st) .none kV doc pm an cdv ct) ⟨us,[]⟩=pure (ps.zip us))
  (a:ubq K mainGlobals x=some (some (.ref f)):=by kernel_rfl) (l:K.lookup f=some ⟨.type "function",none,.func (uc2 x x (defArgs st) (defBody st) (defScope st) .none .none .none (Hx.mdV p ⟨0,0,0,j,u,0⟩) none (.ref c) .none),#[]⟩:=by kernel_rfl) (cc:uet K (.ref c) x=true:=by kernel_rfl) (k:ued K (.ref f)=true:=by kernel_rfl):DefOk K mg x st ps:=zun X G b a l cc k
theorem zla:Bdq "is_whole" s_is_whole ["thing"]:=by ac_rfl
theorem zjx:Bdq "is_wholes" s_is_wholes ["thing"]:=by ac_rfl
theorem zjy:Bdq "is_rising" s_is_rising ["parts"]:=by ac_rfl
theorem zgd:Bdq "is_tuple_of" s_is_tuple_of ["thing","many"]:=by ac_rfl
theorem zlc:Bdq "is_place" s_is_place ["web","thing"]:=by ac_rfl
theorem zlb:Bdq "is_plain" s_is_plain ["web"]:=by ac_rfl
theorem zrr:Bdq "whole" s_whole ["web"]:=by ac_rfl
theorem zga:Bdq "tie_between" s_tie_between ["web","a","b"]:=by ac_rfl
theorem zdf:Bdq "are_unlike_places" s_are_unlike_places ["web","thing"]:=by ac_rfl
theorem zf9:Bdq "tie_weights" s_tie_weights ["web"]:=by ac_rfl
theorem zj1:Bdq "cost_with" s_cost_with ["cost","length","weight"]:=by ac_rfl
theorem zfp:Bdq "reached_from" s_reached_from ["web","keep","root"]:=by ac_rfl
theorem zj0:Bdq "fars_from" s_fars_from ["web","keep","root"]:=by ac_rfl
theorem zjw:Bdq "tree_from" s_tree_from ["web","keep","root"]:=by ac_rfl
theorem zgc:Bdq "led_to_root" s_led_to_root ["web","keep","tree","root","place"]:=by ac_rfl
theorem zpp:Bdq "across" s_across ["web","tie","heights"]:=by ac_rfl
theorem zfq:Bdq "heights_hold" s_heights_hold ["web","keep","heights"]:=by ac_rfl
theorem zfr:Bdq "heights_from" s_heights_from ["web","keep","a","roof"]:=by ac_rfl
theorem zic:Bdq "need_plain" s_need_plain ["web"]:=by ac_rfl
theorem zif:Bdq "least_more" s_least_more ["web","keep"]:=by ac_rfl
theorem zie:Bdq "more_paper" s_more_paper ["web","keep"]:=by ac_rfl
theorem zpo:Bdq "is_led" s_is_led ["web","keep","m","u","heights","tree","place"]:=by ac_rfl
theorem zgb:Bdq "place_right" s_place_right ["web","keep","m","u","heights","tree"]:=by ac_rfl
theorem zid:Bdq "more_right" s_more_right ["web","keep","m","paper"]:=by ac_rfl
theorem zjv:Bdq "tree_ties" s_tree_ties ["web","tree"]:=by ac_rfl
theorem zh9:Bdq "post_trees" s_post_trees ["web","posts"]:=by ac_rfl
theorem zia:Bdq "neighbours" s_neighbours ["web","keep","place"]:=by ac_rfl
theorem zib:Bdq "need_share" s_need_share ["d"]:=by ac_rfl
theorem zeb:Bdq "bare_neighbours" s_bare_neighbours ["web","place","guarded"]:=by ac_rfl
theorem zjz:Bdq "guards_by" s_guards_by ["web","d"]:=by ac_rfl
theorem zgf:Bdq "all_guarded" s_all_guarded ["told"]:=by ac_rfl
theorem zge:Bdq "guard_right" s_guard_right ["web","d","pair"]:=by ac_rfl
theorem zfs:Bdq "guards_right" s_guards_right ["web","d","told"]:=by ac_rfl
theorem zj2:Bdq "bare_ties" s_bare_ties ["web","told"]:=by ac_rfl
theorem zk9:Bdq "posts_of" s_posts_of ["told"]:=by ac_rfl
theorem zig:Bdq "guard_keep" s_guard_keep ["web","told"]:=by ac_rfl
theorem zle:Bdq "_law_pot" s__law_pot ["script","k"]:=by ac_rfl
theorem zj5:Bdq "_law_take" s__law_take ["pot","many"]:=by ac_rfl
theorem zgg:Bdq "_law_length" s__law_length ["pot","way"]:=by ac_rfl
theorem zj4:Bdq "_law_tied" s__law_tied ["pot","n","style","a","b"]:=by ac_rfl
theorem zii:Bdq "_law_order" s__law_order ["pot","many"]:=by ac_rfl
theorem zld:Bdq "_law_web" s__law_web ["pot","most"]:=by ac_rfl
theorem zgh:Bdq "_law_beside" s__law_beside ["web","keep"]:=by ac_rfl
theorem zft:Bdq "_law_weights" s__law_weights ["web"]:=by ac_rfl
theorem zfu:Bdq "_law_weighed" s__law_weighed ["web","keep","start"]:=by ac_rfl
theorem zj3:Bdq "_law_tree" s__law_tree ["web","keep","root"]:=by ac_rfl
theorem zj7:Bdq "_law_most" s__law_most ["pot","k"]:=by ac_rfl
theorem zih:Bdq "_law_plain" s__law_plain ["pot","most"]:=by ac_rfl
theorem zen:Bdq "_law_tree_keep" s__law_tree_keep ["web","roots"]:=by ac_rfl
theorem zj6:Bdq "_law_same" s__law_same ["found","due"]:=by ac_rfl
theorem zdg:Bdq "_law_other_guards" s__law_other_guards ["pot","web","d"]:=by ac_rfl
theorem ztc {P:Program}{w:World}{K:uad}{mg:Str->Option Value}{base:Heap}{f:Addr}{fd:FuncData}(T:Bi mg)
  (D_is_whole:DefOk K mg "is_whole" s_is_whole ["thing"])
  (D_is_wholes:DefOk K mg "is_wholes" s_is_wholes ["thing"])
  (D_is_rising:DefOk K mg "is_rising" s_is_rising ["parts"])
  (D_is_tuple_of:DefOk K mg "is_tuple_of" s_is_tuple_of ["thing","many"])
  (D_is_place:DefOk K mg "is_place" s_is_place ["web","thing"])
  (D_is_plain:DefOk K mg "is_plain" s_is_plain ["web"])
  (D_whole:DefOk K mg "whole" s_whole ["web"])
  (D_tie_between:DefOk K mg "tie_between" s_tie_between ["web","a","b"])
  (D_are_unlike_places:DefOk K mg "are_unlike_places" s_are_unlike_places ["web","thing"])
  (D_tie_weights:DefOk K mg "tie_weights" s_tie_weights ["web"])
  (D_cost_with:DefOk K mg "cost_with" s_cost_with ["cost","length","weight"])
  (D_reached_from:DefOk K mg "reached_from" s_reached_from ["web","keep","root"])
  (D_fars_from:DefOk K mg "fars_from" s_fars_from ["web","keep","root"])
  (D_tree_from:DefOk K mg "tree_from" s_tree_from ["web","keep","root"])
  (D_led_to_root:DefOk K mg "led_to_root" s_led_to_root ["web","keep","tree","root","place"])
  (D_across:DefOk K mg "across" s_across ["web","tie","heights"])
  (D_heights_hold:DefOk K mg "heights_hold" s_heights_hold ["web","keep","heights"])
  (D_heights_from:DefOk K mg "heights_from" s_heights_from ["web","keep","a","roof"])
  (D_need_plain:DefOk K mg "need_plain" s_need_plain ["web"])
  (D_least_more:DefOk K mg "least_more" s_least_more ["web","keep"])
  (D_more_paper:DefOk K mg "more_paper" s_more_paper ["web","keep"])
  (D_is_led:DefOk K mg "is_led" s_is_led ["web","keep","m","u","heights","tree","place"])
  (D_place_right:DefOk K mg "place_right" s_place_right ["web","keep","m","u","heights","tree"])
  (D_more_right:DefOk K mg "more_right" s_more_right ["web","keep","m","paper"])
  (D_tree_ties:DefOk K mg "tree_ties" s_tree_ties ["web","tree"])
  (D_post_trees:DefOk K mg "post_trees" s_post_trees ["web","posts"])
  (D_neighbours:DefOk K mg "neighbours" s_neighbours ["web","keep","place"])
  (D_need_share:DefOk K mg "need_share" s_need_share ["d"])
  (D_bare_neighbours:DefOk K mg "bare_neighbours" s_bare_neighbours ["web","place","guarded"])
  (D_guards_by:DefOk K mg "guards_by" s_guards_by ["web","d"])
  (D_all_guarded:DefOk K mg "all_guarded" s_all_guarded ["told"])
  (D_guard_right:DefOk K mg "guard_right" s_guard_right ["web","d","pair"])
  (D_guards_right:DefOk K mg "guards_right" s_guards_right ["web","d","told"])
  (D_bare_ties:DefOk K mg "bare_ties" s_bare_ties ["web","told"])
  (D_posts_of:DefOk K mg "posts_of" s_posts_of ["told"])
  (D_guard_keep:DefOk K mg "guard_keep" s_guard_keep ["web","told"])
  (D__law_pot:DefOk K mg "_law_pot" s__law_pot ["script","k"])
  (D__law_take:DefOk K mg "_law_take" s__law_take ["pot","many"])
  (D__law_length:DefOk K mg "_law_length" s__law_length ["pot","way"])
  (D__law_tied:DefOk K mg "_law_tied" s__law_tied ["pot","n","style","a","b"])
  (D__law_order:DefOk K mg "_law_order" s__law_order ["pot","many"])
  (D__law_web:DefOk K mg "_law_web" s__law_web ["pot","most"])
  (D__law_beside:DefOk K mg "_law_beside" s__law_beside ["web","keep"])
  (D__law_weights:DefOk K mg "_law_weights" s__law_weights ["web"])
  (D__law_weighed:DefOk K mg "_law_weighed" s__law_weighed ["web","keep","start"])
  (D__law_tree:DefOk K mg "_law_tree" s__law_tree ["web","keep","root"])
  (D__law_most:DefOk K mg "_law_most" s__law_most ["pot","k"])
  (D__law_plain:DefOk K mg "_law_plain" s__law_plain ["pot","most"])
  (D__law_tree_keep:DefOk K mg "_law_tree_keep" s__law_tree_keep ["web","roots"])
  (D__law_same:DefOk K mg "_law_same" s__law_same ["found","due"])
  (D__law_other_guards:DefOk K mg "_law_other_guards" s__law_other_guards ["pot","web","d"])
  (F:Fun K "law" "law" s_law f fd):FnOk P w K mg base CX0 7 f fd ["script"] (spLaw K):=by
 have O__law_take:=zi4 (P:=P) (w:=w) (base:=base) T D__law_take
 have O__law_pot:=zku (P:=P) (w:=w) (base:=base) T D__law_pot
 have O__law_length:=zf4 T D__law_length O__law_take
 have O__law_tied:=zi3 T D__law_tied O__law_take
 have O__law_order:=zhl T D__law_order O__law_take
 have O__law_web:=zkt T D__law_web (O__law_take.mono (by decide)) O__law_order O__law_tied O__law_length
 have O__law_most:=zf3 T D__law_most O__law_take
 have O__law_plain:=zhk T D__law_plain O__law_web
 have O_whole:=zq2 (P:=P) (w:=w) (base:=base) T D_whole
 have O_is_whole:=zkq (P:=P) (w:=w) (base:=base) T D_is_whole
 have O_is_wholes:=zix T D_is_wholes O_is_whole
 have O_is_plain:=zkr (P:=P) (w:=w) (base:=base) T D_is_plain
 have O_need_plain:=zhe T D_need_plain O_is_plain
 have O_is_tuple_of:=ze3 (P:=P) (w:=w) (K:=K) (base:=base) T D_is_tuple_of
 have O_is_placeO:=ziy T D_is_place O_is_whole
 have O_tie_between:=zfy (P:=P) (w:=w) (base:=base) T D_tie_between
 have O_across:=zoj (P:=P) (w:=w) (base:=base) T D_across
 have O_heights_hold:=ze4 T D_heights_hold O_is_wholes (O_across.mono (by decide))
 have O_tie_weights:=zfx (P:=P) (w:=w) (base:=base) T D_tie_weights
 have O_cost_with:=zi1 (P:=P) (w:=w) (base:=base) T D_cost_with
 have O_reached_fromC:=zer T D_reached_from O_tie_weights O_cost_with
 have O_reached_from:‹2› "reached_from" ["web","keep","root"] (spReached K):=O_reached_fromC.imp zn0
 have O_reached_fromB:‹2› "reached_from" ["web","keep","root"] (spReachedB K):=O_reached_fromC.imp zn1
 have O_fars_from:=zi0 T D_fars_from O_reached_from
 have O_tree_from:=zha T D_tree_from O_reached_fromB
 have O_heights_from:=ze5 T D_heights_from O_fars_from
 have O_least_more:=zhh T D_least_more (O_need_plain.mono (by decide)) O_fars_from (O_whole.mono (by decide))
 have O_more_paper:=zhg T D_more_paper (O_need_plain.mono (by decide)) O_heights_from (O_whole.mono (by decide)) (O_tree_from.mono (by decide))
 have O_led_to_root:=zf0 T D_led_to_root O_is_placeO (O_tie_between.mono (by decide))
 have O_is_led:=zoi T D_is_led O_led_to_root
 have O_place_right:=zfz T D_place_right (O_heights_hold.mono (by decide)) (O_whole.mono (by decide)) (O_is_tuple_of.mono (by decide)) O_is_led
 have O_more_right:=zhf T D_more_right (O_need_plain.mono (by decide)) (O_is_tuple_of.mono (by decide)) O_place_right
 have O_tree_ties:=ziw T D_tree_ties O_tie_between
 have O_post_trees:=zhb T D_post_trees (O_tree_ties.mono (by decide)) O_tree_from (O_whole.mono (by decide))
 have O_need_share:=zhd T D_need_share O_is_whole
 have O_neighbours:=zhc (P:=P) (w:=w) (base:=base) T D_neighbours
 have O_bare_neighbours:=zdv T D_bare_neighbours O_neighbours O_whole
 have O_guards_by:=ziz T D_guards_by O_need_plain O_need_share O_bare_neighbours
 have O_all_guarded:=zf2 (P:=P) (w:=w) (base:=base) T D_all_guarded
 have O_is_place:=zks T D_is_place O_is_whole
 have O_are_unlike_places:=zdd T D_are_unlike_places O_is_place
 have O_is_rising:=zef (P:=P) (w:=w) (K:=K) (base:=base) T D_is_rising
 have O_guard_right:=zf1 T D_guard_right (O_is_tuple_of.mono (by decide)) (O_is_place.mono (by decide)) O_are_unlike_places (O_is_rising.mono (by decide)) (O_tie_between.mono (by decide))
 have O_guards_right:=ze6 T D_guards_right (O_need_plain.mono (by decide)) (O_need_share.mono (by decide)) O_guard_right (O_all_guarded.mono (by decide)) (O_bare_neighbours.mono (by decide))
 have O_bare_ties:=zi2 T D_bare_ties O_all_guarded O_whole
 have O_posts_of:=zkp (P:=P) (w:=w) (base:=base) T D_posts_of
 have O_guard_keep:=zhi T D_guard_keep (O_need_plain.mono (by decide)) (O_bare_ties.mono (by decide)) (O_posts_of.mono (by decide)) O_post_trees
 have O__law_beside:=ze8 (P:=P) (w:=w) (base:=base) T D__law_beside
 have O__law_other_guards:=zde T D__law_other_guards O__law_take O__law_beside
 have O__law_weights:=ze7 (P:=P) (w:=w) (base:=base) T D__law_weights
 have O__law_weighed:=zes T D__law_weighed O__law_weights
 have O__law_tree:=zhj T D__law_tree (O__law_weights.mono (by decide)) O__law_weighed
 have O__law_tree_keep:=zdl T D__law_tree_keep O__law_tree
 have O__law_same0:=zqq (P:=P) (w:=w) (base:=base) D__law_same
 have O__law_same1:=zqp T D__law_same O__law_same0
 have O__law_same1':‹1› "_law_same" ["found","due"] (spSD K SD1):=O__law_same1.imp λ _ _ _ _ h=>znv h
 have O__law_same:=znu T D__law_same O__law_same1'
 exact zua T F (O__law_pot.mono (by decide)) (O__law_most.mono (by decide)) (O__law_take.mono (by decide)) (O__law_plain.mono (by decide)) (O_guards_by.mono (by decide)) (O__law_other_guards.mono (by decide)) (O__law_tree_keep.mono (by decide)) (O_guard_keep.mono (by decide)) (O__law_same.mono (by decide)) (O_least_more.mono (by decide)) (O_guards_right.mono (by decide)) (O_more_paper.mono (by decide)) O_more_right
theorem walk {l:PySem.W.OpenLaw}{q:Program}{loose:List Str}{XP:(Str->Option Value)->Heap->Prop}{YP:World->Heap->Prop}{d:DefRec}{K:Params->uad}(hn:l.most=some 63)(hdf:d.params.defaults=[])
  (hY:∀ (w:World)(h:Heap),YP w h->(K w.params).In h)
  (F:∀ (w:World)(mg:Str->Option Value)(fa:Addr)(h:Heap),(K w.params).In h->h.Ns mainGlobals mg->mg d.name=some (.ref fa) ->
   ∃ fd:FuncData,(∀ (s:Shared)(u:Value),BindsTo s fd ⟨[u],[]⟩ [("script",u)])/\∀ base:Heap,(K w.params).In base->base.Ns mainGlobals mg->FnOk l.prog w (K w.params) mg base CX0 7 fa fd ["script"] (spLaw (K w.params))) :
  PySem.W.WalkO q loose XP YP l.row.toRowW d [] (λ f vs=>PySem.call f vs) :=
 L2.zsj (n:=63) (k:=7) (x:="script") (CX:=λ _=>CX0) (sp:=λ w=>spLaw (K w.params)) hn (by decide) hdf ⟨rfl,by decide,by decide,rfl⟩ hY F (λ _ _ a ns hl _ hS=>⟨a,ns,rfl,hS,hl,λ _=>rfl⟩) λ _ _ _ _ _ z=>z
end Me
namespace Hy
open PySem PySem.W Hx
def cs:List Ch:=[⟨0,15,187,0,187,0⟩,⟨1,15,189,0,187,0⟩,⟨2,28,207,0,187,24⟩,⟨3,40,223,0,187,24⟩,⟨4,52,239,4,239,0⟩,⟨5,52,241,4,239,0⟩,⟨6,59,248,4,239,0⟩,⟨7,64,254,4,239,0⟩,⟨8,69,260,4,239,0⟩,⟨9,76,268,9,268,0⟩,⟨10,76,270,9,268,0⟩,⟨11,83,278,9,268,0⟩,⟨12,88,284,9,268,0⟩,⟨13,95,291,9,268,0⟩,⟨14,102,303,14,303,0⟩,⟨15,102,305,14,303,0⟩,⟨16,107,311,14,303,0⟩,⟨17,114,321,14,303,0⟩,⟨18,121,330,14,303,0⟩,⟨19,128,350,14,303,0⟩,⟨20,133,356,14,303,0⟩,⟨21,140,367,14,303,0⟩,⟨22,147,380,22,380,0⟩,⟨23,147,382,22,380,0⟩,⟨24,154,394,22,380,0⟩,⟨25,159,400,22,380,0⟩,⟨26,164,406,26,406,0⟩,⟨27,164,408,26,406,0⟩,⟨28,171,415,26,406,0⟩,⟨29,178,428,26,406,0⟩,⟨30,185,438,26,406,0⟩,⟨31,192,452,26,406,0⟩,⟨32,197,458,26,406,0⟩,⟨33,202,464,33,464,0⟩,⟨34,202,466,33,464,0⟩,⟨35,207,472,33,464,0⟩,⟨36,214,482,36,482,0⟩,⟨37,214,484,36,482,0⟩,⟨38,219,490,38,490,0⟩,⟨39,219,492,38,490,0⟩,⟨40,226,499,38,490,0⟩,⟨41,231,505,38,490,0⟩,⟨42,238,517,38,490,0⟩,⟨43,245,527,38,490,0⟩,⟨44,250,533,38,490,0⟩,⟨45,255,539,38,490,0⟩,⟨46,260,545,38,490,0⟩,⟨47,265,551,38,490,0⟩,⟨48,272,559,48,559,0⟩,⟨49,272,561,48,559,0⟩,⟨50,279,571,48,559,0⟩,⟨51,286,580,48,559,0⟩,⟨52,293,588,48,559,0⟩,⟨53,300,600,48,559,0⟩,⟨54,307,611,48,559,0⟩,⟨55,314,628,48,559,0⟩,⟨56,319,634,48,559,0⟩,⟨57,324,640,48,559,0⟩,⟨58,331,652,48,559,0⟩,⟨59,338,672,48,559,0⟩,⟨60,345,690,48,559,0⟩,⟨61,352,699,48,559,0⟩,⟨62,357,705,48,559,0⟩,⟨63,362,711,48,559,0⟩,⟨64,367,717,48,559,0⟩,⟨65,372,723,48,559,0⟩]
end Hy
lay_quick Hx.PieceT Hx.PreT Hx.BlockT Hx.LookA Hx.LookB Hx.LookC PySem.Challenge.pw_thinways_k57_whole_guards_keep_two_more
namespace Hy
open PySem PySem.W Hx
theorem pre:PreT uaa boots boot_drawn boot_heap boot_toks cs ⟨0,15,187⟩:=by
 rw[PySem.W.Fast.te16428918119715843241,PySem.W.Fast.te17302157506105824078];delta PySem.W.Fast.tw16428918119715843241;intro w;kernel_rfl
theorem pc0:PieceT uaa boots boot_drawn cs ⟨0,15,187⟩ ⟨2,28,207⟩ 196:=by
 rw[PySem.W.Fast.te4643275101561185336,PySem.W.Fast.te17302157506105824078];delta PySem.W.Fast.tw4643275101561185336;intro w;kernel_rfl
theorem pc1:PieceT uaa boots boot_drawn cs ⟨2,28,207⟩ ⟨3,40,223⟩ 214:=by
 rw[PySem.W.Fast.te4643275101561185336,PySem.W.Fast.te17302157506105824078];delta PySem.W.Fast.tw4643275101561185336;intro w;kernel_rfl
theorem pc2:PieceT uaa boots boot_drawn cs ⟨3,40,223⟩ ⟨12,88,284⟩ 399:=by
 rw[PySem.W.Fast.te4643275101561185336,PySem.W.Fast.te17302157506105824078];delta PySem.W.Fast.tw4643275101561185336;intro w;kernel_rfl
theorem pc3:PieceT uaa boots boot_drawn cs ⟨12,88,284⟩ ⟨26,164,406⟩ 393:=by
 rw[PySem.W.Fast.te4643275101561185336,PySem.W.Fast.te17302157506105824078];delta PySem.W.Fast.tw4643275101561185336;intro w;kernel_rfl
theorem pc4:PieceT uaa boots boot_drawn cs ⟨26,164,406⟩ ⟨42,238,517⟩ 394:=by
 rw[PySem.W.Fast.te4643275101561185336,PySem.W.Fast.te17302157506105824078];delta PySem.W.Fast.tw4643275101561185336;intro w;kernel_rfl
theorem pc5:PieceT uaa boots boot_drawn cs ⟨42,238,517⟩ ⟨56,319,634⟩ 401:=by
 rw[PySem.W.Fast.te4643275101561185336,PySem.W.Fast.te17302157506105824078];delta PySem.W.Fast.tw4643275101561185336;intro w;kernel_rfl
theorem pc6:PieceT uaa boots boot_drawn cs ⟨56,319,634⟩ ⟨66,377,729⟩ 304:=by
 rw[PySem.W.Fast.te4643275101561185336,PySem.W.Fast.te17302157506105824078];delta PySem.W.Fast.tw4643275101561185336;intro w;kernel_rfl
theorem blk:BlockT uaa :=by
 rw[PySem.W.Fast.te421534021395069552,PySem.W.Fast.te17302157506105824078];delta PySem.W.Fast.tw421534021395069552;intro w s;kernel_rfl
theorem run (w:World)(os:OsState):topRun treeTable uaa w 11 ann0 (12+(1+(196+(214+(399+(393+(394+(401+(304+2))))))))) ⟨boot_heap w.params,ue9 [],boot_drawn,boot_toks,os⟩ (topStub uaa)=some (stT uaa boots boot_drawn cs ⟨66,377,729⟩ w os).abs:=zst pre blk (chain pc0 (by decide) (chain pc1 (by decide) (chain pc2 (by decide) (chain pc3 (by decide) (chain pc4 (by decide) (chain pc5 (by decide) (chain pc6 (by decide) (zpj (by kernel_rfl)))))))))
theorem size (w:World):((boot_heap w.params).isNs mainGlobals&&(ue9 []:Array GenState).size==0,(boot_heap w.params).objs.size,(boot_heap w.params).nsMap mainGlobals "__annotations__")=(true,11,ann0):=by kernel_rfl
theorem lkA:LookA uaa boots boot_drawn boot_heap cs ⟨66,377,729⟩:=by
 rw[PySem.W.Fast.te7818774390570169022,PySem.W.Fast.te17302157506105824078];delta PySem.W.Fast.tw7818774390570169022;intro w;kernel_rfl
theorem lkB:LookB uaa boots boot_drawn cs ⟨66,377,729⟩ [65] (OpenRow.toRowW (uax).row).records:=by
 rw[PySem.W.Fast.te13889730532244352606,PySem.W.Fast.te17302157506105824078];delta PySem.W.Fast.tw13889730532244352606;intro w;kernel_rfl
theorem lkC:LookC uaa boots cs ⟨66,377,729⟩ [3,23,24,36,37,48,49,57,58,62,63,67,68,74,75,81,82,86,87,93,94,100,101,105,106,112,113,119,120,126,127,131,132,138,139,145,146,152,153,157,158,162,163,169,170,176,177,183,184,190,191,195,196,200,201,205,206,212,213,217,218,224,225,229,230,236,237,243,244,248,249,253,254,258,259,263,264,270,271,277,278,284,285,291,292,298,299,305,306,312,313,317,318,322,323,329,330,336,337,343,344,350,351,355,356,360,361,365,366,370,371,375,376]:=by
 rw[PySem.W.Fast.te6241646928739474683,PySem.W.Fast.te17302157506105824078];delta PySem.W.Fast.tw6241646928739474683;intro w;kernel_rfl
noncomputable abbrev K:=Kf uaa boots cs
theorem Kas (P:Params):[3,23,24,36,37,48,49,57,58,62,63,67,68,74,75,81,82,86,87,93,94,100,101,105,106,112,113,119,120,126,127,131,132,138,139,145,146,152,153,157,158,162,163,169,170,176,177,183,184,190,191,195,196,200,201,205,206,212,213,217,218,224,225,229,230,236,237,243,244,248,249,253,254,258,259,263,264,270,271,277,278,284,285,291,292,298,299,305,306,312,313,317,318,322,323,329,330,336,337,343,344,350,351,355,356,360,361,365,366,370,371,375,376]=(K P).map (·.1):=by kernel_rfl
noncomputable abbrev H:Hook:=kHook K [3,23,24,36,37,48,49,57,58,62,63,67,68,74,75,81,82,86,87,93,94,100,101,105,106,112,113,119,120,126,127,131,132,138,139,145,146,152,153,157,158,162,163,169,170,176,177,183,184,190,191,195,196,200,201,205,206,212,213,217,218,224,225,229,230,236,237,243,244,248,249,253,254,258,259,263,264,270,271,277,278,284,285,291,292,298,299,305,306,312,313,317,318,322,323,329,330,336,337,343,344,350,351,355,356,360,361,365,366,370,371,375,376] Kas
theorem opn:opening uaa=plainProg (uaa).main.scope.names:=by kernel_rfl
theorem fnc (s:Shared):fenceModules? uaa s=some s:=by kernel_rfl
theorem left:LeftO uaa (qv uaa [65]) (lz uaa [65] 66) (λ s=>xlAt (qv uaa [65]) [] s&&recOk (OpenRow.toRowW (uax).row).records s) (Hook.obs H) (Hook.val H) 5232 :=
 zta (p:=uaa) (cs:=cs) (is:=[65]) (as:=[3,23,24,36,37,48,49,57,58,62,63,67,68,74,75,81,82,86,87,93,94,100,101,105,106,112,113,119,120,126,127,131,132,138,139,145,146,152,153,157,158,162,163,169,170,176,177,183,184,190,191,195,196,200,201,205,206,212,213,217,218,224,225,229,230,236,237,243,244,248,249,253,254,258,259,263,264,270,271,277,278,284,285,291,292,298,299,305,306,312,313,317,318,322,323,329,330,336,337,343,344,350,351,355,356,360,361,365,366,370,371,375,376]) (rc:=(OpenRow.toRowW (uax).row).records) (c:=⟨66,377,729⟩) (M:=12+(1+(196+(214+(399+(393+(394+(401+(304+2))))))))) (N:=5232) (e:=Kas) opn (by decide) fnc size run (by decide) lkA lkB lkC
end Hy
namespace Hy
open PySem PySem.W PyProof.Rows L2 L3 Hx Me
theorem all {w:World}{h:Heap}{mg:Str->Option Value}{fa:Addr}(X:(K w.params).In h)(G:h.Ns mainGlobals mg)(hfa:mg "law"=some (.ref fa)) :
  ∃ fd:FuncData,(∀ (s:Shared)(v:Value),BindsTo s fd ⟨[v],[]⟩ [("script",v)])/\∀ base:Heap,(K w.params).In base->base.Ns mainGlobals mg->FnOk (uax).prog w (K w.params) mg base CX0 7 fa fd ["script"] (spLaw (K w.params)):=by
 have T:Bi mg:=⟨ubb X G (show ubq (K w.params) mainGlobals "len"=some none by kernel_rfl),ubb X G (show ubq (K w.params) mainGlobals "range"=some none by kernel_rfl),ubb X G (show ubq (K w.params) mainGlobals "zip"=some none by kernel_rfl),ubb X G (show ubq (K w.params) mainGlobals "all"=some none by kernel_rfl),ubb X G (show ubq (K w.params) mainGlobals "sorted"=some none by kernel_rfl),ubb X G (show ubq (K w.params) mainGlobals "isinstance"=some none by kernel_rfl),ubb X G (show ubq (K w.params) mainGlobals "min"=some none by kernel_rfl),ubb X G (show ubq (K w.params) mainGlobals "max"=some none by kernel_rfl),ubb X G (show ubq (K w.params) mainGlobals "tuple"=some none by kernel_rfl),ubb X G (show ubq (K w.params) mainGlobals "list"=some none by kernel_rfl),ubb X G (show ubq (K w.params) mainGlobals "int"=some none by kernel_rfl),ubb X G (show ubq (K w.params) mainGlobals "bool"=some none by kernel_rfl),ubb X G (show ubq (K w.params) mainGlobals "str"=some none by kernel_rfl),ubb X G (show ubq (K w.params) mainGlobals "enumerate"=some none by kernel_rfl),ubb X G (show ubq (K w.params) mainGlobals "sum"=some none by kernel_rfl),ubb X G (show ubq (K w.params) mainGlobals "abs"=some none by kernel_rfl),ubb X G (show ubq (K w.params) mainGlobals "set"=some none by kernel_rfl),ubb X G (show ubq (K w.params) mainGlobals "reversed"=some none by kernel_rfl),ubb X G (show ubq (K w.params) mainGlobals "any"=some none by kernel_rfl),ubb X G (show ubq (K w.params) mainGlobals "repr"=some none by kernel_rfl),ubb X G (show ubq (K w.params) mainGlobals "dict"=some none by kernel_rfl)⟩
 have D_is_whole:=dq (p:=uaa) (ps:=["thing"]) 58 57 4 239 X G zla
 have D_is_wholes:=dq (p:=uaa) (ps:=["thing"]) 63 62 4 239 X G zjx
 have D_is_rising:=dq (p:=uaa) (ps:=["parts"]) 68 67 4 239 X G zjy
 have D_is_tuple_of:=dq (p:=uaa) (ps:=["thing","many"]) 75 74 4 239 X G zgd
 have D_is_place:=dq (p:=uaa) (ps:=["web","thing"]) 82 81 9 268 X G zlc
 have D_is_plain:=dq (p:=uaa) (ps:=["web"]) 87 86 9 268 X G zlb
 have D_whole:=dq (p:=uaa) (ps:=["web"]) 94 93 9 268 X G zrr
 have D_tie_between:=dq (p:=uaa) (ps:=["web","a","b"]) 101 100 9 268 X G zga
 have D_are_unlike_places:=dq (p:=uaa) (ps:=["web","thing"]) 106 105 14 303 X G zdf
 have D_tie_weights:=dq (p:=uaa) (ps:=["web"]) 113 112 14 303 X G zf9
 have D_cost_with:=dq (p:=uaa) (ps:=["cost","length","weight"]) 120 119 14 303 X G zj1
 have D_reached_from:=dq (p:=uaa) (ps:=["web","keep","root"]) 127 126 14 303 X G zfp
 have D_fars_from:=dq (p:=uaa) (ps:=["web","keep","root"]) 132 131 14 303 X G zj0
 have D_tree_from:=dq (p:=uaa) (ps:=["web","keep","root"]) 139 138 14 303 X G zjw
 have D_led_to_root:=dq (p:=uaa) (ps:=["web","keep","tree","root","place"]) 146 145 14 303 X G zgc
 have D_across:=dq (p:=uaa) (ps:=["web","tie","heights"]) 153 152 22 380 X G zpp
 have D_heights_hold:=dq (p:=uaa) (ps:=["web","keep","heights"]) 158 157 22 380 X G zfq
 have D_heights_from:=dq (p:=uaa) (ps:=["web","keep","a","roof"]) 163 162 22 380 X G zfr
 have D_need_plain:=dq (p:=uaa) (ps:=["web"]) 170 169 26 406 X G zic
 have D_least_more:=dq (p:=uaa) (ps:=["web","keep"]) 177 176 26 406 X G zif
 have D_more_paper:=dq (p:=uaa) (ps:=["web","keep"]) 184 183 26 406 X G zie
 have D_is_led:=dq (p:=uaa) (ps:=["web","keep","m","u","heights","tree","place"]) 191 190 26 406 X G zpo
 have D_place_right:=dq (p:=uaa) (ps:=["web","keep","m","u","heights","tree"]) 196 195 26 406 X G zgb
 have D_more_right:=dq (p:=uaa) (ps:=["web","keep","m","paper"]) 201 200 26 406 X G zid
 have D_tree_ties:=dq (p:=uaa) (ps:=["web","tree"]) 206 205 33 464 X G zjv
 have D_post_trees:=dq (p:=uaa) (ps:=["web","posts"]) 213 212 33 464 X G zh9
 have D_neighbours:=dq (p:=uaa) (ps:=["web","keep","place"]) 218 217 36 482 X G zia
 have D_need_share:=dq (p:=uaa) (ps:=["d"]) 225 224 38 490 X G zib
 have D_bare_neighbours:=dq (p:=uaa) (ps:=["web","place","guarded"]) 230 229 38 490 X G zeb
 have D_guards_by:=dq (p:=uaa) (ps:=["web","d"]) 237 236 38 490 X G zjz
 have D_all_guarded:=dq (p:=uaa) (ps:=["told"]) 244 243 38 490 X G zgf
 have D_guard_right:=dq (p:=uaa) (ps:=["web","d","pair"]) 249 248 38 490 X G zge
 have D_guards_right:=dq (p:=uaa) (ps:=["web","d","told"]) 254 253 38 490 X G zfs
 have D_bare_ties:=dq (p:=uaa) (ps:=["web","told"]) 259 258 38 490 X G zj2
 have D_posts_of:=dq (p:=uaa) (ps:=["told"]) 264 263 38 490 X G zk9
 have D_guard_keep:=dq (p:=uaa) (ps:=["web","told"]) 271 270 38 490 X G zig
 have D__law_pot:=dq (p:=uaa) (ps:=["script","k"]) 278 277 48 559 X G zle
 have D__law_take:=dq (p:=uaa) (ps:=["pot","many"]) 285 284 48 559 X G zj5
 have D__law_length:=dq (p:=uaa) (ps:=["pot","way"]) 292 291 48 559 X G zgg
 have D__law_tied:=dq (p:=uaa) (ps:=["pot","n","style","a","b"]) 299 298 48 559 X G zj4
 have D__law_order:=dq (p:=uaa) (ps:=["pot","many"]) 306 305 48 559 X G zii
 have D__law_web:=dq (p:=uaa) (ps:=["pot","most"]) 313 312 48 559 X G zld
 have D__law_beside:=dq (p:=uaa) (ps:=["web","keep"]) 323 322 48 559 X G zgh
 have D__law_weights:=dq (p:=uaa) (ps:=["web"]) 330 329 48 559 X G zft
 have D__law_weighed:=dq (p:=uaa) (ps:=["web","keep","start"]) 337 336 48 559 X G zfu
 have D__law_tree:=dq (p:=uaa) (ps:=["web","keep","root"]) 344 343 48 559 X G zj3
 have D__law_most:=dq (p:=uaa) (ps:=["pot","k"]) 351 350 48 559 X G zj7
 have D__law_plain:=dq (p:=uaa) (ps:=["pot","most"]) 356 355 48 559 X G zih
 have D__law_tree_keep:=dq (p:=uaa) (ps:=["web","roots"]) 361 360 48 559 X G zen
 have D__law_same:=dq (p:=uaa) (ps:=["found","due"]) 366 365 48 559 X G zj6
 have D__law_other_guards:=dq (p:=uaa) (ps:=["pot","web","d"]) 371 370 48 559 X G zdg
 have e:=hfa.symm.trans (PySem.W.mg_of X G (show ubq (K w.params) mainGlobals "law"=some (some (.ref 376)) by kernel_rfl))
 cases e
 have F:=zr9 (x:="law") (qual:="law") (st:=s_law) (K:=K w.params) (f:=376) (oc:=.type "function") (od:=none) (an:=none) (osl:=#[]) (kV:=.none) (doc:=.none) (pm:=Hx.mdV uaa ⟨0,0,0,48,559,0⟩) (cdv:=.ref 375) (ct:=.none) (by kernel_rfl) (by kernel_rfl) (by kernel_rfl)
 exact⟨_,λ s v=>.of_eq rfl,λ base _ _=>ztc (P:=(uax).prog) (w:=w) (base:=base) T D_is_whole D_is_wholes D_is_rising D_is_tuple_of D_is_place D_is_plain D_whole D_tie_between D_are_unlike_places D_tie_weights D_cost_with D_reached_from D_fars_from D_tree_from D_led_to_root D_across D_heights_hold D_heights_from D_need_plain D_least_more D_more_paper D_is_led D_place_right D_more_right D_tree_ties D_post_trees D_neighbours D_need_share D_bare_neighbours D_guards_by D_all_guarded D_guard_right D_guards_right D_bare_ties D_posts_of D_guard_keep D__law_pot D__law_take D__law_length D__law_tied D__law_order D__law_web D__law_beside D__law_weights D__law_weighed D__law_tree D__law_most D__law_plain D__law_tree_keep D__law_same D__law_other_guards F⟩
end Hy
open PySem PySem.W PyProof.Rows
set_option maxRecDepth 100000 in
set_option maxHeartbeats 0 in
theorem PySem.Challenge.cw_thinways_k57_whole_guards_keep_two_more_holds : PySem.Challenge.rw_thinways_k57_whole_guards_keep_two_more.Holds := by
 w_on;o_law
 refine holds_open (q:=(Hx.qv PySem.Challenge.pw_thinways_k57_whole_guards_keep_two_more [65])) (loose:=Hx.lz PySem.Challenge.pw_thinways_k57_whole_guards_keep_two_more [65] 66) (Xt:=λ s=>xlAt (Hx.qv PySem.Challenge.pw_thinways_k57_whole_guards_keep_two_more [65]) [] s&&recOk (OpenRow.toRowW (PySem.Challenge.rw_thinways_k57_whole_guards_keep_two_more).row).records s) (XP:=XL (Hx.qv PySem.Challenge.pw_thinways_k57_whole_guards_keep_two_more [65]) []) (Yf:=Hook.obs Hy.H) (Ya:=Hook.val Hy.H) (YP:=Hook.says Hy.H) (N:=5232) Hy.left (Hook.of Hy.H) (Hook.keeps Hy.H) (λ s e=>xl_of s (Bool.and_eq_true_iff.mp e).1) XL.keeps (by rfl) (by rfl) (by rfl) (λ s e=>recFacts_of (Bool.and_eq_true_iff.mp e).2) (by rfl) (by first | assumption | decide +kernel) (by symm) ⟨rfl,rfl,rfl,rfl,rfl,by symm⟩ ?hw ?hc
 case hw=>w_witness2
 case hc =>
  refine Me.walk (l:=PySem.Challenge.rw_thinways_k57_whole_guards_keep_two_more) rfl rfl (λ w h Y=>PySem.W.kIn_of Y) λ w mg fa h KX G hmg=>Hy.all KX G hmg
