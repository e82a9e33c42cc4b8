import PyProof.Rows.All
import Wide.All
import OpenK.AllK
import Wide.FinOn
import Lean
import PyProof.EqAt
import PyProof.EqKinds
import PyProof.TupleCall
import KE.KSortTup
import PyProof.ZipIter
import PyProof.TupleIter
import PyProof.WalksMore
import PyProof.Rows.TupIter
import PyProof.EnumIter
import PyProof.EnumFor
import PyProof.EnumStmt
import PyProof.ReprRoads
import PyProof.Rows.SeqMore
import PyProof.ListMulRoad
import PyProof.FactsAll.tuple_2
import PyProof.FactsAll.tuple_3
import PyProof.Rows.Tup
import PyProof.ListRange
import PyProof.TupleOfSeq
import PyProof.SumAny
import PyProof.ConsumeS
import PyProof.Rows.CallKwBuiltin
import KE.KLam
import KE.KSortKey
import PyProof.AutoSeq1
import KE.KListMore
import PyProof.FactsAll.subtypes_4
import PyProof.SetRoads
import PyProof.Rows.SetFrom
import PyProof.WalkInts
import PyProof.DictDisplay
import PyProof.Conv_int_bool
import PyProof.DictWalks
import PySem.Challenge.RW_thinways_k60_six_more_told
set_option Elab.async false
set_option linter.all false
set_option maxRecDepth 100000
open PySem.Challenge renaming pw_thinways_k60_six_more_told→uaa, rw_thinways_k60_six_more_told→ua5
open PySem renaming wpAny_bind→uab, wpAny_pure→uah, wpAny_call_entry→ubi, wpAny_holding→ubk, wpAny_callSpecial?_slot→ubl, wpAny_newObj_type→ubx, wpAny_field→ub2, wpAny_setField_rec→ub8, sizeLine_eq→ucf, wpAny_seqItems→ucn, codeAny_builtin→ucu, wpAny_mono→ucv, mem_of_lookup→uc3, wpAny_truthy_bool→uc6, wpAny_pyIter_list→uc7, wpAny_rule→udj, wpAny_loadPart'→udk, plainId_quiet→udo, wpAny_setField→uds, wpAny_passesOwn→ud0, wpAny_setState_of→ud5, wpAny_newList→ud6, wpAny_attempt→ud7, wpAny_askSetting→ued, wpAny_setEntries_of→ueh, wpAny_updateSeq→uen, wpAny_letGo→uet, wpAny_isInstance→ue3, wpAny_standAt→ue5, wpAny_typeOf→ufi, wpAny_Call_Name_kw→ufj, codeAny_mono→ufk, wpAny_tryCatch→ufn, call_meets→ufv, wpAny_eqBool_int→uf1, wpAny_execs_nil→uf5, wpAny_updateSeq_pair→uf8, wpAny_newTuple→ugc, wpAny_fieldsOf→ugd, isSubtype_stop→uge, wpAny_pyIter_tuple→ugn, wpAny_onRaise→ugo, tupleKind_room_in1→ugp, fits_of_scanBound→ugy, concat_meets→ug6, noFill_tuple_add→uhc
open PySem.W renaming Frag→uac, mg_none_of→ua6, nsIn→ubn, kia_one→ucp, fnOf→uc8, keepIn→uej, codeIn→ue4, methodObj→uf6, instObj→ugf, lookIn→ugq, findIn→ugr, cellsFrom_some→ug7
open List renaming getElem?_eq_getElem→uad, length_map→uae, getD_eq_getElem?_getD→uaf, range→uag, length_append→uaj, size_toArray→uak, mem_cons_self→ual, mem_singleton→uam, getElem?_eq_some_iff→uan, mem_of_getElem?→uao, mem_cons_of_mem→uap, getElem?_map→uaq, mem_cons→uar, mem_range→uav, replicate→uay, mem_append→uaz, map_append→ua3, not_mem_nil→ua4, length_range→uba, mem_append_right→ubc, getElem?_eq_none→ubd, length_replicate→ube, pairwise_iff_getElem→ubh, mem_map→ubj, take_add_one→ubo, flatMap_append→ubp, map_map→ubq, mem_filter→ubr, length_singleton→ubs, Nodup→ubt, length_cons→ubu, take_length→ubw, map_congr_left→uby, pairwise_lt_range→ubz, append_nil→ub1, length_filterMap_le→ub7, toArray→ub9, take_append_drop→uca, length_set→ucb, pairwise_map→ucc, nodup_append→ucd, append_assoc→uce, getElem?_append_right→ucg, nodup_cons→uch, getElem?_append_left→uci, getElem_of_mem→ucl, filterMap_cons→ucm, filterMap_append→uco, map_cons→ucq, mem_append_left→ucr, lookup_cons→uct, pairwise_cons→ucx, mem_filterMap→ucy, mem_flatMap→uc0, length_take→uc1, getElem?_range→uc5, all_eq_true→uc9, getD→udc, ext_getElem?→udd, replicate_succ→udg, getElem?_replicate→udh, filter_sublist→udi, length_drop→udl, getElem_range→udp, find?_eq_none→udq, length_filter_le→udt, find?_some→udu, perm_cons_erase→udz, nodup_nil→ud3, mem_of_find?_eq_some→ud4, getElem_mem→ud8, range'→uea, range_succ→uee, length_eq_zero_iff→uef, find?_cons→ueg, getElem?_set_self→uek, reverse_cons→uel, flatten_cons→uem, find?_eq_some_iff_getElem→uep, ext_getElem→ues, pairwise_append→uev, getElem?_set_ne→uew, reverse_append→ue2, zip_cons_cons→ue7, filterMap_map→ue8, drop_eq_getElem_cons→ufa, flatMap_cons→ufe, pairwise_singleton→ufl, any_cons→ufm, range'_succ→ufq, map_snd_zip→ufr, countP_cons→ufs, any_eq_true→uft, take_of_length_le→ufu, mem_of_mem_erase→ufw, length_nil→ufx, countP_mono_left→ufy, mem_erase_of_ne→uf2, getElem?_of_mem→uf3, length_pos_iff→uf4, of_mem_zip→ugv, forIn_cons→ugw, perm_ext_iff_of_nodup→ug2, length_eraseIdx_of_lt→ug3, take_zero→ug8, filterMap→ug9, length_erase_of_mem→uhg, filterMap_cons_some→uhh, pairwise_filterMap→uhi, map_drop→uhj
open Nat renaming le_refl→uai, ne_of_lt→uaw, lt_of_lt_of_le→ua2, le_trans→ua9, zero_le→ubb, lt_of_le_of_lt→ubf, lt_succ_of_lt→ub4, lt_succ_self→ucj, lt_irrefl→uck, le_succ→uc2, ne_of_gt→udb, add_le_add→udn, not_lt_zero→udw, min_le_right→ud9, lt_trichotomy→ueo, le_of_eq→uer, le_add_right→ueu, le_of_lt→ue9, lt_or_ge→ufz, lt_or_eq_of_le→uf9, lt_trans→ugj, succ_le_succ→ugs, min_le_left→ug1, mul_le_mul→uhf
open Bool renaming false_ne_true→uas, and_eq_true→ubv, false_eq_true→ub5, or_eq_true→ude, eq_iff_iff→udf, true_and→ue0, and_true→ue1, false_and→uha, and_false→uhb
open Or renaming inl→uat, inr→uf7
open Option.some renaming inj→uau
open PySem.F renaming plainAttrs_list→uax, type_list_append→ua7, slot_list_append→ua8, plain_min_loop→ucs, called_set→ucw, type_list_extend→ud1, slot_list_extend→ud2, plain_list_iadd→ueb, args_tuple_add_2→ue6, entry_tuple_add→ufb, slot_tuple_add→uff, entry_min_loop→ufg, type_list_pop→ufo, slot_list_pop→ufp, plain_proto_collect→ugg, entry_proto_collect→ugh, type_tuple_index→ugt, slot_tuple_index→ugu, entry_list_iadd→ugz, slot_set_iter→uhd, plain_set_new→uhe
open Int renaming natCast_nonneg→ua0, toNat_natCast→ua1, toNat_of_nonneg→ubg, le_refl→ubm, emod_lt_of_pos→udr, le_of_lt→udx, emod_nonneg→udy, zero_add→uf0, add_right_comm→uga, ne_of_lt→ugl, le_trans→ugm
open Array renaming length_toList→ub0, getElem?_eq_getElem→ub3, getD_eq_getD_getElem?→uc4, getElem?_toList→uda, mk→ufh, getD→ugb, getElem?_eq_some_iff→ugx
open PyProof.Rows renaming slot_tuple_getitem→ub6, callWith_type1→ucz
open PyProof.Rows.F renaming plain_set_update_loop→udm, entry_set_update_loop→ufc
open List.Pairwise renaming imp_of_mem→udv, nil→uex, map→uey, filter→ufd, imp→ug5
open Option renaming isNone→uec, map_eq_some_iff→uei, map_some→uez, isSome_iff_exists→ug0
open Array.Perm renaming refl→ueq
open List.Perm renaming refl→ugi, eq_of_pairwise→ugk, append_left→ug4
local macro_rules | `(tactic| left) => `(tactic| first | lia | omega)
local macro_rules | `(tactic| symm) => `(tactic| decide +kernel)
local macro_rules | `(tactic| right) => `(tactic| exact ⟨rfl, rfl, rfl, by decide +kernel, rfl, by decide +kernel, by decide +kernel⟩)
namespace L2
open PySem PySem.Spec PyProof.Rows
abbrev Key:=Sum Int Str
def keyIs:Key->Value->Bool
 | .inl k,v=>Value.isInt k v
 | .inr x,v=>Value.isStrOf x v
def keyH (w:World):Key->Int
 | .inl k=>hashInt k
 | .inr x=>hashStr w x
theorem zbe:∀ {k:Key} {v:Value},keyIs k v=true->(∃ i t,k=Sum.inl i/\v=Value.int i t)\/(∃ x t,k=Sum.inr x/\v=Value.str x t)
 | .inl i,v,h=>by
  obtain⟨t,e⟩:=Value.isInt_shape (k:=i) (v:=v) h
  exact .inl ⟨i,t,rfl,e⟩
 | .inr x,v,h=>by
  obtain⟨t,e⟩:=Value.isStrOf_shape (x:=x) (v:=v) h
  exact .inr ⟨x,t,rfl,e⟩
theorem zod (i:Int) (t:Tok):keyIs (.inl i) (.int i t)=true:=by simp [keyIs,Value.isInt]
theorem zoc (x:Str) (t:Tok):keyIs (.inr x) (.str x t)=true:=by simp [keyIs,Value.isStrOf]
theorem ztw (a b:Int):decide ((Sum.inl a:Key)=Sum.inl b)=(a == b):=by
 by_cases e:a=b
 ·subst e;simp
 ·have h:¬ (Sum.inl a:Key)=Sum.inl b:=λ q=>e (Sum.inl.inj q)
  rw[decide_eq_false h]
  exact (beq_eq_false_iff_ne.mpr e).symm
theorem ztt (a b:Str):decide ((Sum.inr a:Key)=Sum.inr b)=decide (a=b):=by
 by_cases e:a=b
 ·subst e;simp
 ·have h:¬ (Sum.inr a:Key)=Sum.inr b:=λ q=>e (Sum.inr.inj q)
  rw[decide_eq_false h,decide_eq_false e]
theorem ztv (a:Int) (b:Str):decide ((Sum.inl a:Key)=Sum.inr b)=false:=decide_eq_false (λ q=>nomatch q)
theorem ztu (a:Str) (b:Int):decide ((Sum.inr a:Key)=Sum.inl b)=false:=decide_eq_false (λ q=>nomatch q)
def mixKind (prog:Program) (w:World):PySem.KeyKind prog w Key where
 is:=keyIs
 hash:=keyH w
 inj:=λ v a b ha hb=>by
  rcases zbe ha with ⟨i,t,rfl,rfl⟩ | ⟨x,t,rfl,rfl⟩
  ·rcases zbe hb with ⟨j,u,rfl,e⟩ | ⟨y,u,rfl,e⟩
   ·injection e with e1 _;rw[e1]
   ·exact nomatch e
  ·rcases zbe hb with ⟨j,u,rfl,e⟩ | ⟨y,u,rfl,e⟩
   ·exact nomatch e
   ·injection e with e1 _;rw[e1]
 byValue:=λ k v h=>by
  rcases zbe h with ⟨i,t,rfl,rfl⟩ | ⟨x,t,rfl,rfl⟩ <;> rfl
 pyHash:=λ hv h=>by
  rcases zbe hv with ⟨i,t,rfl,rfl⟩ | ⟨x,t,rfl,rfl⟩
  ·exact wpAny_pyHash_int h
  ·exact wpAny_pyHash_str h
 eqBool:=λ hu hv h=>by
  rcases zbe hu with ⟨i,t,rfl,rfl⟩ | ⟨x,t,rfl,rfl⟩
  ·rcases zbe hv with ⟨j,u,rfl,rfl⟩ | ⟨y,u,rfl,rfl⟩
   ·rw[ztw] at h;exact uf1 h
   ·rw[ztv] at h;exact SeqAt.EqAt.int_str i t y u _ _ _ _ h
  ·rcases zbe hv with ⟨j,u,rfl,rfl⟩ | ⟨y,u,rfl,rfl⟩
   ·rw[ztu] at h;exact SeqAt.EqAt.str_int x t j u _ _ _ _ h
   ·rw[ztt] at h;exact wpAny_eqBool_str h
 «strs»:=λ k x t v h=>by
  rcases zbe h with ⟨i,u,rfl,e⟩ | ⟨y,u,rfl,e⟩
  ·exact nomatch e
  ·injection e with e1 _
   subst e1
   cases v <;> rfl
theorem zj8 (prog:Program) (w:World) (i:Int) (t:Tok):(mixKind prog w).is (.inl i) (.int i t)=true:=zod i t
theorem zj7 (prog:Program) (w:World) (x:Str) (t:Tok):(mixKind prog w).is (.inr x) (.str x t)=true:=zoc x t
end L2
namespace L2
open PySem PySem.Spec PyProof.Rows
inductive V where
 | non | bl (b:Bool) | int (i:Int) | str (x:Str) | byt (b:Array UInt8) | flt (b:UInt64) | ref (a:Addr) | ty (n:String)
 deriving DecidableEq
def RelV:V->Value->Prop
 | .non,u=>u=Value.none
 | .bl b,u=>u=Value.bool b
 | .int i,u=>∃ t,u=Value.int i t
 | .str x,u=>∃ t,u=Value.str x t
 | .byt b,u=>∃ t,u=Value.bytes b t
 | .flt b,u=>∃ t,u=Value.float b t
 | .ref a,u=>u=Value.ref a
 | .ty n,u=>u=Value.type n
abbrev Vals:List V->List Value->Prop:=Paired RelV
theorem Vals.length {xs:List V} {us:List Value} (r:Vals xs us):xs.length=us.length:=Paired.length r
theorem Vals.get:∀ {xs:List V} {us:List Value} {i:Nat} {x:V},Vals xs us->xs[i]?=some x->∃ u,us[i]?=some u/\RelV x u
 | _,_,_,_,.nil,e=>by simp at e
 | _,_,0,_,.cons r _,e=>by simp at e;subst e;exact⟨_,rfl,r⟩
 | _,_,i + 1,x,.cons _ t,e=>by
  obtain⟨u,h1,h2⟩:=Vals.get (i:=i) (x:=x) t (by simpa using e)
  exact⟨u,by simpa using h1,h2⟩
theorem Vals.set {x:V} {u:Value} (r:RelV x u):∀ {xs:List V} {us:List Value} (i:Nat),Vals xs us->Vals (xs.set i x) (us.set i u)
 | _,_,_,.nil=>.nil
 | _,_,0,.cons _ t=>.cons r t
 | _,_,i + 1,.cons q t=>.cons q (Vals.set r i t)
theorem Vals.append:∀ {xs ys:List V} {us ws:List Value},Vals xs us->Vals ys ws->Vals (xs++ys) (us++ws)
 | _,_,_,_,.nil,s=>s
 | _,_,_,_,.cons r t,s=>.cons r (Vals.append t s)
theorem Vals.take:∀ {xs:List V} {us:List Value} (n:Nat),Vals xs us->Vals (xs.take n) (us.take n)
 | _,_,0,_=>.nil
 | _,_,_ + 1,.nil=>.nil
 | _,_,n + 1,.cons r t=>.cons r (Vals.take n t)
theorem Vals.drop:∀ {xs:List V} {us:List Value} (n:Nat),Vals xs us->Vals (xs.drop n) (us.drop n)
 | _,_,0,r=>r
 | _,_,_ + 1,.nil=>.nil
 | _,_,n + 1,.cons _ t=>Vals.drop n t
def RelO:Option V->Option Value->Prop
 | some v,some u=>RelV v u
 | none,none=>True
 | _,_=>False
def KV {κ:Type}:List (κ × V)->List (κ × Value)->Prop:=Paired λ (p:κ × V) (q:κ × Value)=>p.1=q.1/\RelV p.2 q.2
def kV:Key->V
 | .inl i=>.int i
 | .inr x=>.str x
inductive HO where
  | lst (xs:List V)
  | tup (xs:List V)
  | dK (kvs:List (Key × V)) | dT (kvs:List (List Key × V))
  | set (S:Int->Bool) (n:Nat)
  | ins (C dx:Addr) (fs:List (Str × V))
  | own (x:Addr)
  | xd (fs:List (Str × V))
  | met (f x:Addr)
  | rng (lo hi:Int)
  | frz (o:Obj) (u:HO)
  | tbl (ps:Array Value)
  | ext (φ:Heap->Prop)
abbrev Hp:=Addr->Option HO
def upd (H:Hp) (a:Addr) (o:HO):Hp:=λ b=>if b=a then some o else H b
theorem zai {H:Hp} {a:Addr} {o:HO}:upd H a o a=some o:=by unfold upd;rw[if_pos rfl]
theorem zap {H:Hp} {a b:Addr} {o:HO} (h:b≠a):upd H a o b=H b:=by unfold upd;rw[if_neg h]
theorem zuc {H:Hp} {a b:Addr} {o u:HO} (h:H a=some o) (h':H b=some u) (d:o≠u):a≠b:=by
 intro e;subst e;rw[h] at h';exact d (uau h')
theorem zaf {H:Hp} {a b:Addr} {o:HO} (h:H a=some o) (h':H b=none):a≠b:=by
 intro e;subst e;rw[h] at h';cases h'
section
variable (P:Program) (w:World)
def TupN (h:Heap) (a:Addr) (items:Array Value):Prop:=∃ o,h.get? a=some o/\o.cls=.type "tuple"/\(∃ n,o.data=.seq items n)/\o.dict=none
theorem TupN.tup {h:Heap} {a:Addr} {items:Array Value} (x:TupN h a items):IsTup h a items:=let ⟨o,e,c,d,_⟩:=x;⟨o,e,c,d⟩
theorem TupN.new (h:Heap) (items:Array Value):TupN (h.push { cls:=.type "tuple",data:=.seq items }) h.objs.size items:=⟨_,Heap.get?_push_size _ rfl,rfl,⟨_,rfl⟩,rfl⟩
def ObjOk (H:Hp) (h:Heap) (a:Addr):HO->Prop
 | .lst xs=>xs.length<=sizeLine/\∃ (its:List Value) (n:Nat),Vals xs its/\h.get? a=some { cls:=.type "list",data:=.seq its.toArray n }
 | .tup xs=>xs.length<=sizeLine/\∃ its:List Value,Vals xs its/\TupN h a its.toArray
 | .dK kvs=>kvs.length<=sizeLine/\(a == sysModules)=false/\∃ vs,KV kvs vs/\h.DictOf (mixKind P w) a vs
 | .dT kvs => kvs.length <= sizeLine /\ (a == sysModules) = false /\ ∃ xs : List (List Key × Addr × Value),
     Paired (λ (p:List Key × V) (q:List Key × Addr × Value)=>p.1=q.1/\H q.2.1=some (.tup (p.1.map kV))/\RelV p.2 q.2.2) kvs xs /\
     ∃ o es ep,h.get? a=some o/\o.ExactDict/\o.data=.dict es ep/\es.toList=xs.map (entryOfKey (tupleKind (mixKind P w)))/\(xs.map (·.1)).Nodup
 | .set S n=>h.SetOf (intKind P w) a S n
 | .ins C dx fs => H dx = some (.own a) /\ fs.length <= 1000 /\ dx ≠ a /\ h.get? a = some (ugf C dx) /\
     ∃ mA,h.Ns1 dx mA/\(∀ f,RelO (fs.lookup f) (mA f))/\PySem.Within mA (fs.map (·.1))
 | .own _=>∃ o,h.get? a=some o
 | .xd fs=>∃ mA,h.Ns1 a mA/\∀ f,RelO (fs.lookup f) (mA f)
 | .rng lo hi=>∃ t u v,h.get? a=some { cls:=.type "range",data:=.fields #[.int lo t,.int hi u,.int 1 v] }
 | .frz o u=>h.get? a=some o/\ObjOk H h a u
 | .tbl ps=>h.get? a=some { cls:=.none,data:=.fields ps }
 | .met f x=>h.get? a=some (uf6 (.ref f) (.ref x))
 | .ext φ=>φ h/\(∃ o,h.get? a=some o)/\∀ h1 h2:Heap,φ h1->(∀ o,h1.get? a=some o->h2.get? a=some o)->φ h2
def HOk (H:Hp) (h:Heap):Prop:=∀ a o,H a=some o->ObjOk P w H h a o
end
section
variable {P:Program} {w:World} {H H':Hp} {h h':Heap} {a:Addr} {o:HO}
theorem ObjOk.lt (x:ObjOk P w H h a o):a < h.objs.size:=by
 cases o with
 | lst xs=>obtain⟨_,_,_,_,e⟩:=x;exact Heap.lt_size e
 | tup xs=>obtain⟨_,_,_,p⟩:=x;exact p.tup.lt
 | dK kvs=>obtain⟨_,_,_,_,o,_,_,e,_⟩:=x;exact Heap.lt_size e
 | dT kvs=>obtain⟨_,_,_,_,o,_,_,e,_⟩:=x;exact Heap.lt_size e
 | set S n=>obtain⟨o,_,_,_,e,_⟩:=x;exact Heap.lt_size e
 | ins C dx fs=>obtain⟨_,_,_,e,_⟩:=x;exact Heap.lt_size e
 | own y=>obtain⟨_,e⟩:=x;exact Heap.lt_size e
 | xd fs=>obtain⟨_,⟨_,_,_,e,_⟩,_⟩:=x;exact Heap.lt_size e
 | rng lo hi=>obtain⟨_,_,_,e⟩:=x;exact Heap.lt_size e
 | frz ob u=>obtain⟨e,_⟩:=x;exact Heap.lt_size e
 | tbl ps=>exact Heap.lt_size (show h.get? a=some _ from x)
 | met f y=>exact Heap.lt_size (show h.get? a=some _ from x)
 | ext φ=>obtain⟨_,⟨_,e⟩,_⟩:=x;exact Heap.lt_size e
theorem Paired.mapP {α β:Type} {F G:α->β->Prop}:∀ {l₁:List α} {l₂:List β},Paired F l₁ l₂->(∀ a b,F a b->G a b)->Paired G l₁ l₂
 | _,_,.nil,_=>.nil
 | _,_,.cons r t,f=>.cons (f _ _ r) (Paired.mapP t f)
theorem ObjOk.stay (x:ObjOk P w H h a o) (k:∀ b u,(b=a\/H b=some (.own a))->h.get? b=some u->h'.get? b=some u)
  (ho:∀ b,H b=some (.own a)->H' b=some (.own a)) (ht:∀ b xs,H b=some (.tup xs)->H' b=some (.tup xs)):ObjOk P w H' h' a o:=by
 induction o with
 | lst xs=>obtain⟨z,its,n,r,e⟩:=x;exact⟨z,its,n,r,k _ _ (.inl rfl) e⟩
 | tup xs=>obtain⟨z,its,r,ob,e,c⟩:=x;exact⟨z,its,r,ob,k _ _ (.inl rfl) e,c⟩
 | dK kvs=>obtain⟨z,y,vs,r,ob,es,ep,e,c⟩:=x;exact⟨z,y,vs,r,ob,es,ep,k _ _ (.inl rfl) e,c⟩
 | dT kvs =>
  obtain⟨z,y,xs,r,ob,es,ep,e,c⟩:=x
  exact⟨z,y,xs,Paired.mapP r λ p q z=>⟨z.1,ht _ _ z.2.1,z.2.2⟩,ob,es,ep,k _ _ (.inl rfl) e,c⟩
 | set S n=>obtain⟨ob,es,ep,t,e,c⟩:=x;exact⟨ob,es,ep,t,k _ _ (.inl rfl) e,c⟩
 | ins C dx fs =>
  obtain⟨d,z,ne,e,mA,⟨od,es,ep,e2,c⟩,r⟩:=x
  exact⟨ho _ d,z,ne,k _ _ (.inl rfl) e,mA,⟨od,es,ep,k _ _ (.inr d) e2,c⟩,r⟩
 | own y=>obtain⟨ob,e⟩:=x;exact⟨ob,k _ _ (.inl rfl) e⟩
 | xd fs=>obtain⟨mA,⟨od,es,ep,e,c⟩,r⟩:=x;exact⟨mA,⟨od,es,ep,k _ _ (.inl rfl) e,c⟩,r⟩
 | rng lo hi=>obtain⟨t,u,v,e⟩:=x;exact⟨t,u,v,k _ _ (.inl rfl) e⟩
 | frz ob u ih=>obtain⟨e,q⟩:=x;exact⟨k _ _ (.inl rfl) e,ih q⟩
 | tbl ps =>
  have e:h.get? a=some { cls:=.none,data:=.fields ps }:=x
  show h'.get? a=some { cls:=.none,data:=.fields ps }
  exact k a _ (.inl rfl) e
 | met f y =>
  have e:h.get? a=some (uf6 (.ref f) (.ref y)):=x
  show h'.get? a=some (uf6 (.ref f) (.ref y))
  exact k a _ (.inl rfl) e
 | ext φ=>obtain⟨p,⟨o,e⟩,st⟩:=x;exact⟨st _ _ p λ o q=>k _ _ (.inl rfl) q,⟨o,k _ _ (.inl rfl) e⟩,st⟩
theorem HOk.lt (x:HOk P w H h) (e:H a=some o):a < h.objs.size:=(x a o e).lt
theorem HOk.fresh (x:HOk P w H h) (e:h.objs.size<=a):H a=none:=by
 cases q:H a with
 | none=>rfl
 | some u=>exact absurd (ua2 (x.lt q) e) (uck _)
theorem HOk.kept (x:HOk P w H h) (k:∀ b u,h.get? b=some u->h'.get? b=some u):HOk P w H h':=λ a o e =>
 (x a o e).stay (λ b u _ q=>k b u q) (λ _ q=>q) λ _ _ q=>q
theorem HOk.laid (x:HOk P w H h) (k:∀ b u,h.get? b=some u->h'.get? b=some u) (hp:h.objs.size<=a) (new:ObjOk P w (upd H a o) h' a o):HOk P w (upd H a o) h':=λ b u e=>by
 have hn:=x.fresh hp
 by_cases hb:b=a
 ·subst hb;rw[zai] at e;cases e;exact new
 ·rw[zap hb] at e
  exact (x b u e).stay (λ c v _ q=>k c v q) (λ c q=>by rw[zap (zaf q hn)];exact q) λ c xs q=>by rw[zap (zaf q hn)];exact q
end
def Rd (H:Hp) (a:Addr) (u:HO):Prop:=H a=some u\/∃ o,H a=some (.frz o u)
theorem Rd.ok {P:Program} {w:World} {H:Hp} {h:Heap} {a:Addr} {u:HO} (r:Rd H a u) (x:HOk P w H h):ObjOk P w H h a u:=by
 rcases r with r | ⟨o,r⟩
 ·exact x a u r
 ·obtain⟨_,q⟩:=x a _ r
  exact q
def Mut:Option HO->Prop
 | some (.lst _)=>True
 | some (.dK _)=>True
 | some (.dT _)=>True
 | some (.set _ _)=>True
 | some (.ins _ _ _)=>True
 | some (.ext _)=>True
 | _=>False
section
variable {P:Program} {w:World} {H:Hp} {h h':Heap} {x e:Addr} {o':HO}
theorem HOk.write (ok:HOk P w H h) (mu:Mut (H x)) (he:e=x\/H e=some (.own x)) (k:∀ b u,b≠e->h.get? b=some u->h'.get? b=some u) (heo:∃ u,h'.get? e=some u)
  (new:ObjOk P w (upd H x o') h' x o'):HOk P w (upd H x o') h':=λ b u q=>by
 have nown:∀ c y,H c=some (.own y)->c≠x:=λ c y r z=>by subst z;rw[r] at mu;exact mu
 have ntup:∀ c xs,H c=some (.tup xs)->c≠x:=λ c xs r z=>by subst z;rw[r] at mu;exact mu
 by_cases hb:b=x
 ·subst hb;rw[zai] at q;cases q;exact new
 ·rw[zap hb] at q
  by_cases hbe:b=e
  ·have q':H b=some (.own x):=by
    rcases he with z | z
    ·exact absurd (hbe.trans z) hb
    ·rw[hbe];exact z
   rw[q] at q';cases q'
   obtain⟨v,hv⟩:=heo
   exact⟨v,by rw[hbe];exact hv⟩
  ·refine (ok b u q).stay (λ c v hc r=>k c v ?_ r) (λ c r=>by rw[zap (nown c b r)];exact r) λ c xs r=>by rw[zap (ntup c xs r)];exact r
   rcases hc with rfl | hc
   ·exact hbe
   ·rintro rfl
    rcases he with z | z
    ·exact nown c b hc z
    ·rw[hc] at z;cases z;exact hb rfl
end
structure Un (fs ex:List Addr) (H H':Hp) (h h':Heap):Prop where
 keep:∀ b o,h.get? b=some o->H b=none->b ∉ fs->b ∉ ex->h'.get? b=some o
 slot:∀ b o,h.get? b=some o->H b=none->b ∈ fs->b ∉ ex->∃ sl,h'.get? b=some { o with slots:=sl }
 free:∀ b o,h.get? b=some o->H b=none->b ∉ ex->H' b=none
 there:∀ b o,h.get? b=some o->b ∉ ex->∃ o',h'.get? b=some o'
 tups:∀ b xs,H b=some (.tup xs)->H' b=some (.tup xs)
 frzs:∀ b o u,H b=some (.frz o u)->H' b=some (.frz o u)
 tbls:∀ b ps,H b=some (.tbl ps)->∃ more,H' b=some (.tbl (ps++more))
section
variable {fs fs' ex ex':List Addr} {H H1 H2:Hp} {h h1 h2 h':Heap} {a x e:Addr} {o:HO}
theorem Un.any (u:Un fs ex H H1 h h1) {b:Addr} {ob:Obj} (q:h.get? b=some ob) (n:H b=none) (hx:b ∉ ex):∃ sl,h1.get? b=some { ob with slots:=sl }:=by
 by_cases hb:b ∈ fs
 ·exact u.slot b ob q n hb hx
 ·exact⟨ob.slots,u.keep b ob q n hb hx⟩
theorem Un.trans (a:Un fs ex H H1 h h1) (b:Un fs ex H1 H2 h1 h2):Un fs ex H H2 h h2 where
 keep:=λ c ob q n hc hx=>b.keep c ob (a.keep c ob q n hc hx) (a.free c ob q n hx) hc hx
 slot:=λ c ob q n hc hx=>by
  obtain⟨sl,e1⟩:=a.slot c ob q n hc hx
  obtain⟨sl',e2⟩:=b.slot c _ e1 (a.free c ob q n hx) hc hx
  exact⟨sl',e2⟩
 free:=λ c ob q n hx=>by
  obtain⟨o',e1⟩:=a.there c ob q hx
  exact b.free c o' e1 (a.free c ob q n hx) hx
 there:=λ c ob q hx=>by
  obtain⟨o',e1⟩:=a.there c ob q hx
  exact b.there c o' e1 hx
 tups:=λ c xs q=>b.tups c xs (a.tups c xs q)
 frzs:=λ c ob xs q=>b.frzs c ob xs (a.frzs c ob xs q)
 tbls:=λ c ps q=>by
  obtain⟨m1,e1⟩:=a.tbls c ps q
  obtain⟨m2,e2⟩:=b.tbls c _ e1
  exact⟨m1++m2,by rw[e2,Array.append_assoc]⟩
theorem Un.kept (k:∀ b u,h.get? b=some u->h'.get? b=some u):Un fs ex H H h h' :=
 ⟨λ b ob q _ _ _=>k b ob q,λ b ob q _ _ _=>⟨ob.slots,k b ob q⟩,λ _ _ _ n _=>n,λ b ob q _=>⟨ob,k b ob q⟩,λ _ _ q=>q,λ _ _ _ q=>q,λ _ ps q=>⟨#[],by rw[q];simp⟩⟩
theorem Un.refl:Un fs ex H H h h:=Un.kept λ _ _ q=>q
theorem Un.laid (k:∀ b u,h.get? b=some u->h'.get? b=some u) (hp:h.objs.size<=a) (hn:H a=none):Un fs ex H (upd H a o) h h' where
 keep:=λ b u q _ _ _=>k b u q
 slot:=λ b u q _ _ _=>⟨u.slots,k b u q⟩
 free:=λ b u q n _=>by rw[zap (uaw (ua2 (Heap.lt_size q) hp))];exact n
 there:=λ b u q _=>⟨u,k b u q⟩
 tups:=λ b xs q=>by rw[zap (zaf q hn)];exact q
 frzs:=λ b u xs q=>by rw[zap (zaf q hn)];exact q
 tbls:=λ b ps q=>⟨#[],by rw[zap (zaf q hn),q];simp⟩
theorem Un.write (mu:Mut (H x)) (he:e=x\/H e=some (.own x)) (k:∀ b u,b≠e->h.get? b=some u->h'.get? b=some u) (heo:∃ u,h'.get? e=some u):Un fs ex H (upd H x o) h h':=by
 have hx:∀ b,H b=none->b≠x:=λ b n z=>by subst z;rw[n] at mu;exact mu
 have hb:∀ b,H b=none->b≠e:=λ b n z=>by
  subst z
  rcases he with r | r
  ·exact hx b n r
  ·rw[n] at r;cases r
 have hm:∀ b u,H b=some u->¬ Mut (some u)->b≠x:=λ b u q nm z=>by subst z;rw[q] at mu;exact nm mu
 refine⟨λ b u q n _ _=>k b u (hb b n) q,λ b u q n _ _=>⟨u.slots,k b u (hb b n) q⟩,λ b u q n _=>by rw[zap (hx b n)];exact n,λ b u q _=>?_,
  λ b xs q=>by rw[zap (hm b _ q λ z=>z)];exact q,λ b u xs q=>by rw[zap (hm b _ q λ z=>z)];exact q,λ b ps q=>⟨#[],by rw[zap (hm b _ q λ z=>z),q];simp⟩⟩
 by_cases hbe:b=e
 ·subst hbe;exact heo
 ·exact⟨u,k b u hbe q⟩
end
def trk (h:Heap) (H:Hp):List Addr:=(uag h.objs.size).filter λ a=>(H a).isSome
def hidT (h:Heap) (H:Hp):Heap:=PySem.W.hideAll h (trk h H)
theorem zol (h:Heap) (H:Hp):(hidT h H).objs.size=h.objs.size:=PySem.W.hideAll_size _ _
theorem zp8 {h:Heap} {H:Hp} {b:Addr} {o:Obj} (e:h.get? b=some o) (n:H b=none):(hidT h H).get? b=some o :=
 PySem.W.hideAll_get _ e λ hm=>by
  have q:(H b).isSome=true:=(ubr.mp hm).2
  rw[n] at q;simp at q
theorem zsi {h:Heap} {H:Hp} {b:Addr} {o:Obj} (e:(hidT h H).get? b=some o):h.get? b=some o/\H b=none:=by
 have e':h.get? b=some o:=PySem.W.of_hideAll (trk h H) e
 refine⟨e',?_⟩
 cases q:H b with
 | none=>rfl
 | some x =>
  have hm:b ∈ trk h H:=ubr.mpr ⟨uav.mpr (Heap.lt_size e'),by simp [q]⟩
  have z:(hidT h H).get? b=none:=PySem.W.hideAll_none (trk h H) hm
  rw[z] at e;cases e
def allNews (g h:Heap) (L:Addr):List (Addr × Obj):=(uag h.objs.size).filterMap λ a=>if a=L\/(g.get? a).isSome=true then none else (h.get? a).map λ o=>(a,o)
def rest (g h:Heap) (L d:Addr):List (Addr × Obj):=(allNews g h L).filter λ p=>decide (p.1≠d)
end L2
namespace L2
open PySem PySem.Spec PyProof.Rows
structure Mod (K:uac) (mg:Str->Option Value) (base:Heap):Prop where
 kin:K.In base
 glob:base.Ns mainGlobals mg
 blt:∃ mb,base.Ns builtinsNs mb/\∀ x:Str,x≠"__name__"->mb x=bootBuiltins x
 nolimit:base.NoLimit
structure Cx where
 prog:Program
 w:World
 K:uac
 mg:Str->Option Value
 base:Heap
 A:Around
 N:List Str
 s₀:Shared
 H₀:Hp
 env:Env
 outer:List Env
 stack:List Env
 ex:List Addr
 fn:Str->Bool
 calm:Bool
 pn:List (Addr × Obj)
 xe:Value->Shared->Prop
def frs (l:List Env):List Addr:=l.filterMap (·.frame)
abbrev Cx.fs (X:Cx):List Addr:=frs X.outer
def Vis (sc:Scope) (x:Str):Prop:=sc.names.lookup x=some .local\/sc.names.lookup x=some .cell\/sc.names.lookup x=some .free
def Loc (sc:Scope) (x:Str):Prop:=sc.names.lookup x=some .local\/sc.names.lookup x=some .cell
def Look (env:Env) (h:Heap) (m:Str->Option Value) (x:Str) (u:Value):Prop :=
 (env.kindOf x=some .local/\m x=some u)\/((env.kindOf x=some .cell\/env.kindOf x=some .free)/\∃ c,env.cells.lookup x=some c/\h.IsCell c (some u))
structure Cx.Ok (X:Cx):Prop where
 mod:Mod X.K X.mg X.base
 kind:X.env.scope.kind=.function
 glob:X.env.globals=mainGlobals
 blt:X.env.builtins=builtinsNs
 above:X.s₀.heap.objs.size<=X.env.locals
 inj:∀ x y c,X.env.cells.lookup x=some c->X.env.cells.lookup y=some c->x=y
 has:∀ x,(X.env.kindOf x=some .cell\/X.env.kindOf x=some .free)->∃ c,X.env.cells.lookup x=some c
 cab:∀ x c,X.fn x=true->X.env.cells.lookup x=some c->X.s₀.heap.objs.size<=c
 hd:X.calm=true->X.A.handled=none
 frames:X.A.frames=some X.stack
 stk:X.stack=X.outer\/(X.stack=X.env::X.outer/\X.env.frame=some X.env.locals)
 exf:∀ b ∈ X.ex,b≠X.env.locals/\∀ x c,X.env.cells.lookup x=some c->c≠b
 bs:∀ b o,X.base.get? b=some o->X.s₀.heap.get? b=some o/\X.H₀ b=none
 bsz:X.base.objs.size<=X.s₀.heap.objs.size
 noex:∀ b o,X.base.get? b=some o->b ∉ X.ex
 exfs:∀ b ∈ X.ex,b ∉ X.fs
 funs:X.s₀.heap.FunFrames X.base X.outer
 frf:∀ b ∈ X.fs,X.H₀ b=none
structure Inv (X:Cx) (pins:List (Addr × Obj)) (σ:List (Option V)) (H:Hp) (s:Shared):Prop where
 ok:X.Ok
 os:s.os=X.s₀.os
 bare:AllBare s.gens
 base:Un X.fs X.ex X.H₀ H X.s₀.heap s.heap
 loc:∃ m,s.heap.Ns X.env.locals m/\∀ (i:Nat) (x:Str) (v:V),X.N[i]?=some x->σ[i]?=some (some v)->Vis X.env.scope x->∃ u,RelV v u/\Look X.env s.heap m x u
 cell:∀ x c,X.env.cells.lookup x=some c->∃ v,s.heap.IsCell c v
 free:H X.env.locals=none
 freeC:∀ x c,X.env.cells.lookup x=some c->H c=none
 pin:∀ p ∈ X.pn++pins,s.heap.get? p.1=some p.2/\H p.1=none/\p.1≠X.env.locals/\p.1 ∉ X.fs/\∀ v,p.2.data≠.cell v
 hok:HOk X.prog X.w H s.heap
 len:σ.length=X.N.length
section
variable {X:Cx} {pins:List (Addr × Obj)} {σ:List (Option V)} {H H':Hp} {s:Shared} {h':Heap}
theorem Cx.Ok.nofr (ok:X.Ok) {b:Addr} {o:Obj} (e:X.base.get? b=some o):b ∉ X.fs:=λ hb=>by
 have:=(ok.funs.mem hb).1
 rw[e] at this;cases this
theorem Inv.bs (I:Inv X pins σ H s):∀ b o,X.base.get? b=some o->s.heap.get? b=some o/\H b=none:=λ b o e =>
 ⟨I.base.keep b o (I.ok.bs b o e).1 (I.ok.bs b o e).2 (I.ok.nofr e) (I.ok.noex b o e),I.base.free b o (I.ok.bs b o e).1 (I.ok.bs b o e).2 (I.ok.noex b o e)⟩
theorem Inv.bk (I:Inv X pins σ H s):∀ b o,X.base.get? b=some o->s.heap.get? b=some o:=λ b o e=>(I.bs b o e).1
theorem Inv.mod (I:Inv X pins σ H s):Mod X.K X.mg X.base:=I.ok.mod
theorem Inv.kIn (I:Inv X pins σ H s):X.K.In s.heap:=I.ok.mod.kin.keeps I.bk
theorem Inv.lt (I:Inv X pins σ H s):X.env.locals < s.heap.objs.size:=let ⟨_,hn,_⟩:=I.loc;hn.lt
theorem Inv.sz (I:Inv X pins σ H s):X.s₀.heap.objs.size<=s.heap.objs.size:=ua9 I.ok.above (ue9 I.lt)
theorem Inv.nofs (I:Inv X pins σ H s) {a:Addr} (h:s.heap.objs.size<=a):a ∉ X.fs:=λ hb=>by
 obtain⟨_,o,ho,_⟩:=I.ok.funs.mem hb
 exact absurd (ua2 (Heap.lt_size ho) (ua9 I.sz h)) (uck _)
theorem Inv.cne (I:Inv X pins σ H s):∀ x c,X.env.cells.lookup x=some c->c≠X.env.locals:=λ x c e z=>by
 obtain⟨v,o,ho,hd⟩:=I.cell x c e
 obtain⟨m,⟨o',es,ep,ho',hd',_⟩,_⟩:=I.loc
 rw[z,ho'] at ho;cases ho;rw[hd'] at hd;cases hd
theorem Inv.funs (I:Inv X pins σ H s):s.heap.FunFrames X.base X.outer:=by
 have all:∀ (l:List Env),(∀ b ∈ frs l,b ∈ X.fs)->X.s₀.heap.FunFrames X.base l->s.heap.FunFrames X.base l:=by
  intro l
  induction l with
  | nil=>intro _ _;trivial
  | cons env r ih =>
   intro hs hl
   obtain⟨hk,⟨L,o,hf,hn,ho,hd⟩,hr⟩:=hl
   have hL:L ∈ X.fs:=hs L (by unfold frs;rw[ucm,hf];exact ual)
   obtain⟨sl,e⟩:=I.base.slot L o ho (I.ok.frf L hL) hL λ z=>I.ok.exfs L z hL
   exact⟨hk,⟨L,_,hf,hn,e,hd⟩,ih (λ b hb=>hs b (by unfold frs;rw[ucm,hf];exact uap _ hb)) hr⟩
 exact all X.outer (λ _ hb=>hb) I.ok.funs
theorem Inv.stack (I:Inv X pins σ H s):s.heap.FunFrames X.base X.stack:=by
 rcases I.ok.stk with e | ⟨e,hf⟩
 ·rw[e];exact I.funs
 ·rw[e]
  obtain⟨m,hn,_⟩:=I.loc
  refine .cons (by rw[I.ok.kind];decide) hf hn ?_ I.funs
  exact Heap.get?_none_of_le (ua9 I.ok.bsz I.ok.above)
theorem Inv.stkSub (I:Inv X pins σ H s):∀ b ∈ frs X.stack,b ∈ X.env.locals::X.fs:=λ b hb=>by
 rcases I.ok.stk with e | ⟨e,hf⟩
 ·rw[e] at hb;exact uap _ hb
 ·rw[e] at hb
  unfold frs at hb
  rw[ucm,hf] at hb
  exact hb
theorem Inv.stkFree (I:Inv X pins σ H s):∀ b ∈ frs X.stack,H b=none:=λ b hb=>by
 rcases uar.mp (I.stkSub b hb) with e | hb
 ·rw[e];exact I.free
 ·obtain⟨_,o,ho,_⟩:=I.ok.funs.mem hb
  exact I.base.free b o ho (I.ok.frf b hb) λ z=>I.ok.exfs b z hb
theorem Inv.step {g':Array GenState} {t':Nat} {d':Drawn} {ch:List Addr} (I:Inv X pins σ H s)
  (hch:∀ b ∈ ch,(b ∈ X.ex\/X.s₀.heap.objs.size<=b)/\b≠X.env.locals/\(∀ x c,X.env.cells.lookup x=some c->c≠b)/\∀ p ∈ X.pn++pins,p.1≠b)
  (keep:∀ b o,b≠X.env.locals->b ∉ X.fs->b ∉ ch->s.heap.get? b=some o->H b=none->h'.get? b=some o)
  (slot:∀ b o,b≠X.env.locals->b ∈ X.fs->b ∉ ch->s.heap.get? b=some o->H b=none->∃ sl,h'.get? b=some { o with slots:=sl }) (free:∀ b o,b ∉ ch->s.heap.get? b=some o->H b=none->H' b=none)
  (there:∀ b o,b ∉ ch->s.heap.get? b=some o->∃ o',h'.get? b=some o')
  (tups:∀ b xs,H b=some (.tup xs)->H' b=some (.tup xs)) (frzs:∀ b o u,H b=some (.frz o u)->H' b=some (.frz o u)) (tbls:∀ b ps,H b=some (.tbl ps)->∃ more,H' b=some (.tbl (ps++more)))
  (ns:∀ m,s.heap.Ns X.env.locals m->h'.Ns X.env.locals m) (hok:HOk X.prog X.w H' h') (hg:AllBare g') :
  Inv X pins σ H' { s with heap:=h',gens:=g',drawn:=d',toks:=t' }:=by
 have neL:∀ b o,X.s₀.heap.get? b=some o->b≠X.env.locals:=λ b o e=>uaw (ua2 (Heap.lt_size e) I.ok.above)
 have neC:∀ b o,X.s₀.heap.get? b=some o->b ∉ X.ex->b ∉ ch:=λ b o e hx hb=>by
  rcases (hch b hb).1 with z | z
  ·exact hx z
  ·exact absurd (ua2 (Heap.lt_size e) z) (uck _)
 have cellK:∀ x c,X.env.cells.lookup x=some c->∀ v,s.heap.IsCell c v->h'.IsCell c v:=λ x c e v ⟨o,ho,hd⟩=>by
  have nch:c ∉ ch:=λ z=>(hch c z).2.2.1 x c e rfl
  by_cases hc:c ∈ X.fs
  ·obtain⟨sl,q⟩:=slot c o (I.cne x c e) hc nch ho (I.freeC x c e)
   exact⟨_,q,hd⟩
  ·exact⟨o,keep c o (I.cne x c e) hc nch ho (I.freeC x c e),hd⟩
 refine⟨I.ok,I.os,hg,⟨λ b o e n hb hx=>?_,λ b o e n hb hx=>?_,λ b o e n hx=>?_,λ b o e hx=>?_,λ b xs e=>tups b xs (I.base.tups b xs e),λ b o xs e=>frzs b o xs (I.base.frzs b o xs e),λ b ps e=>?_⟩,?_,λ x c e=>?_,?_,λ x c e=>?_,λ p hp=>?_,hok,I.len⟩
 ·exact keep b o (neL b o e) hb (neC b o e hx) (I.base.keep b o e n hb hx) (I.base.free b o e n hx)
 ·obtain⟨sl,e1⟩:=I.base.slot b o e n hb hx
  obtain⟨sl',e2⟩:=slot b _ (neL b o e) hb (neC b o e hx) e1 (I.base.free b o e n hx)
  exact⟨sl',e2⟩
 ·obtain⟨o',e1⟩:=I.base.there b o e hx
  exact free b o' (neC b o e hx) e1 (I.base.free b o e n hx)
 ·obtain⟨o',e1⟩:=I.base.there b o e hx
  exact there b o' (neC b o e hx) e1
 ·obtain⟨m1,e1⟩:=I.base.tbls b ps e
  obtain⟨m2,e2⟩:=tbls b _ e1
  exact⟨m1++m2,by rw[e2,Array.append_assoc]⟩
 ·obtain⟨m,hn,hl⟩:=I.loc
  refine⟨m,ns m hn,λ i x v e1 e2 e3=>?_⟩
  obtain⟨u,r,l⟩:=hl i x v e1 e2 e3
  refine⟨u,r,?_⟩
  rcases l with l | ⟨k,c,e,z⟩
  ·exact .inl l
  ·exact .inr ⟨k,c,e,cellK x c e _ z⟩
 ·obtain⟨v,z⟩:=I.cell x c e
  exact⟨v,cellK x c e v z⟩
 ·obtain⟨m,⟨o,_,_,ho,_⟩,_⟩:=I.loc
  exact free _ o (λ z=>(hch _ z).2.1 rfl) ho I.free
 ·obtain⟨v,o,ho,hd⟩:=I.cell x c e
  exact free c o (λ z=>(hch c z).2.2.1 x c e rfl) ho (I.freeC x c e)
 ·obtain⟨e,n,ne,nf,d⟩:=I.pin p hp
  have nch:p.1 ∉ ch:=λ z=>(hch p.1 z).2.2.2 p hp rfl
  exact⟨keep p.1 p.2 ne nf nch e n,free p.1 p.2 nch e n,ne,nf,d⟩
theorem Inv.un {t':Nat} (I:Inv X pins σ H s) (u:Un X.fs [] H H' s.heap h') (hok:HOk X.prog X.w H' h'):Inv X pins σ H' { s with heap:=h',toks:=t' }:=by
 obtain⟨m,⟨o,es,ep,ho,r⟩,_⟩:=id I.loc
 obtain⟨sl,hL⟩:=u.any ho I.free (by simp)
 exact I.step (g':=s.gens) (d':=s.drawn) (ch:=[]) (λ _ z=>nomatch z) (λ b o _ hb _ e n=>u.keep b o e n hb (by simp)) (λ b o _ hb _ e n=>u.slot b o e n hb (by simp)) (λ b o _ e n=>u.free b o e n (by simp)) (λ b o _ e=>u.there b o e (by simp)) u.tups u.frzs u.tbls (λ m' hm=>by
  obtain⟨o',es',ep',ho',r'⟩:=hm
  rw[ho] at ho';cases ho'
  exact⟨_,es',ep',hL,r'⟩) hok I.bare
theorem Inv.call {g':Array GenState} {t':Nat} {d':Drawn} {ch:List Addr} (I:Inv X pins σ H s) (u:Un (frs X.stack) ch H H' s.heap h') (hok:HOk X.prog X.w H' h') (hg:AllBare g')
  (hch:∀ b ∈ ch,(b ∈ X.ex\/X.s₀.heap.objs.size<=b)/\b≠X.env.locals/\(∀ x c,X.env.cells.lookup x=some c->c≠b)/\∀ p ∈ X.pn++pins,p.1≠b) :
  Inv X pins σ H' { s with heap:=h',gens:=g',drawn:=d',toks:=t' }:=by
 obtain⟨m,⟨o,es,ep,ho,r⟩,_⟩:=id I.loc
 obtain⟨sl,hL⟩:=u.any ho I.free λ z=>(hch _ z).2.1 rfl
 exact I.step (ch:=ch) hch (λ b o hL hb hc e n=>u.keep b o e n (λ z=>(uar.mp (I.stkSub b z)).elim hL hb) hc) (λ b o _ _ hc e n=>u.any e n hc) (λ b o hc e n=>u.free b o e n hc) (λ b o hc e=>u.there b o e hc) u.tups u.frzs u.tbls (λ m' hm=>by
  obtain⟨o',es',ep',ho',r'⟩:=hm
  rw[ho] at ho';cases ho'
  exact⟨_,es',ep',hL,r'⟩) hok hg
theorem Inv.turned {t':Nat} {it:Addr} (I:Inv X pins σ H s) (k:∀ b o,b≠it->s.heap.get? b=some o->h'.get? b=some o) (hn:H it=none) (hL:it≠X.env.locals)
  (h1:it ∈ X.ex\/X.s₀.heap.objs.size<=it) (h2:∀ x c,X.env.cells.lookup x=some c->c≠it) (h3:∀ p ∈ X.pn++pins,p.1≠it):Inv X pins σ H { s with heap:=h',toks:=t' }:=by
 have nit:∀ b u,H b=some u->b≠it:=λ b u e z=>by rw[z,hn] at e;cases e
 refine I.step (g':=s.gens) (d':=s.drawn) (ch:=[it]) (λ b hb=>?_) (λ b o _ _ hc e _=>k b o (λ z=>hc (by simp [z])) e) (λ b o _ _ hc e _=>⟨o.slots,k b o (λ z=>hc (by simp [z])) e⟩) (λ _ _ _ _ n=>n)
  (λ b o hc e=>⟨o,k b o (λ z=>hc (by simp [z])) e⟩) (λ _ _ e=>e) (λ _ _ _ e=>e) (λ b ps e=>⟨#[],by rw[e];simp⟩) (λ m hm=>?_) (λ b u e=>?_) I.bare
 ·have e:b=it:=by simpa using hb
  subst e
  exact⟨h1,hL,h2,h3⟩
 ·obtain⟨o,es,ep,ho,r⟩:=hm
  exact⟨o,es,ep,k _ o (Ne.symm hL) ho,r⟩
 ·refine (I.hok b u e).stay (λ c v hc q=>k c v ?_ q) (λ _ q=>q) λ _ _ q=>q
  rcases hc with z | z
  ·rw[z];exact nit b u e
  ·exact nit c _ z
theorem Inv.tok (I:Inv X pins σ H s) (t:Nat):Inv X pins σ H { s with toks:=t }:=I.un (h':=s.heap) (t':=t) Un.refl I.hok
theorem Inv.kept {t':Nat} (I:Inv X pins σ H s) (k:∀ b u,s.heap.get? b=some u->h'.get? b=some u):Inv X pins σ H { s with heap:=h',toks:=t' }:=I.un (Un.kept k) (I.hok.kept k)
theorem Inv.laid {a:Addr} {o:HO} {t':Nat} (I:Inv X pins σ H s) (k:∀ b u,s.heap.get? b=some u->h'.get? b=some u) (hp:s.heap.objs.size<=a) (new:ObjOk X.prog X.w (upd H a o) h' a o) :
  Inv X pins σ (upd H a o) { s with heap:=h',toks:=t' }:=I.un (Un.laid k hp (I.hok.fresh hp)) (I.hok.laid k hp new)
theorem Inv.write {x e:Addr} {o:HO} {t':Nat} (I:Inv X pins σ H s) (mu:Mut (H x)) (he:e=x\/H e=some (.own x)) (k:∀ b u,b≠e->s.heap.get? b=some u->h'.get? b=some u) (heo:∃ u,h'.get? e=some u)
  (new:ObjOk X.prog X.w (upd H x o) h' x o):Inv X pins σ (upd H x o) { s with heap:=h',toks:=t' }:=I.un (Un.write mu he k heo) (I.hok.write mu he k heo new)
theorem Inv.pins_of {pins':List (Addr × Obj)} (I:Inv X pins σ H s) (h:∀ p ∈ pins',s.heap.get? p.1=some p.2/\H p.1=none/\p.1≠X.env.locals/\p.1 ∉ X.fs/\∀ v,p.2.data≠.cell v):Inv X pins' σ H s :=
 ⟨I.ok,I.os,I.bare,I.base,I.loc,I.cell,I.free,I.freeC,λ p hp=>(uaz.mp hp).elim (λ z=>I.pin p (ucr _ z)) (h p),I.hok,I.len⟩
theorem zlf {N:List Str} (hN:N.Nodup) {i j:Nat} {x:Str} (a:N[i]?=some x) (b:N[j]?=some x):i=j:=by
 obtain⟨h1,e1⟩:=uan.mp a
 obtain⟨h2,e2⟩:=uan.mp b
 exact (List.getElem_inj hN).mp (e1.trans e2.symm)
theorem zij {M:Model} {A:Around} {E:Value->Shared->Prop} {i:Nat} {x:Str} {v:V} {u:Value} {Q:Unit->Shared->Prop} (I:Inv X pins σ H s) (hN:X.N.Nodup) (hi:X.N[i]?=some x) (hx:Loc X.env.scope x) (r:RelV v u)
  (h:∀ s',Inv X pins (σ.set i (some v)) H s'->(∃ a,Heap.SameBut a s.heap s'.heap/\(a=X.env.locals\/X.env.cells.lookup x=some a))->Q () s') (hf:X.fn x=true\/X.env.scope.names.lookup x=some .local:=by first | exact .inl rfl | exact .inr rfl | assumption):wpAny M A (storeName X.env x u) Q E s:=by
 obtain⟨m,hn,hl⟩:=id I.loc
 have hcls:(X.env.scope.kind == .class || (X.env.scope.kind == .module && X.env.locals != X.env.globals))=false:=by rw[I.ok.kind];rfl
 have hiσ:i < σ.length:=by rw[I.len];exact (uan.mp hi).1
 have cne:=I.cne
 have tracked:∀ {a:Addr} {h':Heap},(∃ o,s.heap.get? a=some o/\H a=none)->Heap.SameBut a s.heap h'->HOk X.prog X.w H h':=λ {a h'} ha hs b ob e=>by
  obtain⟨_,_,hfree⟩:=ha
  refine (I.hok b ob e).stay (λ c w' hc q=>(hs.2 c ?_).trans q) (λ _ q=>q) λ _ _ q=>q
  rintro rfl
  rcases hc with rfl | hc
  ·rw[hfree] at e;cases e
  ·rw[hfree] at hc;cases hc
 rcases hx with hk | hk
 ·refine wpAny_storeName_local hk hn (λ h' hn' hs=>?_) hcls
  obtain⟨oL,_,_,hoL,_⟩:=id hn
  refine h _ ⟨I.ok,I.os,I.bare,⟨λ b o e n hb hx=>?_,λ b o e n hb hx=>?_,I.base.free,λ b o e hx=>?_,I.base.tups,I.base.frzs,I.base.tbls⟩,⟨_,hn',λ j y v' e1 e2 e3=>?_⟩,λ y c e=>?_,I.free,I.freeC,λ p hp=>?_,tracked ⟨oL,hoL,I.free⟩ hs,by simpa using I.len⟩ ⟨_,hs,.inl rfl⟩
  ·exact (hs.2 b (uaw (ua2 (Heap.lt_size e) I.ok.above))).trans (I.base.keep b o e n hb hx)
  ·obtain⟨sl,e1⟩:=I.base.slot b o e n hb hx
   exact⟨sl,(hs.2 b (uaw (ua2 (Heap.lt_size e) I.ok.above))).trans e1⟩
  ·obtain⟨o',e1⟩:=I.base.there b o e hx
   exact⟨o',(hs.2 b (uaw (ua2 (Heap.lt_size e) I.ok.above))).trans e1⟩
  ·by_cases hj:j=i
   ·subst hj
    rw[hi] at e1;cases e1
    rw[uek hiσ] at e2
    cases e2
    exact⟨u,r,.inl ⟨hk,by simp⟩⟩
   ·rw[uew (Ne.symm hj)] at e2
    obtain⟨u',r',q⟩:=hl j y v' e1 e2 e3
    refine⟨u',r',?_⟩
    rcases q with ⟨k,e⟩ | ⟨k,c,e,z⟩
    ·refine .inl ⟨k,?_⟩
     have:y≠x:=λ e=>hj (zlf hN e1 (e ▸ hi))
     simp [this,e]
    ·exact .inr ⟨k,c,e,z.sameBut hs (cne y c e)⟩
  ·obtain⟨w',z⟩:=I.cell y c e
   exact⟨w',z.sameBut hs (cne y c e)⟩
  ·obtain⟨e,n,ne,nf,d⟩:=I.pin p hp
   exact⟨(hs.2 p.1 ne).trans e,n,ne,nf,d⟩
 ·have hfn:X.fn x=true:=by
   rcases hf with z | z
   ·exact z
   ·rw[z] at hk;cases hk
  obtain⟨c,hc⟩:=I.ok.has x (.inl hk)
  obtain⟨w',z⟩:=I.cell x c hc
  refine wpAny_storeName_cell I.ok.kind hk hc z (λ h' hc' hs=>?_)
  obtain⟨oc,hoc,hocd⟩:=id z
  refine h { s with heap:=h' } ⟨I.ok,I.os,I.bare,⟨λ b o e n hb hx=>?_,λ b o e n hb hx=>?_,I.base.free,λ b o e hx=>?_,I.base.tups,I.base.frzs,I.base.tbls⟩,⟨m,hn.sameBut hs (Ne.symm (cne x c hc)),λ j y v' e1 e2 e3=>?_⟩,λ y c' e=>?_,I.free,I.freeC,λ p hp=>?_,tracked ⟨oc,hoc,I.freeC x c hc⟩ hs,by simpa using I.len⟩ ⟨c,hs,.inr hc⟩
  ·exact (hs.2 b (uaw (ua2 (Heap.lt_size e) (I.ok.cab x c hfn hc)))).trans (I.base.keep b o e n hb hx)
  ·obtain⟨sl,e1⟩:=I.base.slot b o e n hb hx
   exact⟨sl,(hs.2 b (uaw (ua2 (Heap.lt_size e) (I.ok.cab x c hfn hc)))).trans e1⟩
  ·obtain⟨o',e1⟩:=I.base.there b o e hx
   exact⟨o',(hs.2 b (uaw (ua2 (Heap.lt_size e) (I.ok.cab x c hfn hc)))).trans e1⟩
  ·by_cases hj:j=i
   ·subst hj
    rw[hi] at e1;cases e1
    rw[uek hiσ] at e2
    cases e2
    exact⟨u,r,.inr ⟨.inl hk,c,hc,hc'⟩⟩
   ·rw[uew (Ne.symm hj)] at e2
    obtain⟨u',r',q⟩:=hl j y v' e1 e2 e3
    refine⟨u',r',?_⟩
    rcases q with q | ⟨k,c',e,z'⟩
    ·exact .inl q
    ·refine .inr ⟨k,c',e,z'.sameBut hs ?_⟩
     rintro rfl
     exact hj (zlf hN e1 (I.ok.inj _ _ _ e hc ▸ hi))
  ·by_cases hcc:c'=c
   ·subst hcc;exact⟨_,hc'⟩
   ·obtain⟨w2,z2⟩:=I.cell y c' e
    exact⟨w2,z2.sameBut hs hcc⟩
  ·obtain⟨e,n,ne,nf,d⟩:=I.pin p hp
   refine⟨(hs.2 p.1 ?_).trans e,n,ne,nf,d⟩
   intro q
   rw[q,hoc] at e
   have q':oc=p.2:=uau e
   exact d w' (by rw[← q'];exact hocd)
theorem zee {M:Model} {A:Around} {E:Value->Shared->Prop} {i:Nat} {x:Str} {v:V} {u:Value} {Q:Unit->Shared->Prop} (I:Inv X pins σ H s) (hN:X.N.Nodup) (hi:X.N[i]?=some x) (hx:Loc X.env.scope x) (r:RelV v u)
  (h:∀ s',Inv X pins (σ.set i (some v)) H s'->Q () s') (hf:X.fn x=true\/X.env.scope.names.lookup x=some .local:=by first | exact .inl rfl | exact .inr rfl | assumption):wpAny M A (storeName X.env x u) Q E s :=
 zij I hN hi hx r (λ s' I' _=>h s' I') hf
theorem Inv.call' {s':Shared} {ch:List Addr} (I:Inv X pins σ H s) (ho:s'.os=s.os) (u:Un (frs X.stack) ch H H' s.heap s'.heap) (hok:HOk X.prog X.w H' s'.heap) (hg:AllBare s'.gens)
  (hch:∀ b ∈ ch,(b ∈ X.ex\/X.s₀.heap.objs.size<=b)/\b≠X.env.locals/\(∀ x c,X.env.cells.lookup x=some c->c≠b)/\∀ p ∈ X.pn++pins,p.1≠b):Inv X pins σ H' s':=by
 obtain⟨h',g',d',t',o'⟩:=s'
 have e:o'=s.os:=ho
 subst e
 exact I.call (g':=g') (t':=t') (d':=d') u hok hg hch
end
abbrev XK:=Value->Option Addr->Hp->Prop
abbrev St:=List (Option V)
abbrev VK:=V->Hp->Prop
abbrev TE:=St->Hp->VK->Prop
abbrev TT:=St->Hp->(Bool->Hp->Prop)->Prop
abbrev TA:=St->Hp->(List V->Hp->Prop)->Prop
structure Ends where
 nx:St->Hp->Prop
 rt:VK
 bk:St->Hp->Prop:=λ _ _=>False
 ct:St->Hp->Prop:=λ _ _=>False
abbrev TS:=Ends->St->Hp->Prop
def EP (X:Cx) (pins:List (Addr × Obj)) (σ:St) (Q:VK) (u:Value) (s':Shared):Prop:=∃ v H',Inv X pins σ H' s'/\RelV v u/\Q v H'
def TP (X:Cx) (pins:List (Addr × Obj)) (σ:St) (Q:Bool->Hp->Prop) (b:Bool) (s':Shared):Prop:=∃ H',Inv X pins σ H' s'/\Q b H'
def AP (X:Cx) (pins:List (Addr × Obj)) (σ:St) (Q:List V->Hp->Prop) (us:List Value) (s':Shared):Prop:=∃ vs H',Inv X pins σ H' s'/\Vals vs us/\Q vs H'
def SP (X:Cx) (pins:List (Addr × Obj)) (D:Ends) (f:Flow) (s':Shared):Prop :=
 match f with
 | .next=>∃ σ' H',Inv X pins σ' H' s'/\D.nx σ' H'
 | .brk=>∃ σ' H',Inv X pins σ' H' s'/\D.bk σ' H'
 | .cont=>∃ σ' H',Inv X pins σ' H' s'/\D.ct σ' H'
 | .ret u=>∃ v σ' H',Inv X pins σ' H' s'/\RelV v u/\D.rt v H'
def PE (X:Cx) (e:Expr) (t:TE):Prop :=
 ∀ (pins:List (Addr × Obj)) (s:Shared) (σ:St) (H:Hp) (Q:VK),Inv X pins σ H s->t σ H Q->wpAny (model X.prog X.w) X.A (eval e X.env) (EP X pins σ Q) X.xe s
def PT (X:Cx) (e:Expr) (t:TT):Prop :=
 ∀ (pins:List (Addr × Obj)) (s:Shared) (σ:St) (H:Hp) (Q:Bool->Hp->Prop),Inv X pins σ H s->t σ H Q->wpAny (model X.prog X.w) X.A (isTrue e X.env (eval e X.env)) (TP X pins σ Q) X.xe s
def PW (X:Cx) (e:Expr) (t:TT):Prop :=
 ∀ (whole:Sem Value) (pins:List (Addr × Obj)) (s:Shared) (σ:St) (H:Hp) (Q:Bool->Hp->Prop),Inv X pins σ H s->t σ H Q->wpAny (model X.prog X.w) X.A (isTrue e X.env whole) (TP X pins σ Q) X.xe s
theorem PW.pt {X:Cx} {e:Expr} {t:TT} (h:PW X e t):PT X e t:=h _
def PA (X:Cx) (es:List Expr) (t:TA):Prop :=
 ∀ (pos:Pos) (pins:List (Addr × Obj)) (s:Shared) (σ:St) (H:Hp) (Q:List V->Hp->Prop),Inv X pins σ H s->t σ H Q->wpAny (model X.prog X.w) X.A (spliced (backTo pos (starEach es X.env))) (AP X pins σ Q) X.xe s
def PS (X:Cx) (st:Stmt) (t:TS):Prop :=
 ∀ (pins:List (Addr × Obj)) (s:Shared) (σ:St) (H:Hp) (D:Ends),Inv X pins σ H s->t D σ H->wpAny (model X.prog X.w) X.A (exec st X.env) (SP X pins D) X.xe s
def PSs (X:Cx) (st:List Stmt) (t:TS):Prop :=
 ∀ (pins:List (Addr × Obj)) (s:Shared) (σ:St) (H:Hp) (D:Ends),Inv X pins σ H s->t D σ H->wpAny (model X.prog X.w) X.A (execs st X.env) (SP X pins D) X.xe s
theorem thn {α:Type} {t:Sem α} {Q Q':α->Shared->Prop} {M:Model} {A:Around} {E:Value->Shared->Prop} {s:Shared} (h:wpAny M A t Q E s) (hQ:∀ a s,Q a s->Q' a s):wpAny M A t Q' E s:=ucv h hQ λ _ _ x=>x
end L2
namespace L2
open PySem PySem.Spec PyProof.Rows
section
variable {X:Cx}
inductive EVar (σ:L2.St) (i:Nat) (Q:V->Prop):Prop
 | mk:∀ v,(σ[i]?=some (some v))->Q v->EVar σ i Q
inductive EBl (x:V) (Q:Bool->Prop):Prop
 | mk:∀ c,(x=.bl c)->Q c->EBl x Q
inductive EInt (x:V) (Q:Int->Prop):Prop
 | mk:∀ i,(x=.int i)->Q i->EInt x Q
inductive ERef (x:V) (Q:Addr->Prop):Prop
 | mk:∀ a,(x=.ref a)->Q a->ERef x Q
inductive EOne (vs:List V) (Q:Int->Prop):Prop
 | mk:∀ j,(vs=[.int j])->Q j->EOne vs Q
inductive ETwo (vs:List V) (Q:V->V->Prop):Prop
 | mk:∀ v w,(vs=[v,w])->Q v w->ETwo vs Q
def tVar (i:Nat):TE:=λ σ H Q=>EVar σ i λ v=>Q v H
def tC (v:V):TE:=λ _ H Q=>Q v H
theorem ztj {i:Nat} {x:Str} {pos:Pos} (hN:X.N[i]?=some x) (hv:Vis X.env.scope x) (hd:(x == ("__debug__":Str))=false:=by decide) (hcd:(x == ("__classdict__":Str))=false:=by decide):PE X (.Name x pos) (tVar i):=by
 intro pins s σ H Q I h
 obtain⟨v,e,h⟩:=h
 obtain⟨m,hn,hl⟩:=I.loc
 obtain⟨u,r,l⟩:=hl i x v hN e hv
 have fin:EP X pins σ Q u s:=⟨v,H,I,r,h⟩
 rcases l with ⟨hk,hm⟩ | ⟨hk,c,hc,hcell⟩
 ·exact wpAny_Name (wpAny_loadName_local I.ok.kind hk hn hm fin) hd
 ·rcases hk with hk | hk
  ·exact wpAny_Name (wpAny_loadName_cell I.ok.kind hk hc hcell fin) hd
  ·exact wpAny_Name (wpAny_loadName_free I.ok.kind hk hc hcell fin hcd) hd
theorem zae {i j pos}:PE X (.Constant (.int i) j pos) (tC (.int i)):=λ _ _ _ H _ I h=>wpAny_Constant_int ⟨.int i,H,I.tok _,⟨_,rfl⟩,h⟩
theorem zin {b j pos}:PE X (.Constant (.bool b) j pos) (tC (.bl b)):=λ _ _ _ H _ I h=>Constant_bool ⟨.bl b,H,I,rfl,h⟩
theorem zbc {j pos}:PE X (.Constant .none j pos) (tC .non):=λ _ _ _ H _ I h=>Constant_none ⟨.non,H,I,rfl,h⟩
def Gl (X:Cx) (x:Str):Prop:=X.env.kindOf x=some .globalImplicit
theorem zsm {E:Value->Shared->Prop} {pins:List (Addr × Obj)} {s:Shared} {σ:St} {H:Hp} {x:Str} {u:Value} {pos:Pos} {Q:Value->Shared->Prop} (I:Inv X pins σ H s) (hg:Gl X x) (hm:X.mg x=some u) (h:Q u s)
  (hd:(x == ("__debug__":Str))=false:=by decide):wpAny (model X.prog X.w) X.A (eval (.Name x pos) X.env) Q E s :=
 Calls.Name_function_global I.ok.kind hg (Calls.loadGlobal_global (by rw[I.ok.glob];exact I.mod.glob.keeps I.bk) hm h) hd
theorem zdz {E:Value->Shared->Prop} {pins:List (Addr × Obj)} {s:Shared} {σ:St} {H:Hp} {x:Str} {u:Value} {pos:Pos} {Q:Value->Shared->Prop} (I:Inv X pins σ H s) (hg:Gl X x) (hm:X.mg x=none) (hv:bootBuiltins x=some u) (h:Q u s)
  (hn:x≠"__name__":=by decide) (hd:(x == ("__debug__":Str))=false:=by decide):wpAny (model X.prog X.w) X.A (eval (.Name x pos) X.env) Q E s:=by
 obtain⟨mb,h1,h2⟩:=I.mod.blt
 exact Calls.Name_function_global I.ok.kind hg (Calls.loadGlobal_builtin (by rw[I.ok.glob];exact I.mod.glob.keeps I.bk) hm (by rw[I.ok.blt];exact h1.keeps I.bk) ((h2 x hn).trans hv) h) hd
theorem zci {x:Str} {v:V} {u:Value} {pos:Pos} (hg:Gl X x) (hm:X.mg x=none) (hv:bootBuiltins x=some u) (r:RelV v u) (hn:x≠"__name__":=by decide) (hd:(x == ("__debug__":Str))=false:=by decide):PE X (.Name x pos) (tC v) :=
 λ _ _ _ H _ I h=>zdz I hg hm hv ⟨v,H,I,r,h⟩ hn hd
variable {a b:Expr} {ta tb:TE} {pos:Pos}
def PC (X:Cx) (op:CmpOp) (a b:Expr) (t:TE):Prop :=
 ∀ (pins:List (Addr × Obj)) (s:Shared) (σ:St) (H:Hp) (Q:VK),Inv X pins σ H s->t σ H Q ->
  wpAny (model X.prog X.w) X.A (eval a X.env) (λ v s₁=>wpAny (model X.prog X.w) X.A (eval b X.env) (λ u s₂=>wpAny (model X.prog X.w) X.A (compareOp op v u) (EP X pins σ Q) X.xe s₂) X.xe s₁) X.xe s
theorem nobehind (b:Expr) {op:CmpOp} (h:op≠.In) (h2:op≠.NotIn):behindInMarks op b=false:=by
 have e1:(op == CmpOp.In)=false:=by cases op <;> first | rfl | exact absurd rfl h
 have e2:(op == CmpOp.NotIn)=false:=by cases op <;> first | rfl | exact absurd rfl h2
 cases b <;> simp [behindInMarks,e1,e2]
def tB (t:TE):TT:=λ σ H Q=>t σ H λ x H1=>EBl x λ c=>Q c H1
theorem zq4 {op:CmpOp} {t:TE} (h:PC X op a b t) (h1:behindInMarks op b=false:=by first | exact nobehind _ (by decide) (by decide) | rfl):PT X (.Compare a [op] [b] pos) (tB t):=by
 intro pins s σ H Q I hw
 refine wpAny_isTrue_Compare1 (thn (h pins s σ H _ I hw) λ v s1 h1=>thn h1 λ u s2 h2=>thn h2 λ c s3 ⟨x,H1,I1,r1,q1⟩=>?_) h1
 obtain⟨d,rfl,q⟩:=q1
 cases r1
 exact uc6 ⟨H1,I1,q⟩
theorem zcp {e:Expr} {t:TE} (h:PE X e t) (he:∀ whole,isTrue e X.env whole=(do let v ← whole;standAt e.pos;holding [v] (truthy v)):=by intro _;rfl):PT X e (tB t):=by
 intro pins s σ H Q I hw
 refine isTrue_plain (thn (h pins s σ H _ I hw) λ v s1 ⟨x,H1,I1,r1,q1⟩=>?_) (he _)
 obtain⟨d,rfl,q⟩:=q1
 cases r1
 exact uc6 ⟨H1,I1,q⟩
variable {tA tB':TT} {rest:List Expr}
def tAnd (t u:TT):TT:=λ σ H Q=>t σ H λ c H1=>if c=true then u σ H1 Q else Q false H1
def tOr (t u:TT):TT:=λ σ H Q=>t σ H λ c H1=>if c=true then Q true H1 else u σ H1 Q
def tNot (t:TT):TT:=λ σ H Q=>t σ H λ c H1=>Q (!c) H1
theorem zdm (ha:PT X a tA):PW X (.BoolOp .And [a] pos) tA:=by
 intro wh pins s σ H Q I h
 refine isTrue_and (thn (ha pins s σ H Q I h) λ c s1 e=>?_)
 cases c with
 | true=>exact isTrue_and_nil e
 | false=>exact e
theorem zb5 (ha:PT X a tA):PW X (.BoolOp .Or [a] pos) tA:=by
 intro wh pins s σ H Q I h
 refine isTrue_or (thn (ha pins s σ H Q I h) λ c s1 e=>?_)
 cases c with
 | false=>exact isTrue_or_nil e
 | true=>exact e
theorem zev (ha:PT X a tA) (hb:PW X (.BoolOp .And (b::rest) pos) tB'):PW X (.BoolOp .And (a::b::rest) pos) (tAnd tA tB'):=by
 intro wh pins s σ H Q I h
 refine isTrue_and (thn (ha pins s σ H _ I h) λ c s1 ⟨H1,I1,q1⟩=>?_)
 cases c with
 | true=>exact hb wh pins s1 σ H1 Q I1 q1
 | false=>exact⟨H1,I1,q1⟩
theorem zc7 (ha:PT X a tA) (hb:PW X (.BoolOp .Or (b::rest) pos) tB'):PW X (.BoolOp .Or (a::b::rest) pos) (tOr tA tB'):=by
 intro wh pins s σ H Q I h
 refine isTrue_or (thn (ha pins s σ H _ I h) λ c s1 ⟨H1,I1,q1⟩=>?_)
 cases c with
 | true=>exact⟨H1,I1,q1⟩
 | false=>exact hb wh pins s1 σ H1 Q I1 q1
theorem zew (ha:PT X a tA):PT X (.UnaryOp .Not a pos) (tNot tA):=by
 intro pins s σ H Q I h
 exact isTrue_not (ha pins s σ H (λ c H1=>Q (!c) H1) I h)
def tAndV (ta tb:TE):TE:=λ σ H Q=>ta σ H λ x H1=>EBl x λ c=>if c=true then tb σ H1 Q else Q (.bl false) H1
def tOrV (ta tb:TE):TE:=λ σ H Q=>ta σ H λ x H1=>EBl x λ c=>if c=true then Q (.bl true) H1 else tb σ H1 Q
def tNotV (ta:TE):TE:=λ σ H Q=>ta σ H λ x H1=>EBl x λ c=>Q (.bl (!c)) H1
theorem zcq {op} {t:TE} (h:PE X a t):PE X (.BoolOp op [a] pos) t:=λ pins s σ H Q I hw=>BoolOp_one (h pins s σ H Q I hw)
theorem zdx (ha:PE X a ta) (hb:PE X (.BoolOp .And (b::rest) pos) tb):PE X (.BoolOp .And (a::b::rest) pos) (tAndV ta tb):=by
 intro pins s σ H Q I h
 refine BoolOp_and (thn (ha pins s σ H _ I h) λ v s1 ⟨x,H1,I1,r1,q1⟩=>?_)
 obtain⟨c,rfl,q1⟩:=q1
 cases r1
 refine uc6 ?_
 cases c with
 | true=>exact hb pins s1 σ H1 Q I1 q1
 | false=>exact⟨.bl false,H1,I1,rfl,q1⟩
theorem zno (ha:PE X a ta) (hb:PE X (.BoolOp .Or (b::rest) pos) tb):PE X (.BoolOp .Or (a::b::rest) pos) (tOrV ta tb):=by
 intro pins s σ H Q I h
 refine BoolOp_or (thn (ha pins s σ H _ I h) λ v s1 ⟨x,H1,I1,r1,q1⟩=>?_)
 obtain⟨c,rfl,q1⟩:=q1
 cases r1
 refine uc6 ?_
 cases c with
 | false=>exact hb pins s1 σ H1 Q I1 q1
 | true=>exact⟨.bl true,H1,I1,rfl,q1⟩
theorem zq9 (ha:PE X a ta):PE X (.UnaryOp .Not a pos) (tNotV ta):=by
 intro pins s σ H Q I h
 refine UnaryOp_ (thn (ha pins s σ H _ I h) λ v s1 ⟨x,H1,I1,r1,q1⟩=>?_)
 obtain⟨c,rfl,q1⟩:=q1
 cases r1
 exact not_of (uc6 ⟨.bl (!c),H1,I1,rfl,q1⟩)
def tIf (t:TT) (ta tb:TE):TE:=λ σ H Q=>t σ H λ c H1=>if c=true then ta σ H1 Q else tb σ H1 Q
theorem zpv {c:Expr} (hc:PT X c tA) (ha:PE X a ta) (hb:PE X b tb):PE X (.IfExp c a b pos) (tIf tA ta tb):=by
 intro pins s σ H Q I h
 refine wpAny_IfExp (thn (hc pins s σ H _ I h) λ d s1 ⟨H1,I1,q1⟩=>?_)
 cases d with
 | true=>exact ha pins s1 σ H1 Q I1 q1
 | false=>exact hb pins s1 σ H1 Q I1 q1
end
end L2
namespace L2
open PySem PySem.Spec PyProof.Rows
def SqL (K:uac) (H:Hp) (a:Addr) (xs:List V):Prop :=
 Rd H a (.lst xs) \/
  ∃ (o:Obj) (its:Array Value) (n:Nat),K.lookup a=some o/\o.cls=.type "list"/\o.dict=none/\o.data=.seq its n/\its.size<=sizeLine/\Vals xs its.toList
def SqT (K:uac) (H:Hp) (a:Addr) (xs:List V):Prop :=
 Rd H a (.tup xs) \/
  ∃ (o:Obj) (its:Array Value) (n:Nat),K.lookup a=some o/\o.cls=.type "tuple"/\o.data=.seq its n/\its.size<=sizeLine/\Vals xs its.toList
def absV:Value->Option V
 | .none=>some .non
 | .bool b=>some (.bl b)
 | .int i _=>some (.int i)
 | .str x _=>some (.str x)
 | .bytes b _=>some (.byt b)
 | .float b _=>some (.flt b)
 | .ref a=>some (.ref a)
 | .type n=>some (.ty n)
 | _=>none
theorem RelV.abs {x:V} {u:Value} (r:RelV x u):absV u=some x:=by
 cases x with
 | non=>cases r;rfl
 | bl _=>cases r;rfl
 | int _=>obtain⟨t,rfl⟩:=r;rfl
 | str _=>obtain⟨t,rfl⟩:=r;rfl
 | byt _=>obtain⟨t,rfl⟩:=r;rfl
 | flt _=>obtain⟨t,rfl⟩:=r;rfl
 | ref _=>cases r;rfl
 | ty _=>cases r;rfl
theorem RelV.inj {x y:V} {u:Value} (r:RelV x u) (q:RelV y u):x=y:=uau (r.abs.symm.trans q.abs)
theorem Vals.inj:∀ {xs ys:List V} {us:List Value},Vals xs us->Vals ys us->xs=ys
 | _,_,_,.nil,.nil=>rfl
 | _,_,_,.cons r t,.cons r' t'=>by rw[r.inj r',Vals.inj t t']
section
variable {X:Cx} {pins:List (Addr × Obj)} {σ:St} {H:Hp} {s:Shared} {a:Addr} {xs ys:List V}
theorem SqL.of {K:uac} (h:H a=some (.lst xs)):SqL K H a xs:=.inl (.inl h)
theorem SqT.of {K:uac} (h:H a=some (.tup xs)):SqT K H a xs:=.inl (.inl h)
theorem Inv.list (I:Inv X pins σ H s) (h:SqL X.K H a xs):∃ its:List Value,Vals xs its/\PlainL s.heap a its.toArray/\xs.length<=sizeLine:=by
 rcases h with h | ⟨o,its,n,hk,hc,hd,hs,hz,r⟩
 ·obtain⟨z,its,n,r,e⟩:=h.ok I.hok
  exact⟨its,r,⟨_,n,e,rfl,rfl,rfl⟩,z⟩
 ·refine⟨its.toList,r,⟨o,n,I.kIn a o hk,hc,hd,by simpa using hs⟩,?_⟩
  have e:=r.length
  simp only [ub0] at e
  left
theorem Inv.tuple (I:Inv X pins σ H s) (h:SqT X.K H a xs):∃ its:List Value,Vals xs its/\IsTup s.heap a its.toArray/\xs.length<=sizeLine:=by
 rcases h with h | ⟨o,its,n,hk,hc,hs,hz,r⟩
 ·obtain⟨z,its,r,p⟩:=h.ok I.hok
  exact⟨its,r,p.tup,z⟩
 ·refine⟨its.toList,r,⟨o,I.kIn a o hk,hc,n,by simpa using hs⟩,?_⟩
  have e:=r.length
  simp only [ub0] at e
  left
theorem Inv.list_inj (I:Inv X pins σ H s) (h:SqL X.K H a xs) (h':SqL X.K H a ys):xs=ys:=by
 obtain⟨its,r,⟨o,n,e,_,_,d⟩,_⟩:=I.list h
 obtain⟨its',r',⟨o',n',e',_,_,d'⟩,_⟩:=I.list h'
 rw[e] at e';cases e'
 rw[d] at d'
 injection d' with d1 _
 have:its=its':=by simpa using congrArg Array.toList d1
 subst this
 exact r.inj r'
theorem Inv.tuple_inj (I:Inv X pins σ H s) (h:SqT X.K H a xs) (h':SqT X.K H a ys):xs=ys:=by
 obtain⟨its,r,⟨o,e,_,n,d⟩,_⟩:=I.tuple h
 obtain⟨its',r',⟨o',e',_,n',d'⟩,_⟩:=I.tuple h'
 rw[e] at e';cases e'
 rw[d] at d'
 injection d' with d1 _
 have:its=its':=by simpa using congrArg Array.toList d1
 subst this
 exact r.inj r'
end
abbrev Cx.wish (X:Cx) (E:Value->Shared->Prop):Cx:={ X with xe:=E }
abbrev Cx.nox (X:Cx):Cx:=X.wish λ _ _=>False
theorem Cx.Ok.wish {X:Cx} (ok:X.Ok) (E:Value->Shared->Prop):(X.wish E).Ok :=
 ⟨ok.mod,ok.kind,ok.glob,ok.blt,ok.above,ok.inj,ok.has,ok.cab,ok.hd,ok.frames,ok.stk,ok.exf,ok.bs,ok.bsz,ok.noex,ok.exfs,ok.funs,ok.frf⟩
theorem Cx.Ok.unwish {X:Cx} {E:Value->Shared->Prop} (ok:(X.wish E).Ok):X.Ok :=
 ⟨ok.mod,ok.kind,ok.glob,ok.blt,ok.above,ok.inj,ok.has,ok.cab,ok.hd,ok.frames,ok.stk,ok.exf,ok.bs,ok.bsz,ok.noex,ok.exfs,ok.funs,ok.frf⟩
section
variable {X:Cx} {pins:List (Addr × Obj)} {σ:St} {H:Hp} {s:Shared} {E:Value->Shared->Prop}
theorem Inv.wish (I:Inv X pins σ H s) (E:Value->Shared->Prop):Inv (X.wish E) pins σ H s:=⟨I.ok.wish E,I.os,I.bare,I.base,I.loc,I.cell,I.free,I.freeC,I.pin,I.hok,I.len⟩
theorem Inv.unwish (I:Inv (X.wish E) pins σ H s):Inv X pins σ H s:=⟨I.ok.unwish,I.os,I.bare,I.base,I.loc,I.cell,I.free,I.freeC,I.pin,I.hok,I.len⟩
theorem SP.unwish {D:Ends} {f:Flow} {s':Shared} (h:SP (X.wish E) pins D f s'):SP X pins D f s':=by
 cases f with
 | next=>obtain⟨σ',H',I,q⟩:=h;exact⟨σ',H',I.unwish,q⟩
 | brk=>obtain⟨σ',H',I,q⟩:=h;exact⟨σ',H',I.unwish,q⟩
 | cont=>obtain⟨σ',H',I,q⟩:=h;exact⟨σ',H',I.unwish,q⟩
 | ret u=>obtain⟨v,σ',H',I,r,q⟩:=h;exact⟨v,σ',H',I.unwish,r,q⟩
theorem PSs.nox {st:List Stmt} {t:TS} (h:PSs X.nox st t):PSs X st t:=λ pins s σ H D I hw =>
 ucv (h pins s σ H D (I.wish _) hw) (λ _ _ q=>q.unwish) λ _ _ z=>False.elim z
end
section
variable {X:Cx} {st:Stmt} {rest:List Stmt} {t u:TS} {e:Expr} {te:TE} {pos:Pos}
def tNext:TS:=λ D σ H=>D.nx σ H
def tSeq (t u:TS):TS:=λ D σ H=>t { D with nx:=u D } σ H
theorem zat:PSs X [] tNext:=λ _ _ σ H _ I h=>uf5 ⟨σ,H,I,h⟩
theorem zab (h1:PS X st t) (h2:PSs X rest u):PSs X (st::rest) (tSeq t u):=by
 intro pins s σ H D I h
 refine wpAny_execs_cons (thn (h1 pins s σ H { D with nx:=u D } I h) λ f s1 q=>?_)
 cases f with
 | next =>
  obtain⟨σ',H',I',q⟩:=q
  exact h2 pins s1 σ' H' D I' q
 | ret v=>exact q
 | brk=>exact q
 | cont=>exact q
theorem zad (h1:PS X st t):PSs X [st] t:=by
 intro pins s σ H D I h
 refine wpAny_execs_cons (thn (h1 pins s σ H D I h) λ f s1 q=>?_)
 cases f with
 | next=>exact uf5 q
 | ret v=>exact q
 | brk=>exact q
 | cont=>exact q
def tCont:TS:=λ D σ H=>D.ct σ H
theorem zex:PS X (.Continue pos) tCont:=λ _ _ σ H _ I h=>wpAny_Continue ⟨σ,H,I,h⟩
theorem Inv.quiet {pins:List (Addr × Obj)} {σ:St} {H:Hp} {s:Shared} (I:Inv X pins σ H s):interactive X.env=false:=by simp [interactive,I.ok.kind]
def tDrop (te:TE):TS:=λ D σ H=>te σ H λ _ H1=>D.nx σ H1
theorem za9 (he:PE X e te) (hs:swapsWith e none pos.line X.env=pure false:=by rfl):PS X (.Expr e pos) (tDrop te):=by
 intro pins s σ H D I h
 exact wpAny_Expr_any (thn (he pins s σ H _ I h) λ v s1 ⟨x,H1,I1,r1,q1⟩=>⟨σ,H1,I1,q1⟩) I.quiet hs
def tRet (te:TE):TS:=λ D σ H=>te σ H D.rt
theorem zaq (he:PE X e te):PS X (.Return (some e) pos) (tRet te):=by
 intro pins s σ H D I h
 exact wpAny_Return_some (thn (he pins s σ H _ I h) λ v s1 ⟨x,H1,I1,r1,q1⟩=>⟨x,σ,H1,I1,r1,q1⟩)
def tIfS (c:TT) (t u:TS):TS:=λ D σ H=>c σ H λ b H1=>if b=true then t D σ H1 else u D σ H1
theorem zbf {c:Expr} {a b:List Stmt} {tc:TT} (hc:PT X c tc) (ha:PSs X a t) (hb:PSs X b u):PS X (.If c a b pos) (tIfS tc t u):=by
 intro pins s σ H D I h
 refine wpAny_If (thn (hc pins s σ H _ I h) λ d s1 ⟨H1,I1,q1⟩=>?_)
 cases d with
 | true=>exact ha pins s1 σ H1 D I1 q1
 | false=>exact hb pins s1 σ H1 D I1 q1
def tNever:TS:=λ _ _ _=>False
theorem zk6:PS X st tNever:=λ _ _ _ _ _ _ h=>h.elim
end
abbrev TG:=V->St->Hp->(St->Hp->Prop)->Prop
abbrev TGs:=List V->St->Hp->(St->Hp->Prop)->Prop
def PG (X:Cx) (target:Expr) (t:TG):Prop :=
 ∀ (pins:List (Addr × Obj)) (s:Shared) (σ:St) (H:Hp) (v:V) (u:Value) (Q:St->Hp->Prop),Inv X pins σ H s->RelV v u->t v σ H Q ->
  wpAny (model X.prog X.w) X.A (assign target X.env u) (λ _ s'=>∃ σ' H',Inv X pins σ' H' s'/\Q σ' H') X.xe s
def PGs (X:Cx) (ts:List Expr) (t:TGs):Prop :=
 ∀ (pins:List (Addr × Obj)) (s:Shared) (σ:St) (H:Hp) (vs:List V) (us:List Value) (Q:St->Hp->Prop),Inv X pins σ H s->Vals vs us->t vs σ H Q ->
  wpAny (model X.prog X.w) X.A (assignInOrder ((assignEach ts X.env).map (·.2)) us) (λ _ s'=>∃ σ' H',Inv X pins σ' H' s'/\Q σ' H') X.xe s
abbrev TSet:=V->V->V->Hp->(Hp->Prop)->Prop
def PSet (X:Cx) (t:TSet):Prop :=
 ∀ (pins:List (Addr × Obj)) (s:Shared) (σ:St) (H:Hp) (o i v:V) (ov iv u:Value) (Q:Hp->Prop),Inv X pins σ H s->RelV o ov->RelV i iv->RelV v u->t o i v H Q ->
  wpAny (model X.prog X.w) X.A (setItem ov iv u) (λ _ s'=>∃ H',Inv X pins σ H' s'/\Q H') X.xe s
section
variable {X:Cx} {pos:Pos}
def gName (i:Nat):TG:=λ v σ H Q=>Q (σ.set i (some v)) H
theorem zag {i:Nat} {x:Str} (hN:X.N.Nodup) (hi:X.N[i]?=some x) (hx:Loc X.env.scope x) (hf:X.fn x=true\/X.env.scope.names.lookup x=some .local:=by first | exact .inl rfl | exact .inr rfl | assumption):PG X (.Name x pos) (gName i):=by
 intro pins s σ H v u Q I r h
 exact wpAny_assign_Name (zee I hN hi hx r (λ s' I'=>⟨_,H,I',h⟩) hf)
def gNil:TGs:=λ vs σ H Q=>vs=[]/\Q σ H
inductive gCons_i (t:TG) (u:TGs) (vs:List V) (σ:L2.St) (H:Hp) (Q:L2.St->Hp->Prop):Prop
 | mk:∀ v r,(vs=v::r)->(t v σ H λ σ' H'=>u r σ' H' Q)->gCons_i t u vs σ H Q
def gCons (t:TG) (u:TGs):TGs:=λ vs σ H Q=>gCons_i t u vs σ H Q
theorem za2:PGs X [] gNil:=by
 intro pins s σ H vs us Q I r h
 obtain⟨e,h⟩:=h
 subst e
 cases r
 exact assignInOrder_nil ⟨σ,H,I,h⟩
theorem zak {e:Expr} {es:List Expr} {t:TG} {u:TGs} (h1:PG X e t) (h2:PGs X es u)
  (hs:(assignEach (e::es) X.env).map (·.2)=assign e X.env::(assignEach es X.env).map (·.2):=by rfl):PGs X (e::es) (gCons t u):=by
 intro pins s σ H vs us Q I r h
 obtain⟨v,vr,e1,h⟩:=h
 subst e1
 cases r with
 | cons r rr =>
  rw[hs]
  refine assignInOrder_cons (thn (h1 pins s σ H _ _ _ I r h) λ _ s1 ⟨σ1,H1,I1,q1⟩=>?_)
  exact h2 pins s1 σ1 H1 _ _ Q I1 rr q1
inductive gTup_i (K:uac) (n:Nat) (t:TGs) (v:V) (σ:L2.St) (H:Hp) (Q:L2.St->Hp->Prop):Prop
 | mk:∀ a xs,(v=.ref a)->(SqT K H a xs)->(xs.length=n)->(t xs σ H Q)->gTup_i K n t v σ H Q
def gTup (K:uac) (n:Nat) (t:TGs):TG:=λ v σ H Q=>gTup_i K n t v σ H Q
theorem zbl {es:List Expr} {k:Nat} {t:TGs} {n:Nat} (hc:X.calm=true) (h:PGs X es t)
  (hn:(assignEach es X.env).length=n:=by rfl) (hst:(assignEach es X.env).findIdx? (·.1)=none:=by rfl):PG X (.Tuple es k pos) (gTup X.K n t):=by
 intro pins s σ H v u Q I r hw
 obtain⟨a,xs,e1,hq,hl,hw⟩:=hw
 subst e1
 cases r
 obtain⟨its,rv,ht,hz⟩:=I.tuple hq
 refine assign_Tuple_tuple (I.ok.hd hc) ht (by simp [hn,← hl,rv.length]) hst λ h' hx=>?_
 have I1:Inv X pins σ H { s with heap:=h' }:=I.kept (t':=s.toks) λ b o e=>hx b o (uaw (Heap.lt_size e)) e
 exact h pins _ σ H xs _ Q I1 (by simpa using rv) hw
def gSub (to ti:TE) (t:TSet):TG:=λ v σ H Q=>to σ H λ o H1=>ti σ H1 λ i H2=>t o i v H2 λ H3=>Q σ H3
theorem zdw {o i:Expr} {to ti:TE} {t:TSet} (ho:PE X o to) (hi:PE X i ti) (hs:PSet X t)
  (ha:∀ v,assign (.Subscript o i pos) X.env v=(do
   let ov ← holding [v] (eval o X.env)
   let iv ← holding [v,ov] (eval i X.env)
   standAt pos
   holding [v,ov,iv] (setItem ov iv v)
   release [v,ov,iv] []):=by intro _;rfl):PG X (.Subscript o i pos) (gSub to ti t):=by
 intro pins s σ H v u Q I r h
 rw[ha]
 refine uab (ubk (thn (ho pins s σ H _ I h) λ ov s1 ⟨x,H1,I1,r1,q1⟩=>?_))
 refine uab (ubk (thn (hi pins s1 σ H1 _ I1 q1) λ iv s2 ⟨y,H2,I2,r2,q2⟩=>?_))
 refine uab (ue5 (uab (ubk (thn (hs pins s2 σ H2 x y v ov iv u _ I2 r1 r2 r q2) λ _ s3 ⟨H3,I3,q3⟩=>?_))))
 exact wpAny_release ⟨σ,H3,I3,q3⟩
def tAsg (te:TE) (g:TG):TS:=λ D σ H=>te σ H λ x H1=>g x σ H1 D.nx
theorem zbz {tg e:Expr} {te:TE} {g:TG} (he:PE X e te) (hg:PG X tg g) (hs:swapsWithSole [tg] e pos.line X.env=pure false:=by rfl) (hw:swappedStores [tg] e X.env=pure none:=by rfl)
  (h1:(assignEach [tg] X.env).map (·.2)=[assign tg X.env]:=by rfl):PS X (.Assign [tg] e pos) (tAsg te g):=by
 intro pins s σ H D I h
 refine wpAny_Assign_stores (thn (he pins s σ H _ I h) λ v s1 ⟨x,H1,I1,r1,q1⟩=>?_) hs hw
 rw[h1]
 exact thn (hg pins s1 σ H1 x v _ I1 r1 q1) λ _ s2 q=>q
theorem zan {i:Nat} {x:Str} {e:Expr} {te:TE} {pos':Pos} (hN:X.N.Nodup) (hi:X.N[i]?=some x) (hx:Loc X.env.scope x) (he:PE X e te) (hs:swapsWith e (some (.Name x pos')) pos.line X.env=pure false:=by rfl) (hf:X.fn x=true\/X.env.scope.names.lookup x=some .local:=by first | exact .inl rfl | exact .inr rfl | assumption) :
  PS X (.Assign [.Name x pos'] e pos) (tAsg te (gName i)):=by
 intro pins s σ H D I h
 refine wpAny_Assign_Name (thn (he pins s σ H _ I h) λ v s1 ⟨y,H1,I1,r1,q1⟩=>?_) hs
 exact zee I1 hN hi hx r1 (λ s2 I2=>⟨_,H1,I2,q1⟩) hf
def tPar (i j:Nat) (ta:TA):TS:=λ D σ H=>ta σ H λ vs H1=>ETwo vs λ v w=>D.nx ((σ.set i (some v)).set j (some w)) H1
theorem zte {i j:Nat} {x y:Str} {a b:Expr} {ta:TA} {px py pt:Pos} {kt k2 pt2} (hc:X.calm=true) (hN:X.N.Nodup) (hi:X.N[i]?=some x) (hj:X.N[j]?=some y) (hij:i≠j)
  (hx:X.env.scope.names.lookup x=some .local) (hy:X.env.scope.names.lookup y=some .local) (ha:PA X [a,b] ta)
  (hw:swappedStores [.Tuple [.Name x px,.Name y py] kt pt] (.Tuple [a,b] k2 pt2) X.env=pure (some [x,y]))
  (hs:swapsWithSole [.Tuple [.Name x px,.Name y py] kt pt] (.Tuple [a,b] k2 pt2) pos.line X.env=pure false:=by rfl) :
  PS X (.Assign [.Tuple [.Name x px,.Name y py] kt pt] (.Tuple [a,b] k2 pt2) pos) (tPar i j ta):=by
 intro pins s σ H D I h
 rw[exec_Assign_arm]
 refine uab (ue5 ?_)
 rw[hs]
 refine uab (uah ?_)
 rw[if_neg (by decide)]
 refine uab (Tuple_ (thn (ha _ pins s σ H _ I h) λ us s1 ⟨vs,H1,I1,r1,q1⟩=>?_))
 obtain⟨v,w,e1,q1⟩:=q1
 subst e1
 obtain⟨u1,u2,rfl,rv,rw'⟩:∃ u1 u2,us=[u1,u2]/\RelV v u1/\RelV w u2:=by
  cases r1 with
  | cons p q =>
   cases q with
   | cons p' q' =>
    cases q'
    exact⟨_,_,rfl,p,p'⟩
 refine ubx ?_ (by show 2<=sizeLine;decide)
 have I2:Inv X pins σ H1 { s1 with heap:=s1.heap.push { cls:=.type "tuple",data:=.seq [u1,u2].toArray } }:=I1.kept (t':=s1.toks) λ b o e=>Heap.get?_push_of_some _ e
 rw[hw]
 refine uab (uah ?_)
 show wpAny (model X.prog X.w) X.A (do rule "assign.swapped-stores";let items ← unpackItems (.ref s1.heap.objs.size) 2 none;assignInOrder [λ v=>bindName X.env y v,λ v=>bindName X.env x v] items.reverse;pure Flow.next) _ _ _
 refine uab (udj (uab (unpackItems_tuple (items:=#[u1,u2]) (I.ok.hd hc) (IsTup.new s1.heap _) λ h' hx'=>?_)))
 have I3:=I2.kept (h':=h') (t':=s1.toks) λ b o e=>hx' b o (uaw (Heap.lt_size e)) e
 show wpAny _ _ (assignInOrder [λ v=>bindName X.env y v,λ v=>bindName X.env x v] [u2,u1] >>= λ _=>pure Flow.next) _ _ _
 refine uab (assignInOrder_cons (wpAny_bindName (zee I3 hN hj (.inl hy) rw' (λ s2 I4=>?_) (.inr hy))))
 refine assignInOrder_cons (wpAny_bindName (zee I4 hN hi (.inl hx) rv (λ s3 I5=>assignInOrder_nil (uah ?_)) (.inr hx)))
 rw[List.set_comm _ _ (Ne.symm hij)] at I5
 exact⟨_,H1,I5,q1⟩
end
section
variable {X:Cx} {pos:Pos}
def tWhile (c:TT) (tb:TS):TS:=λ D σ H=>∃ W:Nat->St->Hp->Prop,(∃ m,W m σ H)/\∀ m σ H,W m σ H ->
 c σ H λ b H1=>if b=true then ∃ N:St->Hp->Prop,(∀ σ' H',N σ' H'->∃ m',m' < m/\W m' σ' H')/\tb { D with nx:=N,ct:=N,bk:=D.nx } σ H1 else D.nx σ H1
theorem zeh {c:Expr} {body:List Stmt} {tc:TT} {tb:TS} (hp:PassesOwn (model X.prog X.w) X.A X.env X.xe) (hc:PT X c tc) (hb:PSs X body tb):PS X (.While c body [] pos) (tWhile tc tb):=by
 intro pins s σ H D I h
 obtain⟨W,⟨m0,w0⟩,turn⟩:=h
 refine wpAny_While (codeAny_whileLoop (λ n s'=>∃ σ' H',Inv X pins σ' H' s'/\W n σ' H') ?_ m0 ⟨σ,H,I,w0⟩)
 rintro n s1 ⟨σ1,H1,I1,w1⟩
 refine ud0 hp (thn (hc pins s1 σ1 H1 _ I1 (turn n σ1 H1 w1)) λ b s2 ⟨H2,I2,q2⟩=>?_)
 cases b with
 | true =>
  obtain⟨N,hN,q2⟩:=q2
  rw[if_pos rfl]
  refine ud0 hp (thn (hb pins s2 σ1 H2 _ I2 q2) λ f s3 q3=>?_)
  cases f with
  | next =>
   obtain⟨σ3,H3,I3,n3⟩:=q3
   obtain⟨m',hm,w3⟩:=hN σ3 H3 n3
   exact⟨m',hm,σ3,H3,I3,w3⟩
  | cont =>
   obtain⟨σ3,H3,I3,n3⟩:=q3
   obtain⟨m',hm,w3⟩:=hN σ3 H3 n3
   exact⟨m',hm,σ3,H3,I3,w3⟩
  | brk=>exact q3
  | ret v=>exact q3
 | false =>
  rw[if_neg uas]
  exact uf5 ⟨σ1,H2,I2,q2⟩
end
structure It where
 go:Nat->Hp->Prop
 yld:Nat->Hp->V->Hp->Prop
 stop:Nat->Hp->Prop
def FpOk (X:Cx) (pins:List (Addr × Obj)) (H:Hp) (b:Addr):Prop :=
 H b=none/\b≠X.env.locals/\b ∉ X.fs/\(b ∈ X.ex\/X.s₀.heap.objs.size<=b)/\(∀ x c,X.env.cells.lookup x=some c->c≠b)/\∀ p ∈ X.pn++pins,p.1≠b
theorem Inv.fpOk {X:Cx} {pins:List (Addr × Obj)} {σ:St} {H H':Hp} {s:Shared} {b:Addr} (I:Inv X pins σ H s) (hb:s.heap.objs.size<=b) (hn:H' b=none):FpOk X pins H' b:=by
 refine⟨hn,udb (ua2 I.lt hb),I.nofs hb,.inr (ua9 I.sz hb),λ x c e z=>?_,λ p hp z=>?_⟩
 ·obtain⟨v,q⟩:=I.cell x c e
  exact absurd (ua2 q.lt (by rw[z];exact hb)) (uck _)
 ·exact absurd (ua2 (Heap.lt_size (I.pin p hp).1) (by rw[z];exact hb)) (uck _)
structure Turn (P:Program) (w:World) (K:uac) (tg:Expr) (J:It) (fp:List Addr) (it:Addr) (tn:Nat->Heap->Prop):Prop where
 mem:it ∈ fp
 obj:∀ i h,tn i h->∀ b ∈ fp,∃ o,h.get? b=some o/\∀ v,o.data≠.cell v
 keep:∀ i h h',tn i h->(∀ b ∈ fp,∀ o,h.get? b=some o->h'.get? b=some o)->tn i h'
 item:∀ (X:Cx),X.prog=P->X.w=w->X.K=K->X.calm=true->∀ (i:Nat) (pins:List (Addr × Obj)) (s:Shared) (σ:St) (H:Hp) (E:Value->Shared->Prop),Inv X pins σ H s->(∀ b ∈ fp,FpOk X pins H b)->tn i s.heap->J.go i H ->
  wpAny (model P w) X.A (pyNext (.ref it)) (λ r s1=>∃ u,r=some u /\
   wpAny (model P w) X.A (letOwnedTupleGo tg (.ref it) u) (λ _ s2=>∃ x H',Inv X pins σ H' s2/\RelV x u/\J.yld i H x H'/\tn (i + 1) s2.heap/\∀ b ∈ fp,H' b=none) E s1) E s
 done:∀ (X:Cx),X.prog=P->X.w=w->X.K=K->X.calm=true->∀ (i:Nat) (pins:List (Addr × Obj)) (s:Shared) (σ:St) (H:Hp) (E:Value->Shared->Prop),Inv X pins σ H s->(∀ b ∈ fp,FpOk X pins H b)->tn i s.heap->J.stop i H ->
  wpAny (model P w) X.A (pyNext (.ref it)) (λ r s1=>r=none/\Inv X pins σ H s1) E s
 self:∀ (A:Around) (i:Nat) (s:Shared) (Q:Value->Shared->Prop) (E:Value->Shared->Prop),tn i s.heap->Q (.ref it) s->wpAny (model P w) A (pyIter (.ref it)) Q E s
abbrev TI:=St->Hp->(It->Hp->Prop)->Prop
def PIE (X:Cx) (pins:List (Addr × Obj)) (σ:St) (tg:Expr) (R:It->Hp->Prop) (itv:Value) (s2:Shared):Prop :=
 ∃ (it:Addr) (fp:List Addr) (tn:Nat->Heap->Prop) (J:It) (H':Hp),itv=.ref it/\Inv X pins σ H' s2/\Turn X.prog X.w X.K tg J fp it tn/\tn 0 s2.heap/\(∀ b ∈ fp,FpOk X pins H' b)/\R J H'
def PI (X:Cx) (tg iter:Expr) (wi:TI):Prop :=
 ∀ (pins:List (Addr × Obj)) (s:Shared) (σ:St) (H:Hp) (R:It->Hp->Prop),Inv X pins σ H s->wi σ H R ->
  wpAny (model X.prog X.w) X.A (eval iter X.env) (λ v s1=>wpAny (model X.prog X.w) X.A (pyIter v) (PIE X pins σ tg R) X.xe s1) X.xe s
theorem zsr {M:Model} {A:Around} {E:Value->Shared->Prop} {s:Shared} {tg:Expr} {it:Addr} {u:Value} {o:Obj} {n:String} {vs:Array Value} {Q:Unit->Shared->Prop} (ho:s.heap.get? it=some o) (hc:o.cls=.type n) (hd:o.data=.fields vs)
  (hn:["enumerate","zip","dict_itemiterator","dict_reverseitemiterator","odict_iterator","itertools.zip_longest","itertools.pairwise"].contains n=false) (hQ:Q () s):wpAny M A (letOwnedTupleGo tg (.ref it) u) Q E s:=by
 unfold letOwnedTupleGo
 cases tg <;> first
  | exact uah hQ
  | (cases u <;> first
      | exact uah hQ
      | (refine uab (wpAny_load ho ?_)
         rw[hc,hd]
         show wpAny M A (if (["enumerate","zip","dict_itemiterator","dict_reverseitemiterator","odict_iterator","itertools.zip_longest","itertools.pairwise"].contains n && vs[0]? == some (rawInt _))=true then _ else _) Q E s
         rw[if_neg (by intro h;rw[hn,uha] at h;cases h)]
         exact uah hQ))
def Itl (K:uac) (a:Addr):It :=
 ⟨λ i H=>∃ xs x,SqL K H a xs/\xs[i]?=some x,λ i H x H'=>H'=H/\∀ xs,SqL K H a xs->xs[i]?=some x,λ i H=>∃ xs,SqL K H a xs/\xs.length<=i⟩
def Itt (K:uac) (a:Addr):It :=
 ⟨λ i H=>∃ xs x,SqT K H a xs/\xs[i]?=some x,λ i H x H'=>H'=H/\∀ xs,SqT K H a xs->xs[i]?=some x,λ i H=>∃ xs,SqT K H a xs/\xs.length<=i⟩
def Itr (lo:Int) (n:Nat):It:=⟨λ i _=>i < n,λ i H x H'=>H'=H/\x=.int (lo + i),λ i _=>n<=i⟩
theorem zif {P:Program} {w:World} {K:uac} {tg:Expr} (a it:Addr):Turn P w K tg (Itl K a) [it] it (λ i h=>h.IsListIter it a i) where
 mem:=by simp
 obj:=λ i h st b hb=>by
  have e:b=it:=by simpa using hb
  subst e
  obtain⟨o,e,c,d⟩:=st
  exact⟨o,e,λ v z=>by rw[d] at z;cases z⟩
 keep:=λ i h h' st k=>st.at λ o e=>k it (by simp) o e
 item:=by
  intro X hP hw hK hc i pins s σ H E I hf st hg
  subst hP hw hK
  obtain⟨xs,x,hq,hx⟩:=hg
  obtain⟨its,rv,p,hz⟩:=I.list hq
  obtain⟨u,hu,ru⟩:=rv.get hx
  obtain⟨f0,f1,f2,f3,f4,f5⟩:=hf it (by simp)
  refine wpAny_pyNext_list_item st p.isList (x:=u) (by simpa using hu) λ h' st' sb=>?_
  have I1:Inv X pins σ H { s with heap:=h' }:=I.turned (t':=s.toks) (λ b o hb e=>(sb.2 b hb).trans e) f0 f1 f3 f4 f5
  obtain⟨o,e,c,d⟩:=id st'
  exact⟨u,rfl,zsr (s:={ s with heap:=h' }) e c d (by decide) ⟨x,H,I1,ru,⟨rfl,λ ys hy=>by rw[I.list_inj hy hq];exact hx⟩,st',λ b hb=>(hf b hb).1⟩⟩
 done:=by
  intro X hP hw hK hc i pins s σ H E I hf st hg
  subst hP hw hK
  obtain⟨xs,hq,hx⟩:=hg
  obtain⟨its,rv,p,hz⟩:=I.list hq
  obtain⟨f0,f1,f2,f3,f4,f5⟩:=hf it (by simp)
  have hl:=rv.length
  exact wpAny_pyNext_list_end (I.ok.hd hc) st p.isList (by simp;left) λ h' eb=>⟨rfl,I.turned (t':=s.toks) (λ b o hb e=>eb b o hb e) f0 f1 f3 f4 f5⟩
 self:=λ _ _ _ _ _ st h=>wpAny_pyIter_listiter st h
theorem zgd {P:Program} {w:World} {K:uac} {tg:Expr} (a it:Addr):Turn P w K tg (Itt K a) [it] it (λ i h=>h.IsTupleIter it a i) where
 mem:=by simp
 obj:=λ i h st b hb=>by
  have e:b=it:=by simpa using hb
  subst e
  obtain⟨o,e,c,d⟩:=st
  exact⟨o,e,λ v z=>by rw[d] at z;cases z⟩
 keep:=λ i h h' st k=>st.at λ o e=>k it (by simp) o e
 item:=by
  intro X hP hw hK hc i pins s σ H E I hf st hg
  subst hP hw hK
  obtain⟨xs,x,hq,hx⟩:=hg
  obtain⟨its,rv,p,hz⟩:=I.tuple hq
  obtain⟨u,hu,ru⟩:=rv.get hx
  obtain⟨f0,f1,f2,f3,f4,f5⟩:=hf it (by simp)
  refine wpAny_pyNext_tuple_item st (show s.heap.IsTuple a its.toArray from p) (x:=u) (by simpa using hu) λ h' st' sb=>?_
  have I1:Inv X pins σ H { s with heap:=h' }:=I.turned (t':=s.toks) (λ b o hb e=>(sb.2 b hb).trans e) f0 f1 f3 f4 f5
  obtain⟨o,e,c,d⟩:=id st'
  exact⟨u,rfl,zsr (s:={ s with heap:=h' }) e c d (by decide) ⟨x,H,I1,ru,⟨rfl,λ ys hy=>by rw[I.tuple_inj hy hq];exact hx⟩,st',λ b hb=>(hf b hb).1⟩⟩
 done:=by
  intro X hP hw hK hc i pins s σ H E I hf st hg
  subst hP hw hK
  obtain⟨xs,hq,hx⟩:=hg
  obtain⟨its,rv,p,hz⟩:=I.tuple hq
  obtain⟨f0,f1,f2,f3,f4,f5⟩:=hf it (by simp)
  have hl:=rv.length
  exact wpAny_pyNext_tuple_end (I.ok.hd hc) st (show s.heap.IsTuple a its.toArray from p) (by simp;left) λ h' eb=>⟨rfl,I.turned (t':=s.toks) (λ b o hb e=>eb b o hb e) f0 f1 f3 f4 f5⟩
 self:=λ _ _ _ _ _ st h=>wpAny_pyIter_tupleiter st h
theorem zl8 {P:Program} {w:World} {K:uac} {tg:Expr} (it:Addr) (lo:Int) (n:Nat):Turn P w K tg (Itr lo n) [it] it (λ i h=>IsRangeIter h it (lo + (i:Nat) * 1) ((n:Int) - (i:Nat)) 1) where
 mem:=by simp
 obj:=λ i h st b hb=>by
  have e:b=it:=by simpa using hb
  subst e
  exact⟨_,st,λ v z=>by
   have z':Data.fields _=Data.cell v:=z
   cases z'⟩
 keep:=λ i h h' st k=>k it (by simp) _ st
 item:=by
  intro X hP hw hK hc i pins s σ H E I hf st hg
  subst hP hw hK
  obtain⟨f0,f1,f2,f3,f4,f5⟩:=hf it (by simp)
  have W:=Walks.range (prog:=X.prog) (w:=X.w) (I.ok.hd hc) it lo 1 n
  refine W.item i s _ _ hg st λ v h' tk hv st' kk=>?_
  obtain⟨t,rfl⟩:=hv
  have I1:Inv X pins σ H { s with heap:=h',toks:=tk }:=I.turned (λ b o hb e=>kk b o (by simpa using hb) e) f0 f1 f3 f4 f5
  refine⟨_,rfl,zsr (s:={ s with heap:=h',toks:=tk }) (n:="range_iterator") st' rfl rfl (by decide) ⟨.int (lo + i),H,I1,⟨t,?_⟩,⟨rfl,rfl⟩,st',λ b hb=>(hf b hb).1⟩⟩
  rw[Int.mul_one]
 done:=by
  intro X hP hw hK hc i pins s σ H E I hf st hg
  subst hP hw hK
  obtain⟨f0,f1,f2,f3,f4,f5⟩:=hf it (by simp)
  exact wpAny_pyNext_range_end (I.ok.hd hc) st (by have:n<=i:=hg;left) λ h' eb=>⟨rfl,I.turned (t':=s.toks) (λ b o hb e=>eb b o hb e) f0 f1 f3 f4 f5⟩
 self:=λ _ _ _ _ _ st h=>wpAny_pyIter_rangeiter st h
end L2
namespace L2
open PySem PySem.Spec PyProof.Rows
section
variable {X:Cx} {tg:Expr}
def iList (K:uac) (tl:TE):TI:=λ σ H R=>tl σ H λ x H1=>ERef x λ a=>(∃ xs,SqL K H1 a xs)/\R (Itl K a) H1
def iTup (K:uac) (tl:TE):TI:=λ σ H R=>tl σ H λ x H1=>ERef x λ a=>(∃ xs,SqT K H1 a xs)/\R (Itt K a) H1
theorem zch {l:Expr} {tl:TE} (hl:PE X l tl):PI X tg l (iList X.K tl):=by
 intro pins s σ H R I h
 refine thn (hl pins s σ H _ I h) λ v s1 ⟨x,H1,I1,r1,q1⟩=>?_
 obtain⟨a,e,⟨xs,hq⟩,q⟩:=q1
 subst e
 cases r1
 obtain⟨its,rv,p,hz⟩:=I1.list hq
 refine uc7 p.isList ?_
 refine⟨s1.heap.objs.size,[s1.heap.objs.size],_,_,H1,rfl,I1.kept (t':=s1.toks) λ b o e=>Heap.get?_push_of_some _ e,zif a _,⟨_,Heap.get?_push_size _ rfl,rfl,rfl⟩,λ b hb=>?_,q⟩
 have e:b=s1.heap.objs.size:=by simpa using hb
 subst e
 exact I1.fpOk (uai _) (I1.hok.fresh (uai _))
theorem zbv {l:Expr} {tl:TE} (hl:PE X l tl):PI X tg l (iTup X.K tl):=by
 intro pins s σ H R I h
 refine thn (hl pins s σ H _ I h) λ v s1 ⟨x,H1,I1,r1,q1⟩=>?_
 obtain⟨a,e,⟨xs,hq⟩,q⟩:=q1
 subst e
 cases r1
 obtain⟨its,rv,p,hz⟩:=I1.tuple hq
 refine ugn (show s1.heap.IsTuple a its.toArray from p) ?_
 refine⟨s1.heap.objs.size,[s1.heap.objs.size],_,_,H1,rfl,I1.kept (t':=s1.toks) λ b o e=>Heap.get?_push_of_some _ e,zgd a _,⟨_,Heap.get?_push_size _ rfl,rfl,rfl⟩,λ b hb=>?_,q⟩
 have e:b=s1.heap.objs.size:=by simpa using hb
 subst e
 exact I1.fpOk (uai _) (I1.hok.fresh (uai _))
theorem zk5 {pins:List (Addr × Obj)} {σ:St} {H:Hp} {s:Shared} {R:It->Hp->Prop} {E:Value->Shared->Prop} {lo hi:Int} {t u v:Tok} {tk:Nat} (I:Inv X pins σ H s) (h1:-(2 ^ 62)<=lo) (h2:lo < 2 ^ 62) (h3:-(2 ^ 62)<=hi) (h4:hi < 2 ^ 62)
  (q:R (Itr lo (hi - lo).toNat) H):wpAny (model X.prog X.w) X.A (pyIter (.ref s.heap.objs.size)) (PIE X pins σ tg R) E { s with heap:=s.heap.push { cls:=.type "range",data:=.fields #[.int lo t,.int hi u,.int 1 v] },toks:=tk }:=by
 refine wpAny_pyIter_range (IsRange.new ..) (small_one h1 h2 h3 h4) ?_
 have I1:Inv X pins σ H { s with heap:=s.heap.push { cls:=.type "range",data:=.fields #[.int lo t,.int hi u,.int 1 v] },toks:=tk }:=I.kept λ b o e=>Heap.get?_push_of_some _ e
 refine⟨(s.heap.push { cls:=.type "range",data:=.fields #[.int lo t,.int hi u,.int 1 v] }).objs.size,[(s.heap.push { cls:=.type "range",data:=.fields #[.int lo t,.int hi u,.int 1 v] }).objs.size],_,_,H,rfl,
  I1.kept (t':=tk) λ b o e=>Heap.get?_push_of_some _ e,zl8 _ lo (hi - lo).toNat,?_,λ b hb=>?_,q⟩
 ·have e1:lo + ((0:Nat):Int) * 1=lo:=by simp
  have e2:(((hi - lo).toNat:Nat):Int) - ((0:Nat):Int)=Builtin.Range.rangeSize lo hi 1:=by rw[rangeSize_one];split <;> left
  show IsRangeIter _ _ (lo + ((0:Nat):Int) * 1) ((((hi - lo).toNat:Nat):Int) - ((0:Nat):Int)) 1
  rw[e1,e2]
  exact Heap.get?_push_size _ rfl
 ·have e:b=(s.heap.push { cls:=.type "range",data:=.fields #[.int lo t,.int hi u,.int 1 v] }).objs.size:=by simpa using hb
  subst e
  exact I1.fpOk (uai _) (I1.hok.fresh (uai _))
def iRng1 (ta:TA):TI:=λ σ H R=>ta σ H λ vs H1=>EOne vs λ j=>-(2 ^ 62)<=j/\j < 2 ^ 62/\R (Itr 0 j.toNat) H1
def iRng2 (ta:TA):TI:=λ σ H R=>ta σ H λ vs H1=>∃ i j:Int,vs=[.int i,.int j]/\(-(2 ^ 62)<=i/\i < 2 ^ 62/\-(2 ^ 62)<=j/\j < 2 ^ 62)/\R (Itr i (j - i).toNat) H1
theorem zbi {a:Expr} {ta:TA} {p pos:Pos} (hg:Gl X "range") (hm:X.mg "range"=none) (ha:PA X [a] ta) (hs:starEach [a] X.env=[(false,eval a X.env)]:=by rfl):PI X tg (.Call (.Name "range" p) [a] [] pos) (iRng1 ta):=by
 intro pins s σ H R I h
 refine Call_ (zdz I hg hm boot_range (ucz (thn (ha pos pins s σ H _ I h) λ us s1 ⟨vs,H1,I1,r1,q1⟩=>?_) hs rfl))
 obtain⟨j,e,q1,q2,q⟩:=q1
 subst e
 cases r1 with
 | cons r rr =>
  cases rr
  obtain⟨t,rfl⟩:=r
  exact call_range_1 (zk5 I1 (by left) (by left) q1 q2 (by simpa using q))
theorem zey {a b:Expr} {ta:TA} {p pos:Pos} (hg:Gl X "range") (hm:X.mg "range"=none) (ha:PA X [a,b] ta) (hs:starEach [a,b] X.env=[(false,eval a X.env),(false,eval b X.env)]:=by rfl) (hs2:starEach [b] X.env=[(false,eval b X.env)]:=by rfl) :
  PI X tg (.Call (.Name "range" p) [a,b] [] pos) (iRng2 ta):=by
 intro pins s σ H R I h
 refine Call_ (zdz I hg hm boot_range (ucz (thn (ha pos pins s σ H _ I h) λ us s1 ⟨vs,H1,I1,r1,q1⟩=>?_) (by rw[hs,hs2]) (by rw[hs2];rfl)))
 obtain⟨i,j,e,⟨q1,q2,q3,q4⟩,q⟩:=q1
 subst e
 cases r1 with
 | cons r rr =>
  cases rr with
  | cons r' rr =>
   cases rr
   obtain⟨t,rfl⟩:=r
   obtain⟨t',rfl⟩:=r'
   exact call_range_2 (zk5 I1 q1 q2 q3 q4 q)
def tFor (wi:TI) (g:TG) (tb:TS):TS:=λ D σ H=>wi σ H λ J H1=>∃ W:Nat->Nat->St->Hp->Prop,(∃ m,W 0 m σ H1)/\∀ i m σ H,W i m σ H ->
 (J.stop i H/\D.nx σ H)\/(J.go i H/\∃ N:St->Hp->Prop,(∀ σ' H',N σ' H'->∃ m',m' < m/\W (i + 1) m' σ' H')/\∀ x H',J.yld i H x H'->g x σ H' λ σ2 H2=>tb { D with nx:=N,ct:=N,bk:=D.nx } σ2 H2)
def pinsAt (fp:List Addr) (h:Heap):List (Addr × Obj):=fp.filterMap λ b=>(h.get? b).map λ o=>(b,o)
theorem zc2 {fp:List Addr} {h:Heap} {b:Addr} {o:Obj} (hb:b ∈ fp) (e:h.get? b=some o):(b,o) ∈ pinsAt fp h:=ucy.mpr ⟨b,hb,by rw[e];rfl⟩
theorem znx {fp:List Addr} {h:Heap} {p:Addr × Obj} (hp:p ∈ pinsAt fp h):p.1 ∈ fp/\h.get? p.1=some p.2:=by
 obtain⟨b,hb,e⟩:=ucy.mp hp
 cases q:h.get? b with
 | none=>rw[q] at e;cases e
 | some o =>
  rw[q] at e
  have e':(b,o)=p:=uau e
  subst e'
  exact⟨hb,q⟩
theorem Inv.pinned {pins:List (Addr × Obj)} {σ:St} {H:Hp} {s:Shared} {fp:List Addr} (I:Inv X pins σ H s) (hf:∀ b ∈ fp,FpOk X pins H b) (ho:∀ b ∈ fp,∃ o,s.heap.get? b=some o/\∀ v,o.data≠.cell v):Inv X (pins++pinsAt fp s.heap) σ H s :=
 I.pins_of λ p hp=>(uaz.mp hp).elim (λ z=>I.pin p (ubc _ z)) λ z=>by
  obtain⟨hb,e⟩:=znx z
  obtain⟨f0,f1,f2,_⟩:=hf p.1 hb
  obtain⟨o,e',d⟩:=ho p.1 hb
  rw[e] at e';cases e'
  exact⟨e,f0,f1,f2,d⟩
theorem Inv.unpinned {pins pl:List (Addr × Obj)} {σ:St} {H:Hp} {s:Shared} (I:Inv X (pins++pl) σ H s):Inv X pins σ H s:=I.pins_of λ p hp=>I.pin p (ubc _ (ucr _ hp))
theorem za4 {iter:Expr} {body:List Stmt} {wi:TI} {g:TG} {tb:TS} {pos:Pos} (hp:PassesOwn (model X.prog X.w) X.A X.env X.xe) (hc:X.calm=true) (hi:PI X tg iter wi) (hg:PG X tg g) (hb:PSs X body tb)
  (hs:∀ x,foldedSetIterable iter X.env x=pure x:=by intro _;rfl):PS X (.For tg iter body [] pos) (tFor wi g tb):=by
 intro pins s σ H D I h
 refine wpAny_For (thn (hi pins s σ H _ I h) λ v s1 h1=>thn h1 λ itv s2 h2=>?_) hs
 obtain⟨it,fp,tn,J,H2,e,I2,T,st2,f2,W,⟨m0,w0⟩,turn⟩:=h2
 subst e
  -- what stays true of the iterator's objects through the loop
 have stat:∀ {H':Hp},(∀ b ∈ fp,H' b=none)->∀ b ∈ fp,FpOk X pins H' b:=λ hn b hb=>⟨hn b hb,(f2 b hb).2⟩
 refine codeAny_forLoop_any (λ n s'=>∃ i σ' H',Inv X pins σ' H' s'/\tn i s'.heap/\(∀ b ∈ fp,H' b=none)/\W i n σ' H') ?_ m0 ⟨0,σ,H2,I2,st2,λ b hb=>(f2 b hb).1,w0⟩
 rintro n s3 ⟨i,σ3,H3,I3,st3,fr3,w3⟩
 rcases turn i n σ3 H3 w3 with ⟨stop,qn⟩ | ⟨go,N,hN,step⟩
 ·refine ud0 hp (thn (T.done X rfl rfl rfl hc i pins s3 σ3 H3 X.xe I3 (stat fr3) st3 stop) λ r s4 ⟨hr,I4⟩=>?_)
  subst hr
  exact uf5 ⟨σ3,H3,I4,qn⟩
 ·refine ud0 hp (thn (T.item X rfl rfl rfl hc i pins s3 σ3 H3 X.xe I3 (stat fr3) st3 go) λ r s4 ⟨u,hr,h4⟩=>?_)
  subst hr
  refine ud0 hp (thn h4 λ _ s5 ⟨x,H5,I5,r5,y5,st5,fr5⟩=>?_)
  have I5':=I5.pinned (stat fr5) (T.obj _ _ st5)
  refine ud0 hp (thn (hg _ s5 σ3 H5 x u _ I5' r5 (step x H5 y5)) λ _ s6 ⟨σ6,H6,I6,q6⟩=>?_)
  refine ud0 hp (thn (hb _ s6 σ6 H6 _ I6 q6) λ f s7 q7=>?_)
  have again:∀ {σ7:St} {H7:Hp},Inv X (pins++pinsAt fp s5.heap) σ7 H7 s7->N σ7 H7->∃ m,m < n/\∃ i σ' H',Inv X pins σ' H' s7/\tn i s7.heap/\(∀ b ∈ fp,H' b=none)/\W i m σ' H':=λ {σ7 H7} I7 n7=>by
   obtain⟨m',hm,w7⟩:=hN σ7 H7 n7
   refine⟨m',hm,i + 1,σ7,H7,I7.unpinned,T.keep _ _ _ st5 λ b hb o e=>(I7.pin (b,o) (ubc _ (ubc _ (zc2 hb e)))).1,λ b hb=>?_,w7⟩
   obtain⟨o,e,d⟩:=T.obj _ _ st5 b hb
   exact (I7.pin (b,o) (ubc _ (ubc _ (zc2 hb e)))).2.1
  cases f with
  | next=>obtain⟨σ7,H7,I7,n7⟩:=q7;exact again I7 n7
  | cont=>obtain⟨σ7,H7,I7,n7⟩:=q7;exact again I7 n7
  | brk=>obtain⟨σ7,H7,I7,q7⟩:=q7;exact⟨σ7,H7,I7.unpinned,q7⟩
  | ret v=>obtain⟨x7,σ7,H7,I7,r7,q7⟩:=q7;exact⟨x7,σ7,H7,I7.unpinned,r7,q7⟩
end
theorem zen {K:uac} {a:Addr} {xs:List V} {g:TG} {tb:TS} {D:Ends} {σ:St} {H:Hp} (Pv:Nat->St->Hp->Prop) (h0:Pv 0 σ H) (hl:∀ i σ H,i<=xs.length->Pv i σ H->SqL K H a xs)
  (hs:∀ i x σ H,xs[i]?=some x->Pv i σ H->g x σ H λ σ2 H2=>tb { D with nx:=Pv (i + 1),ct:=Pv (i + 1),bk:=D.nx } σ2 H2) (hd:∀ σ H,Pv xs.length σ H->D.nx σ H) :
  ∃ W:Nat->Nat->St->Hp->Prop,(∃ m,W 0 m σ H)/\∀ i m σ H,W i m σ H ->
   ((Itl K a).stop i H/\D.nx σ H)\/((Itl K a).go i H/\∃ N:St->Hp->Prop,(∀ σ' H',N σ' H'->∃ m',m' < m/\W (i + 1) m' σ' H')/\∀ x H',(Itl K a).yld i H x H'->g x σ H' λ σ2 H2=>tb { D with nx:=N,ct:=N,bk:=D.nx } σ2 H2):=by
 refine⟨λ i m σ H=>m=xs.length - i/\i<=xs.length/\Pv i σ H,⟨xs.length,by simp,ubb _,h0⟩,?_⟩
 rintro i m σ H ⟨rfl,hi,p⟩
 have q:=hl i σ H hi p
 by_cases hlt:i < xs.length
 ·refine .inr ⟨⟨xs,xs[i],q,by simp [hlt]⟩,Pv (i + 1),λ σ' H' p'=>⟨xs.length - (i + 1),by left,rfl,hlt,p'⟩,λ x H' y=>?_⟩
  obtain⟨e,y⟩:=y
  subst e
  exact hs i x σ _ (y xs q) p
 ·have e:i=xs.length:=by left
  subst e
  exact .inl ⟨⟨xs,q,uai _⟩,hd σ H p⟩
theorem zck {K:uac} {a:Addr} {xs:List V} {g:TG} {tb:TS} {D:Ends} {σ:St} {H:Hp} (Pv:Nat->St->Hp->Prop) (h0:Pv 0 σ H) (hl:∀ i σ H,i<=xs.length->Pv i σ H->SqT K H a xs)
  (hs:∀ i x σ H,xs[i]?=some x->Pv i σ H->g x σ H λ σ2 H2=>tb { D with nx:=Pv (i + 1),ct:=Pv (i + 1),bk:=D.nx } σ2 H2) (hd:∀ σ H,Pv xs.length σ H->D.nx σ H) :
  ∃ W:Nat->Nat->St->Hp->Prop,(∃ m,W 0 m σ H)/\∀ i m σ H,W i m σ H ->
   ((Itt K a).stop i H/\D.nx σ H)\/((Itt K a).go i H/\∃ N:St->Hp->Prop,(∀ σ' H',N σ' H'->∃ m',m' < m/\W (i + 1) m' σ' H')/\∀ x H',(Itt K a).yld i H x H'->g x σ H' λ σ2 H2=>tb { D with nx:=N,ct:=N,bk:=D.nx } σ2 H2):=by
 refine⟨λ i m σ H=>m=xs.length - i/\i<=xs.length/\Pv i σ H,⟨xs.length,by simp,ubb _,h0⟩,?_⟩
 rintro i m σ H ⟨rfl,hi,p⟩
 have q:=hl i σ H hi p
 by_cases hlt:i < xs.length
 ·refine .inr ⟨⟨xs,xs[i],q,by simp [hlt]⟩,Pv (i + 1),λ σ' H' p'=>⟨xs.length - (i + 1),by left,rfl,hlt,p'⟩,λ x H' y=>?_⟩
  obtain⟨e,y⟩:=y
  subst e
  exact hs i x σ _ (y xs q) p
 ·have e:i=xs.length:=by left
  subst e
  exact .inl ⟨⟨xs,q,uai _⟩,hd σ H p⟩
theorem zbj {lo:Int} {n:Nat} {g:TG} {tb:TS} {D:Ends} {σ:St} {H:Hp} (Pv:Nat->St->Hp->Prop) (h0:Pv 0 σ H)
  (hs:∀ i σ H,i < n->Pv i σ H->g (.int (lo + i)) σ H λ σ2 H2=>tb { D with nx:=Pv (i + 1),ct:=Pv (i + 1),bk:=D.nx } σ2 H2) (hd:∀ σ H,Pv n σ H->D.nx σ H) :
  ∃ W:Nat->Nat->St->Hp->Prop,(∃ m,W 0 m σ H)/\∀ i m σ H,W i m σ H ->
   ((Itr lo n).stop i H/\D.nx σ H)\/((Itr lo n).go i H/\∃ N:St->Hp->Prop,(∀ σ' H',N σ' H'->∃ m',m' < m/\W (i + 1) m' σ' H')/\∀ x H',(Itr lo n).yld i H x H'->g x σ H' λ σ2 H2=>tb { D with nx:=N,ct:=N,bk:=D.nx } σ2 H2):=by
 refine⟨λ i m σ H=>m=n - i/\i<=n/\Pv i σ H,⟨n,by simp,ubb _,h0⟩,?_⟩
 rintro i m σ H ⟨rfl,hi,p⟩
 by_cases hlt:i < n
 ·refine .inr ⟨hlt,Pv (i + 1),λ σ' H' p'=>⟨n - (i + 1),by left,rfl,hlt,p'⟩,λ x H' y=>?_⟩
  obtain⟨e,y⟩:=y
  subst e y
  exact hs i σ _ hlt p
 ·have e:i=n:=by left
  subst e
  exact .inl ⟨uai _,hd σ H p⟩
end L2
namespace L2
open PySem PySem.Spec PyProof.Rows
abbrev R2:=V->V->Hp->VK->Prop
def OpR (X:Cx) (f:Value->Value->Sem Value) (r:R2):Prop :=
 ∀ (pins:List (Addr × Obj)) (s:Shared) (σ:St) (H:Hp) (x y:V) (v u:Value) (Q:VK),Inv X pins σ H s->RelV x v->RelV y u->r x y H Q ->
  wpAny (model X.prog X.w) X.A (f v u) (EP X pins σ Q) X.xe s
def UnR (X:Cx) (f:Value->Sem Value) (r:V->Hp->VK->Prop):Prop :=
 ∀ (pins:List (Addr × Obj)) (s:Shared) (σ:St) (H:Hp) (x:V) (v:Value) (Q:VK),Inv X pins σ H s->RelV x v->r x H Q ->
  wpAny (model X.prog X.w) X.A (f v) (EP X pins σ Q) X.xe s
def CallR (X:Cx) (f:Value) (r:List V->Hp->VK->Prop):Prop :=
 ∀ (pins:List (Addr × Obj)) (s:Shared) (σ:St) (H:Hp) (xs:List V) (us:List Value) (Q:VK),Inv X pins σ H s->Vals xs us->r xs H Q ->
  wpAny (model X.prog X.w) X.A (call f us) (EP X pins σ Q) X.xe s
def tOp (r:R2) (ta tb:TE):TE:=λ σ H Q=>ta σ H λ x H1=>tb σ H1 λ y H2=>r x y H2 Q
def tUn (r:V->Hp->VK->Prop) (ta:TE):TE:=λ σ H Q=>ta σ H λ x H1=>r x H1 Q
inductive rI_i (C:Int->Int->Prop) (g:Int->Int->V) (x:V) (y:V) (H:Hp) (Q:VK):Prop
 | mk:∀ i j,(x=.int i)->(y=.int j)->(C i j)->(Q (g i j) H)->rI_i C g x y H Q
def rI (C:Int->Int->Prop) (g:Int->Int->V):R2:=λ x y H Q=>rI_i C g x y H Q
inductive rI0_i (g:Int->Int->V) (x:V) (y:V) (H:Hp) (Q:VK):Prop
 | mk:∀ i j,(x=.int i)->(y=.int j)->(Q (g i j) H)->rI0_i g x y H Q
def rI0 (g:Int->Int->V):R2:=λ x y H Q=>rI0_i g x y H Q
inductive rU_i (g:Int->V) (x:V) (H:Hp) (Q:VK):Prop
 | mk:∀ i,(x=.int i)->(Q (g i) H)->rU_i g x H Q
def rU (g:Int->V):V->Hp->VK->Prop:=λ x H Q=>rU_i g x H Q
section
variable {X:Cx} {a b c:Expr} {ta tb tc:TE} {pos:Pos}
theorem binT (ha:PE X a ta) (hb:PE X b tb) {pins:List (Addr × Obj)} {s:Shared} {σ:St} {H:Hp} {R:V->V->Hp->Prop} (I:Inv X pins σ H s)
  (h:ta σ H λ x H1=>tb σ H1 λ y H2=>R x y H2) {Q:Value->Shared->Prop} {f:Value->Value->Sem Value}
  (hf:∀ v u s2 x y H2,Inv X pins σ H2 s2->RelV x v->RelV y u->R x y H2->wpAny (model X.prog X.w) X.A (f v u) Q X.xe s2) :
  wpAny (model X.prog X.w) X.A (eval a X.env) (λ v s₁=>wpAny (model X.prog X.w) X.A (eval b X.env) (λ u s₂=>wpAny (model X.prog X.w) X.A (f v u) Q X.xe s₂) X.xe s₁) X.xe s:=by
 refine thn (ha pins s σ H _ I h) λ v s1 ⟨x,H1,I1,r1,q1⟩=>?_
 refine thn (hb pins s1 σ H1 _ I1 q1) λ u s2 ⟨y,H2,I2,r2,q2⟩=>?_
 exact hf v u s2 x y H2 I2 r1 r2 q2
theorem zaz {op:Operator} {r:R2} (ho:OpR X (binaryOp op) r) (ha:PE X a ta) (hb:PE X b tb):PE X (.BinOp a op b pos) (tOp r ta tb):=by
 intro pins s σ H Q I h
 exact wpAny_BinOp (binT ha hb I h λ v u s2 x y H2 I2 rx ry q=>ho pins s2 σ H2 x y v u Q I2 rx ry q)
theorem zr9 {op:UnaryOp} {r:V->Hp->VK->Prop} (ho:UnR X (unaryOp op) r) (ha:PE X a ta):PE X (.UnaryOp op a pos) (tUn r ta):=by
 intro pins s σ H Q I h
 exact UnaryOp_ (thn (ha pins s σ H _ I h) λ v s1 ⟨x,H1,I1,r1,q1⟩=>ho pins s1 σ H1 x v Q I1 r1 q1)
theorem opI {f:Value->Value->Sem Value} {C:Int->Int->Prop} {g:Int->Int->Int}
  (rule:∀ (i j:Int) (t u:Tok) (s:Shared) (Q:Value->Shared->Prop) (E:Value->Shared->Prop),C i j->Q (.int (g i j) s.toks) { s with toks:=s.toks + 1 }->wpAny (model X.prog X.w) X.A (f (.int i t) (.int j u)) Q E s) :
  OpR X f (rI C λ i j=>.int (g i j)):=by
 intro pins s σ H x y v u Q I rx ry h
 obtain⟨i,j,rfl,rfl,hc,q⟩:=h
 obtain⟨t,rfl⟩:=rx
 obtain⟨t',rfl⟩:=ry
 exact rule i j t t' s _ _ hc ⟨.int (g i j),H,I.tok _,⟨_,rfl⟩,q⟩
theorem opI0 {f:Value->Value->Sem Value} {g:Int->Int->Int}
  (rule:∀ (i j:Int) (t u:Tok) (s:Shared) (Q:Value->Shared->Prop) (E:Value->Shared->Prop),Q (.int (g i j) s.toks) { s with toks:=s.toks + 1 }->wpAny (model X.prog X.w) X.A (f (.int i t) (.int j u)) Q E s) :
  OpR X f (rI0 λ i j=>.int (g i j)):=by
 intro pins s σ H x y v u Q I rx ry h
 obtain⟨i,j,rfl,rfl,q⟩:=h
 obtain⟨t,rfl⟩:=rx
 obtain⟨t',rfl⟩:=ry
 exact rule i j t t' s _ _ ⟨.int (g i j),H,I.tok _,⟨_,rfl⟩,q⟩
theorem opB0 {f:Value->Value->Sem Value} {g:Int->Int->Bool}
  (rule:∀ (i j:Int) (t u:Tok) (s:Shared) (Q:Value->Shared->Prop) (E:Value->Shared->Prop),Q (.bool (g i j)) s->wpAny (model X.prog X.w) X.A (f (.int i t) (.int j u)) Q E s) :
  OpR X f (rI0 λ i j=>.bl (g i j)):=by
 intro pins s σ H x y v u Q I rx ry h
 obtain⟨i,j,rfl,rfl,q⟩:=h
 obtain⟨t,rfl⟩:=rx
 obtain⟨t',rfl⟩:=ry
 exact rule i j t t' s _ _ ⟨.bl (g i j),H,I,rfl,q⟩
def CDiv (i j:Int):Prop:=0 < j/\j < 1073741824
def CPow (i j:Int):Prop:=0<=j/\j<=1000000/\i.natAbs < 2 ^ 64
def CMul (i j:Int):Prop:=(-(2 ^ 64) < i/\i < 2 ^ 64)\/(-(2 ^ 64) < j/\j < 2 ^ 64)
theorem CMul.ok {i j:Int} (h:CMul i j):IntMulOk i j:=by
 rcases h with ⟨h1,h2⟩ | ⟨h1,h2⟩
 ·exact .of_left (intBits_le_64 h1 h2)
 ·exact .of_right (intBits_le_64 h1 h2)
theorem zb7:OpR X (binaryOp .Add) (rI0 λ i j=>.int (i + j)):=opI0 λ _ _ _ _ _ _ _ q=>add_int q
theorem zdy:OpR X (binaryOp .Sub) (rI0 λ i j=>.int (i - j)):=opI0 λ _ _ _ _ _ _ _ q=>sub_int q
theorem znu:OpR X (binaryOp .Mult) (rI CMul λ i j=>.int (i * j)):=opI λ _ _ _ _ _ _ _ hc q=>mul_int q hc.ok
theorem zj0:OpR X (binaryOp .FloorDiv) (rI CDiv λ i j=>.int (i / j)):=opI λ i j _ _ _ _ _ hc q=>by
 have h1:(0:Int) < j:=hc.1
 have h2:j < 1073741824:=hc.2
 exact floordiv_int (by left) (by rw[Int.fdiv_eq_ediv_of_nonneg i (by left)];exact q) (.inl (PyProof.noPylong_small (by left)))
theorem zcs:OpR X (binaryOp .Mod) (rI (λ _ j=>0 < j) λ i j=>.int (i % j)):=opI λ i j _ _ _ _ _ hc q=>by
 have h1:(0:Int) < j:=hc
 exact mod_int' (by left) (by rw[Int.fmod_eq_emod_of_nonneg i (by left)];exact q)
theorem ze5:OpR X (binaryOp .Pow) (rI CPow λ i j=>.int (i ^ j.toNat)):=opI λ _ _ _ _ _ _ _ hc q=>pow_int_small hc.1 hc.2.1 hc.2.2 q
theorem unI {f:Value->Sem Value} {g:Int->Int}
  (rule:∀ (i:Int) (t:Tok) (s:Shared) (Q:Value->Shared->Prop) (E:Value->Shared->Prop),Q (.int (g i) s.toks) { s with toks:=s.toks + 1 }->wpAny (model X.prog X.w) X.A (f (.int i t)) Q E s) :
  UnR X f (rU λ i=>.int (g i)):=by
 intro pins s σ H x v Q I rx h
 obtain⟨i,rfl,q⟩:=h
 obtain⟨t,rfl⟩:=rx
 exact rule i t s _ _ ⟨.int (g i),H,I.tok _,⟨_,rfl⟩,q⟩
theorem zm2:UnR X (unaryOp .USub) (rU λ i=>.int (-i)):=unI λ _ _ _ _ _ q=>neg_int q
end
def scal:V->V->Bool
 | .non,.non=>true | .non,.int _=>true | .int _,.non=>true | .non,.bl _=>true | .bl _,.non=>true | .non,.str _=>true | .str _,.non=>true
 | .int _,.int _=>true | .bl _,.bl _=>true | .str _,.str _=>true | .byt _,.byt _=>true
 | .int _,.str _=>true | .str _,.int _=>true | .bl _,.str _=>true | .str _,.bl _=>true
 | _,_=>false
def rEq:R2:=λ x y H Q=>scal x y=true/\Q (.bl (decide (x=y))) H
def rNe:R2:=λ x y H Q=>scal x y=true/\Q (.bl (!decide (x=y))) H
theorem zot {i j:Int}:decide (V.int i=V.int j)=(i == j):=by
 rw[udf]
 simp
theorem zrl {i j:Bool}:decide (V.bl i=V.bl j)=(i == j):=by
 rw[udf]
 simp
theorem zos {i j:Str}:decide (V.str i=V.str j)=(i == j):=by
 rw[udf]
 simp
theorem zou {i j:Array UInt8}:decide (V.byt i=V.byt j)=(i.toList == j.toList):=by
 rw[udf]
 cases i
 cases j
 simp
section
variable {X:Cx} {a b c:Expr} {ta tb tc:TE} {pos:Pos}
theorem za1 {pins:List (Addr × Obj)} {σ:St} {H:Hp} {s:Shared} {Q:VK} {k k':Bool} (I:Inv X pins σ H s) (q:Q (.bl k) H) (e:k=k'):EP X pins σ Q (.bool k') s:=by
 subst e
 exact⟨.bl k,H,I,rfl,q⟩
theorem zbq:OpR X (compareOp .Eq) rEq:=by
 intro pins s σ H x y v u Q I rx ry h
 obtain⟨hs,q⟩:=h
 cases x with
 | non =>
  cases rx
  cases y with
  | non=>cases ry;exact PySem.EqNone.eq_none_none (za1 I q (by simp))
  | bl j=>cases ry;exact PySem.EqNone.eq_none_bool (za1 I q (by simp))
  | int j=>obtain⟨t',rfl⟩:=ry;exact PySem.EqNone.eq_none_int (za1 I q (by simp))
  | str j=>obtain⟨t',rfl⟩:=ry;exact PySem.EqNone.eq_none_str (za1 I q (by simp))
  | _=>exact absurd (show false=true from hs) uas
 | bl i =>
  cases rx
  cases y with
  | non=>cases ry;exact PySem.EqNone.eq_bool_none (za1 I q (by simp))
  | bl j=>cases ry;exact eq_bool (za1 I q zrl)
  | str j=>obtain⟨t',rfl⟩:=ry;exact PySem.EqMixed.eq_bool_str (za1 I q (by simp))
  | _=>exact absurd (show false=true from hs) uas
 | int i =>
  obtain⟨t,rfl⟩:=rx
  cases y with
  | non=>cases ry;exact PySem.EqNone.eq_int_none (za1 I q (by simp))
  | int j=>obtain⟨t',rfl⟩:=ry;exact eq_int (za1 I q zot)
  | str j=>obtain⟨t',rfl⟩:=ry;exact PySem.EqMixed.eq_int_str (za1 I q (by simp))
  | _=>exact absurd (show false=true from hs) uas
 | str i =>
  obtain⟨t,rfl⟩:=rx
  cases y with
  | non=>cases ry;exact PySem.EqNone.eq_str_none (za1 I q (by simp))
  | bl j=>cases ry;exact PySem.EqMixed.eq_str_bool (za1 I q (by simp))
  | int j=>obtain⟨t',rfl⟩:=ry;exact PySem.EqMixed.eq_str_int (za1 I q (by simp))
  | str j=>obtain⟨t',rfl⟩:=ry;exact eq_str (za1 I q zos)
  | _=>exact absurd (show false=true from hs) uas
 | byt i =>
  obtain⟨t,rfl⟩:=rx
  cases y with
  | byt j=>obtain⟨t',rfl⟩:=ry;exact PySem.W.eq_bytes (za1 I q zou)
  | _=>exact absurd (show false=true from hs) uas
 | _=>cases y <;> exact absurd (show false=true from hs) uas
theorem zsd:OpR X (compareOp .NotEq) rNe:=by
 intro pins s σ H x y v u Q I rx ry h
 obtain⟨hs,q⟩:=h
 cases x with
 | non =>
  cases rx
  cases y with
  | non=>cases ry;exact PySem.EqNone.ne_none_none (za1 I q (by simp))
  | bl j=>cases ry;exact PySem.EqNone.ne_none_bool (za1 I q (by simp))
  | int j=>obtain⟨t',rfl⟩:=ry;exact PySem.EqNone.ne_none_int (za1 I q (by simp))
  | str j=>obtain⟨t',rfl⟩:=ry;exact PySem.EqNone.ne_none_str (za1 I q (by simp))
  | _=>exact absurd (show false=true from hs) uas
 | bl i =>
  cases rx
  cases y with
  | non=>cases ry;exact PySem.EqNone.ne_bool_none (za1 I q (by simp))
  | bl j=>cases ry;exact ne_bool (za1 I q (congrArg not zrl))
  | str j=>obtain⟨t',rfl⟩:=ry;exact PySem.EqMixed.ne_bool_str (za1 I q (by simp))
  | _=>exact absurd (show false=true from hs) uas
 | int i =>
  obtain⟨t,rfl⟩:=rx
  cases y with
  | non=>cases ry;exact PySem.EqNone.ne_int_none (za1 I q (by simp))
  | int j=>obtain⟨t',rfl⟩:=ry;exact ne_int (za1 I q (congrArg not zot))
  | str j=>obtain⟨t',rfl⟩:=ry;exact PySem.EqMixed.ne_int_str (za1 I q (by simp))
  | _=>exact absurd (show false=true from hs) uas
 | str i =>
  obtain⟨t,rfl⟩:=rx
  cases y with
  | non=>cases ry;exact PySem.EqNone.ne_str_none (za1 I q (by simp))
  | bl j=>cases ry;exact PySem.EqMixed.ne_str_bool (za1 I q (by simp))
  | int j=>obtain⟨t',rfl⟩:=ry;exact PySem.EqMixed.ne_str_int (za1 I q (by simp))
  | str j=>obtain⟨t',rfl⟩:=ry;exact ne_str (za1 I q (congrArg not zos))
  | _=>exact absurd (show false=true from hs) uas
 | byt i =>
  obtain⟨t,rfl⟩:=rx
  cases y with
  | byt j=>obtain⟨t',rfl⟩:=ry;exact PySem.W.ne_bytes (za1 I q (congrArg not zou))
  | _=>exact absurd (show false=true from hs) uas
 | _=>cases y <;> exact absurd (show false=true from hs) uas
theorem zjz:OpR X (compareOp .Lt) (rI0 λ i j=>.bl (decide (i < j))):=opB0 λ _ _ _ _ _ _ _ q=>lt_int q
theorem zme:OpR X (compareOp .Gt) (rI0 λ i j=>.bl (decide (j < i))):=opB0 λ _ _ _ _ _ _ _ q=>gt_int q
theorem ztm:OpR X (compareOp .GtE) (rI0 λ i j=>.bl (decide (j<=i))):=opB0 λ _ _ _ _ _ _ _ q=>ge_int q
theorem zc8:OpR X (compareOp .Is) (λ x y H Q=>y=.non/\Q (.bl (decide (x=.non))) H):=by
 intro pins s σ H x y v u Q I rx ry h
 obtain⟨rfl,q⟩:=h
 cases ry
 refine is_none_gen (za1 I q ?_)
 cases x <;> first
  | (cases rx;rfl)
  | (obtain⟨t,rfl⟩:=rx;rfl)
theorem ze6:OpR X (compareOp .IsNot) (λ x y H Q=>y=.non/\Q (.bl (!decide (x=.non))) H):=by
 intro pins s σ H x y v u Q I rx ry h
 obtain⟨rfl,q⟩:=h
 cases ry
 refine isnot_none_gen (za1 I q ?_)
 cases x <;> first
  | (cases rx;rfl)
  | (obtain⟨t,rfl⟩:=rx;rfl)
theorem nomark (b:Expr) {op:CmpOp} (h:op≠.In:=by decide) (h2:op≠.NotIn:=by decide):behindInMarks op b=false:=by
 have e1:(op == CmpOp.In)=false:=by cases op <;> first | rfl | exact absurd rfl h
 have e2:(op == CmpOp.NotIn)=false:=by cases op <;> first | rfl | exact absurd rfl h2
 cases b <;> simp [behindInMarks,e1,e2]
theorem zba {op:CmpOp} {r:R2} (ho:OpR X (compareOp op) r) (ha:PE X a ta) (hb:PE X b tb) (hm:behindInMarks op b=false):PE X (.Compare a [op] [b] pos) (tOp r ta tb):=by
 intro pins s σ H Q I h
 exact wpAny_Compare1 (binT ha hb I h λ v u s2 x y H2 I2 rx ry q=>ho pins s2 σ H2 x y v u Q I2 rx ry q) hm
def tTest (t:TE):TT:=λ σ H Q=>t σ H λ x H'=>EBl x λ k=>Q k H'
theorem zam {op:CmpOp} {r:R2} (ho:OpR X (compareOp op) r) (ha:PE X a ta) (hb:PE X b tb) (hm:behindInMarks op b=false):PT X (.Compare a [op] [b] pos) (tTest (tOp r ta tb)):=by
 intro pins s σ H Q I h
 refine wpAny_isTrue_Compare1 (thn (ha pins s σ H _ I h) λ v s1 ⟨x,H1,I1,r1,q1⟩=>thn (hb pins s1 σ H1 _ I1 q1) λ u s2 ⟨y,H2,I2,r2,q2⟩ =>
  thn (ho pins s2 σ H2 x y v u _ I2 r1 r2 q2) λ c s3 ⟨z,H3,I3,r3,k,e,q3⟩=>?_) hm
 subst e
 cases r3
 exact uc6 ⟨H3,I3,q3⟩
theorem line63:(sizeLine:Nat) < 2 ^ 63:=by rw[ucf];decide
theorem vals1 {x:V} {us:List Value} (r:Vals [x] us):∃ u,us=[u]/\RelV x u:=by
 cases r with
 | cons r1 r2=>cases r2;exact⟨_,rfl,r1⟩
theorem vals2 {x y:V} {us:List Value} (r:Vals [x,y] us):∃ u w',us=[u,w']/\RelV x u/\RelV y w':=by
 cases r with
 | cons r1 r2 =>
  cases r2 with
  | cons r3 r4=>cases r4;exact⟨_,_,rfl,r1,r3⟩
inductive call_abs_i  (xs:List V) (H:Hp) (Q:VK):Prop
 | mk:∀ i,(xs=[.int i])->(Q (.int (if i < 0 then -i else i)) H)->call_abs_i xs H Q
theorem zl0:CallR X (.builtin "abs") (call_abs_i):=by
 intro pins s σ H xs us Q I r h
 obtain⟨i,rfl,q⟩:=h
 obtain⟨u,rfl,t,rfl⟩:=vals1 r
 exact call_abs_int λ u tk=>⟨.int (if i < 0 then -i else i),H,I.tok _,⟨_,rfl⟩,q⟩
theorem zfu (hc:X.calm=true):CallR X (.builtin "max") (λ xs H Q=>∃ i j,xs=[.int i,.int j]/\Q (.int (if j > i then j else i)) H):=by
 intro pins s σ H xs us Q I r h
 obtain⟨i,j,rfl,q⟩:=h
 obtain⟨u,w',rfl,⟨t,rfl⟩,⟨t',rfl⟩⟩:=vals2 r
 refine max_two_ints (I.ok.hd hc) λ h' tk k=>⟨_,H,I.kept k,?_,q⟩
 by_cases hj:j > i
 ·rw[if_pos hj,if_pos hj];exact⟨_,rfl⟩
 ·rw[if_neg hj,if_neg hj];exact⟨_,rfl⟩
inductive call_min2_i  (xs:List V) (H:Hp) (Q:VK):Prop
 | mk:∀ i j,(xs=[.int i,.int j])->(Q (.int (if j < i then j else i)) H)->call_min2_i xs H Q
theorem zft (hc:X.calm=true):CallR X (.builtin "min") (call_min2_i):=by
 intro pins s σ H xs us Q I r h
 obtain⟨i,j,rfl,q⟩:=h
 obtain⟨u,w',rfl,⟨t,rfl⟩,⟨t',rfl⟩⟩:=vals2 r
 refine min_two_ints (I.ok.hd hc) λ h' tk k=>⟨_,H,I.kept k,?_,q⟩
 by_cases hj:j < i
 ·rw[if_pos hj,if_pos hj];exact⟨_,rfl⟩
 ·rw[if_neg hj,if_neg hj];exact⟨_,rfl⟩
end
end L2
namespace L2
open PySem PySem.Spec PyProof.Rows
structure ObjM (h:Heap) (x dx C:Addr) (mA:Str->Option Value):Prop where
 obj:h.get? x=some (ugf C dx)
 ns:h.Ns1 dx mA
 ne:dx≠x
theorem zn7 {h:Heap} {dx:Addr} {mA:Str->Option Value} (n:h.Ns1 dx mA):∃ od,h.get? dx=some od/\∀ name,ugq name od=some (mA name):=by
 obtain⟨o,es,ep,ho,hd,hk,_,hm⟩:=n
 refine⟨o,ho,λ name=>?_⟩
 have e:=hm name
 unfold nsFind findBy at e
 rw[← Array.find?_toList] at e
 unfold ugq
 rw[hd]
 dsimp only
 split
 ·rename_i y q
  rw[q] at e
  exact congrArg some e
 ·rename_i q
  rw[q] at e
  have a:es.toList.any (·.refKey)=false:=by
   rw[List.any_eq_false]
   intro y hy
   obtain⟨z,t,hkey⟩:=hk y (Array.mem_toList_iff.mp hy)
   simp [DictEntry.refKey,hkey]
  have a':¬ es.toList.any (·.refKey)=true:=by rw[a];exact uas
  rw[if_neg a']
  exact congrArg some e
theorem ObjM.look {h:Heap} {x dx C:Addr} {mA:Str->Option Value} (I:ObjM h x dx C mA):∃ od,PySem.W.InstAt h x (ugf C dx) C (some od)/\∀ name,ugq name od=some (mA name) :=
 let ⟨od,ho,hl⟩:=zn7 I.ns
 ⟨od,⟨I.obj,rfl,rfl,ho⟩,hl⟩
section
variable {prog:Program} {w:World} {A:Around} {E:Value->Shared->Prop} {s:Shared} {K:uac} {x dx C f:Addr} {mA:Str->Option Value} {name:Str} {v:Value}
end
theorem RelO.some_of {v:V} {o:Option Value} (r:RelO (some v) o):∃ u,o=some u/\RelV v u:=by
 cases o with
 | none=>exact (show False from r).elim
 | some u=>exact⟨u,rfl,r⟩
section
variable {P:Program} {w:World} {H H':Hp} {h h':Heap} {a C dx:Addr} {fs fs':List (Str × V)}
theorem zso (hok:HOk P w H h) (e:H a=some (.ins C dx fs)):∃ mA,ObjM h a dx C mA/\(∀ f,RelO (fs.lookup f) (mA f))/\PySem.Within mA (fs.map (·.1))/\fs.length<=1000/\H dx=some (.own a):=by
 obtain⟨d,z,ne,ob,mA,n,r,q⟩:=(show ObjOk P w H h a (.ins C dx fs) from hok a _ e)
 exact⟨mA,⟨ob,n,ne⟩,r,q,z,d⟩
end
structure Cls (K:uac) (C:Addr):Prop where
 pg:PySem.W.plainGet K C Str.empty=true
 hd:PySem.W.hasDictIn K C=true
 po:PySem.W.plainOver K C=true
 sa:ugr K (.ref C) "__setattr__"=some (some (.builtin "object.__setattr__"))
theorem Cls.get {K:uac} {C:Addr} (c:Cls K C) (f:Str):PySem.W.plainGet K C f=true:=c.pg
structure Con (K:uac) (C:Addr) (f:Str) (v:V) (u:Value):Prop where
 at_:ugr K (.ref C) f=some (some u)
 rel:RelV v u
 get:PySem.W.specialIn K u "__get__"=some none
 cp:PySem.W.copiedNames.contains f=false
section
variable {X:Cx} {pins:List (Addr × Obj)} {σ:St} {H:Hp} {s:Shared} {a C dx:Addr} {fs:List (Str × V)} {f:Str} {v:V} {A:Around} {E:Value->Shared->Prop}
end
section
variable {X:Cx} {o e value:Expr} {f:Str} {pos pos' tpos:Pos} {ta tv:TE}
end
section
variable {X:Cx} {pins:List (Addr × Obj)} {σ:St} {H:Hp} {s:Shared} {A:Around} {E:Value->Shared->Prop} {Q:Value->Shared->Prop} {c:Value} {b:Bool}
inductive TyOf (K:uac) (H:Hp):V->Value->Prop where
 | non:TyOf K H .non (.type "NoneType")
 | bl (x:Bool):TyOf K H (.bl x) (.type "bool")
 | int (i:Int):TyOf K H (.int i) (.type "int")
 | str (x:Str):TyOf K H (.str x) (.type "str")
 | flt (x:UInt64):TyOf K H (.flt x) (.type "float")
 | lst {a:Addr} {xs:List V} (e:H a=some (.lst xs)):TyOf K H (.ref a) (.type "list")
 | frz {a:Addr} {o:Obj} {xs:List V} (e:H a=some (.frz o (.lst xs))):TyOf K H (.ref a) (.type "list")
 | tup {a:Addr} {xs:List V} (e:H a=some (.tup xs)):TyOf K H (.ref a) (.type "tuple")
 | dK {a:Addr} {kvs:List (Key × V)} (e:H a=some (.dK kvs)):TyOf K H (.ref a) (.type "dict")
 | dT {a:Addr} {kvs:List (List Key × V)} (e:H a=some (.dT kvs)):TyOf K H (.ref a) (.type "dict")
 | ins {a C dx : Addr} {fs : List (Str × V)} (e : H a = some (.ins C dx fs)) (cl : Cls K C) (ha : ugr K (.ref C) "__class__" = some (some (.builtin "object.__class__")))
     (hn:PySem.W.specialIn K (.builtin "object.__class__") "__get__"=some (some (.builtin "getset_descriptor.__get__"))) (htk:PySem.W.takesIn K (.builtin "object.__class__")=some true)
     (hm:PySem.W.mroIn K C (.type "object")=some true):TyOf K H (.ref a) (.ref C)
theorem zog {x:V} {u t:Value} (I:Inv X pins σ H s) (rx:RelV x u) (ty:TyOf X.K H x t) (e:PySem.W.kitOne X.K t c=some b) (h:∀ tk,Q (.bool b) { s with toks:=tk }) :
  wpAny (model X.prog X.w) A (call (.builtin "isinstance") [u,c]) Q E s:=by
 cases ty with
 | non=>cases (show u=Value.none from rx);exact ucp PySem.W.kitx_none I.kIn True.intro e (λ z=>nomatch z) h
 | bl y=>cases (show u=Value.bool y from rx);exact ucp PySem.W.kitx_bool I.kIn True.intro e (λ z=>nomatch z) h
 | int i=>obtain⟨t,q⟩:=(show ∃ t,u=Value.int i t from rx);cases q;exact ucp PySem.W.kitx_int I.kIn True.intro e (λ z=>nomatch z) h
 | str y=>obtain⟨t,q⟩:=(show ∃ t,u=Value.str y t from rx);cases q;exact ucp PySem.W.kitx_str I.kIn True.intro e (λ z=>nomatch z) h
 | flt y=>obtain⟨t,q⟩:=(show ∃ t,u=Value.float y t from rx);cases q;exact ucp PySem.W.kitx_float I.kIn True.intro e (λ z=>nomatch z) h
 | @lst a xs ea =>
  cases (show u=Value.ref a from rx)
  obtain⟨_,_,n,_,h1⟩:=(show ObjOk X.prog X.w H s.heap a (.lst xs) from I.hok a _ ea)
  exact ucp PySem.W.kitx_list I.kIn ⟨_,h1,rfl⟩ e (λ z=>nomatch z) h
 | @frz a ob xs ea =>
  cases (show u=Value.ref a from rx)
  obtain⟨_,_,_,n,_,h1⟩:=(show ObjOk X.prog X.w H s.heap a (.frz ob (.lst xs)) from I.hok a _ ea)
  exact ucp PySem.W.kitx_list I.kIn ⟨_,h1,rfl⟩ e (λ z=>nomatch z) h
 | @tup a xs ea =>
  cases (show u=Value.ref a from rx)
  obtain⟨_,_,_,p⟩:=(show ObjOk X.prog X.w H s.heap a (.tup xs) from I.hok a _ ea)
  obtain⟨o,h1,h2,_⟩:=p
  exact ucp PySem.W.kitx_tuple I.kIn ⟨o,h1,h2⟩ e (λ z=>nomatch z) h
 | @dK a kvs ea =>
  cases (show u=Value.ref a from rx)
  obtain⟨_,_,vs,_,p⟩:=(show ObjOk X.prog X.w H s.heap a (.dK kvs) from I.hok a _ ea)
  obtain⟨o,es,ep,h1,h2,_⟩:=p
  exact ucp PySem.W.kitx_dict I.kIn ⟨o,h1,h2.1⟩ e (λ z=>nomatch z) h
 | @dT a kvs ea =>
  cases (show u=Value.ref a from rx)
  obtain⟨_,_,xs,_,o,es,ep,h1,h2,_⟩:=(show ObjOk X.prog X.w H s.heap a (.dT kvs) from I.hok a _ ea)
  exact ucp PySem.W.kitx_dict I.kIn ⟨o,h1,h2.1⟩ e (λ z=>nomatch z) h
 | @ins a C dx fs ea cl ha hn htk hm =>
  cases (show u=Value.ref a from rx)
  obtain⟨mA,O,_⟩:=zso I.hok ea
  obtain⟨od,J,_⟩:=O.look
  exact ucp (PySem.W.kitx_own (cl.get _) cl.hd ha hn htk hm) I.kIn J e (λ z=>nomatch z) h
end
end L2
namespace L2
open PySem PySem.Spec PyProof.Rows
structure Room (k:Nat) (A:Around):Prop where
 hd:A.handled=none
 dp:A.depth + 3 * k + 5 < recursionLimit
 un:A.units + 16 * k + 200 < cLine
 gd:A.guards=some []
theorem Room.mono {j k:Nat} {A:Around} (r:Room k A) (h:j<=k):Room j A:=⟨r.hd,by have:=r.dp;left,by have:=r.un;left,r.gd⟩
theorem Room.deeper {k:Nat} {A:Around} (r:Room (k + 1) A) (env:Env):Room k (A.deeper env) :=
 ⟨r.hd,by have:=r.dp;show A.depth + 1 + 3 * k + 5 < _;left,by have:=r.un;show A.units + 3 + 16 * k + 200 < _;left,r.gd⟩
theorem Room.depth {k:Nat} {A:Around} (r:Room k A):A.depth < recursionLimit:=by have:=r.dp;left
theorem Room.units {k:Nat} {A:Around} (r:Room k A):A.units + 64 < cLine:=by have:=r.un;left
theorem Room.units0 {k:Nat} {A:Around} (r:Room k A):A.units < cLine:=by have:=r.un;left
def tNil:TA:=λ _ H Q=>Q [] H
def tCons (ta:TE) (tr:TA):TA:=λ σ H Q=>ta σ H λ x H1=>tr σ H1 λ xs H2=>Q (x::xs) H2
section
variable {X:Cx} {e:Expr} {es:List Expr} {te:TE} {t:TA} {pos:Pos}
theorem zac:PA X [] tNil:=λ _ _ _ _ H Q I h=>Calls.spliced_nil ⟨[],H,I,.nil,h⟩
theorem zaa (ha:PE X e te) (hr:PA X es t) (hs:starEach (e::es) X.env=(false,eval e X.env)::starEach es X.env:=by rfl):PA X (e::es) (tCons te t):=by
 intro pos pins s σ H Q I h
 rw[hs]
 show wpAny _ _ (spliced ((false,eval e X.env)::backTo pos (starEach es X.env))) _ _ s
 refine Calls.spliced_cons (thn (ha pins s σ H _ I h) λ u s1 ⟨x,H1,I1,r1,q1⟩=>?_)
 exact thn (hr pos pins s1 σ H1 _ I1 q1) λ us s2 ⟨xs,H2,I2,r2,q2⟩=>⟨x::xs,H2,I2,.cons r1 r2,q2⟩
def tTup (t:TA):TE:=λ σ H Q=>t σ H λ xs H1=>xs.length<=sizeLine/\∀ p,H1 p=none->Q (.ref p) (upd H1 p (.tup xs))
def tLst (t:TA):TE:=λ σ H Q=>t σ H λ xs H1=>xs.length<=sizeLine/\∀ p,H1 p=none->Q (.ref p) (upd H1 p (.lst xs))
theorem zq8 {x1} (h:PA X es t):PE X (.Tuple es x1 pos) (tTup t):=by
 intro pins s σ H Q I hq
 refine wpAny_Tuple_spliced (thn (h pos pins s σ H _ I hq) λ us s1 ⟨xs,H1,I1,r,z,q⟩=>⟨by rw[← r.length];exact z,?_⟩)
 have hf:H1 s1.heap.objs.size=none:=I1.hok.fresh (uai _)
 refine⟨.ref s1.heap.objs.size,upd H1 s1.heap.objs.size (.tup xs),I1.laid (t':=s1.toks) (λ b u e=>Heap.get?_push_of_some _ e) (uai _) ?_,rfl,q _ hf⟩
 exact⟨z,us,r,⟨_,Heap.get?_push_size _ rfl,rfl,⟨_,rfl⟩,rfl⟩⟩
theorem zim (h:PA X es t):PE X (.List es pos) (tLst t):=by
 intro pins s σ H Q I hq
 refine wpAny_List_spliced (thn (h pos pins s σ H _ I hq) λ us s1 ⟨xs,H1,I1,r,z,q⟩=>⟨by rw[← r.length];exact z,?_⟩)
 have hf:H1 s1.heap.objs.size=none:=I1.hok.fresh (uai _)
 refine⟨.ref s1.heap.objs.size,upd H1 s1.heap.objs.size (.lst xs),I1.laid (t':=s1.toks) (λ b u e=>Heap.get?_push_of_some _ e) (uai _) ?_,rfl,q _ hf⟩
 exact⟨z,us,0,r,Heap.get?_push_size _ rfl⟩
end
abbrev Sp:=List V->Hp->VK->XK->Prop
abbrev CXT:=List Env->Hp->Shared->XK->Value->Shared->Prop
structure Env0 (P:Program) (w:World) (K:uac) (mg:Str->Option Value) (base:Heap) (A:Around) (outer:List Env) (s:Shared) (H:Hp):Prop where
 frames:A.frames=some outer
 mod:Mod K mg base
 bs:∀ b o,base.get? b=some o->s.heap.get? b=some o/\H b=none
 bsz:base.objs.size<=s.heap.objs.size
 funs:s.heap.FunFrames base outer
 frf:∀ b ∈ frs outer,H b=none
 hok:HOk P w H s.heap
 bare:AllBare s.gens
def CE (outer:List Env) (P:Program) (w:World) (H:Hp) (s:Shared) (Q:VK) (u:Value) (s':Shared):Prop :=
 ∃ v H',s'.os=s.os/\AllBare s'.gens/\Un (frs outer) [] H H' s.heap s'.heap/\HOk P w H' s'.heap/\RelV v u/\Q v H'
def CR (CX:CXT) (outer:List Env) (P:Program) (w:World) (H:Hp) (s:Shared) (Q:VK) (E:XK) (r:Result) (s':Shared):Prop :=
 match r with
 | .ok (.ret u)=>CE outer P w H s Q u s'
 | .ok _=>False
 | .error e=>CX outer H s E e s'
structure FnOk (P:Program) (w:World) (K:uac) (mg:Str->Option Value) (base:Heap) (CX:CXT) (k:Nat) (f:Addr) (fd:FuncData) (ps:List Str) (sp:Sp):Prop where
 len:∀ vs H Q E,sp vs H Q E->vs.length=ps.length
 run:∀ (A:Around) (outer:List Env) (s:Shared) (H:Hp) (args:Args) (us:List Value) (vs:List V) (Q:VK) (E:XK),Room k A->Env0 P w K mg base A outer s H->BindsTo s fd args (ps.zip us)->Vals vs us->sp vs H Q E ->
  codeAny (model P w) A (.call (.ref f) args) (CR CX outer P w H s Q E) s
theorem FnOk.mono {P:Program} {w:World} {K:uac} {mg:Str->Option Value} {base:Heap} {CX:CXT} {j k:Nat} {f:Addr} {fd:FuncData} {ps:List Str} {sp:Sp} (F:FnOk P w K mg base CX j f fd ps sp) (h:j<=k) :
  FnOk P w K mg base CX k f fd ps sp:=⟨F.len,λ A outer s H args us vs Q E hr=>F.run A outer s H args us vs Q E (hr.mono h)⟩
theorem FnOk.imp {P:Program} {w:World} {K:uac} {mg:Str->Option Value} {base:Heap} {CX:CXT} {k:Nat} {f:Addr} {fd:FuncData} {ps:List Str} {sp sp':Sp} (F:FnOk P w K mg base CX k f fd ps sp)
  (h:∀ vs H Q E,sp' vs H Q E->sp vs H Q E):FnOk P w K mg base CX k f fd ps sp' :=
 ⟨λ vs H Q E q=>F.len vs H Q E (h _ _ _ _ q),λ A outer s H args us vs Q E hr he hb hv hs=>F.run A outer s H args us vs Q E hr he hb hv (h _ _ _ _ hs)⟩
section
variable {X:Cx} {pins:List (Addr × Obj)} {σ:St} {H:Hp} {s s':Shared}
theorem Inv.env0 (I:Inv X pins σ H s):Env0 X.prog X.w X.K X.mg X.base X.A X.stack s H :=
 ⟨I.ok.frames,I.ok.mod,I.bs,ua9 I.ok.bsz I.sz,I.stack,I.stkFree,I.hok,I.bare⟩
theorem Inv.after {Q:VK} {u:Value} (I:Inv X pins σ H s) (h:CE X.stack X.prog X.w H s Q u s'):EP X pins σ Q u s':=by
 obtain⟨v,H',os,bare,un,hok,r,q⟩:=h
 obtain⟨hh,g,d,t,os'⟩:=s'
 obtain rfl:os'=s.os:=os
 exact⟨v,H',I.call (h':=hh) (g':=g) (d':=d) (t':=t) (ch:=[]) un hok bare (λ b z=>absurd z (by simp)),r,q⟩
end
def tCall (sp:Sp) (dvs:List V) (E:XK) (t:TA):TE:=λ σ H Q=>t σ H λ vs H1=>sp (vs++dvs) H1 Q E
def Binds (K:uac) (fd:FuncData) (ps:List Str) (ds:List Value):Prop :=
 ∀ (s:Shared) (us:List Value),K.In s.heap->(us++ds).length=ps.length->BindsTo s fd ⟨us,[]⟩ (ps.zip (us++ds))
theorem Binds.all {K:uac} {fd:FuncData} {ps:List Str} (h:∀ us:List Value,us.length=ps.length->bindArgs fd ⟨us,[]⟩=pure (ps.zip us)):Binds K fd ps []:=λ s us _ hl=>by
 rw[ub1] at hl ⊢
 exact .of_eq (h us hl)
def Passes (CX:CXT) (X:Cx) (E:XK):Prop:=∀ (pins:List (Addr × Obj)) (σ:St) (H:Hp) (s:Shared) (e:Value) (s':Shared),Inv X pins σ H s->CX X.stack H s E e s'->X.xe e s'
section
variable {X:Cx} {CX:CXT} {k:Nat} {f C:Addr} {fd:FuncData} {ps:List Str} {sp:Sp} {dvs:List V} {ds:List Value} {E:XK} {x m:Str} {p pos apos:Pos} {e o:Expr} {es:List Expr} {ta:TE} {t:TA}
theorem ztc {pins:List (Addr × Obj)} {σ:St} {H:Hp} {s:Shared} {Q:VK} {us:List Value} {vs:List V} (F:FnOk X.prog X.w X.K X.mg X.base CX k f fd ps sp) (hr:Room k X.A) (hb:Binds X.K fd ps ds) (hd:Vals dvs ds) (hx:Passes CX X E)
  (I:Inv X pins σ H s) (r:Vals vs us) (h:sp (vs++dvs) H Q E):wpAny (model X.prog X.w) X.A (call (.ref f) us) (EP X pins σ Q) X.xe s:=by
 have r2:Vals (vs++dvs) (us++ds):=r.append hd
 have hl:(us++ds).length=ps.length:=by rw[← r2.length];exact F.len _ _ _ _ h
 refine wpAny_call (ufk (F.run X.A X.stack s H ⟨us,[]⟩ (us++ds) (vs++dvs) Q E hr I.env0 (hb s us I.kIn hl) r2 h) λ r s' hq=>?_)
 cases r with
 | error e=>exact hx pins σ H s e s' I hq
 | ok fl =>
  cases fl with
  | ret u=>exact I.after hq
  | next=>exact False.elim hq
  | brk=>exact False.elim hq
  | cont=>exact False.elim hq
theorem zsb (F:FnOk X.prog X.w X.K X.mg X.base CX k f fd ps sp) (hr:Room k X.A) (hg:Gl X x) (hm:X.mg x=some (.ref f)) (hk:uej X.K (.ref f)=true) (hb:Binds X.K fd ps ds) (hd:Vals dvs ds) (hx:Passes CX X E)
  (ha:PA X (e::es) t) (hdb:(x == ("__debug__":Str))=false:=by decide) (he:starEach (e::es) X.env=(false,eval e X.env)::starEach es X.env:=by rfl) (hpl:(backTo pos (starEach es X.env)).any (·.1)=false:=by rfl) :
  PE X (.Call (.Name x p) (e::es) [] pos) (tCall sp dvs E t):=by
 intro pins s σ H Q I h
 refine ufj (zsm I hg hm ?_ hdb)
 refine PySem.W.callWith_K (h₀:=X.base) I.ok.mod.kin hk (thn (ha pos pins s σ H _ I h) λ us s1 ⟨vs,H1,I1,r,q⟩=>⟨I1.kIn,?_⟩) he hpl
 exact ztc F hr hb hd hx I1 r q
end
def PK (X:Cx) (kws:List Keyword) (t:TA):Prop :=
 ∀ (pos:Pos) (pins:List (Addr × Obj)) (s:Shared) (σ:St) (H:Hp) (Q:List V->Hp->Prop),Inv X pins σ H s->t σ H Q->wpAny (model X.prog X.w) X.A (evalAll ((backToKw pos (keywordEach kws X.env)).map (·.2))) (AP X pins σ Q) X.xe s
section
variable {X:Cx} {CX:CXT} {k:Nat} {f C:Addr} {fd:FuncData} {ps ks:List Str} {sp:Sp} {E:XK} {x m:Str} {p pos apos kpos:Pos} {e o:Expr} {es:List Expr} {kws:List Keyword} {te ta:TE} {t tk:TA} {nm:Option Str}
theorem ztg:PK X [] tNil:=λ _ _ _ _ H Q I h=>wpAny_evalAll_nil ⟨[],H,I,.nil,h⟩
theorem zr8 (ha:PE X e te) (hr:PK X kws t):PK X (⟨nm,e,kpos⟩::kws) (tCons te t):=by
 intro pos pins s σ H Q I h
 show wpAny _ _ (evalAll ((do let v ← eval e X.env;standAt pos;pure v)::(backToKw pos (keywordEach kws X.env)).map (·.2))) _ _ s
 refine wpAny_evalAll_cons (uab (thn (ha pins s σ H _ I h) λ u s1 ⟨x,H1,I1,r1,q1⟩=>uab (ue5 (uah ?_))))
 exact thn (hr pos pins s1 σ H1 _ I1 q1) λ us s2 ⟨xs,H2,I2,r2,q2⟩=>⟨x::xs,H2,I2,.cons r1 r2,q2⟩
variable {g:List Value->List Value->List Value} {gV:List V->List V->List V}
end
structure FnScope (N P:List Str) (sc:Scope):Prop where
 kind:sc.kind=.function
 co:sc.isCoroutine=false
 gen:sc.isGenerator=false
 nd:N.Nodup
 pre:N.take P.length=P
 par:∀ x ∈ P,sc.names.lookup x=some .local\/sc.names.lookup x=some .cell
 nofree:∀ y ∈ sc.names,y.2≠.free
theorem zje {kindOf:Str->Option NameKind} {x:Str}:∀ {binds:List (Str × Value)} {m:Str->Option Value},(∀ v,(x,v) ∉ binds)->bindL kindOf binds m x=m x
 | [],_,_=>rfl
 | (n,v)::r,m,h=>by
  unfold bindL
  rw[zje λ w hw=>h w (uap _ hw)]
  split
  ·have:x≠n:=by rintro rfl;exact h v ual
   simp [this]
  ·rfl
theorem zjg {kindOf:Str->Option NameKind} {x:Str}:∀ {binds:List (Str × Value)} {m:Str->Option Value},(∀ v,(x,v) ∉ binds)->bindC kindOf binds m x=m x
 | [],_,_=>rfl
 | (n,v)::r,m,h=>by
  unfold bindC
  rw[zjg λ w hw=>h w (uap _ hw)]
  split
  ·rfl
  ·have:x≠n:=by rintro rfl;exact h v ual
   simp [this]
theorem zjf {kindOf:Str->Option NameKind} {x:Str} {v:Value}:∀ {P:List Str} {vs:List Value} {i:Nat} {m:Str->Option Value},P.Nodup->P[i]?=some x->vs[i]?=some v->kindOf x=some .local ->
  bindL kindOf (P.zip vs) m x=some v
 | [],_,_,_,_,h,_,_=>by simp at h
 | _::_,[],_,_,_,_,h,_=>by simp at h
 | p::P,w::vs,0,m,nd,h1,h2,hk=>by
  simp at h1 h2;subst h1;subst h2
  show bindL kindOf ((p,w)::P.zip vs) m p=_
  unfold bindL
  rw[zje λ v hv=>(uch.mp nd).1 (ugv hv).1,if_pos hk]
  simp
 | p::P,w::vs,i + 1,m,nd,h1,h2,hk=>by
  show bindL kindOf ((p,w)::P.zip vs) m x=_
  unfold bindL
  exact zjf (i:=i) (uch.mp nd).2 (by simpa using h1) (by simpa using h2) hk
theorem zjh {kindOf:Str->Option NameKind} {x:Str} {v:Value}:∀ {P:List Str} {vs:List Value} {i:Nat} {m:Str->Option Value},P.Nodup->P[i]?=some x->vs[i]?=some v->kindOf x≠some .local ->
  bindC kindOf (P.zip vs) m x=some v
 | [],_,_,_,_,h,_,_=>by simp at h
 | _::_,[],_,_,_,_,h,_=>by simp at h
 | p::P,w::vs,0,m,nd,h1,h2,hk=>by
  simp at h1 h2;subst h1;subst h2
  show bindC kindOf ((p,w)::P.zip vs) m p=_
  unfold bindC
  rw[zjg λ v hv=>(uch.mp nd).1 (ugv hv).1,if_neg hk]
  simp
 | p::P,w::vs,i + 1,m,nd,h1,h2,hk=>by
  show bindC kindOf ((p,w)::P.zip vs) m x=_
  unfold bindC
  exact zjh (i:=i) (uch.mp nd).2 (by simpa using h1) (by simpa using h2) hk
def start (N:List Str) (vs:List V):St:=vs.map some++uay (N.length - vs.length) none
def cxOf (CX:CXT) (P:Program) (w:World) (K:uac) (mg:Str->Option Value) (base:Heap) (N:List Str) (qual:Str) (scope:Scope) (f:Addr) (cd:Value) (A:Around) (outer:List Env) (s:Shared) (H:Hp) (E:XK):Cx where
 prog:=P
 w:=w
 K:=K
 mg:=mg
 base:=base
 A:=A.deeper (envOfC qual scope s.heap.objs.size f cd)
 N:=N
 s₀:=s
 H₀:=H
 env:=envOfC qual scope s.heap.objs.size f cd
 outer:=outer
 stack:=envOfC qual scope s.heap.objs.size f cd::outer
 ex:=[]
 calm:=true
 fn:=λ _=>true
 pn:=[]
 xe:=λ e s'=>wpAny (model P w) (A.deeper (envOfC qual scope s.heap.objs.size f cd)) (leaving (envOfC qual scope s.heap.objs.size f cd) e) (λ _ s''=>CX outer H s E e s'') (λ e' s''=>CX outer H s E e' s'') s'
theorem zly {sc:Scope} {n:Nat} {x:Str} (h:sc.names.lookup x=some .cell):∃ c,(cellsFrom n sc.names []).lookup x=some c:=by
 have q:=ug7 sc.names n [] (.inl h)
 exact ug0.mp q
theorem zoh {CX:CXT} {P:Program} {w:World} {K:uac} {mg:Str->Option Value} {base:Heap} {N ps:List Str} {qual:Str} {scope:Scope} {f:Addr} {cd:Value} {A:Around} {outer:List Env} {s s1:Shared} {H:Hp} {E:XK} {us:List Value} {vs:List V}
  (S:FnScope N ps scope) (hd:A.handled=none) (e0:Env0 P w K mg base A outer s H) (hl:vs.length=ps.length) (r:Vals vs us)
  (x:InCallC s s.heap.objs.size (bindL (envOfC qual scope s.heap.objs.size f cd).kindOf (ps.zip us) λ _=>none) (cellsFrom (s.heap.objs.size + 1) scope.names []) (bindC (envOfC qual scope s.heap.objs.size f cd).kindOf (ps.zip us) λ _=>none) s1) :
  Inv (cxOf CX P w K mg base N qual scope f cd A outer s H E) [] (start N vs) H s1:=by
 have hpl:ps.length<=N.length:=by have:=congrArg List.length S.pre;rw[uc1] at this;left
 obtain⟨h1,tk,rfl,hk⟩:=x.done
 have noA:∀ b:Addr,b ∉ (cxOf CX P w K mg base N qual scope f cd A outer s H E).ex:=λ b z=>absurd (show b ∈ ([]:List Addr) from z) (by simp)
 refine⟨⟨e0.mod,S.kind,rfl,rfl,uai _,λ y z c h1 h2=>?_,λ y hy=>?_,λ y c _ h=>?_,λ _=>hd,Around.frames_deeper e0.frames,.inr ⟨rfl,rfl⟩,λ b z=>absurd z (noA b),e0.bs,e0.bsz,λ b _ _=>noA b,λ b z=>absurd z (noA b),e0.funs,e0.frf⟩,
  rfl,e0.bare,Un.kept hk,⟨_,x.toInCall.ns,λ i y v h1 h2 h3=>?_⟩,λ y c h=>⟨_,x.cell y c h⟩,e0.hok.fresh (uai _),λ y c h=>?_,λ p hp=>absurd (show p ∈ ([]:List (Addr × Obj)) from hp) (by simp),e0.hok.kept hk,?_⟩
 ·exact name_of_addr x.apart (uc3 h1) (uc3 h2)
 ·have hy:scope.names.lookup y=some .cell\/scope.names.lookup y=some .free:=hy
  rcases hy with hy | hy
  ·exact zly hy
  ·exact absurd rfl (S.nofree _ (uc3 hy))
 ·exact ue9 (x.above y c (uc3 h))
 ·have hi:i < vs.length:=by
   unfold start at h2
   by_cases hi:i < vs.length
   ·exact hi
   ·rw[ucg (by simpa using hi)] at h2
    rw[udh] at h2
    split at h2 <;> cases h2
  have ha:vs[i]?=some v:=by
   unfold start at h2
   rw[uci (by simpa using hi),uaq] at h2
   cases e:vs[i]? with
   | none=>rw[e] at h2;cases h2
   | some a=>rw[e] at h2;cases h2;rfl
  obtain⟨u,hu,rv⟩:=r.get ha
  have hp:ps[i]?=some y:=by
   rw[← S.pre,List.getElem?_take_of_lt (by left)];exact h1
  have ndP:ps.Nodup:=by rw[← S.pre];exact S.nd.sublist (List.take_sublist _ _)
  refine⟨u,rv,?_⟩
  rcases S.par y (uao hp) with k | k
  ·exact .inl ⟨k,zjf ndP hp hu k⟩
  ·obtain⟨c,e⟩:=zly (n:=s.heap.objs.size + 1) k
   refine .inr ⟨.inl k,c,e,?_⟩
   have q:=x.cell y c e
   rw[zjh ndP hp hu (by show scope.names.lookup y≠_;rw[k];decide)] at q
   exact q
 ·exact e0.hok.fresh (ue9 (x.above y c (uc3 h)))
 ·unfold start
  show _=N.length
  rw[uaj,uae,ube]
  left
theorem zuf {CX:CXT} {P:Program} {w:World} {K:uac} {mg:Str->Option Value} {base:Heap} {k:Nat} {f:Addr} {name qual:Str} {params:Arguments} {body:List Stmt} {scope:Scope} {dV kV doc pm cdv ct oc:Value} {an od:Option Addr}
  {osl:Array (Option Value)} {N ps:List Str} {sp:Sp} (lk:K.lookup f=some ⟨oc,od,.func (uc8 name qual params body scope dV kV doc pm an cdv ct),osl⟩) (hcd:ue4 K cdv qual=true) (S:FnScope N ps scope)
  (len:∀ vs H Q E,sp vs H Q E->vs.length=ps.length)
  (hbody:∀ (A:Around) (outer:List Env) (s:Shared) (H:Hp) (vs:List V) (Q:VK) (E:XK),Room k (A.deeper (envOfC qual scope s.heap.objs.size f cdv))->sp vs H Q E ->
   ∃ t,PSs (cxOf CX P w K mg base N qual scope f cdv A outer s H E) body t/\t { nx:=λ _ H'=>Q .non H',rt:=Q } (start N vs) H) :
  FnOk P w K mg base CX (k + 1) f (uc8 name qual params body scope dV kV doc pm an cdv ct) ps sp:=by
 refine⟨len,λ A outer s H args us vs Q E hr e0 hb r hsp=>?_⟩
 have hl:=len _ _ _ _ hsp
 have KX:K.In s.heap:=e0.mod.kin.keeps λ b o e=>(e0.bs b o e).1
 have lim:s.heap.NoLimit:=e0.mod.nolimit.keeps λ b o e=>(e0.bs b o e).1
 have hkind:∀ y ∈ ps.zip us,scope.names.lookup y.1=some .local\/(scope.names.lookup y.1=some .cell/\((cellsFrom (s.heap.objs.size + 1) scope.names []).lookup y.1).isSome=true):=λ ⟨n,v⟩ hy=>by
  rcases S.par n (ugv hy).1 with q | q
  ·exact .inl q
  ·exact .inr ⟨q,ug7 _ _ _ (.inl q)⟩
 refine codeAny_call_function hr.depth (KX _ _ lk) rfl S.co S.gen rfl (PySem.W.codeRec_of KX hcd) (hb _ _ _ _ ?_)
 refine wpAny_newFunctionEnv_cells S.kind hkind λ env he s1 x=>?_
 subst he
 refine⟨lim.keeps x.toInCall.keep,codeAny_func ?_⟩
 obtain⟨t,ht,hq⟩:=hbody A outer s H vs Q E (hr.deeper _) hsp
 have I:Inv (cxOf CX P w K mg base N qual scope f cdv A outer s H E) [] (start N vs) H s1:=zoh S hr.hd e0 hl r x
 refine ucv (ht [] s1 (start N vs) H _ I hq) (λ fl s' hs=>?_) λ e s' hs=>hs
 have fin:∀ {σ':St} {H':Hp} {v:V} {u:Value},Inv (cxOf CX P w K mg base N qual scope f cdv A outer s H E) [] σ' H' s'->RelV v u->Q v H'->CE outer P w H s Q u s' :=
  λ {σ' H' v u} J rv q=>⟨v,H',J.os,J.bare,J.base,J.hok,rv,q⟩
 cases fl with
 | ret u =>
  obtain⟨v,σ',H',J,rv,q⟩:=hs
  exact fin J rv q
 | next =>
  obtain⟨σ',H',J,q⟩:=hs
  exact fin (v:=V.non) (u:=Value.none) J rfl q
 | brk =>
  obtain⟨_,_,_,q⟩:=hs
  exact False.elim q
 | cont =>
  obtain⟨_,_,_,q⟩:=hs
  exact False.elim q
end L2
namespace L2
open PySem PySem.Spec PyProof.Rows
section
variable {X:Cx} {x:Str} {p pos:Pos} {e:Expr} {es:List Expr} {t:TA} {id T:String} {r:List V->Hp->VK->Prop}
def tCB (r:List V->Hp->VK->Prop) (t:TA):TE:=λ σ H Q=>t σ H λ vs H1=>r vs H1 Q
theorem zao (hc:CallR X (.builtin id) r) (hg:Gl X x) (hm:X.mg x=none) (hv:bootBuiltins x=some (.builtin id)) (ha:PA X (e::es) t) (hn:x≠"__name__":=by decide) (hdb:(x == ("__debug__":Str))=false:=by decide)
  (he:starEach (e::es) X.env=(false,eval e X.env)::starEach es X.env:=by rfl) (hpl:(backTo pos (starEach es X.env)).any (·.1)=false:=by rfl):PE X (.Call (.Name x p) (e::es) [] pos) (tCB r t):=by
 intro pins s σ H Q I h
 refine ufj (zdz I hg hm hv ?_ hn hdb)
 exact PyProof.Rows.callWith_builtin1 (thn (ha pos pins s σ H _ I h) λ us s1 ⟨vs,H1,I1,r1,q1⟩=>hc pins s1 σ H1 vs us Q I1 r1 q1) he hpl
theorem zas (hc:CallR X (.type T) r) (hg:Gl X x) (hm:X.mg x=none) (hv:bootBuiltins x=some (.type T)) (ha:PA X (e::es) t) (hn:x≠"__name__":=by decide) (hdb:(x == ("__debug__":Str))=false:=by decide)
  (he:starEach (e::es) X.env=(false,eval e X.env)::starEach es X.env:=by rfl) (hpl:(backTo pos (starEach es X.env)).any (·.1)=false:=by rfl):PE X (.Call (.Name x p) (e::es) [] pos) (tCB r t):=by
 intro pins s σ H Q I h
 refine ufj (zdz I hg hm hv ?_ hn hdb)
 exact ucz (thn (ha pos pins s σ H _ I h) λ us s1 ⟨vs,H1,I1,r1,q1⟩=>hc pins s1 σ H1 vs us Q I1 r1 q1) he hpl
end
end L2
namespace HT
open PySem PyProof.Rows
def lexLt:List Int->List Int->Bool
 | [],[]=>false
 | [],_::_=>true
 | _::_,[]=>false
 | x::xs,y::ys=>if x=y then lexLt xs ys else decide (x < y)
theorem zml (x y:Int) (xs ys:List Int):lexLt (x::xs) (y::ys)=if x=y then lexLt xs ys else decide (x < y):=rfl
theorem zhc:lexLt [] []=false:=rfl
theorem zf3 (y:Int) (ys:List Int):lexLt [] (y::ys)=true:=rfl
theorem zf4 (x:Int) (xs:List Int):lexLt (x::xs) []=false:=rfl
theorem zqc (A:Around) (s:Shared) (a:Int) (t:Tok) (c:Int) (u:Tok):∃ e,SeqAt.EqAt A s (.int a t) (.int c u) e/\(e=true↔a=c) :=
 ⟨(a == c),SeqAt.EqAt.int_int a t c u,by simp⟩
theorem zpt (A:Around) (s:Shared) (a:Int) (t:Tok) (c:Int) (u:Tok) (prog:Program) (w:World) (E:Value->Shared->Prop) (Q:Value->Shared->Prop) (h:Q (.bool (decide (a < c))) s) :
  wpAny (model prog w) A (richCompare .Lt (.int a t) (.int c u)) Q E s :=
 (PyProof.Rows.lt_int h:wpAny (model prog w) A (compareOp .Lt (.int a t) (.int c u)) Q E s)
section
open PySem.SeqAt
open PySem.AutoSeq1 (wpAny_loadPart')
open PySem.MeetsSeq PySem.MeetsSeq2 PySem.MeetsSeq3
theorem zgq (l b:Addr) (items items2:Array Value) (n n2:Nat) (dd dd2:Option Addr) (sl sl2:Array (Option Value)) (ns ms:List Int) (hi:IntsAre items.toList ns) (hj:IntsAre items2.toList ms) :
  Meets (Builtin.«tuple.__lt__» ⟨[.ref l,.ref b],[]⟩)
   (λ _ R s=>s.heap.get? l=some { cls:=.type "tuple",dict:=dd,data:=.seq items n,slots:=sl }/\s.heap.get? b=some { cls:=.type "tuple",dict:=dd2,data:=.seq items2 n2,slots:=sl2 } /\
    R (.ok (.ret (.bool (lexLt ns ms)))) s) :=
 .of_wp λ prog w A R s h=>by
  obtain⟨hp,g,d,tk,os⟩:=s;obtain⟨hl,hb,h⟩:=h
  have f2:=AutoSeq1.sub_tuple_tuple
  have z1:items.size=ns.length:=by rw[← hi.length];simp
  have z2:items2.size=ms.length:=by rw[← hj.length];simp
  wp_walk using udk hl,udk hb,wpAny_forIn_list _ (λ rest b s'=>b.1=none/\s'=⟨hp,g,d,tk,os⟩/\∃ (vs ws:List Value) (ns' ms':List Int),rest=vs.zip ws /\
   IntsAre vs ns'/\IntsAre ws ms'/\ns'.length + items2.size=ms'.length + items.size/\R (.ok (.ret (.bool (lexLt ns' ms')))) ⟨hp,g,d,tk,os⟩) _
  case turn =>
   rintro ⟨y,x⟩ rest b s' ⟨hb',rfl,vs,ws,ns',ms',hz,hvi,hwi,hlen,hR⟩
   cases hvi with
   | nil=>rw[List.zip_nil_left] at hz;cases hz
   | cons a t hvi' =>
    cases hwi with
    | nil=>rw[List.zip_nil_right] at hz;cases hz
    | cons c u hwi' =>
     rw[ue7] at hz
     injection hz with hyx hrest
     injection hyx with hy hx
     subst hy hx
     rw[zml] at hR
     simp only [ubu] at hlen
     obtain⟨e,he,hiff⟩:=zqc A.in1 ⟨hp,g,d,tk,os⟩ a t c u
     refine uab (he prog w _ _ ?_)
     cases e with
     | true =>
      rw[if_pos (hiff.mp rfl)] at hR
      wp_walk
      exact⟨rfl,rfl,_,_,_,_,hrest,hvi',hwi',by left,hR⟩
     | false =>
      rw[if_neg (λ q=>absurd (hiff.mpr q) uas)] at hR
      have hri:=zpt A.in1 ⟨hp,g,d,tk,os⟩ a t c u prog w
      wp_walk using hri
      exact⟨_,rfl,by simpa using hR⟩
  case fin =>
   rintro ⟨b1,b2⟩ s' ⟨hb',rfl,vs,ws,ns',ms',hz,hvi,hwi,hlen,hR⟩
   simp only at hb'
   subst hb'
   have hv:lexLt ns' ms'=decide (items.size < items2.size):=by
    cases hvi with
    | nil =>
     cases hwi with
     | nil =>
      simp only [ufx] at hlen
      rw[zhc]
      exact (decide_eq_false (by left)).symm
     | cons c u hw =>
      simp only [ufx,ubu] at hlen
      rw[zf3]
      exact (decide_eq_true (by left)).symm
    | cons a t hv =>
     cases hwi with
     | nil =>
      simp only [ufx,ubu] at hlen
      rw[zf4]
      exact (decide_eq_false (by left)).symm
     | cons c u hw =>
      rw[ue7] at hz
      cases hz
   rw[hv] at hR
   wp_walk
   exact⟨_,rfl,by simpa [Builtin.Tuple.tupleCompareSizes] using hR⟩
  case h =>
   exact⟨rfl,rfl,items.toList,items2.toList,ns,ms,rfl,hi,hj,by left,h⟩
end
section
variable {prog:Program} {w:World} {A:Around} {E:Value->Shared->Prop} {s:Shared}
theorem zmk {l b:Addr} {items items2:Array Value} {ns ms:List Int} {Q:Value->Shared->Prop} (hl:IsTup s.heap l items) (hb:IsTup s.heap b items2) (hi:IntsAre items.toList ns) (hj:IntsAre items2.toList ms)
  (hu:A.units < cLine) (h:Q (.bool (lexLt ns ms)) s):wpAny (model prog w) A (compareOp .Lt (.ref l) (.ref b)) Q E s:=by
 obtain⟨⟨cls,dd,data,sl⟩,ho,hc,n,hd⟩:=id hl
 obtain⟨⟨cls2,dd2,data2,sl2⟩,ho2,hc2,n2,hd2⟩:=id hb
 simp only at hc hd hc2 hd2
 subst hc hd hc2 hd2
 exact richCompare_meets_room (op:=.Lt) ⟨_,ho,rfl⟩ ⟨_,ho2,rfl⟩ PySem.F.slot_tuple_lt PySem.F.entry_tuple_lt (PySem.F.args_tuple_lt_2 _ _) (zgq l b items items2 n n2 dd dd2 sl sl2 ns ms hi hj)
  ⟨ho,ho2,show Value.bool (lexLt ns ms)≠Value.notImplemented/\Q (.bool (lexLt ns ms)) s from ⟨(λ x=>nomatch x),h⟩⟩ hu
theorem zsz {t b:Addr} {vs ws:List Value} {Q:Value->Shared->Prop} (ht:IsTup s.heap t vs.toArray) (hb:IsTup s.heap b ws.toArray) (hv:vs≠[])
  (h1:ws=[]->Q (.ref t) s) (h2:ws≠[]->Q (.ref s.heap.objs.size) { s with heap:=s.heap.push { cls:=.type "tuple",data:=.seq (vs++ws).toArray } })
  (hsz:vs.length + ws.length<=sizeLine):wpAny (model prog w) A (binaryOp .Add (.ref t) (.ref b)) Q E s:=by
 obtain⟨⟨cls,dd,data,sl⟩,ho,hc,n,hd⟩:=id ht
 obtain⟨⟨cls2,dd2,data2,sl2⟩,ho2,hc2,n2,hd2⟩:=id hb
 simp only at hc hd hc2 hd2
 subst hc hd hc2 hd2
 have e:vs.toArray++ws.toArray=(vs++ws).toArray:=by simp
 by_cases hw:ws=[]
 ·exact ug6 ⟨_,ho,rfl⟩ ⟨_,ho2,rfl⟩ uhc seq_tuple_add uff ufb (ue6 _ _)
   (tuple_addW1 t b vs.toArray ws.toArray n n2 dd dd2 sl sl2 (by simpa using hv) (by simp [hw])) ⟨ho,ho2,h1 hw⟩
 ·refine ug6 ⟨_,ho,rfl⟩ ⟨_,ho2,rfl⟩ uhc seq_tuple_add uff ufb (ue6 _ _)
   (tuple_addW2 t b vs.toArray ws.toArray n n2 dd dd2 sl sl2 (by simpa using hv) (by simpa using hw) (by rw[uak,uak];exact hsz)) ⟨ho,ho2,?_⟩
  rw[e]
  exact h2 hw
def sIx (n d:Nat):Option Int->Nat
 | none=>d
 | some v=>if v < 0 then (v + (n:Int)).toNat else min v.toNat n
theorem ztb (n d:Nat) (hd:d<=n) (o:Option Int):sIx n d o<=n:=by
 cases o with
 | none=>exact hd
 | some v =>
  show (if v < 0 then (v + (n:Int)).toNat else min v.toNat n)<=n
  by_cases hv:v < 0
  ·rw[if_pos hv];left
  ·rw[if_neg hv];exact ud9 _ _
theorem zo0 (v:Int) (n d:Nat):(if v < 0 then max (v + (n:Int)) 0 else min v (n:Int))=((sIx n d (some v):Nat):Int):=by
 show (if v < 0 then max (v + (n:Int)) 0 else min v (n:Int))=(((if v < 0 then (v + (n:Int)).toNat else min v.toNat n):Nat):Int)
 by_cases hv:v < 0
 ·simp only [if_pos hv];left
 ·simp only [if_neg hv];left
theorem zmz (lo hi:Option Int) (n:Nat):Builtin.Slice.sliceAdjust lo hi 1 (n:Int)=(((sIx n 0 lo:Nat):Int),((sIx n n hi:Nat):Int)):=by
 have h1:¬ ((1:Int) < 0):=by left
 unfold Builtin.Slice.sliceAdjust
 simp only [h1,if_false]
 refine Prod.ext ?_ ?_
 ·cases lo with
  | none=>rfl
  | some v=>exact zo0 v n 0
 ·cases hi with
  | none=>rfl
  | some v=>exact zo0 v n n
theorem zmd (i j:Nat):Builtin.Slice.slicePlaces (i:Int) (j:Int) 1=j - i:=by
 unfold Builtin.Slice.slicePlaces
 have h1:(1:Int) > 0:=by left
 simp only [h1,if_true,Int.ediv_one]
 split <;> left
theorem zgf {v:Value} {o:Option Int} {Q:Option Int->Shared->Prop} (p:IsPart v o) (h:Q o s):wpAny (model prog w) A (Builtin.Slice.slicePartIndex v) Q E s:=by
 cases p with
 | none=>exact slicePart_none h
 | int i t=>exact slicePart_int h
theorem zco {sl:Addr} {vl vu:Value} {lo hi:Option Int} {n:Nat} {Q:Int × Int × Nat->Shared->Prop} (hs:s.heap.IsSliceOf sl vl vu .none) (pl:IsPart vl lo) (pu:IsPart vu hi)
  (h:Q (((sIx n 0 lo:Nat):Int),1,sIx n n hi - sIx n 0 lo) s):wpAny (model prog w) A (Builtin.Slice.sliceApplied (.ref sl) (pure (n:Int))) Q E s:=by
 obtain⟨os,hos,hcs,hds⟩:=id hs
 unfold Builtin.Slice.sliceApplied Builtin.Slice.sliceFields
 refine uab (uab (ub2 hos hds (x:=vl) rfl (uab (ub2 hos hds (x:=vu) rfl (uab (ub2 hos hds (x:=.none) rfl (uah ?_)))))))
 refine uab (slicePart_none ?_)
 show wpAny _ _ (if ((1:Int) == 0)=true then _ else _) _ _ s
 rw[if_neg (by decide)]
 refine uab (zgf pl (uab (zgf pu (uab (uah ?_)))))
 show wpAny _ _ (match Builtin.Slice.sliceAdjust lo hi 1 (n:Int) with | (lo,hi)=>pure (lo,(1:Int),Builtin.Slice.slicePlaces lo hi 1)) _ _ s
 rw[zmz lo hi n]
 show wpAny _ _ (pure (((sIx n 0 lo:Nat):Int),(1:Int),Builtin.Slice.slicePlaces ((sIx n 0 lo:Nat):Int) ((sIx n n hi:Nat):Int) 1)) _ _ s
 rw[zmd]
 exact uah h
theorem zpu (xs:Array Value) (i k:Nat):((uag k).filterMap λ (m:Nat)=>xs[((i:Int) + (m:Int) * 1).toNat]?).toArray=((xs.toList.drop i).take k).toArray:=by
 have e:(λ (m:Nat)=>xs[((i:Int) + (m:Int) * 1).toNat]?)=λ m=>xs[i + m]?:=by
  funext m
  have:((i:Int) + (m:Int) * 1).toNat=i + m:=by left
  rw[this]
 rw[e]
 have:=pick_run xs i k
 rw[ue8] at this
 have e2:((λ x=>xs[x]?) ∘ λ x=>i + x)=λ m=>xs[i + m]?:=rfl
 rw[e2] at this
 rw[this]
theorem zdr {t sl:Addr} {items:Array Value} {vl vu:Value} {lo hi:Option Int} {Q:Value->Shared->Prop} (ht:IsTup s.heap t items) (hs:s.heap.IsSliceOf sl vl vu .none) (pl:IsPart vl lo) (pu:IsPart vu hi)
  (hw:¬ (sIx items.size 0 lo=0/\sIx items.size items.size hi=items.size))
  (h:Q (.ref s.heap.objs.size) { s with heap:=s.heap.push { cls:=.type "tuple",data:=.seq ((items.toList.drop (sIx items.size 0 lo)).take (sIx items.size items.size hi - sIx items.size 0 lo)).toArray } })
  (hsz:items.size<=sizeLine):wpAny (model prog w) A (getItem (.ref t) (.ref sl)) Q E s:=by
 have htake:sizeOk (.seq ((items.toList.drop (sIx items.size 0 lo)).take (sIx items.size items.size hi - sIx items.size 0 lo)).toArray):=by
  show ((items.toList.drop (sIx items.size 0 lo)).take (sIx items.size items.size hi - sIx items.size 0 lo)).toArray.size<=sizeLine
  rw[uak,uc1,udl,ub0]
  left
 have hj:sIx items.size items.size hi<=items.size:=ztb _ _ (uai _) hi
 obtain⟨os,hos,hcs,hds⟩:=id hs
 have hTs:s.TypeIs (.ref sl) "slice":=⟨os,hos,hcs⟩
 unfold getItem
 try with_reducible refine ubk ?_
 first | refine uab (uah ?_) | skip
 refine uab (wpAny_sequenceKey ht.typeIs (by decide) ?_)
 refine uab (ubl (name:=Str.ofString "__getitem__") ht.typeIs ub6
  (ubi ub6 ht.typeIs entry_tuple_getitem ?_ (args_tuple_getitem _ _)))
 show wpAny _ _ (Builtin.Tuple.tupleItemsOf (.ref t) >>= _) _ _ s
 refine uab (tupleItemsOf_ ht ?_)
 refine uab (ufi hTs ?_)
 rw[if_pos (by decide)]
 refine uab (zco hs pl pu ?_)
 have hno:¬ ((((sIx items.size 0 lo:Nat):Int) == 0 && (1:Int) == 1 && (sIx items.size items.size hi - sIx items.size 0 lo) == items.size)=true):=by
  intro q
  rw[ubv,ubv] at q
  have q1:((sIx items.size 0 lo:Nat):Int)=0:=eq_of_beq q.1.1
  have q2:sIx items.size items.size hi - sIx items.size 0 lo=items.size:=eq_of_beq q.2
  exact hw ⟨by left,by left⟩
 show wpAny _ _ (if (((sIx items.size 0 lo:Nat):Int) == 0 && (1:Int) == 1 && (sIx items.size items.size hi - sIx items.size 0 lo) == items.size)=true then _ else _) _ _ s
 rw[if_neg hno,zpu]
 first
  | exact uab (m:=Builtin.Tuple.tupleExact _) (ubx (uah ⟨_,rfl,uah h⟩) htake)
  | exact uab (m:=Builtin.Tuple.tupleExact _) (ubx (uab (uah (uah ⟨_,rfl,uah h⟩))) htake)
  | exact uab (uab (m:=Builtin.Tuple.tupleExact _) (ubx (uah (uah ⟨_,rfl,uah h⟩)) htake))
  | exact uab (uab (m:=Builtin.Tuple.tupleExact _) (ubx (uah ⟨_,rfl,uah h⟩) htake))
end
end HT
namespace L2
open PySem PySem.Spec PyProof.Rows
abbrev TO:=St->Hp->(Option Int->Hp->Prop)->Prop
def PO (X:Cx) (e:Option Expr) (t:TO):Prop :=
 ∀ (pins:List (Addr × Obj)) (s:Shared) (σ:St) (H:Hp) (Q:Option Int->Hp->Prop),Inv X pins σ H s->t σ H Q ->
  wpAny (model X.prog X.w) X.A (evalPart e X.env) (λ u s'=>∃ o H',Inv X pins σ H' s'/\IsPart u o/\Q o H') X.xe s
def tNoPart:TO:=λ _ H Q=>Q none H
def tPart (t:TE):TO:=λ σ H Q=>t σ H λ x H1=>EInt x λ i=>Q (some i) H1
theorem zbh {ns:List Int}:∀ {us:List Value},Vals (ns.map V.int) us->IntsAre us ns:=by
 induction ns with
 | nil=>intro us r;rw[List.map_nil] at r;cases r;exact .nil
 | cons n ns ih =>
  intro us r
  rw[ucq] at r
  cases r with
  | cons r1 r2 =>
   obtain⟨t,e⟩:=r1
   subst e
   exact .cons n t (ih r2)
section
variable {X:Cx} {e:Expr} {te:TE} {lo hi:Option Expr} {tl th:TO} {pos p2:Pos}
theorem zg1:PO X none tNoPart:=by
 intro pins s σ H Q I h
 rw[evalPart_none]
 exact uah ⟨none,H,I,.none,h⟩
theorem zg0 (h:PE X e te):PO X (some e) (tPart te):=by
 intro pins s σ H Q I hw
 rw[evalPart_some]
 refine thn (h pins s σ H _ I hw) λ u s1 ⟨x,H1,I1,r1,q1⟩=>?_
 obtain⟨i,rfl,q⟩:=q1
 obtain⟨t,rfl⟩:=r1
 exact⟨some i,H1,I1,.int i t,q⟩
def SlR (X:Cx) (r:V->Option Int->Option Int->Hp->VK->Prop):Prop :=
 ∀ (pins:List (Addr × Obj)) (s:Shared) (σ:St) (H:Hp) (x:V) (v vl vu:Value) (lo hi:Option Int) (sl:Addr) (Q:VK),Inv X pins σ H s->RelV x v->s.heap.IsSliceOf sl vl vu .none->IsPart vl lo->IsPart vu hi->r x lo hi H Q ->
  ∃ T id,typeLookup (.type T) "__getitem__"=pure (some (.builtin id))/\s.TypeIs v T/\wpAny (model X.prog X.w) X.A (getItem v (.ref sl)) (EP X pins σ Q) X.xe s
def tSl (r:V->Option Int->Option Int->Hp->VK->Prop) (te:TE) (tl th:TO):TE:=λ σ H Q=>te σ H λ x H1=>tl σ H1 λ l H2=>th σ H2 λ u H3=>r x l u H3 Q
theorem zei {r:V->Option Int->Option Int->Hp->VK->Prop} (hr:SlR X r) (he:PE X e te) (hl:PO X lo tl) (hu:PO X hi th):PE X (.Subscript e (.Slice lo hi none p2) pos) (tSl r te tl th):=by
 intro pins s σ H Q I h
 refine Subscript_ (thn (he pins s σ H _ I h) λ v s1 ⟨x,H1,I1,r1,q1⟩=>?_)
 refine wpAny_Slice (thn (hl pins s1 σ H1 _ I1 q1) λ vl s2 ⟨l,H2,I2,pl,q2⟩=>thn (hu pins s2 σ H2 _ I2 q2) λ vu s3 ⟨u,H3,I3,pu,q3⟩=>?_)
 rw[evalPart_none]
 refine uah ?_
 have I4:Inv X pins σ H3 { s3 with heap:=s3.heap.push { cls:=.type "slice",data:=.fields #[vl,vu,.none] } }:=I3.kept (t':=s3.toks) λ b ob q=>Heap.get?_push_of_some _ q
 obtain⟨T,id,hT,ht,hg⟩:=hr pins { s3 with heap:=s3.heap.push { cls:=.type "slice",data:=.fields #[vl,vu,.none] } } σ H3 x v vl vu l u s3.heap.objs.size Q I4 r1 (Heap.IsSliceOf.new ..) pl pu q3
 show wpAny (model X.prog X.w) X.A (subscriptTail e (.Slice lo hi none p2) v (.ref s3.heap.objs.size)) (EP X pins σ Q) X.xe { s3 with heap:=s3.heap.push { cls:=.type "slice",data:=.fields #[vl,vu,.none] } }
 exact tail_any (ops:=[.ref s3.heap.objs.size,v]) ht hT hg (by with_unfolding_all rfl)
def cutV (xs:List V) (lo hi:Option Int):List V:=(xs.drop (HT.sIx xs.length 0 lo)).take (HT.sIx xs.length xs.length hi - HT.sIx xs.length 0 lo)
theorem zkj (xs:List V) (lo hi:Option Int):(cutV xs lo hi).length<=xs.length:=by
 unfold cutV
 rw[uc1,udl]
 left
inductive rSlT_i (K:uac) (x:V) (lo:Option Int) (hi:Option Int) (H:Hp) (Q:VK):Prop
 | mk:∀ a xs,(x=.ref a)->(SqT K H a xs)->(¬ (HT.sIx xs.length 0 lo=0/\HT.sIx xs.length xs.length hi=xs.length))->(∀ p,H p=none->Q (.ref p) (upd H p (.tup (cutV xs lo hi))))->rSlT_i K x lo hi H Q
def rSlT (K:uac):V->Option Int->Option Int->Hp->VK->Prop:=λ x lo hi H Q=>rSlT_i K x lo hi H Q
theorem zta:SlR X (rSlT X.K):=by
 intro pins s σ H x v vl vu lo hi sl Q I rx hs pl pu h
 obtain⟨a,xs,rfl,hx,hw,q⟩:=h
 cases rx
 obtain⟨its,r,ht,hz⟩:=I.tuple hx
 have hlen:its.toArray.size=xs.length:=by rw[uak];exact r.length.symm
 refine⟨"tuple",_,ub6.lookup,ht.typeIs,?_⟩
 refine HT.zdr ht hs pl pu (by rw[hlen];exact hw) ?_ (by rw[hlen];exact hz)
 rw[hlen]
 refine⟨.ref s.heap.objs.size,_,I.laid (t':=s.toks) (o:=.tup (cutV xs lo hi)) (λ b ob q=>Heap.get?_push_of_some _ q) (uai _) ?_,rfl,q _ (I.hok.fresh (uai _))⟩
 exact⟨ua9 (zkj xs lo hi) hz,_,(r.drop (HT.sIx xs.length 0 lo)).take (HT.sIx xs.length xs.length hi - HT.sIx xs.length 0 lo),TupN.new _ _⟩
inductive rLtT_i (K:uac) (x:V) (y:V) (H:Hp) (Q:VK):Prop
 | mk:∀ a b ns ms,(x=.ref a)->(y=.ref b)->(SqT K H a (ns.map V.int))->(SqT K H b (ms.map V.int))->(Q (.bl (HT.lexLt ns ms)) H)->rLtT_i K x y H Q
def rLtT (K:uac):R2:=λ x y H Q=>rLtT_i K x y H Q
theorem ztl (hu:X.A.units < cLine):OpR X (compareOp .Lt) (rLtT X.K):=by
 intro pins s σ H x y v u Q I rx ry h
 obtain⟨a,b,ns,ms,rfl,rfl,ha,hb,q⟩:=h
 cases rx
 cases ry
 obtain⟨its,r1,p1,_⟩:=I.tuple ha
 obtain⟨its2,r2,p2,_⟩:=I.tuple hb
 have i1:IntsAre its.toArray.toList ns:=zbh r1
 have i2:IntsAre its2.toArray.toList ms:=zbh r2
 exact HT.zmk p1 p2 i1 i2 hu ⟨.bl (HT.lexLt ns ms),H,I,rfl,q⟩
inductive rCatT_i (K:uac) (x:V) (y:V) (H:Hp) (Q:VK):Prop
 | mk:∀ a b xs ys,(x=.ref a)->(y=.ref b)->(SqT K H a xs)->(SqT K H b ys)->(xs≠[])->(xs.length + ys.length<=sizeLine)->((ys=[]->Q (.ref a) H))->((ys≠[]->∀ p,H p=none->Q (.ref p) (upd H p (.tup (xs++ys)))))->rCatT_i K x y H Q
def rCatT (K:uac):R2:=λ x y H Q=>rCatT_i K x y H Q
theorem Vals.nil_iff {xs:List V} {us:List Value} (r:Vals xs us):us=[]↔xs=[]:=by
 cases r with
 | nil=>simp
 | cons _ _=>simp
theorem zsg:OpR X (binaryOp .Add) (rCatT X.K):=by
 intro pins s σ H x y v u Q I rx ry h
 obtain⟨a,b,xs,ys,rfl,rfl,ha,hb,hx,hz,q1,q2⟩:=h
 cases rx
 cases ry
 obtain⟨its,r1,p1,_⟩:=I.tuple ha
 obtain⟨its2,r2,p2,_⟩:=I.tuple hb
 refine HT.zsz p1 p2 (λ z=>hx (r1.nil_iff.mp z)) (λ z=>⟨.ref a,H,I,rfl,q1 (r2.nil_iff.mp z)⟩) (λ z=>?_) (by rw[← r1.length,← r2.length];exact hz)
 refine⟨.ref s.heap.objs.size,_,I.laid (t':=s.toks) (o:=.tup (xs++ys)) (λ b ob q=>Heap.get?_push_of_some _ q) (uai _) ?_,rfl,q2 (λ w=>z (r2.nil_iff.mpr w)) _ (I.hok.fresh (uai _))⟩
 exact⟨by rw[uaj];exact hz,_,r1.append r2,TupN.new _ _⟩
end
end L2
namespace L2
open PySem PySem.Spec PyProof.Rows
def ixN (n:Nat) (i:Int):Option Nat:=if 0<=i then (if i < n then some i.toNat else none) else if -(n:Int)<=i then some (i + n).toNat else none
def atI {α:Type} (xs:List α) (i:Int):Option α:=(ixN xs.length i).bind λ j=>xs[j]?
theorem zfl {n:Nat} {i:Int} {j:Nat} (h:ixN n i=some j):seqIndex? i n=some j/\j < n/\-(n:Int)<=i/\i < n:=by
 unfold ixN at h
 by_cases h0:0<=i
 ·rw[if_pos h0] at h
  by_cases h1:i < n
  ·rw[if_pos h1] at h
   have e:i.toNat=j:=uau h
   exact⟨by rw[seqIndex_of h0 h1,e],by left,by left,h1⟩
  ·rw[if_neg h1] at h;cases h
 ·rw[if_neg h0] at h
  by_cases h1:-(n:Int)<=i
  ·rw[if_pos h1] at h
   have e:(i + n).toNat=j:=uau h
   exact⟨by rw[seqIndex_neg (by left) h1,e],by left,h1,by left⟩
  ·rw[if_neg h1] at h;cases h
theorem zo7 {α:Type} {xs:List α} {i:Int} {v:α} (h:atI xs i=some v):∃ j,seqIndex? i xs.length=some j/\xs[j]?=some v/\j < xs.length/\-(xs.length:Int)<=i/\i < xs.length:=by
 unfold atI at h
 cases e:ixN xs.length i with
 | none=>rw[e] at h;cases h
 | some j =>
  rw[e] at h
  obtain⟨h1,h2,h3,h4⟩:=zfl e
  exact⟨j,h1,h,h2,h3,h4⟩
theorem zo6 {α:Type} {xs:List α} {j:Nat} {v:α} (h:xs[j]?=some v):atI xs (j:Int)=some v:=by
 have hj:j < xs.length:=(uan.mp h).1
 have e:ixN xs.length (j:Int)=some j:=by
  unfold ixN
  rw[if_pos (by left),if_pos (by left)];simp
 unfold atI;rw[e];exact h
theorem zl2 {α:Type} (xs:List α) (v:α):atI (xs++[v]) (-1)=some v:=by
 have hl:(xs++[v]).length=xs.length + 1:=by simp
 have e:ixN (xs++[v]).length (-1)=some xs.length:=by
  unfold ixN
  rw[hl,if_neg (by decide),if_pos (by left)]
  congr 1
  left
 unfold atI
 rw[e]
 show (xs++[v])[xs.length]?=some v
 simp
def PlainIx (b:Expr):Prop:=∀ o i,subscripted b false o i=operate [o,i] (getItem o i)
def IxR (X:Cx) (r:R2):Prop :=
 ∀ (value slice:Expr) (pins:List (Addr × Obj)) (s:Shared) (σ:St) (H:Hp) (x y:V) (v u:Value) (Q:VK),Inv X pins σ H s->RelV x v->RelV y u->r x y H Q ->
  subscripted slice false v u=operate [v,u] (getItem v u)->wpAny (model X.prog X.w) X.A (subscriptTail value slice v u) (EP X pins σ Q) X.xe s
def MtR (X:Cx) (id:String) (r:V->List V->Hp->VK->Prop):Prop :=
 ∀ (pins:List (Addr × Obj)) (s:Shared) (σ:St) (H:Hp) (x:V) (xs:List V) (v:Value) (us:List Value) (Q:VK),Inv X pins σ H s->RelV x v->Vals xs us->r x xs H Q ->
  wpAny (model X.prog X.w) X.A (call (.builtin id) (v::us)) (EP X pins σ Q) X.xe s
section
variable {X:Cx} {a b:Expr} {ta tb:TE} {pos:Pos}
theorem zar {r:R2} (hr:IxR X r) (ha:PE X a ta) (hb:PE X b tb) (hs:PlainIx b):PE X (.Subscript a b pos) (tOp r ta tb):=by
 intro pins s σ H Q I h
 exact Subscript_ (binT ha hb I h λ v u s2 x y H2 I2 rx ry q=>hr a b pins s2 σ H2 x y v u Q I2 rx ry q (hs _ _))
inductive rIxL_i (K:uac) (x:V) (y:V) (H:Hp) (Q:VK):Prop
 | mk:∀ p xs i v,(x=.ref p)->(y=.int i)->(SqL K H p xs)->(atI xs i=some v)->(Q v H)->rIxL_i K x y H Q
def rIxL (K:uac):R2:=λ x y H Q=>rIxL_i K x y H Q
inductive rIxT_i (K:uac) (x:V) (y:V) (H:Hp) (Q:VK):Prop
 | mk:∀ p xs i v,(x=.ref p)->(y=.int i)->(SqT K H p xs)->(atI xs i=some v)->(Q v H)->rIxT_i K x y H Q
def rIxT (K:uac):R2:=λ x y H Q=>rIxT_i K x y H Q
theorem zau:IxR X (rIxL X.K):=by
 intro value slice pins s σ H x y v u Q I rx ry h hs
 obtain⟨p,xs,i,z,rfl,rfl,hq,he,q⟩:=h
 cases rx
 obtain⟨t,rfl⟩:=ry
 obtain⟨its,r,pl,hz⟩:=I.list hq
 obtain⟨j,h1,h2,h3,h4,h5⟩:=zo7 he
 obtain⟨w,ew,rw'⟩:=r.get h2
 have hl:=r.length
 have hn:=line63
 have fin:EP X pins σ Q w s:=⟨z,H,I,rw',q⟩
 by_cases h0:0<=i
 ·have hj:i.toNat=j:=by
   rw[seqIndex_of h0 h5] at h1
   exact uau h1
  exact item_listR pl.isList h0 (by left) (by rw[hj];simpa using ew) fin hs
 ·have hj:(i + (its.toArray.size:Int)).toNat=j:=by
   rw[seqIndex_neg (by left) h4] at h1
   rw[uak,← hl]
   exact uau h1
  exact subscriptTail_builtinR (x:=w) pl.isList.typeIs slot_list_getitem.lookup
   (wpAny_getItem_list_neg (Q:=λ r s'=>r=w/\EP X pins σ Q r s') pl.isList (by left) (by rw[uak] <;> left) (by left) (by rw[hj];simpa using ew) ⟨rfl,fin⟩) hs
theorem za5:IxR X (rIxT X.K):=by
 intro value slice pins s σ H x y v u Q I rx ry h hs
 obtain⟨p,xs,i,z,rfl,rfl,hq,he,q⟩:=h
 cases rx
 obtain⟨t,rfl⟩:=ry
 obtain⟨its,r,pl,hz⟩:=I.tuple hq
 obtain⟨j,h1,h2,h3,h4,h5⟩:=zo7 he
 obtain⟨w,ew,rw'⟩:=r.get h2
 have hl:=r.length
 have hn:=line63
 have fin:EP X pins σ Q w s:=⟨z,H,I,rw',q⟩
 exact subscriptTail_builtinR (x:=w) pl.typeIs slot_tuple_getitem.lookup
  (getItem_tuple (j:=j) (Q:=λ r s'=>r=w/\EP X pins σ Q r s') pl (by left) (by left) (by rw[uak,← hl];exact h1) (by simpa using ew) ⟨rfl,fin⟩) hs
theorem zmj (its:List Value) (n j:Nat) (u:Value):Obj.mapSeq (·.setIfInBounds j u) { cls:=.type "list",data:=.seq its.toArray n }={ cls:=.type "list",data:=.seq (its.set j u).toArray n }:=by
 simp [Obj.mapSeq]
theorem Inv.lst {pins:List (Addr × Obj)} {σ:St} {H:Hp} {s:Shared} {p:Addr} {xs:List V} (I:Inv X pins σ H s) (h:H p=some (.lst xs)) :
  ∃ (its:List Value) (n:Nat),Vals xs its/\s.heap.get? p=some { cls:=.type "list",data:=.seq its.toArray n }/\xs.length<=sizeLine:=by
 obtain⟨z,its,n,r,e⟩:=I.hok p _ h
 exact⟨its,n,r,e,z⟩
theorem Inv.lstUpd {pins:List (Addr × Obj)} {σ:St} {H:Hp} {s:Shared} {p:Addr} {xs ys:List V} {its its':List Value} {n n':Nat} {f:Obj->Obj} (I:Inv X pins σ H s) (h:H p=some (.lst xs))
  (ho:s.heap.get? p=some { cls:=.type "list",data:=.seq its.toArray n }) (hf:f { cls:=.type "list",data:=.seq its.toArray n }={ cls:=.type "list",data:=.seq its'.toArray n' }) (r:Vals ys its') (hz:ys.length<=sizeLine) (t:Nat) :
  Inv X pins σ (upd H p (.lst ys)) { s with heap:=s.heap.update p f,toks:=t }:=by
 have e:(s.heap.update p f).get? p=some { cls:=.type "list",data:=.seq its'.toArray n' }:=by
  rw[Heap.get?_update_self f ho (by rw[hf] <;> rfl),hf]
 refine I.write (x:=p) (e:=p) (by rw[h];trivial) (.inl rfl) (λ b u hb q=>(Heap.get?_update_other _ _ (Ne.symm hb)).trans q) ⟨_,e⟩ ?_
 exact⟨hz,its',n',r,e⟩
inductive rSetL_i  (o:V) (i:V) (v:V) (H:Hp) (Q:Hp->Prop):Prop
 | mk:∀ p xs k j,(o=.ref p)->(i=.int k)->(H p=some (.lst xs))->(ixN xs.length k=some j)->(Q (upd H p (.lst (xs.set j v))))->rSetL_i o i v H Q
def rSetL :V->V->V->Hp->(Hp->Prop)->Prop:=λ o i v H Q=>rSetL_i o i v H Q
theorem zb3:PSet X rSetL:=by
 intro pins s σ H o i v ov iv u Q I ro ri rv h
 obtain⟨p,xs,k,j,rfl,rfl,hp,hj,q⟩:=h
 cases ro
 obtain⟨t,rfl⟩:=ri
 obtain⟨its,n,r,ho,hz⟩:=I.lst hp
 obtain⟨h1,h2,h3,h4⟩:=zfl hj
 have hl:=r.length
 have hn:=line63
 have I':Inv X pins σ (upd H p (.lst (xs.set j v))) { s with heap:=s.heap.update p (Obj.mapSeq (·.setIfInBounds j u)) } :=
  I.lstUpd hp ho (zmj its n j u) (r.set rv j) (by rw[ucb];exact hz) s.toks
 by_cases h0:0<=k
 ·have hk:k.toNat=j:=by
   rw[seqIndex_of h0 h4] at h1
   exact uau h1
  exact PySem.W.ki_setAt ho h0 (by left) (by rw[uak,← hl];exact h4) (by rw[hk];exact⟨_,I',q⟩)
 ·have hk:(k + (its.toArray.size:Int)).toNat=j:=by
   rw[seqIndex_neg (by left) h3] at h1
   rw[uak,← hl]
   exact uau h1
  exact PySem.W.ki_setBack ho (by left) (by rw[uak,← hl];exact h3) (by left) (by rw[hk];exact⟨_,I',q⟩)
def flatV:V->Bool
 | .non=>true
 | .bl _=>true
 | .int _=>true
 | .str _=>true
 | _=>false
def eqV:V->V->Bool
 | .non,.non=>true
 | .bl a,.bl b=>a == b
 | .bl a,.int b=>(if a then 1 else 0) == b
 | .int a,.bl b=>a == (if b then 1 else 0)
 | .int a,.int b=>a == b
 | .str a,.str b=>a == b
 | _,_=>false
theorem zty {A:Around} {s:Shared} {y x:V} {u v:Value} (ry:RelV y u) (rx:RelV x v) (fy:flatV y=true) (fx:flatV x=true):SeqAt.EqAt A s u v (eqV y x):=by
 cases y with
 | non =>
  cases ry
  cases x with
  | non=>cases rx;exact SeqAt.EqAt.same _
  | bl b=>cases rx;exact SeqAt.EqAt.none_bool b
  | int b=>obtain⟨t,rfl⟩:=rx;exact SeqAt.EqAt.none_int b t
  | str b=>obtain⟨t,rfl⟩:=rx;exact SeqAt.EqAt.none_str b t
  | _=>exact absurd (show false=true from fx) uas
 | bl a =>
  cases ry
  cases x with
  | non=>cases rx;exact SeqAt.EqAt.bool_none a
  | bl b=>cases rx;exact SeqAt.EqAt.bool_bool a b
  | int b=>obtain⟨t,rfl⟩:=rx;exact SeqAt.EqAt.bool_int a b t
  | str b=>obtain⟨t,rfl⟩:=rx;exact SeqAt.EqAt.bool_str a b t
  | _=>exact absurd (show false=true from fx) uas
 | int a =>
  obtain⟨t',rfl⟩:=ry
  cases x with
  | non=>cases rx;exact SeqAt.EqAt.int_none a t'
  | bl b=>cases rx;exact SeqAt.EqAt.int_bool a t' b
  | int b=>obtain⟨t,rfl⟩:=rx;exact SeqAt.EqAt.int_int a t' b t
  | str b=>obtain⟨t,rfl⟩:=rx;exact SeqAt.EqAt.int_str a t' b t
  | _=>exact absurd (show false=true from fx) uas
 | str a =>
  obtain⟨t',rfl⟩:=ry
  cases x with
  | non=>cases rx;exact SeqAt.EqAt.str_none a t'
  | bl b=>cases rx;exact SeqAt.EqAt.str_bool a t' b
  | int b=>obtain⟨t,rfl⟩:=rx;exact SeqAt.EqAt.str_int a t' b t
  | str b=>obtain⟨t,rfl⟩:=rx;exact SeqAt.EqAt.str_str a t' b t
  | _=>exact absurd (show false=true from fx) uas
 | _=>exact absurd (show false=true from fy) uas
def eqU (x:V) (u:Value):Bool:=match u with
 | .none=>eqV .non x
 | .bool b=>eqV (.bl b) x
 | .int i _=>eqV (.int i) x
 | .str z _=>eqV (.str z) x
 | _=>false
theorem zrk {x y:V} {u:Value} (r:RelV y u) (f:flatV y=true):eqU x u=eqV y x:=by
 cases y with
 | non=>cases r;rfl
 | bl b=>cases r;rfl
 | int i=>obtain⟨t,rfl⟩:=r;rfl
 | str z=>obtain⟨t,rfl⟩:=r;rfl
 | _=>exact absurd (show false=true from f) uas
theorem zfx {x:V}:∀ {xs:List V} {us:List Value},Vals xs us->xs.all flatV=true->us.any (eqU x)=xs.any λ y=>eqV y x
 | _,_,.nil,_=>rfl
 | y::xs,u::us,.cons r t,f=>by
  rw[List.all_cons,ubv] at f
  rw[ufm,ufm,zrk r f.1,zfx t f.2]
theorem zdf {A:Around} {s:Shared} {x:V} {v:Value} (rx:RelV x v) (fx:flatV x=true):∀ {xs:List V} {us:List Value},Vals xs us->xs.all flatV=true->∀ u ∈ us,SeqAt.EqAt A s u v (eqU x u)
 | _,_,.nil,_=>λ u hu=>by cases hu
 | y::xs,u::us,.cons r t,f=>λ u' hu=>by
  rw[List.all_cons,ubv] at f
  rcases uar.mp hu with rfl | hu
  ·rw[zrk r f.1];exact zty r rx f.1 fx
  ·exact zdf rx fx t f.2 u' hu
def inV (x:V) (xs:List V):Bool:=xs.any λ y=>eqV y x
inductive rIn_i (K:uac) (neg:Bool) (x:V) (y:V) (H:Hp) (Q:VK):Prop
 | mk:∀ p xs,(y=.ref p)->((SqL K H p xs\/SqT K H p xs))->(flatV x=true)->(xs.all flatV=true)->(Q (.bl (if neg then !inV x xs else inV x xs)) H)->rIn_i K neg x y H Q
def rIn (K:uac) (neg:Bool):R2:=λ x y H Q=>rIn_i K neg x y H Q
theorem zir:OpR X (compareOp .In) (rIn X.K false):=by
 intro pins s σ H x y v u Q I rx ry h
 obtain⟨p,xs,rfl,hq,fx,fs,q⟩:=h
 cases ry
 rcases hq with hq | hq
 ·obtain⟨its,r,pl,hz⟩:=I.list hq
  refine SeqAt.in_listAt (eqU x) pl.isList (λ w hw=>zdf rx fx r fs w (by simpa using hw)) ⟨.bl _,H,I,rfl,?_⟩
  rw[show its.toArray.any (eqU x)=its.any (eqU x) by simp,zfx r fs]
  exact q
 ·obtain⟨its,r,pl,hz⟩:=I.tuple hq
  refine SeqAt.in_tupleAt (eqU x) pl (λ w hw=>zdf rx fx r fs w (by simpa using hw)) ⟨.bl _,H,I,rfl,?_⟩
  rw[show its.toArray.any (eqU x)=its.any (eqU x) by simp,zfx r fs]
  exact q
theorem ziq:OpR X (compareOp .NotIn) (rIn X.K true):=by
 intro pins s σ H x y v u Q I rx ry h
 obtain⟨p,xs,rfl,hq,fx,fs,q⟩:=h
 cases ry
 rcases hq with hq | hq
 ·obtain⟨its,r,pl,hz⟩:=I.list hq
  refine SeqAt.notIn_listAt (eqU x) pl.isList (λ w hw=>zdf rx fx r fs w (by simpa using hw)) ⟨.bl _,H,I,rfl,?_⟩
  rw[show its.toArray.any (eqU x)=its.any (eqU x) by simp,zfx r fs]
  exact q
 ·obtain⟨its,r,pl,hz⟩:=I.tuple hq
  refine SeqAt.notIn_tupleAt (eqU x) pl (λ w hw=>zdf rx fx r fs w (by simpa using hw)) ⟨.bl _,H,I,rfl,?_⟩
  rw[show its.toArray.any (eqU x)=its.any (eqU x) by simp,zfx r fs]
  exact q
inductive call_len_seq_i (K:uac) (xs:List V) (H:Hp) (Q:VK):Prop
 | mk:∀ p ys,(xs=[.ref p])->((SqL K H p ys\/SqT K H p ys))->(Q (.int ys.length) H)->call_len_seq_i K xs H Q
theorem zay:CallR X (.builtin "len") (call_len_seq_i X.K):=by
 intro pins s σ H xs us Q I r h
 obtain⟨p,ys,rfl,hq,q⟩:=h
 obtain⟨u,rfl,rx⟩:=vals1 r
 cases rx
 have hn:=line63
 rcases hq with hq | hq
 ·obtain⟨its,r',pl,hz⟩:=I.list hq
  have hlen:=r'.length
  exact Calls.call_len_list pl.isList (by simp only [uak] <;> left) ⟨.int ys.length,H,I.tok _,⟨s.toks + 1,by rw[uak,hlen]⟩,q⟩
 ·obtain⟨its,r',pl,hz⟩:=I.tuple hq
  have hlen:=r'.length
  exact len_tuple pl (by simp only [uak] <;> left) ⟨.int ys.length,H,I.tok _,⟨s.toks + 1,by rw[uak,hlen]⟩,q⟩
inductive call_list_of_i (K:uac) (xs:List V) (H:Hp) (Q:VK):Prop
 | mk:∀ p ys,(xs=[.ref p])->((SqL K H p ys\/SqT K H p ys))->(∀ l,H l=none->Q (.ref l) (upd H l (.lst ys)))->call_list_of_i K xs H Q
theorem zd5:CallR X (.type "list") (call_list_of_i X.K):=by
 intro pins s σ H xs us Q I r h
 obtain⟨p,ys,rfl,hq,q⟩:=h
 obtain⟨u,rfl,rx⟩:=vals1 r
 cases rx
 have fin : ∀ (its : List Value), Vals ys its → ys.length <= sizeLine → ∀ (h' : Heap) (c' : Nat), (∀ b o', s.heap.get? b = some o' → h'.get? b = some o') →
     h'.get? s.heap.objs.size=some { cls:=.type "list",dict:=none,data:=.seq its.toArray c',slots:=#[] }->EP X pins σ Q (.ref s.heap.objs.size) { s with heap:=h' }:=λ its r' hz h' c' kp e =>
  ⟨.ref s.heap.objs.size,_,I.laid (t':=s.toks) kp (uai _) (show ObjOk X.prog X.w _ h' _ (.lst ys) from ⟨hz,its,c',r',e⟩),rfl,q _ (I.hok.fresh (uai _))⟩
 rcases hq with hq | hq
 ·obtain⟨its,r',pl,hz⟩:=I.list hq
  have hlen:=r'.length
  obtain⟨o,ho,hc,n,hd⟩:=pl.isList
  exact call_list_seq p (.inl rfl) ho hc hd (λ h' c' kp e=>fin its r' hz h' c' kp e) (by simp only [uak] <;> left)
 ·obtain⟨its,r',pl,hz⟩:=I.tuple hq
  have hlen:=r'.length
  obtain⟨o,ho,hc,n,hd⟩:=pl
  exact call_list_seq p (.inr rfl) ho hc hd (λ h' c' kp e=>fin its r' hz h' c' kp e) (by simp only [uak] <;> left)
inductive call_tuple_of_i (K:uac) (xs:List V) (H:Hp) (Q:VK):Prop
 | mk:∀ p ys,(xs=[.ref p])->(((SqL K H p ys/\∀ l,H l=none->Q (.ref l) (upd H l (.tup ys)))\/(SqT K H p ys/\Q (.ref p) H)))->call_tuple_of_i K xs H Q
theorem zdh:CallR X (.type "tuple") (call_tuple_of_i X.K):=by
 intro pins s σ H xs us Q I r h
 obtain⟨p,ys,rfl,h⟩:=h
 obtain⟨u,rfl,rx⟩:=vals1 r
 cases rx
 rcases h with ⟨hq,q⟩ | ⟨hq,q⟩
 ·obtain⟨its,r',pl,hz⟩:=I.list hq
  have hlen:=r'.length
  refine call_tuple_list pl.isList (λ h' kp=>?_) (by simp only [uak] <;> left)
  have I1:Inv X pins σ H { s with heap:=h' }:=I.kept (t':=s.toks) kp
  have I2:Inv X pins σ (upd H h'.objs.size (.tup ys)) { s with heap:=h'.push { cls:=.type "tuple",data:=.seq its.toArray } } :=
   I1.laid (t':=s.toks) (λ b o e=>Heap.get?_push_of_some _ e) (uai _) (show ObjOk X.prog X.w _ _ _ (.tup ys) from ⟨hz,its,r',TupN.new _ _⟩)
  exact⟨.ref h'.objs.size,_,I2,rfl,q _ (I1.hok.fresh (uai _))⟩
 ·obtain⟨its,r',pl,hz⟩:=I.tuple hq
  exact call_tuple_same pl ⟨.ref p,H,I,rfl,q⟩
def tyV (K:uac) (T:String) (x:V) (H:Hp):Prop:=match x with
 | .str _=>T="str"
 | .int _=>T="int"
 | .ref p => (T = "list" /\ ∃ xs, SqL K H p xs) \/ (T = "tuple" /\ ∃ o, K.lookup p = some o /\ o.cls = .type "tuple" /\ o.dict = none) \/
     (T="dict"/\((∃ kvs,H p=some (.dK kvs))\/∃ kvs,H p=some (.dT kvs)))\/(T="set"/\∃ S n,H p=some (.set S n))
 | _=>False
theorem zs7 {pins:List (Addr × Obj)} {σ:St} {H:Hp} {s:Shared} {T:String} {x:V} {v:Value} (I:Inv X pins σ H s) (r:RelV x v) (ty:tyV X.K T x H) :
  s.TypeIs v T/\∀ a,v=.ref a->∃ ob,s.heap.get? a=some ob/\ob.dict=none:=by
 cases x with
 | str z =>
  obtain⟨t,rfl⟩:=r
  cases (show T="str" from ty)
  exact⟨typeIs_str s z t,λ _ e=>nomatch e⟩
 | int i =>
  obtain⟨t,rfl⟩:=r
  cases (show T="int" from ty)
  exact⟨typeIs_int s i t,λ _ e=>nomatch e⟩
 | ref p =>
  cases r
  rcases ty with ⟨rfl,xs,hq⟩ | ⟨rfl,o,hk,hc,hd⟩ | ⟨rfl,hk⟩ | ⟨rfl,S,n,hk⟩
  ·obtain⟨its,_,pl,_⟩:=I.list hq
   refine⟨pl.isList.typeIs,λ a e=>?_⟩
   cases e
   obtain⟨o,n,e,c,hd,_⟩:=pl
   exact⟨o,e,hd⟩
  ·refine⟨⟨o,I.kIn p o hk,hc⟩,λ a e=>?_⟩
   cases e
   exact⟨o,I.kIn _ o hk,hd⟩
  ·have z:∃ o,s.heap.get? p=some o/\o.ExactDict:=by
    rcases hk with ⟨kvs,hk⟩ | ⟨kvs,hk⟩
    ·obtain⟨_,_,_,_,o,_,_,e,ex,_⟩:=I.hok p _ hk
     exact⟨o,e,ex⟩
    ·obtain⟨_,_,_,_,o,_,_,e,ex,_⟩:=I.hok p _ hk
     exact⟨o,e,ex⟩
   obtain⟨o,e,ex⟩:=z
   refine⟨⟨o,e,ex.1⟩,λ a e2=>?_⟩
   cases e2
   exact⟨o,e,ex.2.1⟩
  ·obtain⟨o,_,_,_,e,ex,_⟩:=I.hok p _ hk
   refine⟨⟨o,e,ex.1⟩,λ a e2=>?_⟩
   cases e2
   exact⟨o,e,ex.2.1⟩
 | _=>exact False.elim ty
def tBM (K:uac) (T:String) (r:V->List V->Hp->VK->Prop) (to:TE) (t:TA):TE:=λ σ H Q=>to σ H λ x H1=>tyV K T x H1/\t σ H1 λ xs H2=>r x xs H2 Q
variable {o e:Expr} {es:List Expr} {to:TE} {t:TA} {name:Str} {apos cpos:Pos} {T id:String} {r:V->List V->Hp->VK->Prop}
theorem zb2 (pa:PlainAttrs T) (slot:Slot T name id) (hty:typeOf (.builtin id)=pure (.type "method_descriptor")) (hm:MtR X id r) (ho:PE X o to) (ha:PA X (e::es) t)
  (hbase:attributeBase o name X.env (eval o X.env)=eval o X.env:=by rfl)
  (hfew:((backTo cpos (starEach (e::es) X.env)).all (λ x=>!x.1) && (backToKw cpos (keywordEach [] X.env)).all (λ x=>x.1.isSome)
   && decide ((e::es).length + ([]:List Keyword).length + (if ([]:List Keyword).isEmpty then 0 else 1) < 30))=true:=by rfl)
  (hline:(apos.endLine == cpos.line)=true:=by rfl) (hs:starEach (e::es) X.env=(false,eval e X.env)::starEach es X.env:=by rfl) (hplain:(backTo cpos (starEach es X.env)).any (·.1)=false:=by rfl) :
  PE X (.Call (.Attribute o name apos) (e::es) [] cpos) (tBM X.K T r to t):=by
 intro pins s σ H Q I h
 refine wpAny_Call_method_late hbase hfew hline rfl (thn (ho pins s σ H _ I h) λ v s1 ⟨x,H1,I1,r1,ty,q1⟩=>?_)
 obtain⟨h1,h2⟩:=zs7 I1 r1 ty
 refine⟨T,id,pa,slot,hty,h1,h2,?_⟩
 have hA:=ha cpos pins s1 σ H1 _ I1 q1
 rw[hs] at hA ⊢
 refine Calls.callWith_builtin (by show (false || (backTo cpos (starEach es X.env)).any (·.1))=false;rw[hplain] <;> rfl) (Calls.evalArgs_plain ?_)
 exact thn hA λ us s2 ⟨vs,H2,I2,r2,q2⟩=>hm pins s2 σ H2 x vs v us Q I2 r1 r2 q2
end
end L2
namespace L2
open PySem PySem.Spec PyProof.Rows
def MtM (X:Cx) (id:String) (r:V->List V->Hp->VK->Prop):Prop :=
 ∀ (pins:List (Addr × Obj)) (s:Shared) (σ:St) (H:Hp) (x:V) (xs:List V) (v:Value) (us:List Value) (Q:VK),Inv X pins σ H s->RelV x v->Vals xs us->r x xs H Q ->
  wpAny (model X.prog X.w) X.A (call (.builtin id) (v::us)) (EP X pins σ Q) X.xe s
theorem Vals.one:∀ {x:V} {us:List Value},Vals [x] us->∃ u,us=[u]/\RelV x u
 | _,_,.cons r .nil=>⟨_,rfl,r⟩
theorem Vals.two:∀ {x y:V} {us:List Value},Vals [x,y] us->∃ u v,us=[u,v]/\RelV x u/\RelV y v
 | _,_,_,.cons r (.cons q .nil)=>⟨_,_,rfl,r,q⟩
theorem Vals.eraseIdx:∀ {xs:List V} {us:List Value} (i:Nat),Vals xs us->Vals (xs.eraseIdx i) (us.eraseIdx i)
 | _,_,_,.nil=>.nil
 | _,_,0,.cons _ t=>t
 | _,_,i + 1,.cons r t=>.cons r (Vals.eraseIdx i t)
theorem Vals.reverse {xs:List V} {us:List Value} (h:Vals xs us):Vals xs.reverse us.reverse:=by
 induction h with
 | nil=>exact .nil
 | cons r t ih=>rw[uel,uel];exact Vals.append ih (.cons r .nil)
theorem Vals.rep {xs:List V} {us:List Value} (h:Vals xs us):∀ k:Nat,Vals (uay k xs).flatten (uay k us).flatten
 | 0=>.nil
 | k + 1=>by
  rw[udg,udg,uem,uem]
  exact Vals.append h (Vals.rep h k)
theorem zi4 {α:Type}:∀ (l:List α) (i:Nat),(l.eraseIdx i).length<=l.length
 | [],_=>uai _
 | _::_,0=>uc2 _
 | _::r,i + 1=>ugs (zi4 r i)
theorem zi7 (its:List Value):∀ (k:Nat) (acc:List Value),
  List.foldl (λ x1 x2=>x1++x2) acc.toArray (uay k its.toArray)=(acc++(uay k its).flatten).toArray
 | 0,acc=>by simp
 | k + 1,acc=>by
  have e:acc.toArray++its.toArray=(acc++its).toArray:=by simp
  have e2:(acc++its)++(uay k its).flatten=acc++(uay (k + 1) its).flatten:=by
   rw[udg,uem,uce]
  rw[← e2,← zi7 its k (acc++its),← e,udg,List.foldl_cons]
section
variable {X:Cx} {pins:List (Addr × Obj)} {σ:St} {H:Hp} {s:Shared} {l b:Addr} {xs ys zs:List V}
theorem Inv.lset {its its':List Value} {n:Nat} {f:Array Value->Array Value} {t':Nat} (I:Inv X pins σ H s) (hH:H l=some (.lst xs))
  (e:s.heap.get? l=some { cls:=.type "list",data:=.seq its.toArray n }) (hf:f its.toArray=its'.toArray) (hv:Vals ys its') (hz:ys.length<=sizeLine) :
  Inv X pins σ (upd H l (.lst ys)) { s with heap:=s.heap.update l (Obj.mapSeq f),toks:=t' }:=by
 have q:=PySem.IsL.update e f
 rw[hf] at q
 refine I.write (x:=l) (e:=l) (by rw[hH];exact trivial) (.inl rfl) (λ b' u hb hu=>(Heap.get?_update_other s.heap (Obj.mapSeq f) (Ne.symm hb)).trans hu) ⟨_,q⟩ ?_
 exact⟨hz,its',_,hv,q⟩
theorem Inv.lnew {its:List Value} {t':Nat} (I:Inv X pins σ H s) (hv:Vals ys its) (hz:ys.length<=sizeLine) :
  Inv X pins σ (upd H s.heap.objs.size (.lst ys)) { s with heap:=s.heap.push { cls:=.type "list",data:=.seq its.toArray },toks:=t' } :=
 I.laid (λ _ _ q=>Heap.get?_push_of_some _ q) (uai _) ⟨hz,its,0,hv,Heap.get?_push_size _ rfl⟩
theorem Inv.fresh (I:Inv X pins σ H s):H s.heap.objs.size=none:=I.hok.fresh (uai _)
theorem Inv.lstM (I:Inv X pins σ H s) (hH:H l=some (.lst xs)):xs.length<=sizeLine/\∃ (its:List Value) (n:Nat),Vals xs its/\xs.length=its.length/\s.heap.get? l=some { cls:=.type "list",data:=.seq its.toArray n }:=by
 obtain⟨z,its,n,r,e⟩:=I.hok l _ hH
 exact⟨z,its,n,r,r.length,e⟩
theorem notLongL {n:Nat} (h:n<=sizeLine):Builtin.List.listTooLong n=false:=by
 unfold Builtin.List.listTooLong
 exact decide_eq_false (by left)
end
section
variable {X:Cx}
inductive rAppend_i  (x:V) (vs:List V) (H:Hp) (Q:VK):Prop
 | mk:∀ l xs y,(x=.ref l)->(vs=[y])->(H l=some (.lst xs))->(xs.length < sizeLine)->(Q .non (upd H l (.lst (xs++[y]))))->rAppend_i x vs H Q
def rAppend :V->List V->Hp->VK->Prop:=λ x vs H Q=>rAppend_i x vs H Q
theorem zct:MtM X "list.append" rAppend:=by
 intro pins s σ H x vs v us Q I rx rv h
 obtain⟨l,xs,y,rfl,rfl,hH,hz,q⟩:=h
 cases rx
 obtain⟨u,rfl,ru⟩:=rv.one
 obtain⟨z,its,n,r,hl,e⟩:=I.lstM hH
 refine ufv F.slot_list_append ⟨_,e,rfl⟩ F.entry_list_append (F.args_list_append_2 _ _) (PySem.list_append l its.toArray n u (by rw[uak];left)) ⟨e,?_⟩
 refine⟨.non,_,I.lset (its':=its++[u]) hH e (by simp) (r.append (.cons ru .nil)) ?_,rfl,q⟩
 rw[uaj,ubs]
 left
inductive rExtend_i  (x:V) (vs:List V) (H:Hp) (Q:VK):Prop
 | mk:∀ l b xs zs,(x=.ref l)->(vs=[.ref b])->(H l=some (.lst xs))->(H b=some (.lst zs))->(xs.length + zs.length<=sizeLine)->(Q .non (upd H l (.lst (xs++zs))))->rExtend_i x vs H Q
def rExtend :V->List V->Hp->VK->Prop:=λ x vs H Q=>rExtend_i x vs H Q
theorem zi1:MtM X "list.extend" rExtend:=by
 intro pins s σ H x vs v us Q I rx rv h
 obtain⟨l,b,xs,zs,rfl,rfl,hH,hB,hz,q⟩:=h
 cases rx
 obtain⟨u,rfl,ru⟩:=rv.one
 cases ru
 obtain⟨z,its,n,r,hl,e⟩:=I.lstM hH
 obtain⟨z2,its2,n2,r2,hl2,e2⟩:=I.lstM hB
 have hsz:its.toArray.size + its2.toArray.size<=sizeLine:=by rw[uak,uak];left
 have hlong:¬ (!its.toArray.isEmpty && Builtin.List.listTooLong (its.toArray.size + its2.toArray.size))=true:=by
  rw[notLongL hsz,uhb]
  exact uas
 refine ufv F.slot_list_extend ⟨_,e,rfl⟩ F.entry_list_extend (F.args_list_extend_2 _ _)
  (AutoSeq1.list_extend_list_list_0 l its.toArray n b its2.toArray n2 hlong (by rw[uak];left) (by left)) ⟨e,e2,?_⟩
 refine⟨.non,_,I.lset (its':=its++its2) hH e (by simp) (r.append r2) ?_,rfl,q⟩
 rw[uaj]
 left
inductive rPopAt_i  (x:V) (vs:List V) (H:Hp) (Q:VK):Prop
 | mk:∀ l xs i k y,(x=.ref l)->(vs=[.int i])->(H l=some (.lst xs))->(-(2 ^ 63)<=i)->(i < 2 ^ 63)->(seqIndex? i xs.length=some k)->(xs[k]?=some y)->(Q y (upd H l (.lst (xs.eraseIdx k))))->rPopAt_i x vs H Q
def rPopAt :V->List V->Hp->VK->Prop:=λ x vs H Q=>rPopAt_i x vs H Q
theorem zhb:MtM X "list.pop" rPopAt:=by
 intro pins s σ H x vs v us Q I rx rv h
 obtain⟨l,xs,i,k,y,rfl,rfl,hH,h1,h2,hk,hy,q⟩:=h
 cases rx
 obtain⟨u,rfl,ru⟩:=rv.one
 obtain⟨t,rfl⟩:=ru
 obtain⟨z,its,n,r,hl,e⟩:=I.lstM hH
 obtain⟨w,hw,rw'⟩:=r.get hy
 refine ufv F.slot_list_pop ⟨_,e,rfl⟩ F.entry_list_pop (F.args_list_pop_2 _ _)
  (MeetsSeq.list_pop_at l its.toArray n i t k w (fitsIndex_both h1 h2) (by rw[uak,← hl];exact hk) (by rw[← uda];exact hw) (by rw[uak];left)) ⟨e,?_⟩
 refine⟨y,_,I.lset (its':=its.eraseIdx k) hH e ?_ (r.eraseIdx k) ?_,rw',q⟩
 ·show its.toArray.eraseIdxIfInBounds k=(its.eraseIdx k).toArray
  rw[List.eraseIdxIfInBounds_toArray]
 ·have:=zi4 xs k
  left
inductive rRep_i  (x:V) (y:V) (H:Hp) (Q:VK):Prop
 | mk:∀ l k xs,(x=.ref l)->(y=.int k)->(H l=some (.lst xs))->(-(2 ^ 63)<=k)->(k < 2 ^ 63)->(xs.length * k.toNat<=sizeLine)->(∀ p,H p=none->Q (.ref p) (upd H p (.lst (uay k.toNat xs).flatten)))->rRep_i x y H Q
def rRep :R2:=λ x y H Q=>rRep_i x y H Q
theorem zsk {α:Type} (xs:List α) (k:Nat):(uay k xs).flatten.length=k * xs.length:=by
 induction k with
 | zero=>simp
 | succ k ih=>rw[udg,uem,uaj,ih,Nat.succ_mul,Nat.add_comm]
theorem ztk:OpR X (binaryOp .Mult) rRep:=by
 intro pins s σ H x y v u Q I rx ry h
 obtain⟨l,k,xs,rfl,rfl,hH,h1,h2,hz,q⟩:=h
 cases rx
 obtain⟨t,rfl⟩:=ry
 obtain⟨z,its,n,r,hl,e⟩:=I.lstM hH
 have hlen:its.toArray.size * k.toNat<=sizeLine:=by rw[uak,← hl];exact hz
 have hcap:¬ its.toArray.size * k.toNat > (2 ^ 63 - 1) / 8:=by
  have:(sizeLine:Nat)<=(2 ^ 63 - 1) / 8:=by decide
  left
 have hfit:¬ (!Builtin.List.listFitsIndex k)=true:=by
  rw[fitsIndex_both h1 h2]
  exact uas
 have hlong:¬ Builtin.List.listTooLong (its.toArray.size * k.toNat)=true:=by
  rw[notLongL hlen]
  exact uas
 have hnew:List.foldl (λ x1 x2=>x1++x2) #[] (uay (if its.toArray.isEmpty=true then 0 else k.toNat) its.toArray)=(uay k.toNat its).flatten.toArray:=by
  have f0:∀ m:Nat,List.foldl (λ x1 x2=>x1++x2) #[] (uay m its.toArray)=(uay m its).flatten.toArray:=λ m=>by
   have:=zi7 its m []
   rw[List.nil_append] at this
   exact this
  rw[f0]
  cases its with
  | nil=>simp
  | cons a r'=>rw[if_neg (by simp)]
 refine wpAny_binaryOp_repeat_ref (T:="list") (U:="int") (by decide) ⟨_,e,rfl⟩ (λ s'=>typeIs_int s' k t) noFill_list_mul F.fills_int_mul F.slot_int_rmul repeat_list F.slot_int_index.lookup
  (ufv F.slot_int_rmul (typeIs_int s k t) F.entry_int_rmul (F.args_int_rmul_2 _ _) (int___rmul___int_list k t l its.toArray n)
   ⟨e,rfl,⟨_,e,rfl⟩,ufv F.slot_list_mul ⟨_,e,rfl⟩ F.entry_list_mul (F.args_list_mul_2 _ _) (AutoListH.list___mul___list_int_3 l its.toArray n k t hfit hcap hlong) ⟨e,?_⟩⟩)
 rw[hnew]
 exact⟨.ref _,_,I.lnew (t':=s.toks) (r.rep k.toNat) (by rw[zsk,Nat.mul_comm];exact hz),rfl,q _ I.fresh⟩
end
section
variable {prog:Program} {w:World} {A:Around} {E:Value->Shared->Prop} {s:Shared}
end
section
variable {X:Cx}
end
end L2
namespace Att
open PySem PySem.W PySem.Calls PyProof.Rows
theorem zfn {P:Params} {h:Heap}:∀ (ns:List Int) (vs:List Value),WellAll P h vs (ns.map WData.int)->IntsAre vs ns:=by
 intro ns
 induction ns with
 | nil =>
  intro vs w
  rw[List.map_nil] at w
  cases w
  exact .nil
 | cons n ns ih =>
  intro vs w
  rw[ucq] at w
  cases w with
  | cons a b =>
   cases a
   exact .cons _ _ (ih _ b)
theorem znc {l:OpenLaw} {n:Nat} (hn:l.most=some n) {P:Params} {h:Heap} {args:List WData} {vals:List Value}
  (hpre:l.row.toRowW.claim.pre args=true) (hwl:WellAll P h vals args) :
  ∃ a vs ns,vals=[Value.ref a]/\args=[WData.list (ns.map WData.int)]/\h.get? a=some { cls:=.type "list",data:=.seq vs.toArray }/\IntsAre vs ns/\ns.length<=n:=by
 have hsh:WShape.hasAll [] args [.list .int]=true:=(pre_splitW hpre).1
 have hc:l.pre.holds [] { args:=args }=true:=(pre_splitW hpre).2
 obtain⟨d,r,rfl,h1,h2⟩:=hasAllW_cons hsh
 obtain rfl:=hasAllW_nil h2
 obtain⟨xs,rfl,h3⟩:=hasW_list h1
 obtain⟨ns,rfl⟩:=items_int h3
 have hlen:ns.length<=n:=by
  unfold OpenLaw.pre at hc
  have h4:(WTm.not (.lt (.lit (.int (n:Int))) (.len (.arg 0)))).holds [] { args:=[.list (ns.map .int)] }=true:=by
   have h4:=(holds_andW hc).1
   rw[hn] at h4
   exact h4
  have h5:=condW_of h4 (w_not (w_lt w_lit (w_len_list (w_arg rfl))))
  rw[uae] at h5
  refine Nat.le_of_not_lt λ q=>?_
  have q':(n:Int) < ((ns.length:Nat):Int):=by left
  first
   | (rw[decide_eq_true q'] at h5;exact absurd h5 (by decide))
   | (simp at h5;left)
 cases hwl with
 | cons w1 w2 =>
  cases w2
  cases w1 with
  | list ho hall=>exact⟨_,_,ns,rfl,rfl,ho,zfn ns _ hall,hlen⟩
theorem znj (l:OpenLaw) (args:List WData):l.row.toRowW.claim.post args (.bool true) args=true :=
 postW_of (r:=l.row.toRowW) (X:=(true == true))
  (show WShape.has [] (.bool true) .bool=true by first | rfl | decide | simp [WShape.has,WShape.arms,WShape.armsAll])
  (show (WTm.eq .res (.lit (.bool true))).value [] { args:=args,res:=some (.bool true),after:=args }=some (.bool (true == true)) from w_eq_bool (w_res rfl) w_lit) rfl
theorem attach_call {l:OpenLaw} {n:Nat} {q:Program} {loose:List Str} {XP:(Str->Option Value)->Heap->Prop} {YP:World->Heap->Prop} {d:DefRec}
  (hn:l.most=some n) (hdf:d.params.defaults=[])
  (call:∀ (w:World) (s₀ s₁:Shared) (mg mb:Str->Option Value) (fa:Addr) (o:Obj) (pm cd doc:Value) (a:Addr) (vs:List Value) (ns:List Int),
   Ground q loose [] XP w s₀ mg mb s₁.heap->YP w s₁.heap ->
   s₁.heap.get? fa=some o->o.data=.func (docDef d.name d.params d.body d.scope pm cd doc)->s₁.heap.CodeRec cd d.name->mg d.name=some (.ref fa) ->
   s₁.heap.get? a=some { cls:=.type "list",data:=.seq vs.toArray }->IntsAre vs ns->ns.length<=n->s₁.gens=#[] ->
   codeAny (model l.prog w) callerA (.call (.ref fa) ⟨[.ref a],[]⟩) (λ r s'=>r=.ok (.ret (.bool true))/\OldK s₁.heap s'.heap/\s'.os=s₁.os/\AllBare s'.gens) s₁) :
  WalkO q loose XP YP l.row.toRowW d [] (λ f vs=>PySem.call f vs):=by
 intro w s₀ s₁ mg mb G Y fa o pm cd doc dV kV ho hd hcd hD hmg hg args vals as hpre hlay hrd hwl hlo
 obtain rfl:dV=.none:=Dflts.none hD hdf
 obtain rfl:kV=.none:=Dflts.noKw hD
 obtain⟨a,vs,ns,rfl,rfl,hobj,hints,hlen⟩:=znc hn hpre hwl
 refine enter_call (ufk (call w s₀ s₁ mg mb fa o pm cd doc a vs ns G Y ho (fd_plain hd) hcd hmg hobj hints hlen hg) λ r s' hq=>?_)
 obtain⟨rfl,h2,h3,h4⟩:=hq
 exact⟨.inl ⟨.bool true,.bool true,[],rfl,λ _=>rfl,.bool true,znj l _,λ _=>⟨uex,λ _ hm=>(nomatch hm)⟩⟩,h2,h3,h4⟩
section
variable {prog:Program} {w:World} {A:Around} {E:Value->Shared->Prop} {s:Shared} {K:Frag}
def ledger (h:Heap) (L d:Addr):List (Addr × Obj):=(uag h.objs.size).filterMap λ a=>if a=L\/a=d then none else (h.get? a).map λ o=>(a,o)
end
end Att
namespace L2
open PySem PySem.Spec PyProof.Rows
theorem zid:∀ {vs:List Value} {ns:List Int},IntsAre vs ns->Vals (ns.map V.int) vs
 | _,_,.nil=>.nil
 | _,_,.cons n t h=>.cons ⟨t,rfl⟩ (zid h)
def Only (H:Hp):Prop:=∀ b,H b=none\/∃ o xs,H b=some (.frz o (.lst xs))
theorem zp0 {P:Program} {w:World} {K:uac} {mg mb:Str->Option Value} {CX:CXT} {k:Nat} {fa a:Addr} {fd:FuncData} {x:Str} {sp:Sp} {s₁:Shared} {vs:List Value} {ns:List Int}
  (KX:K.In s₁.heap) (hns:s₁.heap.Ns mainGlobals mg) (hb:s₁.heap.Ns builtinsNs mb) (hbb:∀ x:Str,x≠"__name__"->mb x=bootBuiltins x) (hlim:s₁.heap.NoLimit) (hg:s₁.gens=#[])
  (ha:s₁.heap.get? a=some { cls:=.type "list",data:=.seq vs.toArray }) (hi:IntsAre vs ns) (hl:ns.length<=sizeLine) (hr:Room k callerA)
  (F:∀ base:Heap,K.In base->base.Ns mainGlobals mg->FnOk P w K mg base CX k fa fd [x] sp) (hbind:∀ (s:Shared) (u:Value),BindsTo s fd ⟨[u],[]⟩ [(x,u)])
  (hsp:∀ H:Hp,Only H->SqL K H a (ns.map V.int)->sp [.ref a] H (λ v _=>v=.bl true) λ _ _ _=>False)
  (hCX:∀ H e s',CX [] H s₁ (λ _ _ _=>False) e s'->False) :
  codeAny (model P w) callerA (.call (.ref fa) ⟨[.ref a],[]⟩) (λ r s'=>r=.ok (.ret (.bool true))/\OldK s₁.heap s'.heap/\s'.os=s₁.os/\AllBare s'.gens) s₁:=by
 have rv:=zid hi
 have lenV:=hi.length
  -- from an abstract heap in which nothing but the script may be tracked
 have core : ∀ H : Hp, Only H → SqL K H a (ns.map V.int) → HOk P w H s₁.heap → (∀ b, H b ≠ none → b = a) → (H a ≠ none → K.lookup a = none) →
     codeAny (model P w) callerA (.call (.ref fa) ⟨[.ref a],[]⟩) (λ r s'=>r=.ok (.ret (.bool true))/\OldK s₁.heap s'.heap/\s'.os=s₁.os/\AllBare s'.gens) s₁:=by
  intro H hO hS hok hA hK
  have base_of:∀ {b:Addr} {o:Obj},s₁.heap.get? b=some o->H b=none->(hidT s₁.heap H).get? b=some o:=λ e n=>zp8 e n
  have noA:∀ {b:Addr} {o:Obj} {es:Array DictEntry} {ep:Nat},s₁.heap.get? b=some o->o.data=.dict es ep->H b=none:=λ {b o es ep} e d=>by
   cases q:H b with
   | none=>rfl
   | some u =>
    have e':b=a:=hA b (by rw[q];simp)
    subst e'
    rw[ha] at e;cases e
    have d':Data.seq vs.toArray _=Data.dict es ep:=d
    cases d'
  have nsK:∀ {b:Addr} {m:Str->Option Value},s₁.heap.Ns b m->(hidT s₁.heap H).Ns b m:=λ {b m} ⟨o,es,ep,e,d,r⟩=>⟨o,es,ep,base_of e (noA e d),d,r⟩
  have hKb:K.In (hidT s₁.heap H):=λ b o e=>base_of (KX b o e) (by
   cases q:H b with
   | none=>rfl
   | some u =>
    have e':b=a:=hA b (by rw[q];simp)
    subst e'
    rw[hK (by rw[q];simp)] at e;cases e)
  have hM:Mod K mg (hidT s₁.heap H):=⟨hKb,nsK hns,⟨mb,nsK hb,hbb⟩,let ⟨mc,h1,h2⟩:=hlim;⟨mc,nsK h1,h2⟩⟩
  have e0:Env0 P w K mg (hidT s₁.heap H) callerA [] s₁ H:=⟨rfl,hM,λ b o e=>zsi e,uer (zol _ _),trivial,λ b hb=>absurd (show b ∈ ([]:List Addr) from hb) (by simp),hok,.of_eq hg⟩
  refine ufk ((F _ hKb (nsK hns)).run callerA [] s₁ H ⟨[.ref a],[]⟩ [.ref a] [.ref a] _ _ hr e0 (hbind s₁ (.ref a)) (.cons rfl .nil) (hsp H hO hS)) λ r s' h=>?_
  cases r with
  | error e=>exact (hCX H e s' h).elim
  | ok fl =>
   cases fl with
   | next=>exact False.elim h
   | brk=>exact False.elim h
   | cont=>exact False.elim h
   | ret u =>
    obtain⟨v,H',os,bare,un,hok',r',q⟩:=h
    have q':v=.bl true:=q
    subst q'
    obtain rfl:u=Value.bool true:=r'
    refine⟨rfl,OldK.of_keep λ b o e=>?_,os,bare⟩
    cases q:H b with
    | none=>exact un.keep b o e q (by intro z;exact absurd (show b ∈ ([]:List Addr) from z) (by simp)) (by simp)
    | some u =>
     rcases hO b with z | ⟨ob,xs,z⟩
     ·rw[q] at z;cases z
     ·have z2:=un.frzs b ob _ z
      obtain⟨e1,_⟩:=hok b _ z
      obtain⟨e2,_⟩:=hok' b _ z2
      rw[e] at e1;cases e1
      exact e2
 cases hk:K.lookup a with
 | some o =>
    -- the script is one of the module's own objects
  have e:=KX a o hk
  rw[ha] at e
  cases e
  refine core (λ _=>none) (λ _=>.inl rfl) (.inr ⟨_,vs.toArray,_,hk,rfl,rfl,rfl,by rw[uak,lenV];exact hl,by simpa using rv⟩) (λ b u z=>by have z':(none:Option HO)=some u:=z;cases z') (λ b z=>absurd rfl z) λ z=>absurd rfl z
 | none =>
  refine core (λ b=>if b=a then some (.frz { cls:=.type "list",data:=.seq vs.toArray } (.lst (ns.map V.int))) else none) (λ b=>?_) (.inl (.inr ⟨{ cls:=.type "list",data:=.seq vs.toArray },if_pos rfl⟩)) (λ b u z=>?_) (λ b z=>?_) λ _=>hk
  ·by_cases hb:b=a
   ·exact .inr ⟨_,_,if_pos hb⟩
   ·exact .inl (if_neg hb)
  ·by_cases hb:b=a
   ·have z':=(if_pos hb).symm.trans z
    cases z'
    subst hb
    exact⟨ha,by rw[uae];exact hl,vs,_,rv,ha⟩
   ·have z':=(if_neg hb).symm.trans z
    cases z'
  ·by_cases hb:b=a
   ·exact hb
   ·exact absurd (if_neg hb) z
end L2
namespace L2
open PySem PySem.Spec PyProof.Rows
theorem zrr {l:PySem.W.OpenLaw} {n k:Nat} {q:Program} {loose:List Str} {XP:(Str->Option Value)->Heap->Prop} {YP:World->Heap->Prop} {d:DefRec} {K:Params->uac} {CX:World->CXT} {sp:World->Sp} {x:Str}
  (hn:l.most=some n) (hn2:n<=sizeLine) (hdf:d.params.defaults=[]) (hr:Room k callerA)
  (hY:∀ (w:World) (h:Heap),YP w h->(K w.params).In h)
  (F:∀ (w:World) (mg:Str->Option Value) (fa:Addr) (h:Heap),(K w.params).In h->h.Ns mainGlobals mg->mg d.name=some (.ref fa) ->
   ∃ fd:FuncData,(∀ (s:Shared) (u:Value),BindsTo s fd ⟨[u],[]⟩ [(x,u)]) /\
    ∀ base:Heap,(K w.params).In base->base.Ns mainGlobals mg->FnOk l.prog w (K w.params) mg base (CX w) k fa fd [x] (sp w))
  (hsp:∀ (w:World) (H:Hp) (a:Addr) (ns:List Int),ns.length<=n->Only H->SqL (K w.params) H a (ns.map V.int)->sp w [.ref a] H (λ v _=>v=.bl true) λ _ _ _=>False)
  (hCX:∀ (w:World) (H:Hp) (s:Shared) (e:Value) (s':Shared),CX w [] H s (λ _ _ _=>False) e s'->False) :
  PySem.W.WalkO q loose XP YP l.row.toRowW d [] (λ f vs=>PySem.call f vs):=by
 refine Att.attach_call hn hdf λ w s₀ s₁ mg mb fa o pm cd doc a vs ns G Y ho hd hcd hmg hobj hints hlen hg=>?_
 have KX:=hY w _ Y
 obtain⟨fd,hb,hF⟩:=F w mg fa _ KX G.T.g hmg
 exact zp0 KX G.T.g G.T.b G.T.builtins G.T.nolimit hg hobj hints (ua9 hlen hn2) hr hF hb (λ H hO hS=>hsp w H a ns hlen hO hS) λ H e s'=>hCX w H s₁ e s'
end L2
namespace L2
open PySem PySem.Spec PyProof.Rows
def defArgs (s:Stmt):Arguments:=match s with
 | .FunctionDef _ a _ _ _ _ _ _ _ _=>a
 | _=>{ posonlyargs:=[],args:=[],vararg:=none,kwonlyargs:=[],kw_defaults:=[],kwarg:=none,defaults:=[] }
def defBody (s:Stmt):List Stmt:=match s with
 | .FunctionDef _ _ b _ _ _ _ _ _ _=>b
 | _=>[]
def defScope (s:Stmt):Scope:=match s with
 | .FunctionDef _ _ _ _ _ _ sc _ _ _=>sc
 | _=>{ kind:=.function,names:=[],isGenerator:=false,isCoroutine:=false }
abbrev CX0:CXT:=λ _ _ _ _ _ _=>False
abbrev E0:XK:=λ _ _ _=>False
theorem pass0 {X:Cx}:Passes CX0 X E0:=λ _ _ _ _ _ _ _ h=>h.elim
structure Fun (K:uac) (x qual:Str) (st:Stmt) (f:Addr) (fd:FuncData):Prop where
 ex:∃ (oc:Value) (od:Option Addr) (kV doc pm:Value) (an:Option Addr) (cdv ct:Value) (osl:Array (Option Value)),
  fd=uc8 x qual (defArgs st) (defBody st) (defScope st) .none kV doc pm an cdv ct/\K.lookup f=some ⟨oc,od,.func fd,osl⟩/\ue4 K cdv qual=true
 kp:uej K (.ref f)=true
section
variable {P:Program} {w:World} {K:uac} {mg:Str->Option Value} {base:Heap}
theorem Fun.ok {x qual:Str} {st:Stmt} {f:Addr} {fd:FuncData} {N ps:List Str} {k:Nat} {sp:Sp} (F:Fun K x qual st f fd) (S:FnScope N ps (defScope st)) (len:∀ vs H Q E,sp vs H Q E->vs.length=ps.length)
  (hbody:∀ (cdv:Value) (A:Around) (outer:List Env) (s:Shared) (H:Hp) (vs:List V) (Q:VK) (E:XK),Room k (A.deeper (envOfC qual (defScope st) s.heap.objs.size f cdv))->sp vs H Q E ->
   ∃ t,PSs (cxOf CX0 P w K mg base N qual (defScope st) f cdv A outer s H E).nox (defBody st) t/\t { nx:=λ _ H'=>Q .non H',rt:=Q } (start N vs) H):FnOk P w K mg base CX0 (k + 1) f fd ps sp:=by
 obtain⟨oc,od,kV,doc,pm,an,cdv,ct,osl,rfl,lk,hcd⟩:=F.ex
 refine zuf lk hcd S len λ A outer s H vs Q E hr hsp=>?_
 obtain⟨t,h,q⟩:=hbody cdv A outer s H vs Q E hr hsp
 exact⟨t,h.nox,q⟩
theorem Fun.binds {x qual:Str} {st:Stmt} {f:Addr} {fd:FuncData} {ps:List Str} (F:Fun K x qual st f fd)
  (h:∀ (kV doc pm:Value) (an:Option Addr) (cdv ct:Value) (us:List Value),us.length=ps.length->bindArgs (uc8 x qual (defArgs st) (defBody st) (defScope st) .none kV doc pm an cdv ct) ⟨us,[]⟩=pure (ps.zip us)):Binds K fd ps []:=by
 obtain⟨oc,od,kV,doc,pm,an,cdv,ct,osl,rfl,lk,hcd⟩:=F.ex
 exact .all (h kV doc pm an cdv ct)
theorem zrj {x qual:Str} {st:Stmt} {f:Addr} {oc:Value} {od an:Option Addr} {osl:Array (Option Value)} {kV doc pm cdv ct:Value} (l:K.lookup f=some ⟨oc,od,.func (uc8 x qual (defArgs st) (defBody st) (defScope st) .none kV doc pm an cdv ct),osl⟩)
  (c:ue4 K cdv qual=true) (k:uej K (.ref f)=true):Fun K x qual st f (uc8 x qual (defArgs st) (defBody st) (defScope st) .none kV doc pm an cdv ct):=⟨⟨oc,od,kV,doc,pm,an,cdv,ct,osl,rfl,l,c⟩,k⟩
end
section
variable {X:Cx}
theorem pv (i:Nat) {x:Str} {pos:Pos} (hN:X.N[i]?=some x:=by rfl) (hv:Vis X.env.scope x:=by first | exact uat rfl | exact uf7 (uat rfl) | exact uf7 (uf7 rfl)) (hd:(x == ("__debug__":Str))=false:=by decide)
  (hcd:(x == ("__classdict__":Str))=false:=by decide):PE X (.Name x pos) (tVar i):=ztj hN hv hd hcd
end
theorem iteF {A B:Prop} (h:B):if false=true then A else B:=by
 rw[if_neg uas]
 exact h
theorem iteT {A B:Prop} (h:A):if true=true then A else B:=by
 rw[if_pos rfl]
 exact h
theorem ite2 {c A B:Prop} [Decidable c] (h1:c->A) (h2:¬ c->B):if c then A else B:=by
 by_cases h:c
 ·rw[if_pos h]
  exact h1 h
 ·rw[if_neg h]
  exact h2 h
theorem iteNS {c A B:Prop} [Decidable c] (hc:c) (h:B):if (!decide c)=true then A else B:=by
 rw[decide_eq_true hc]
 exact iteF h
def Same (H H':Hp):Prop:=∀ b o,H b=some o->H' b=some o
theorem Same.refl (H:Hp):Same H H:=λ _ _ h=>h
theorem Same.trans {H H1 H2:Hp} (a:Same H H1) (b:Same H1 H2):Same H H2:=λ c o h=>b c o (a c o h)
theorem Same.free {H H':Hp} (e:Same H H') {l:Addr} (h:H' l=Option.none):H l=Option.none:=by
 cases q:H l with
 | none=>rfl
 | some o =>
  rw[e l o q] at h
  cases h
theorem Same.seq {K:uac} {H H':Hp} {a:Addr} {xs:List V} (e:Same H H') (h:SqL K H a xs):SqL K H' a xs:=by
 rcases h with (h | ⟨o,h⟩) | h
 ·exact .inl (.inl (e _ _ h))
 ·exact .inl (.inr ⟨o,e _ _ h⟩)
 ·exact .inr h
end L2
namespace L2
open PySem PySem.Spec PyProof.Rows
section
variable {κ:Type} [DecidableEq κ]
def valV (kvs:List (κ × V)) (k:κ):Option V:=(kvs.find? λ kv=>decide (kv.1=k)).map (·.2)
def putK (kvs:List (κ × V)) (k:κ) (v:V):List (κ × V) :=
 if (kvs.any λ kv=>decide (kv.1=k))=true then kvs.map (λ kv=>if kv.1=k then (kv.1,v) else kv) else kvs++[(k,v)]
def dropK (kvs:List (κ × V)) (k:κ):List (κ × V):=kvs.filter λ kv=>decide (kv.1≠k)
theorem zbn {p:κ × V} {r:List (κ × V)} {k:κ} (e:p.1=k):valV (p::r) k=some p.2:=by simp [valV,ueg,e]
theorem zbo {p:κ × V} {r:List (κ × V)} {k:κ} (e:¬ p.1=k):valV (p::r) k=valV r k:=by simp [valV,ueg,e]
theorem zed (k:κ):∀ kvs:List (κ × V),(kvs.any λ kv=>decide (kv.1=k))=(valV kvs k).isSome
 | []=>rfl
 | p::r=>by
  rw[ufm]
  by_cases e:p.1=k
  ·simp only [zbn e,decide_eq_true e,Bool.true_or,Option.isSome_some]
  ·rw[zbo e,decide_eq_false e,Bool.false_or];exact zed k r
theorem zks (k j:κ) (y:V):∀ kvs:List (κ × V),valV (kvs.map λ kv=>if kv.1=k then (kv.1,y) else kv) j=(valV kvs j).map λ x=>if j=k then y else x
 | []=>rfl
 | p::r=>by
  have ih:=zks k j y r
  rw[ucq]
  by_cases h:p.1=k
  ·rw[if_pos h]
   by_cases e:p.1=j
   ·rw[zbn (p:=(p.1,y)) e,zbn e,uez,if_pos (e.symm.trans h)]
   ·rw[zbo (p:=(p.1,y)) e,zbo e,ih]
  ·rw[if_neg h]
   by_cases e:p.1=j
   ·rw[zbn (p:=p) e,zbn e,uez,if_neg (λ z=>h (e.trans z))]
   ·rw[zbo (p:=p) e,zbo e,ih]
theorem zie (k j:κ) (y:V):∀ kvs:List (κ × V),valV kvs k=none->valV (kvs++[(k,y)]) j=if j=k then some y else valV kvs j
 | [],_=>by
  by_cases e:k=j
  ·rw[if_pos e.symm];exact zbn (p:=(k,y)) e
  ·rw[if_neg (λ z=>e z.symm)];exact zbo (p:=(k,y)) e
 | p::r,hn=>by
  rw[List.cons_append]
  have hk:¬ p.1=k:=λ z=>by rw[zbn z] at hn;cases hn
  rw[zbo hk] at hn
  have ih:=zie k j y r hn
  by_cases e:p.1=j
  ·rw[zbn e,zbn e,if_neg (λ z=>hk (e.trans z))]
  ·rw[zbo e,zbo e,ih]
theorem zph (kvs:List (κ × V)) (k j:κ) (y:V):valV (putK kvs k y) j=if j=k then some y else valV kvs j:=by
 unfold putK
 by_cases a:(kvs.any λ kv=>decide (kv.1=k))=true
 ·rw[if_pos a,zks]
  rw[zed] at a
  by_cases e:j=k
  ·obtain⟨x,hx⟩:=ug0.mp a
   rw[if_pos e,e,hx,uez,if_pos rfl]
  ·rw[if_neg e]
   cases valV kvs j with
   | none=>rfl
   | some x=>rw[uez,if_neg e]
 ·rw[if_neg a]
  refine zie k j y kvs ?_
  rw[zed] at a
  cases q:valV kvs k with
  | none=>rfl
  | some x=>rw[q] at a;exact (a rfl).elim
theorem zfi (kvs:List (κ × V)) (k:κ) (v:V):(putK kvs k v).length<=kvs.length + 1:=by
 unfold putK
 split
 ·rw[uae];left
 ·rw[uaj,ubu,ufx];left
theorem RelO.isSome_eq {o:Option V} {u:Option Value} (r:RelO o u):o.isSome=u.isSome:=by
 cases o with
 | none=>cases u with
  | none=>rfl
  | some _=>exact (show False from r).elim
 | some _=>cases u with
  | none=>exact (show False from r).elim
  | some _=>rfl
theorem KV.val {kvs:List (κ × V)} {vs:List (κ × Value)} (r:KV kvs vs) (k:κ):RelO (valV kvs k) (valueAt vs k):=by
 unfold KV at r
 induction r with
 | nil=>exact True.intro
 | @cons p q ps qs h t ih =>
  obtain⟨h1,h2⟩:=h
  by_cases e:p.1=k
  ·have e':q.1=k:=h1.symm.trans e
   have b:valueAt (q::qs) k=some q.2:=by simp [valueAt,ueg,e']
   rw[zbn e,b];exact h2
  ·have e':¬ q.1=k:=λ z=>e (h1.trans z)
   have b:valueAt (q::qs) k=valueAt qs k:=by simp [valueAt,ueg,e']
   rw[zbo e,b];exact ih
theorem KV.any {kvs:List (κ × V)} {vs:List (κ × Value)} (r:KV kvs vs) (k:κ):(kvs.any λ kv=>decide (kv.1=k))=vs.any λ kv=>decide (kv.1=k):=by
 unfold KV at r
 induction r with
 | nil=>rfl
 | cons h t ih=>rw[ufm,ufm,ih,h.1]
theorem KV.repl {kvs:List (κ × V)} {vs:List (κ × Value)} (r:KV kvs vs) (k:κ) {y:V} {u:Value} (ry:RelV y u) :
  KV (kvs.map λ kv=>if kv.1=k then (kv.1,y) else kv) (vs.map λ kv=>if kv.1=k then (kv.1,u) else kv):=by
 unfold KV at r ⊢
 induction r with
 | nil=>exact .nil
 | @cons p q ps qs h t ih =>
  rw[ucq,ucq]
  refine .cons ?_ ih
  obtain⟨h1,h2⟩:=h
  by_cases e:p.1=k
  ·rw[if_pos e,if_pos (h1.symm.trans e)];exact⟨h1,ry⟩
  ·rw[if_neg e,if_neg (λ z=>e (h1.trans z))];exact⟨h1,h2⟩
theorem KV.put {kvs:List (κ × V)} {vs:List (κ × Value)} (r:KV kvs vs) (k:κ) {y:V} {u:Value} (ry:RelV y u):KV (putK kvs k y) (stored vs k u):=by
 unfold putK stored
 rw[r.any k]
 by_cases e:(vs.any λ kv=>decide (kv.1=k))=true
 ·rw[if_pos e,if_pos e];exact r.repl k ry
 ·rw[if_neg e,if_neg e];exact Paired.snoc r ⟨rfl,ry⟩
theorem KV.length {kvs:List (κ × V)} {vs:List (κ × Value)} (r:KV kvs vs):kvs.length=vs.length:=Paired.length r
end
theorem zp2 {P:Program} {w:World} {k:Key} {u:Value} (r:RelV (kV k) u):(mixKind P w).is k u=true:=by
 cases k with
 | inl i=>obtain⟨t,e⟩:=(show ∃ t,u=Value.int i t from r);subst e;exact zj8 P w i t
 | inr x=>obtain⟨t,e⟩:=(show ∃ t,u=Value.str x t from r);subst e;exact zj7 P w x t
theorem zi5 {P:Program} {w:World}:∀ {ks:List Key} {us:List Value},Vals (ks.map kV) us->ItemsAre (mixKind P w) ks us
 | [],_,r=>by rw[List.map_nil] at r;cases r;exact .nil
 | k::ks,_,r=>by
  rw[ucq] at r
  cases r with
  | cons h t=>exact .cons (zp2 h) (zi5 t)
abbrev KT (H:Hp):List (List Key × V)->List (List Key × Addr × Value)->Prop:=Paired λ p q=>p.1=q.1/\H q.2.1=some (.tup (p.1.map kV))/\RelV p.2 q.2.2
theorem KT.val {H:Hp} {kvs:List (List Key × V)} {xs:List (List Key × Addr × Value)} (r:KT H kvs xs) (k:List Key):RelO (valV kvs k) ((atKey xs k).map (·.2)):=by
 induction r with
 | nil=>exact True.intro
 | @cons p q ps qs h t ih =>
  obtain⟨h1,_,h2⟩:=h
  by_cases e:p.1=k
  ·have e':q.1=k:=h1.symm.trans e
   have b:atKey (q::qs) k=some q.2:=by simp [atKey,ueg,e']
   rw[zbn e,b];exact h2
  ·have e':¬ q.1=k:=λ z=>e (h1.trans z)
   have b:atKey (q::qs) k=atKey qs k:=by simp [atKey,ueg,e']
   rw[zbo e,b];exact ih
theorem KT.repl {H:Hp} {kvs:List (List Key × V)} {xs:List (List Key × Addr × Value)} (r:KT H kvs xs) (k:List Key) {y:V} {u:Value} (ry:RelV y u) :
  KT H (kvs.map λ kv=>if kv.1=k then (kv.1,y) else kv) (xs.map (putAt k u)):=by
 induction r with
 | nil=>exact .nil
 | @cons p q ps qs h t ih =>
  rw[ucq,ucq]
  refine .cons ?_ ih
  obtain⟨h1,h2,h3⟩:=h
  unfold putAt
  by_cases e:p.1=k
  ·rw[if_pos e,if_pos (h1.symm.trans e)];exact⟨h1,h2,ry⟩
  ·rw[if_neg e,if_neg (λ z=>e (h1.trans z))];exact⟨h1,h2,h3⟩
theorem KT.put {H:Hp} {kvs:List (List Key × V)} {xs:List (List Key × Addr × Value)} (r:KT H kvs xs) (k:List Key) {b:Addr} {y:V} {u:Value} (hb:H b=some (.tup (k.map kV))) (ry:RelV y u) :
  KT H (putK kvs k y) (storedH xs k b u):=by
 have e:(kvs.any λ kv=>decide (kv.1=k))=(atKey xs k).isSome:=by
  rw[zed,(r.val k).isSome_eq,Option.isSome_map]
 unfold putK storedH
 rw[e]
 by_cases q:(atKey xs k).isSome=true
 ·rw[if_pos q,if_pos q];exact r.repl k ry
 ·rw[if_neg q,if_neg q];exact Paired.snoc r ⟨rfl,hb,ry⟩
theorem KT.keeps {H H':Hp} {kvs:List (List Key × V)} {xs:List (List Key × Addr × Value)} (r:KT H kvs xs) (ht:∀ b ys,H b=some (.tup ys)->H' b=some (.tup ys)):KT H' kvs xs :=
 Paired.mapP r λ _ _ z=>⟨z.1,ht _ _ z.2.1,z.2.2⟩
section
variable {P:Program} {w:World} {H:Hp} {h:Heap} {a:Addr}
theorem ztd {u:HO} (ok:HOk P w H h) (e:Rd H a u):ObjOk P w H h a u:=e.ok ok
theorem zqj {kvs:List (Key × V)} (ok:HOk P w H h) (e:Rd H a (.dK kvs)):kvs.length<=sizeLine/\(a == sysModules)=false/\∃ vs,KV kvs vs/\h.DictOf (mixKind P w) a vs :=
 show ObjOk P w H h a (.dK kvs) from ztd ok e
theorem zui {kvs:List (Key × V)} (ok:HOk P w H h) (e:H a=some (.dK kvs)):kvs.length<=sizeLine/\(a == sysModules)=false/\∃ vs,KV kvs vs/\h.DictOf (mixKind P w) a vs:=zqj ok (.inl e)
theorem zlj {ks:List Key} (ok:HOk P w H h) (e:H a=some (.tup (ks.map kV))):(tupleKind (mixKind P w)).is h ks a:=by
 obtain⟨_,its,r,o,h1,h2,⟨n,h3⟩,_⟩:=(show ObjOk P w H h a (.tup (ks.map kV)) from ok a _ e)
 exact⟨o,its.toArray,n,h1,h2,h3,by simpa using zi5 r⟩
theorem zqg {kvs:List (List Key × V)} (ok:HOk P w H h) (e:Rd H a (.dT kvs)):kvs.length<=sizeLine/\(a == sysModules)=false /\
  ∃ xs,KT H kvs xs/\h.DictOfH (tupleKind (mixKind P w)) a xs:=by
 obtain⟨z,y,xs,r,o,es,ep,h1,h2,h3,h4,h5⟩:=(show ObjOk P w H h a (.dT kvs) from ztd ok e)
 refine⟨z,y,xs,r,o,es,ep,h1,h2,h3,h4,λ x hx=>?_,h5⟩
 have all:∀ {l:List (List Key × V)} {m:List (List Key × Addr × Value)},KT H l m->∀ x ∈ m,(tupleKind (mixKind P w)).is h x.1 x.2.1:=by
  intro l m q
  induction q with
  | nil=>intro x hx;exact nomatch hx
  | @cons p q ps qs hq t ih =>
   intro x hx
   rcases uar.mp hx with e | hx
   ·subst e
    exact zlj ok (by rw[← hq.1];exact hq.2.1)
   ·exact ih x hx
 exact all r x hx
theorem zuh {kvs:List (List Key × V)} (ok:HOk P w H h) (e:H a=some (.dT kvs)):kvs.length<=sizeLine/\(a == sysModules)=false /\
  ∃ xs,KT H kvs xs/\h.DictOfH (tupleKind (mixKind P w)) a xs:=zqg ok (.inl e)
end
def DGet (H:Hp) (a:Addr) (y:V) (r:Option V):Prop :=
 (∃ kvs k,Rd H a (.dK kvs)/\y=kV k/\r=valV kvs k)\/∃ kvs k b,Rd H a (.dT kvs)/\y=.ref b/\H b=some (.tup (k.map kV))/\r=valV kvs k
def DPut (H:Hp) (a:Addr) (y v:V) (H':Hp):Prop :=
 (∃ kvs k,H a=some (.dK kvs)/\y=kV k/\kvs.length < sizeLine/\H'=upd H a (.dK (putK kvs k v))) \/
 ∃ kvs k b,H a=some (.dT kvs)/\y=.ref b/\H b=some (.tup (k.map kV))/\kvs.length < sizeLine/\H'=upd H a (.dT (putK kvs k v))
theorem DGet.k {H:Hp} {a:Addr} {kvs:List (Key × V)} {k:Key} (e:H a=some (.dK kvs)):DGet H a (kV k) (valV kvs k):=.inl ⟨kvs,k,.inl e,rfl,rfl⟩
theorem DPut.k {H:Hp} {a:Addr} {kvs:List (Key × V)} {k:Key} {v:V} (e:H a=some (.dK kvs)) (hl:kvs.length < sizeLine):DPut H a (kV k) v (upd H a (.dK (putK kvs k v))):=.inl ⟨kvs,k,e,rfl,hl,rfl⟩
section
variable {X:Cx} {pins:List (Addr × Obj)} {σ:St} {H:Hp} {s:Shared} {a:Addr} {y v:V} {u r:Value} {o:Option V} {A:Around} {E:Value->Shared->Prop}
theorem Inv.big (I:Inv X pins σ H s):sysModules < s.heap.objs.size:=by
 have h:mainGlobals < s.heap.objs.size:=(I.mod.glob.keeps I.bk).lt
 exact ugj (by decide) h
theorem zox {Q:Value->Shared->Prop} (hu:A.units + 1 < cLine) (I:Inv X pins σ H s) (g:DGet H a y (some v)) (ry:RelV y u) (h:∀ w' s',Inv X pins σ H s'->RelV v w'->Q w' s') :
  wpAny (model X.prog X.w) A (getItem (.ref a) u) Q E s:=by
 rcases g with ⟨kvs,k,e,ey,l⟩ | ⟨kvs,k,b,e,ey,eb,l⟩
 ·subst ey
  obtain⟨z,hd,vs,rel,dd⟩:=zqj I.hok e
  obtain⟨w',hw,rw'⟩:=RelO.some_of (v:=v) (o:=valueAt vs k) (by rw[l];exact rel.val k)
  exact wpAny_getItem_of (zp2 ry) dd.mapOf hw (h w' _ (I.tok _) rw')
 ·subst ey
  cases (show u=Value.ref b from ry)
  obtain⟨z,hd,xs,rel,dd⟩:=zqg I.hok e
  obtain⟨w',hw,rw'⟩:=RelO.some_of (v:=v) (o:=(atKey xs k).map (·.2)) (by rw[l];exact rel.val k)
  obtain⟨p,hp,hp2⟩:=uei.mp hw
  refine wpAny_getItem_heap (ugp hu) (zlj I.hok eb) dd hp ?_
  rw[hp2]
  exact h w' _ (I.tok _) rw'
theorem zsy {Q:Value->Shared->Prop} (hu:A.units + 1 < cLine) (I:Inv X pins σ H s) (g:DGet H a y o) (ry:RelV y u) (h:∀ s',Inv X pins σ H s'->Q (.bool (!o.isSome)) s') :
  wpAny (model X.prog X.w) A (compareOp .NotIn u (.ref a)) Q E s:=by
 rcases g with ⟨kvs,k,e,ey,l⟩ | ⟨kvs,k,b,e,ey,eb,l⟩
 ·subst ey
  obtain⟨z,hd,vs,rel,dd⟩:=zqj I.hok e
  refine wpAny_notIn_of (zp2 ry) hd dd.mapOf ?_
  rw[← (rel.val k).isSome_eq,← l]
  exact h _ (I.tok _)
 ·subst ey
  cases (show u=Value.ref b from ry)
  obtain⟨z,hd,xs,rel,dd⟩:=zqg I.hok e
  refine wpAny_notIn_heap (ugp hu) (zlj I.hok eb) hd dd ?_
  have q:=(rel.val k).isSome_eq
  rw[Option.isSome_map] at q
  rw[← q,← l]
  exact h _ (I.tok _)
theorem zov {h':Heap} {t':Nat} {ob:HO} (I:Inv X pins σ H s) (mu:Mut (H a)) (hs:Heap.SameBut a s.heap h') (he:∃ q,h'.get? a=some q) (new:ObjOk X.prog X.w (upd H a ob) h' a ob) :
  Inv X pins σ (upd H a ob) { s with heap:=h',toks:=t' } :=
 I.write (x:=a) (e:=a) mu (.inl rfl) (λ b q hb z=>(hs.2 b hb).trans z) he new
theorem zt0 {P:Program} {w:World} {H':Hp} {h':Heap} {kvs:List (Key × V)} {vs:List (Key × Value)} (z:kvs.length<=sizeLine) (hd:(a == sysModules)=false) (rel:KV kvs vs) (dd:h'.DictOf (mixKind P w) a vs) :
  ObjOk P w H' h' a (.dK kvs):=⟨z,hd,vs,rel,dd⟩
theorem zow {H':Hp} {Q:Unit->Shared->Prop} (hu:A.units + 1 < cLine) (I:Inv X pins σ H s) (g:DPut H a y v H') (ry:RelV y u) (rv:RelV v r) (h:∀ s',Inv X pins σ H' s'->Q () s') :
  wpAny (model X.prog X.w) A (setItem (.ref a) u r) Q E s:=by
 rcases g with ⟨kvs,k,e,ey,l,eH⟩ | ⟨kvs,k,b,e,ey,eb,l,eH⟩
 ·subst ey eH
  obtain⟨z,hd,vs,rel,dd⟩:=zui I.hok e
  have hz:vs.length<=sizeLine:=by rw[← rel.length];exact z
  have hl:(putK kvs k v).length<=sizeLine:=by have:=zfi kvs k v;left
  refine wpAny_setItem_pairs (hsz:=hz) (zp2 ry) dd λ h' dd' hs=>h _ ?_
  have he:∃ q,h'.get? a=some q:=let ⟨q,_,_,hq,_⟩:=dd';⟨q,hq⟩
  exact zov I (by rw[e];exact True.intro) hs he (zt0 hl hd (rel.put k rv) dd')
 ·subst ey eH
  cases (show u=Value.ref b from ry)
  obtain⟨z,hd,xs,rel,dd⟩:=zuh I.hok e
  have hz:xs.length<=sizeLine:=by rw[← Paired.length rel];exact z
  have hl:(putK kvs k v).length<=sizeLine:=by have:=zfi kvs k v;left
  refine wpAny_setItem_heap (hsz:=hz) (ugp hu) (zlj I.hok eb) dd λ h' dd' hs=>h _ ?_
  obtain⟨q,es,ep,hq,h2,h3,h4,_,h5⟩:=dd'
  refine zov I (by rw[e];exact True.intro) hs ⟨q,hq⟩ ⟨hl,hd,_,(rel.put k eb rv).keeps λ c ys ec=>?_,q,es,ep,hq,h2,h3,h4,h5⟩
  rw[zap (zuc ec e (λ z=>nomatch z))]
  exact ec
end
section
variable {X:Cx} {pins:List (Addr × Obj)} {σ:St} {H:Hp} {s:Shared} {a:Addr} {kvs:List (Key × V)} {k:Key} {u:Value} {A:Around} {E:Value->Shared->Prop}
end
def NoSl (i:Expr):Prop:=∀ ov iv,subscripted i false ov iv=operate [ov,iv] (getItem ov iv)
theorem zry {prog:Program} {w:World} {A:Around} {E:Value->Shared->Prop} {s:Shared} {env:Env} {value slice:Expr} {pos:Pos} {T id:String} {Q:Value->Shared->Prop}
  (hl:typeLookup (.type T) "__getitem__"=pure (some (.builtin id))) (hs:NoSl slice)
  (h:wpAny (model prog w) A (eval value env) (λ o s₁=>wpAny (model prog w) A (eval slice env) (λ i s₂=>s₂.TypeIs o T/\wpAny (model prog w) A (getItem o i) Q E s₂) E s₁) E s) :
  wpAny (model prog w) A (eval (.Subscript value slice pos) env) Q E s:=by
 refine Subscript_ (ucv h (λ o s₁ h₁=>ucv h₁ (λ i s₂ h₂=>?_) λ _ _ x=>x) λ _ _ x=>x)
 obtain⟨hT,h₂⟩:=h₂
 unfold subscriptTail
 refine uab ?_
 rw[getitemInPython_of_ne hT.not_modules]
 refine uab (wpAny_specialOf hT hl ?_)
 have fin:wpAny (model prog w) A (subscripted slice false o i) (λ r s₃=>wpAny (model prog w) A (letTemporaryGo value o r >>= λ _=>pure r) Q E s₃) E s₂:=by
  rw[hs o i]
  exact wpAny_operating (ucv h₂ (λ r s₃ h₃=>uab (wpAny_letTemporaryGo (uah h₃))) λ _ _ x=>x)
 first
  | exact uah (uab fin)
  | exact uab (uah (uab fin))
  | exact uab fin
theorem zki {X:Cx} {pins:List (Addr × Obj)} {σ:St} {H:Hp} {s:Shared} {a:Addr} {y:V} {o:Option V} (I:Inv X pins σ H s) (g:DGet H a y o):s.TypeIs (.ref a) "dict":=by
 rcases g with ⟨kvs,k,e,_,_⟩ | ⟨kvs,k,b,e,_,_,_⟩
 ·obtain⟨_,_,vs,_,dd⟩:=zqj I.hok e
  exact dd.typeIs
 ·obtain⟨_,_,xs,_,dd⟩:=zqg I.hok e
  exact dd.typeIs
def tDGet (td ty:TE):TE:=λ σ H Q=>td σ H λ x H1=>ty σ H1 λ y H2=>∃ a v,x=.ref a/\DGet H2 a y (some v)/\Q v H2
def tDNotIn (ty td:TE):TE:=λ σ H Q=>ty σ H λ y H1=>td σ H1 λ x H2=>∃ a o,x=.ref a/\DGet H2 a y o/\Q (.bl (!o.isSome)) H2
def sDPut (td ty tv:TE):TS:=λ D σ H=>tv σ H λ v H1=>td σ H1 λ x H2=>ty σ H2 λ y H3=>∃ a H4,x=.ref a/\DPut H3 a y v H4/\D.nx σ H4
section
variable {X:Cx} {o i e value:Expr} {pos pos' tpos:Pos} {td ty tv:TE}
theorem znp (hu:X.A.units + 1 < cLine) (ho:PE X o td) (hi:PE X i ty) (hs:NoSl i):PE X (.Subscript o i pos) (tDGet td ty):=by
 intro pins s σ H Q I h
 refine zry PySem.F.slot_dict_getitem.lookup hs (thn (ho pins s σ H _ I h) λ u s1 ⟨x,H1,I1,rx,q1⟩=>thn (hi pins s1 σ H1 _ I1 q1) λ iv s2 ⟨y,H2,I2,ry,a,v,ex,g,q2⟩=>?_)
 subst ex
 obtain rfl:u=Value.ref a:=rx
 exact⟨zki I2 g,zox hu I2 g ry λ w' s3 I3 rw'=>⟨v,H2,I3,rw',q2⟩⟩
theorem zio (hu:X.A.units + 1 < cLine) (hi:PE X i ty) (ho:PE X o td):PC X .NotIn i o (tDNotIn ty td):=by
 intro pins s σ H Q I h
 refine thn (hi pins s σ H _ I h) λ iv s1 ⟨y,H1,I1,ry,q1⟩=>thn (ho pins s1 σ H1 _ I1 q1) λ u s2 ⟨x,H2,I2,rx,a,ov,ex,g,q2⟩=>?_
 subst ex
 obtain rfl:u=Value.ref a:=rx
 exact zsy hu I2 g ry λ s3 I3=>⟨.bl (!ov.isSome),H2,I3,rfl,q2⟩
theorem zr6 (hu:X.A.units + 1 < cLine) (ho:PE X o td) (hi:PE X i ty) (hv:PE X value tv) (hs:swapsWith value (some (.Subscript o i pos')) pos.line X.env=pure false) :
  PS X (.Assign [.Subscript o i pos'] value pos) (sDPut td ty tv):=by
 intro pins s σ H D I h
 refine wpAny_Assign_Subscript (thn (hv pins s σ H _ I h) λ r s1 ⟨v,H1,I1,rv,q1⟩=>thn (ho pins s1 σ H1 _ I1 q1) λ u s2 ⟨x,H2,I2,rx,q2⟩=>thn (hi pins s2 σ H2 _ I2 q2) λ iv s3 ⟨y,H3,I3,ry,a,H4,ex,g,q3⟩=>?_) hs
 subst ex
 obtain rfl:u=Value.ref a:=rx
 exact zow hu I3 g ry rv λ s4 I4=>⟨σ,H4,I4,q3⟩
end
theorem zqk {P:Program} {w:World} {H:Hp} (h:Heap) (hb:sysModules < h.objs.size):ObjOk P w H (h.push { cls:=.type "dict",data:=.dict #[] }) h.objs.size (.dK []) :=
 ⟨ubb _,beq_eq_false_iff_ne.mpr (Ne.symm (uaw hb)),[],.nil,Heap.DictOf.new h⟩
def tDNewK:TE:=λ _ H Q=>∀ p,H p=none->Q (.ref p) (upd H p (.dK []))
section
variable {X:Cx} {pos:Pos}
theorem zpw:PE X (.Dict [] [] pos) tDNewK:=λ pins s σ H Q I h =>
 wpAny_Dict_empty ⟨.ref s.heap.objs.size,_,I.laid (a:=s.heap.objs.size) (o:=.dK []) (t':=s.toks) (λ _ _ q=>Heap.get?_push_of_some _ q) (uai _) (zqk s.heap I.big),rfl,h _ (I.hok.fresh (uai _))⟩
end
end L2
set_option maxHeartbeats 4000000
namespace Srt
open PySem PySem.W PyProof.Rows
section
variable {N:Nat} {r:Nat->Int} {cmp:Nat->Nat->(Bool->Shared->Prop)->Shared->Prop} {s:Shared}
def ky (r:Nat->Int) (p:Array Nat) (m:Nat):Int:=r (p.getD m 0)
def Up (r:Nat->Int) (p:Array Nat) (n:Nat):Prop:=∀ i j,i<=j->j < n->ky r p i<=ky r p j
def Dn (r:Nat->Int) (p:Array Nat) (n:Nat):Prop:=∀ i j,i<=j->j < n->ky r p j<=ky r p i
def Ask (N:Nat) (r:Nat->Int) (cmp:Nat->Nat->(Bool->Shared->Prop)->Shared->Prop) (s:Shared):Prop :=
 ∀ i j C,i < N->j < N->C (decide (r i < r j)) s->cmp i j C s
def Gd (N:Nat) (p:Array Nat):Prop:=p.Perm (ub9 (uag N))
theorem Gd.sz {p:Array Nat} (g:Gd N p):p.size=N:=by
 have:=g.size_eq
 simpa using this
theorem Gd.lt {p:Array Nat} (g:Gd N p) (h:0 < N) (m:Nat):p.getD m 0 < N:=by
 by_cases hm:m < p.size
 ·have e:p.getD m 0=p[m]:=by simp [ugb,hm]
  rw[e]
  have h1:p[m] ∈ p:=Array.getElem_mem hm
  have h2:p[m] ∈ ub9 (uag N):=g.mem_iff.mp h1
  simpa using h2
 ·have e:p.getD m 0=0:=by simp [ugb,hm]
  left
theorem zoa {p q:Array Nat} {i j:Nat} (h:p[i]?=q[j]?):ky r p i=ky r q j:=by
 have e:∀ (a:Array Nat) (k:Nat),a.getD k 0=(a[k]?).getD 0:=λ a k=>by
  by_cases hk:k < a.size <;> simp [ugb,hk]
 unfold ky
 rw[e,e,h]
theorem zn9 {p:Array Nat} {i j:Nat} (hj:j<=p.size) (k:Nat):ky r (kas_rev p i j) k=if i<=k/\k < j then ky r p (i + j - 1 - k) else ky r p k:=by
 have e:=getElem?_mirror_all (i:=i) hj k
 by_cases h:i<=k/\k < j
 ·rw[if_pos h] at e ⊢
  exact zoa e
 ·rw[if_neg h] at e ⊢
  exact zoa e
theorem zts {p:Array Nat} {k d:Nat} (hs:k < p.size) (hd:d<=k) (m:Nat) :
  ky r (bubble p k d) m=if m=k - d then ky r p k else if k - d < m/\m<=k then ky r p (m - 1) else ky r p m:=by
 have e:=getElem?_bubble hs d hd m
 by_cases h1:m=k - d
 ·rw[if_pos h1] at e ⊢
  exact zoa e
 ·rw[if_neg h1] at e ⊢
  by_cases h2:k - d < m/\m<=k
  ·rw[if_pos h2] at e ⊢
   exact zoa e
  ·rw[if_neg h2] at e ⊢
   exact zoa e
theorem Gd.rev {p:Array Nat} (g:Gd N p) (i j:Nat):Gd N (kas_rev p i j):=(mirror_perm p i j _).trans g
theorem Gd.bub {p:Array Nat} (g:Gd N p) (i j:Nat):Gd N (bubble p i j):=(bubble_perm p i j).trans g
theorem zl3 (h:Ask N r cmp s) (hN:0 < N) {p:Array Nat} (g:Gd N p) {Q:Nat->Shared->Prop}:∀ f n,1<=n->Up r p n ->
  (∀ m,n<=m->m<=n + f->Up r p m->(m < n + f->ky r p m < ky r p (m - 1))->Q m s)->(kas_asc p f n).kasWp cmp Q s
 | 0,n,_,hu,q=>q n (uai _) (uai _) hu (λ z=>absurd z (uck _))
 | f + 1,n,h1,hu,q=>by
  refine h _ _ _ (g.lt hN _) (g.lt hN _) ?_
  by_cases c:r (p.getD n 0) < r (p.getD (n - 1) 0)
  ·rw[decide_eq_true c]
   exact q n (uai _) (by left) hu (λ _=>c)
  ·rw[decide_eq_false c]
   refine zl3 h hN g f (n + 1) (by left) (λ i j hij hj=>?_) (λ m a b u d=>q m (by left) (by left) u (λ z=>d (by left)))
   have c':ky r p (n - 1)<=ky r p n:=by unfold ky;left
   by_cases e:j=n
   ·subst e
    by_cases e2:i=j
    ·subst e2;exact ubm _
    ·exact ugm (hu i (j - 1) (by left) (by left)) c'
   ·exact hu i j hij (by left)
theorem zfk {p:Array Nat} {i j:Nat} (hj:j<=p.size) (v:Int) (he:∀ k,i<=k->k < j->ky r p k=v) (k:Nat):ky r (kas_rev p i j) k=ky r p k:=by
 rw[zn9 hj]
 split
 ·rename_i c
  rw[he _ (by left) (by left),he k c.1 c.2]
 ·rfl
theorem zhm (h:Ask N r cmp s) (hN:0 < N) {Q:Array Nat × Nat × Nat->Shared->Prop}:∀ f p n q,Gd N p->1<=n->n + f<=N->Dn r p n->q + 1<=n->(∀ i,n - (q + 1)<=i->i < n->ky r p i=ky r p (n - 1)) ->
  (∀ p' n' q',Gd N p'->n<=n'->n'<=n + f->Dn r p' n'->q' + 1<=n'->(∀ i,n' - (q' + 1)<=i->i < n'->ky r p' i=ky r p' (n' - 1))->Q (p',n',q') s)->(kas_desc f p n q).kasWp cmp Q s
 | 0,p,n,q,g,_,_,hd,hq,he,z=>z p n q g (uai _) (uai _) hd hq he
 | f + 1,p,n,q,g,h1,hf,hd,hq,he,z=>by
  refine h _ _ _ (g.lt hN _) (g.lt hN _) ?_
  by_cases c:r (p.getD n 0) < r (p.getD (n - 1) 0)
  ·rw[decide_eq_true c]
   have c':ky r p n < ky r p (n - 1):=c
   have dn:∀ {p':Array Nat},(∀ k,ky r p' k=ky r p k)->Dn r p' (n + 1):=λ e i j hij hj=>by
    rw[e,e]
    by_cases ej:j=n
    ·subst ej
     by_cases ei:i=j
     ·subst ei;exact ubm _
     ·exact ugm (udx c') (hd i (j - 1) (by left) (by left))
    ·exact hd i j hij (by left)
   show KasT.kasWp cmp (if q > 0 then kas_desc f (kas_rev p (n - (q + 1)) n) (n + 1) 0 else kas_desc f p (n + 1) 0) Q s
   by_cases hq0:q > 0
   ·rw[if_pos hq0]
    have e:=zfk (r:=r) (p:=p) (i:=n - (q + 1)) (j:=n) (by rw[g.sz];left) (ky r p (n - 1)) he
    exact zhm h hN f _ (n + 1) 0 (g.rev _ _) (by left) (by left) (dn e) (by left) (λ i a b=>by congr 1;left)
     (λ p' n' q' g' a b d e1 e2=>z p' n' q' g' (by left) (by left) d e1 e2)
   ·rw[if_neg hq0]
    exact zhm h hN f _ (n + 1) 0 g (by left) (by left) (dn λ _=>rfl) (by left) (λ i a b=>by congr 1;left)
     (λ p' n' q' g' a b d e1 e2=>z p' n' q' g' (by left) (by left) d e1 e2)
  ·rw[decide_eq_false c]
   refine h _ _ _ (g.lt hN _) (g.lt hN _) ?_
   by_cases d:r (p.getD (n - 1) 0) < r (p.getD n 0)
   ·rw[decide_eq_true d]
    exact z p n q g (uai _) (by left) hd hq he
   ·rw[decide_eq_false d]
    have e:ky r p n=ky r p (n - 1):=by unfold ky;left
    refine zhm h hN f p (n + 1) (q + 1) g (by left) (by left) (λ i j hij hj=>?_) (by left) (λ i a b=>?_)
     (λ p' n' q' g' a b d e1 e2=>z p' n' q' g' (by left) (by left) d e1 e2)
    ·by_cases ej:j=n
     ·subst ej
      by_cases ei:i=j
      ·subst ei;exact ubm _
      ·rw[e];exact hd i (j - 1) (by left) (by left)
     ·exact hd i j hij (by left)
    ·rw[show n + 1 - 1=n by left]
     by_cases ei:i=n
     ·rw[ei]
     ·rw[e];exact he i (by left) (by left)
theorem zky (h:Ask N r cmp s) (hN:0 < N) {Q:Nat × Array Nat->Shared->Prop} {p:Array Nat} {n:Nat} (g:Gd N p) (h1:1<=n) (hn:n<=N) (hd:Dn r p n)
  (z:∀ m p',Gd N p'->1<=m->m<=N->Up r p' m->Q (m,p') s):(kas_tail3 n N p).kasWp cmp Q s:=by
 unfold kas_tail3
 rw[KasT.kasWp_bind]
 refine zl3 h hN (g.rev 0 n) _ n h1 (λ i j hij hj=>?_) (λ m a b u _=>z m _ (g.rev 0 n) (by left) (by left) u)
 rw[zn9 (by rw[g.sz];left),zn9 (by rw[g.sz];left),if_pos (by left),if_pos (by left)]
 exact hd _ _ (by left) (by left)
theorem zfq (h:Ask N r cmp s) (hN:0 < N) {Q:Nat × Array Nat->Shared->Prop} {p:Array Nat} {n:Nat} (g:Gd N p) (h1:1<=n) (hn:n + 1<=N) (hd:Dn r p (n + 1))
  (z:∀ m p',Gd N p'->1<=m->m<=N->Up r p' m->Q (m,p') s):(kas_descPart n N p).kasWp cmp Q s:=by
 unfold kas_descPart
 rw[KasT.kasWp_bind]
 refine zhm h hN _ p (n + 1) 0 g (by left) (by left) hd (by left) (λ i a b=>by congr 1;left) (λ p' n' q' g' a b d e1 e2=>?_)
 show KasT.kasWp cmp (if q' > 0 then kas_tail3 n' N (kas_rev p' (n' - (q' + 1)) n') else kas_tail3 n' N p') Q s
 by_cases hq:q' > 0
 ·rw[if_pos hq]
  have e:=zfk (r:=r) (p:=p') (i:=n' - (q' + 1)) (j:=n') (by rw[g'.sz];left) (ky r p' (n' - 1)) e2
  exact zky h hN (g'.rev _ _) (by left) (by left) (λ i j hij hj=>by rw[e,e];exact d i j hij hj) z
 ·rw[if_neg hq]
  exact zky h hN g' (by left) (by left) d z
theorem zqp (h:Ask N r cmp s) (hN:0 < N) {Q:Nat × Array Nat->Shared->Prop} {p:Array Nat} (g:Gd N p)
  (z:∀ m p',Gd N p'->1<=m->m<=N->Up r p' m->Q (m,p') s):(kas_count N p).kasWp cmp Q s:=by
 unfold kas_count
 rw[KasT.kasWp_bind]
 refine zl3 h hN g _ 1 (uai _) (λ i j hij hj=>?_) (λ m a b u d=>?_)
 ·have:i=j:=by left
  subst this;exact ubm _
 show KasT.kasWp cmp (if (m == N)=true then .ret (m,p) else if m > 1 then .ask (p.getD 0 0) (p.getD (m - 1) 0) λ c=>if c=true then .ret (m,p) else kas_descPart m N (kas_rev p 0 m) else kas_descPart m N p) Q s
 by_cases hm:m=N
 ·rw[if_pos (by simpa using hm)]
  exact z m p g a (by left) u
 ·rw[if_neg (by simpa using hm)]
  have d':=d (by left)
  by_cases h1:m > 1
  ·rw[if_pos h1]
   refine h _ _ _ (g.lt hN _) (g.lt hN _) ?_
   by_cases c:r (p.getD 0 0) < r (p.getD (m - 1) 0)
   ·rw[decide_eq_true c]
    exact z m p g a (by left) u
   ·rw[decide_eq_false c]
    have c':ky r p (m - 1)<=ky r p 0:=by unfold ky;left
    have eq:∀ k,0<=k->k < m->ky r p k=ky r p 0:=λ k _ hk=>by
     have a1:=u 0 k (by left) hk
     have a2:=u k (m - 1) (by left) (by left)
     left
    have e:=zfk (r:=r) (p:=p) (i:=0) (j:=m) (by rw[g.sz];left) (ky r p 0) eq
    refine zfq h hN (g.rev 0 m) (by left) (by left) (λ i j hij hj=>?_) z
    rw[e,e]
    by_cases ej:j=m
    ·subst ej
     by_cases ei:i=j
     ·subst ei;exact ubm _
     ·rw[eq i (by left) (by left)]
      have:=eq (j - 1) (by left) (by left)
      left
    ·rw[eq i (by left) (by left),eq j (by left) (by left)]
     exact ubm _
  ·rw[if_neg h1]
   have e1:m=1:=by left
   subst e1
   refine zfq h hN g (by left) (by left) (λ i j hij hj=>?_) z
   by_cases ej:j=1
   ·subst ej
    by_cases ei:i=1
    ·subst ei;exact ubm _
    ·have:i=0:=by left
     subst this
     exact udx d'
   ·have:i=j:=by left
    subst this;exact ubm _
theorem zg2 (h:Ask N r cmp s) (hN:0 < N) {Q:Nat->Shared->Prop} {p:Array Nat} {k:Nat} (g:Gd N p) (hu:Up r p k):∀ f l rr,l<=rr->rr<=k->rr - l<=f->(∀ i,i < l->ky r p i<=ky r p k)->(∀ i,rr<=i->i < k->ky r p k < ky r p i) ->
  (∀ l',l'<=k->(∀ i,i < l'->ky r p i<=ky r p k)->(∀ i,l'<=i->i < k->ky r p k < ky r p i)->Q l' s)->(kas_place p k f l rr).kasWp cmp Q s
 | 0,l,rr,h1,h2,h3,a,b,z=>z l (by left) a (λ i x y=>b i (by left) y)
 | f + 1,l,rr,h1,h2,h3,a,b,z=>by
  unfold kas_place
  by_cases hl:l ≥ rr
  ·rw[if_pos hl]
   exact z l (by left) a (λ i x y=>b i (by left) y)
  ·rw[if_neg hl]
   refine h _ _ _ (g.lt hN _) (g.lt hN _) ?_
   by_cases c:r (p.getD k 0) < r (p.getD ((l + rr) / 2) 0)
   ·rw[decide_eq_true c]
    have c':ky r p k < ky r p ((l + rr) / 2):=c
    exact zg2 h hN g hu f l ((l + rr) / 2) (by left) (by left) (by left) a (λ i x y=>Int.lt_of_lt_of_le c' (hu _ _ x y)) z
   ·rw[decide_eq_false c]
    have c':ky r p ((l + rr) / 2)<=ky r p k:=by unfold ky;left
    exact zg2 h hN g hu f ((l + rr) / 2 + 1) rr (by left) (by left) (by left) (λ i x=>ugm (hu i ((l + rr) / 2) (by left) (by left)) c') b z
theorem zrp (h:Ask N r cmp s) (hN:0 < N) {Q:Array Nat->Shared->Prop}:∀ f p k,Gd N p->k + f<=N->Up r p k->(∀ p',Gd N p'->Up r p' (k + f)->Q p' s)->(kas_bin f p k).kasWp cmp Q s
 | 0,p,k,g,_,hu,z=>z p g hu
 | f + 1,p,k,g,hk,hu,z=>by
  unfold kas_bin
  rw[KasT.kasWp_bind]
  refine zg2 h hN g hu k 0 k (by left) (uai _) (by left) (λ i x=>absurd x (udw _)) (λ i x y=>absurd (ubf x y) (uck _)) (λ l hl a b=>?_)
  have e:=λ m=>zts (r:=r) (p:=p) (k:=k) (d:=k - l) (by rw[g.sz];left) (by left) m
  refine zrp h hN f _ (k + 1) (g.bub _ _) (by left) (λ i j hij hj=>?_) (λ p' g' u'=>z p' g' (by rw[show k + (f + 1)=k + 1 + f by left];exact u'))
  rw[e,e]
  have ekl:k - (k - l)=l:=by left
  rw[ekl]
  by_cases i1:i=l
  ·rw[if_pos i1]
   by_cases j1:j=l
   ·rw[if_pos j1];exact ubm _
   ·rw[if_neg j1,if_pos (by left)]
    exact udx (b _ (by left) (by left))
  ·rw[if_neg i1]
   by_cases i2:l < i/\i<=k
   ·rw[if_pos i2,if_neg (by left),if_pos (by left)]
    exact hu _ _ (by left) (by left)
   ·rw[if_neg i2]
    by_cases j1:j=l
    ·rw[if_pos j1];exact a _ (by left)
    ·rw[if_neg j1]
     by_cases j2:l < j/\j<=k
     ·rw[if_pos j2];exact hu _ _ (by left) (by left)
     ·rw[if_neg j2];exact hu _ _ hij (by left)
theorem zr0 (h:Ask N r cmp s) (hN:0 < N) {Q:Array Nat->Shared->Prop} (z:∀ p,Gd N p->Up r p N->Q p s):(kas_sort N).kasWp cmp Q s:=by
 unfold kas_sort
 rw[KasT.kasWp_bind]
 refine zqp h hN (ueq _) (λ m p g h1 hm u=>?_)
 show KasT.kasWp cmp (if m < N then kas_bin (N - max m 1) p (max m 1) else .ret p) Q s
 by_cases c:m < N
 ·rw[if_pos c,Nat.max_eq_left h1]
  exact zrp h hN _ p m g (by left) u (λ p' g' u'=>z p' g' (by rw[show m + (N - m)=N by left] at u';exact u'))
 ·rw[if_neg c]
  have:m=N:=by left
  subst this
  exact z p g u
end
end Srt
namespace Srt
open PySem PySem.W PyProof.Rows
section
variable {n:Nat} {lt:Nat->Nat->Bool}
def rank (n:Nat) (lt:Nat->Nat->Bool) (i:Nat):Int:=(((uag n).countP λ k=>lt k i:Nat):Int)
theorem zcv {α:Type} {p q:α->Bool}:∀ {l:List α} {x:α},(∀ y ∈ l,p y=true->q y=true)->x ∈ l->p x=false->q x=true->l.countP p < l.countP q
 | [],_,_,hx,_,_=>by cases hx
 | a::r,x,h,hx,hp,hq=>by
  have hr:∀ y ∈ r,p y=true->q y=true:=λ y hy=>h y (uap _ hy)
  have mono:r.countP p<=r.countP q:=ufy hr
  rw[ufs,ufs]
  rcases uar.mp hx with e | hx
  ·subst e
   simp only [hp,hq,ub5,if_false,if_true]
   left
  ·have ih:=zcv hr hx hp hq
   cases hpa:p a with
   | false=>simp only [ub5,if_false];split <;> left
   | true =>
    have:=h a ual hpa
    simp only [this,if_true]
    left
theorem zeu (hi:∀ i,lt i i=false) (ht:∀ i j k,i < n->j < n->k < n->lt i j=true->lt j k=true->lt i k=true) (hn:∀ i j k,i < n->j < n->k < n->lt i k=true->lt i j=true\/lt j k=true)
  {i j:Nat} (h1:i < n) (h2:j < n):decide (rank n lt i < rank n lt j)=lt i j:=by
 unfold rank
 cases e:lt i j with
 | true =>
  refine decide_eq_true ?_
  have:=zcv (p:=λ k=>lt k i) (q:=λ k=>lt k j) (l:=uag n) (x:=i) (λ k hk q=>ht k i j (uav.mp hk) h1 h2 q e) (uav.mpr h1) (hi i) e
  left
 | false =>
  refine decide_eq_false ?_
  have:(uag n).countP (λ k=>lt k j)<=(uag n).countP (λ k=>lt k i):=ufy λ k hk q=>by
   rcases hn k i j (uav.mp hk) h1 h2 q with z | z
   ·exact z
   ·rw[e] at z;cases z
  left
end
section
variable {prog:Program} {w:World} {A:Around} {E:Value->Shared->Prop} {s:Shared}
abbrev Stay (a:Addr) (h h':Heap):Prop:=∀ b o,b≠a->h.get? b=some o->h'.get? b=some o
def outOf (vs:List Value) (p:Array Nat):List Value:=p.toList.map λ i=>vs.getD i Value.none
theorem ze3 (vs:List Value):outOf vs (ub9 (uag vs.length))=vs:=by
 unfold outOf
 refine ues (by simp) λ i h1 h2=>?_
 simp
 rw[uad h2]
 rfl
theorem zri {vs:List Value} {p:Array Nat} (g:Gd vs.length p):(outOf vs p).length=vs.length:=by
 unfold outOf
 rw[uae,ub0,g.sz]
theorem lsort {a:Addr} {vs:List Value} {n:Nat} {P:PySem.Fin->Shared->Prop} {r:Nat->Int} {κ:SortKind} (ho:s.heap.get? a=some (seqObj "list" vs.toArray n)) (h64:vs.length < 64)
  (hk:2<=vs.length->∀ (s':Shared) (Q:SortKind->Shared->Prop),Stay a s.heap s'.heap->Q κ s'->wpAny (model prog w) A (keyKind' vs.toArray) Q (λ _ _=>False) s')
  (hc:∀ (s':Shared) (i j:Nat) (C:Bool->Shared->Prop),Stay a s.heap s'.heap->i < vs.length->j < vs.length->C (decide (r i < r j)) s'->kas_ask prog w A κ vs i j C s')
  (h:∀ (p:Array Nat) (h':Heap) (c:Nat),Gd vs.length p->Up r p vs.length->Stay a s.heap h'->h'.get? a=some (seqObj "list" (outOf vs p).toArray c)->P (.done (.ret .none)) { s with heap:=h' }) :
  wpAny (model prog w) A (Builtin.«list.sort» ⟨[.ref a],[]⟩) P E s:=by
 rw[list_sort_plain]
 have ha:a < s.heap.objs.size:=Heap.lt_size ho
 have line:(64:Nat)<=sizeLine:=by rw[ucf];decide
 refine uab (listItems_at ho rfl (uab (listUpdate_at ho rfl ?_ (by rw[uak];left) (ubb _))))
 have e1:=get?_update_seq ho λ _=>(#[]:Array Value)
 generalize (if ((λ _=>(#[]:Array Value)) vs.toArray).size == vs.toArray.size then n else n + 1)=n1 at e1
 have k1:Stay a s.heap (s.heap.update a (Obj.mapSeq λ _=>(#[]:Array Value))):=λ b o hb q=>(Heap.get?_update_other s.heap _ (Ne.symm hb)).trans q
 refine uab (seqEpoch_at e1 rfl (uab (ugc ?_ (by show vs.length<=_;left))))
 refine uab (ud6 ?_ (ubb _))
 refine ubk ?_
 show wpAny (model prog w) A _ P E { s with heap:=(((s.heap.update a (Obj.mapSeq λ _=>(#[]:Array Value))).push (seqObj "tuple" vs.toArray 0)).push (seqObj "list" #[] 0):Heap) }
 generalize hg:((s.heap.update a (Obj.mapSeq λ _=>(#[]:Array Value))).push (seqObj "tuple" vs.toArray 0)).push (seqObj "list" #[] 0)=g
 have e2:g.get? a=some (seqObj "list" #[] n1):=by rw[← hg];exact Heap.get?_push_of_some _ (Heap.get?_push_of_some _ e1)
 have k2:Stay a s.heap g:=λ b o hb q=>by rw[← hg];exact Heap.get?_push_of_some _ (Heap.get?_push_of_some _ (k1 b o hb q))
 have fin:∀ (p:Array Nat),Gd vs.length p->Up r p vs.length->P (.done (.ret .none)) { s with heap:=g.update a (Obj.mapSeq λ _=>(outOf vs p).toArray) }:=λ p g1 u1 =>
  h p _ _ g1 u1 (λ b o hb q=>(Heap.get?_update_other g _ (Ne.symm hb)).trans (k2 b o hb q)) (get?_update_seq e2 λ _=>(outOf vs p).toArray)
 by_cases h2:vs.length < 2
 ·have h2':vs.toArray.size < 2:=by rw[uak];exact h2
  simp only [if_pos h2']
  refine uab (uah ?_)
  rw[StateT.run_pure]
  refine uab (uah ?_)
  have eo:((arrOf (SortSt.mk' general' (vs.toArray.zip vs.toArray) #[] 7 none)).map (·.2))=vs.toArray:=by
   apply Array.toList_inj.mp
   show ((vs.toArray.zip vs.toArray).map (·.2)).toList=_
   rw[Array.toList_map]
   simp only [Array.toList_zip,List.toList_toArray]
   exact ufr (uai _)
  dsimp only
  refine uab (seqEpoch_at e2 rfl ?_)
  rw[eo]
  refine uab (listUpdate_at e2 rfl ?_ (ubb _) (by rw[uak];left))
  simp only [bne_self_eq_false,ub5,if_false]
  have f:=fin (ub9 (uag vs.length)) (ueq _) (λ i j hij hj=>by
   have:i=j:=by left
   subst this;exact ubm _)
  rw[ze3] at f
  exact uah f
 ·have h2':¬ vs.toArray.size < 2:=by rw[uak];exact h2
  simp only [if_neg h2']
  refine uab (ucv (hk (by left) { s with heap:=g } (λ κ' s'=>κ'=κ/\s'={ s with heap:=g }) k2 ⟨rfl,rfl⟩) (λ κ' s' hq=>?_) λ _ _ x=>x.elim)
  obtain⟨rfl,rfl⟩:=hq
  refine uab (ucv (kat_run (ks:=vs) (Q:=λ st' s'=>∃ p:Array Nat,arrOf st'=p.map (kas_item (vs.toArray.zip vs.toArray))/\failedOf st'=none/\s'={ s with heap:=g }/\Gd vs.length p/\Up r p vs.length)
   (G:=λ p s'=>s'={ s with heap:=g }/\Gd vs.length p/\Up r p vs.length) rfl (by left) h64 (λ p st' s' _ b2 b3 b4=>⟨p,b2,b3,b4.1,b4.2.1,b4.2.2⟩)
   (zr0 (r:=r) (λ i j C hi hj q=>hc _ i j C k2 hi hj q) (by left) λ p g1 u1=>⟨rfl,g1,u1⟩)) ?_ λ _ _ e=>e)
  rintro ⟨⟨⟩,st'⟩ s' ⟨p,har,hf,rfl,g1,u1⟩
  have hout:=kat_snds (ks:=vs) (vs:=vs) rfl har
  have ol:(outOf vs p).length=vs.length:=zri g1
  dsimp only
  rw[hout]
  refine uab (seqEpoch_at e2 rfl ?_)
  refine uab (listUpdate_at e2 rfl ?_ (ubb _) (by show (outOf vs p).toArray.size<=_;rw[uak];left))
  rw[hf]
  simp only [bne_self_eq_false,ub5,if_false]
  exact uah (fin p g1 u1)
theorem zik {l:Addr} {vs:List Value} {Q:Value->Shared->Prop} {r:Nat->Int} {κ:SortKind} (hl:s.heap.IsList l vs.toArray) (h64:vs.length < 64)
  (hk:2<=vs.length->∀ (A':Around) (s':Shared) (Q:SortKind->Shared->Prop),(∀ b o,s.heap.get? b=some o->s'.heap.get? b=some o)->Q κ s'->wpAny (model prog w) A' (keyKind' vs.toArray) Q (λ _ _=>False) s')
  (hc:∀ (A':Around) (s':Shared) (i j:Nat) (C:Bool->Shared->Prop),(∀ b o,s.heap.get? b=some o->s'.heap.get? b=some o)->i < vs.length->j < vs.length->C (decide (r i < r j)) s'->kas_ask prog w A' κ vs i j C s')
  (h:∀ (p:Array Nat) (h':Heap) (c:Nat),Gd vs.length p->Up r p vs.length->(∀ b o,s.heap.get? b=some o->h'.get? b=some o)->h'.get? (s.heap.objs.size + 1)=some (seqObj "list" (outOf vs p).toArray c)->Q (.ref (s.heap.objs.size + 1)) { s with heap:=h' }) :
  wpAny (model prog w) A (call (.builtin "sorted") [.ref l]) Q E s:=by
 have line:(64:Nat)<=sizeLine:=by rw[ucf];decide
 refine Calls.call_function_entry kind_sorted plain_sorted entry_sorted (args_sorted1 _) ?_
 unfold Builtin.«sorted»
 refine uab (m:=checkCount "sorted" 1 1 _) (uah (uab (collect_list hl (uab (ud6 ?_ (by left))) (by left))))
 generalize hg:(s.heap.push (seqObj "list" #[] 0)).update s.heap.objs.size (Obj.mapSeq (·++vs.toArray))=g
 have sz:g.objs.size=s.heap.objs.size + 1:=by rw[← hg,Heap.size_update,size_push']
 have k1:∀ b o,s.heap.get? b=some o->g.get? b=some o:=λ b o q=>by
  rw[← hg]
  exact (Heap.get?_update_other _ _ (Ne.symm (uaw (Heap.lt_size q)))).trans (Heap.get?_push_of_some _ q)
 have hoL:(g.push { cls:=.type "list",data:=.seq vs.toArray }).get? (s.heap.objs.size + 1)=some (seqObj "list" vs.toArray 0):=by rw[← sz];exact Heap.get?_push_size _ rfl
 have k2:∀ b o,s.heap.get? b=some o->(g.push { cls:=.type "list",data:=.seq vs.toArray }).get? b=some o:=λ b o q=>Heap.get?_push_of_some _ (k1 b o q)
 have ne:∀ b o,s.heap.get? b=some o->b≠s.heap.objs.size + 1:=λ b o q=>uaw (ub4 (Heap.lt_size q))
 show wpAny _ _ _ _ _ { s with heap:=g.push { cls:=.type "list",data:=.seq vs.toArray } }
 rw[sz]
 refine uab (ubk (ubi slot_list_sort ⟨_,hoL,rfl⟩ entry_list_sort ?_ (args_list_sort _)))
 refine lsort (s:={ s with heap:=g.push { cls:=.type "list",data:=.seq vs.toArray } }) (r:=r) (κ:=κ) hoL h64 (λ h2 s' Q' st q=>hk h2 _ s' Q' (λ b o e=>st b o (ne b o e) (k2 b o e)) q)
  (λ s' i j C st hi hj q=>hc _ s' i j C (λ b o e=>st b o (ne b o e) (k2 b o e)) hi hj q) λ p h' c g1 u1 st e=>⟨_,rfl,?_⟩
 exact uah ⟨_,rfl,h p h' c g1 u1 (λ b o e=>st b o (ne b o e) (k2 b o e)) e⟩
def lexI:List Int->List Int->Bool
 | [],[]=>false
 | [],_::_=>true
 | _::_,[]=>false
 | x::xs,y::ys=>if x=y then lexI xs ys else decide (x < y)
theorem zb4:∀ xs,lexI xs xs=false
 | []=>rfl
 | x::xs=>by show (if x=x then lexI xs xs else _)=false;rw[if_pos rfl];exact zb4 xs
theorem zbs:∀ xs ys zs,lexI xs ys=true->lexI ys zs=true->lexI xs zs=true
 | [],[],_,h,_=>by cases h
 | [],_::_,[],_,h=>by cases h
 | [],_::_,_::_,_,_=>rfl
 | _::_,[],_,h,_=>by cases h
 | _::_,_::_,[],_,h=>by cases h
 | x::xs,y::ys,z::zs,h1,h2=>by
  simp only [lexI] at h1 h2 ⊢
  by_cases e1:x=y
  ·subst e1
   rw[if_pos rfl] at h1
   by_cases e2:x=z
   ·rw[if_pos e2] at h2 ⊢;exact zbs xs ys zs h1 h2
   ·rw[if_neg e2] at h2 ⊢;exact h2
  ·rw[if_neg e1] at h1
   have l1:x < y:=of_decide_eq_true h1
   by_cases e2:y=z
   ·subst e2
    rw[if_neg e1];exact h1
   ·rw[if_neg e2] at h2
    have l2:y < z:=of_decide_eq_true h2
    rw[if_neg (by left)]
    exact decide_eq_true (by left)
theorem zc3:∀ xs ys zs,lexI xs zs=true->lexI xs ys=true\/lexI ys zs=true
 | [],[],_,h=>.inr h
 | [],_::_,_,_=>.inl rfl
 | _::_,_,[],h=>by cases h
 | _::_,[],_::_,_=>.inr rfl
 | x::xs,y::ys,z::zs,h=>by
  simp only [lexI] at h ⊢
  by_cases e:x=z
  ·subst e
   rw[if_pos rfl] at h
   by_cases e1:x=y
   ·subst e1
    rw[if_pos rfl,if_pos rfl];exact zc3 xs ys zs h
   ·rw[if_neg e1,if_neg (Ne.symm e1)]
    by_cases l:x < y
    ·exact .inl (decide_eq_true l)
    ·exact .inr (decide_eq_true (by left))
  ·rw[if_neg e] at h
   have l:x < z:=of_decide_eq_true h
   by_cases e1:x=y
   ·subst e1
    rw[if_neg e];exact .inr h
   ·by_cases e2:y=z
    ·subst e2
     rw[if_neg e1];exact .inl h
    ·rw[if_neg e1,if_neg e2]
     by_cases l1:x < y
     ·exact .inl (decide_eq_true l1)
     ·exact .inr (decide_eq_true (by left))
theorem zlh:∀ xs ys,lexI xs ys=false->lexI ys xs=false->xs=ys
 | [],[],_,_=>rfl
 | [],_::_,h,_=>by cases h
 | _::_,[],_,h=>by cases h
 | x::xs,y::ys,h1,h2=>by
  simp only [lexI] at h1 h2
  by_cases e:x=y
  ·subst e
   rw[if_pos rfl] at h1 h2
   rw[zlh xs ys h1 h2]
  ·rw[if_neg e] at h1
   rw[if_neg (Ne.symm e)] at h2
   have:=of_decide_eq_false h1
   have:=of_decide_eq_false h2
   exact absurd (by left) e
def TupI (h:Heap) (v:Value) (k:List Int):Prop:=∃ a o its n,v=.ref a/\h.get? a=some o/\o.cls=.type "tuple"/\o.data=.seq its n/\IntsAre its.toList k
theorem TupI.to {h h':Heap} {v:Value} {k:List Int} (t:TupI h v k) (e:∀ b o,h.get? b=some o->h'.get? b=some o):TupI h' v k :=
 let ⟨a,o,its,n,q1,q2,q3⟩:=t
 ⟨a,o,its,n,q1,e _ _ q2,q3⟩
theorem katI {C:Bool->Shared->Prop}:∀ {xs ys:List Value} {k k':List Int} (i:Nat),IntsAre xs k->IntsAre ys k'->C (lexI k k') s->KatLex prog w A true (decide (k.length < k'.length)) C (xs.zip ys) i s
 | _,_,_,_,i,.nil,.nil,h=>h
 | _,_,_,_,i,.nil,.cons c u h',h=>by
  rw[List.zip_nil_left]
  refine kat_nil ?_
  rw[decide_eq_true (by simp)]
  exact h
 | _,_,_,_,i,.cons a t h',.nil,h=>by
  rw[List.zip_nil_right]
  refine kat_nil ?_
  rw[decide_eq_false (by simp)]
  exact h
 | _,_,_,_,i,.cons a t (vs:=xs) (ns:=k) h1,.cons c u (vs:=ys) (ns:=k') h2,h=>by
  rw[ue7]
  refine kat_cons (uf1 ?_)
  have ef:decide ((a::k).length < (c::k').length)=decide (k.length < k'.length):=by simp
  have hh:C (if a=c then lexI k k' else decide (a < c)) s:=h
  rw[ef]
  by_cases e:a=c
  ·rw[if_pos e] at hh
   rw[show (a == c)=true by simpa using e]
   exact kat_yes (katI (i + 1) h1 h2 hh)
  ·rw[if_neg e] at hh
   rw[show (a == c)=false by simpa using e]
   refine kat_no ?_
   cases hi:(true && i == 0) with
   | true=>exact oneLt_int hh
   | false=>exact kat_one _ _ (lt_int hh)
theorem zm4 {vs:List Value} {ks:List (List Int)} (hk:Paired (TupI s.heap) vs ks) {i j:Nat} {C:Bool->Shared->Prop} (hi:i < vs.length) (hj:j < vs.length) (h:C (lexI (ks.getD i []) (ks.getD j [])) s):kas_ask prog w A (tuples' true) vs i j C s:=by
 have at_:∀ {vs:List Value} {ks:List (List Int)} (i:Nat),Paired (TupI s.heap) vs ks->i < vs.length->TupI s.heap (vs.getD i Value.none) (ks.getD i []):=by
  intro vs ks i p
  induction p generalizing i with
  | nil=>intro h;exact absurd h (by simp)
  | cons r t ih =>
   intro h
   cases i with
   | zero=>exact r
   | succ i=>exact ih i (by simpa using h)
 obtain⟨a,o,its,n,e1,q1,q2,q3,q4⟩:=at_ i hk hi
 obtain⟨a',o',its',n',e1',q1',q2',q3',q4'⟩:=at_ j hk hj
 unfold kas_ask
 rw[e1,e1']
 refine kat_lt q1 q3 q1' q3' ?_
 have l1:its.size=(ks.getD i []).length:=by have:=q4.length;simpa using this
 have l2:its'.size=(ks.getD j []).length:=by have:=q4'.length;simpa using this
 rw[l1,l2]
 exact katI 0 q4 q4' h
theorem zkv {vs:List Value} {ks:List (List Int)} (hk:Paired (TupI s.heap) vs ks) (hne:∀ k ∈ ks,k≠[]) (h2:2<=vs.length) {Q:SortKind->Shared->Prop} (h:Q (tuples' true) s):wpAny (model prog w) A (keyKind' vs.toArray) Q E s:=by
 have mk:∀ {vs:List Value} {ks:List (List Int)},Paired (TupI s.heap) vs ks->(∀ k ∈ ks,k≠[])->∃ fs:List Value,KatTups s.heap vs fs/\fs.length=vs.length/\∀ f ∈ fs,∃ n t,f=.int n t:=by
  intro vs ks p
  induction p with
  | nil=>exact λ _=>⟨[],.nil,rfl,λ f hf=>nomatch hf⟩
  | cons r t ih =>
   intro hn
   obtain⟨fs,g1,g2,g3⟩:=ih λ k hk=>hn k (uap _ hk)
   obtain⟨a,o,its,n,e1,q1,q2,q3,q4⟩:=r
   have hne:=hn _ ual
   subst e1
   cases hz:its.toList with
   | nil=>rw[hz] at q4;cases q4;exact absurd rfl hne
   | cons v r =>
    rw[hz] at q4
    obtain⟨m,tk,ev⟩:=q4.all v ual
    refine⟨v::fs,.cons q1 q2 q3 ?_ g1,by simp [g2],λ f hf=>?_⟩
    ·rw[← uda,hz];rfl
    ·rcases uar.mp hf with e | hf
     ·exact⟨m,tk,e.trans ev⟩
     ·exact g3 f hf
 obtain⟨fs,g1,g2,g3⟩:=mk hk hne
 refine kat_kind (T:=.type "int") g1 (by left) (λ v hv=>?_) (by symm) h
 obtain⟨m,tk,rfl⟩:=g3 v hv
 exact Looks.of_pure rfl
theorem zkd {vs:List Value} {ns:List Int} (hk:IntsAre vs ns) {i j:Nat} {C:Bool->Shared->Prop} (hi:i < vs.length) (hj:j < vs.length) (h:C (decide (ns.getD i 0 < ns.getD j 0)) s):kas_ask prog w A oneType' vs i j C s:=by
 have at_:∀ {vs:List Value} {ns:List Int} (i:Nat),IntsAre vs ns->i < vs.length->∃ t,vs.getD i Value.none=.int (ns.getD i 0) t:=by
  intro vs ns i p
  induction p generalizing i with
  | nil=>intro h;exact absurd h (by simp)
  | cons n t r ih =>
   intro h
   cases i with
   | zero=>exact⟨t,rfl⟩
   | succ i=>exact ih i (by simpa using h)
 obtain⟨t,e1⟩:=at_ i hk hi
 obtain⟨u,e2⟩:=at_ j hk hj
 unfold kas_ask
 rw[e1,e2]
 exact kat_lt_int h
theorem zhe {vs:List Value} {ns:List Int} (hk:IntsAre vs ns) (h2:2<=vs.length) {Q:SortKind->Shared->Prop} (h:Q oneType' s):wpAny (model prog w) A (keyKind' vs.toArray) Q E s:=by
 refine kas_kind (T:=.type "int") h2 (λ v hv=>?_) (by symm) (by symm) h
 obtain⟨m,tk,rfl⟩:=hk.all v hv
 exact Looks.of_pure rfl
end
end Srt
namespace Z3
open PySem
section
variable {prog:Program} {w:World} {A:Around} {E:Value->Shared->Prop} {s:Shared}
def SqAt (t:Bool) (h:Heap) (l:Addr) (xs:Array Value):Prop:=if t=true then h.IsTuple l xs else h.IsList l xs
def ItAt (t:Bool) (h:Heap) (it l:Addr) (i:Nat):Prop:=if t=true then h.IsTupleIter it l i else h.IsListIter it l i
def itObj (t:Bool) (l:Addr):Obj:=if t=true then { cls:=.type "tuple_iterator",data:=.fields #[.ref l,.int 0 0] } else { cls:=.type "list_iterator",data:=.fields #[.ref l,.int 0 0] }
theorem SqAt.to {t:Bool} {h h':Heap} {l:Addr} {xs:Array Value} (x:SqAt t h l xs) (e:∀ o,h.get? l=some o->h'.get? l=some o):SqAt t h' l xs:=by
 cases t with
 | true=>exact Heap.IsTuple.at (show h.IsTuple l xs from x) e
 | false=>exact Heap.IsList.at (show h.IsList l xs from x) e
theorem ItAt.to {t:Bool} {h h':Heap} {it l:Addr} {i:Nat} (x:ItAt t h it l i) (e:∀ o,h.get? it=some o->h'.get? it=some o):ItAt t h' it l i:=by
 cases t with
 | true=>exact Heap.IsTupleIter.at (show h.IsTupleIter it l i from x) e
 | false=>exact Heap.IsListIter.at (show h.IsListIter it l i from x) e
theorem ItAt.obj {t:Bool} {h:Heap} {it l:Addr} {i:Nat} (x:ItAt t h it l i):∃ o n,h.get? it=some o/\o.cls=.type n/\o.data=.fields #[.ref l,.int i 0]:=by
 cases t with
 | true=>obtain⟨o,a,b,c⟩:=(show h.IsTupleIter it l i from x);exact⟨o,_,a,b,c⟩
 | false=>obtain⟨o,a,b,c⟩:=(show h.IsListIter it l i from x);exact⟨o,_,a,b,c⟩
theorem ItAt.new {t:Bool} {h:Heap} {l:Addr}:ItAt t (h.push (itObj t l)) h.objs.size l 0:=by
 cases t with
 | true=>exact⟨_,Heap.get?_push_size _ rfl,rfl,rfl⟩
 | false=>exact⟨_,Heap.get?_push_size _ rfl,rfl,rfl⟩
theorem zfm {t:Bool} {l:Addr} {xs:Array Value} {Q:Value->Shared->Prop} (hl:SqAt t s.heap l xs) (h:Q (.ref s.heap.objs.size) { s with heap:=s.heap.push (itObj t l) }):wpAny (model prog w) A (pyIter (.ref l)) Q E s:=by
 cases t with
 | true=>exact ugn hl h
 | false=>exact uc7 hl h
theorem zqi {it l:Addr} {i:Nat} {xs:Array Value} {x:Value} {Q:Value->Shared->Prop} (hi:s.heap.IsTupleIter it l i) (hl:s.heap.IsTuple l xs) (hx:xs[i]?=some x)
  (h:∀ h',h'.IsTupleIter it l (i + 1)->Heap.SameBut it s.heap h'->Q x { s with heap:=h' }):wpAny (model prog w) A (Builtin.SmallTypes.nextOf (.ref it)) Q E s:=by
 obtain⟨o1,q1,q2,q3⟩:=id hi
 obtain⟨o2,q4,_,n2,q5⟩:=hl
 unfold Builtin.SmallTypes.nextOf
 refine uab (ubl (name:=Str.ofString "__next__") hi.typeIs F.slot_tuple_iterator_next (ubi F.slot_tuple_iterator_next hi.typeIs F.entry_tuple_iterator_next ?_ (F.args_tuple_iterator_next_1 _)))
 show wpAny _ _ (field (.ref it) 0 >>= _) _ _ s
 refine uab (ub2 q1 q3 (x:=.ref l) rfl ?_)
 show wpAny _ _ (if (Value.ref l == Value.none)=true then _ else _) _ _ s
 rw[if_neg (show ¬ ((Value.ref l == Value.none)=true) from uas)]
 show wpAny _ _ (field (.ref it) 1 >>= _) _ _ s
 refine uab (ub2 q1 q3 (x:=.int i 0) rfl ?_)
 show wpAny _ _ (seqItems? (.ref l) >>= _) _ _ s
 refine uab (ucn q4 q5 ?_)
 simp only [ua1,hx]
 refine uab (uds q1 q3 (by simp) (uah ⟨x,rfl,uah (h _ ?_ (Heap.SameBut.update ..))⟩))
 exact⟨_,Heap.get?_update_self _ q1 (Obj.isFreed_of_fields (Obj.data_mapFields q3 _)),(Obj.cls_mapFields ..).trans q2,by rw[Obj.data_mapFields q3];simp [rawInt]⟩
theorem zpp {it l:Addr} {i:Nat} {xs:Array Value} {Q:Value->Shared->Prop} (hh:A.handled=none) (hi:s.heap.IsTupleIter it l i) (hl:s.heap.IsTuple l xs) (hx:xs[i]?=none)
  (h:∀ h' e,Heap.ExtBut it s.heap h'->(∃ o,h'.get? e=some o/\o.cls=.type "StopIteration")->E (.ref e) { s with heap:=h' }):wpAny (model prog w) A (Builtin.SmallTypes.nextOf (.ref it)) Q E s:=by
 obtain⟨o1,q1,q2,q3⟩:=id hi
 obtain⟨o2,q4,_,n2,q5⟩:=hl
 unfold Builtin.SmallTypes.nextOf
 refine uab (ubl (name:=Str.ofString "__next__") hi.typeIs F.slot_tuple_iterator_next (ubi F.slot_tuple_iterator_next hi.typeIs F.entry_tuple_iterator_next ?_ (F.args_tuple_iterator_next_1 _)))
 show wpAny _ _ (field (.ref it) 0 >>= _) _ _ s
 refine uab (ub2 q1 q3 (x:=.ref l) rfl ?_)
 show wpAny _ _ (if (Value.ref l == Value.none)=true then _ else _) _ _ s
 rw[if_neg (show ¬ ((Value.ref l == Value.none)=true) from uas)]
 show wpAny _ _ (field (.ref it) 1 >>= _) _ _ s
 refine uab (ub2 q1 q3 (x:=.int i 0) rfl ?_)
 show wpAny _ _ (seqItems? (.ref l) >>= _) _ _ s
 refine uab (ucn q4 q5 ?_)
 simp only [ua1,hx]
 refine uab (udj (uab (uds q1 q3 (by simp) ?_)))
 show wpAny _ _ (newExc (.type "StopIteration") [] >>= _) _ _ { s with heap:=_ }
 refine uab (by
  simp only [newExc,newTuple]
  refine uab (ubx ?_ (by size_fits))
  refine uab (m:=firstArgMember _ _) (wpAny_of_eq (a:=Value.none) (by first | rfl | (simp only [firstArgMember];rfl)) ?_)
  refine ubx ?_ (by size_fits)
  simp only [raiseNew]
  refine uab (wpAny_handled ?_)
  first | rw[show A.in1.handled=none from hh] | rw[hh]
  exact uab (uah (wpAny_throw (h _ _ (((Heap.SameBut.update ..).extBut.push _).push _) ⟨_,Heap.get?_push_size _ rfl,rfl⟩))))
theorem zhl {t:Bool} {it l:Addr} {i:Nat} {xs:Array Value} {x:Value} {Q:Value->Shared->Prop} (hi:ItAt t s.heap it l i) (hl:SqAt t s.heap l xs) (hx:xs[i]?=some x)
  (h:∀ h',ItAt t h' it l (i + 1)->Heap.SameBut it s.heap h'->Q x { s with heap:=h' }):wpAny (model prog w) A (Builtin.SmallTypes.nextOf (.ref it)) Q E s:=by
 cases t with
 | true=>exact zqi hi hl hx h
 | false=>exact wpAny_nextOf_list_item hi hl hx h
theorem zjx {t:Bool} {it l:Addr} {i:Nat} {xs:Array Value} {Q:Value->Shared->Prop} (hh:A.handled=none) (hi:ItAt t s.heap it l i) (hl:SqAt t s.heap l xs) (hx:xs[i]?=none)
  (h:∀ h' e,Heap.ExtBut it s.heap h'->(∃ o,h'.get? e=some o/\o.cls=.type "StopIteration")->E (.ref e) { s with heap:=h' }):wpAny (model prog w) A (Builtin.SmallTypes.nextOf (.ref it)) Q E s:=by
 cases t with
 | true=>exact zpp hh hi hl hx h
 | false=>exact wpAny_nextOf_list_end hh hi hl hx h
structure Zd (t1 t2:Bool) (h:Heap) (z TI TO i1 i2 l1 l2:Addr) (f0:Value) (k:Nat):Prop where
 z:IsZip h z TI TO f0
 ti:IsPair h TI (.ref i1) (.ref i2)
 to:∃ a b,IsPair h TO a b
 a1:ItAt t1 h i1 l1 k
 a2:ItAt t2 h i2 l2 k
structure Ap (z TI TO i1 i2:Addr):Prop where
 n1:TI≠z
 n2:TO≠z
 n3:i1≠z
 n4:i2≠z
 n5:TI≠TO
 n6:TI≠i1
 n7:TI≠i2
 n8:TO≠i1
 n9:TO≠i2
 n10:i1≠i2
def Out (z TI TO i1 i2 l:Addr):Prop:=l≠z/\l≠TI/\l≠TO/\l≠i1/\l≠i2
theorem zpe {t1 t2:Bool} {z TI TO i1 i2 l1 l2:Addr} {k:Nat} {xs ys:Array Value} {x y:Value} {Q:Value->Shared->Prop} (D:Ap z TI TO i1 i2) (o1:Out z TI TO i1 i2 l1) (o2:Out z TI TO i1 i2 l2)
  (Z:Zd t1 t2 s.heap z TI TO i1 i2 l1 l2 .none k) (hl1:SqAt t1 s.heap l1 xs) (hl2:SqAt t2 s.heap l2 ys) (hx:xs[k]?=some x) (hy:ys[k]?=some y)
  (hQ:∀ h',Zd t1 t2 h' z TI TO i1 i2 l1 l2 (rawInt s.heap.objs.size) (k + 1)->IsPair h' s.heap.objs.size x y->h'.objs.size=s.heap.objs.size + 1 ->
   (∀ c o,c≠z->c≠TO->c≠i1->c≠i2->s.heap.get? c=some o->h'.get? c=some o)->Q (.ref s.heap.objs.size) { s with heap:=h' }) :
  wpAny (model prog w) A (Builtin.«zip.__next__» ⟨[.ref z],[]⟩) (λ fin s'=>∃ v,fin=.done (.ret v)/\Q v s') E s:=by
 obtain⟨hz,hti,⟨a,b,hto⟩,h1,h2⟩:=Z
 show wpAny _ _ (field (.ref z) 2 >>= _) _ _ s
 refine uab (ub2 hz rfl (x:=.bool false) rfl ?_)
 show wpAny _ _ (field (.ref z) 3 >>= _) _ _ s
 refine uab (ub2 hz rfl (x:=.ref TI) rfl ?_)
 refine uab (ucn hti rfl ?_)
 show wpAny _ _ (Builtin.SmallTypes.ownedTupleIsFree (.ref z) >>= _) _ _ s
 refine uab ?_
 unfold Builtin.SmallTypes.ownedTupleIsFree
 refine uab (ub2 hz rfl (x:=.none) rfl (uah ?_))
 simp only [if_true]
 refine uab (udj ?_)
 refine uab (ub2 hz rfl (x:=.ref TO) rfl ?_)
 refine uab (ub8 hz (by simp) λ g1 z1 e1=>?_)
 replace z1:IsZip g1 z TI TO .ellipsis:=z1
 refine uab ?_
 simp only [List.zipIdx_cons,List.zipIdx_nil,ugw,List.forIn_nil]
 refine uab (uab (ugo ?_))
 show wpAny _ _ (Builtin.SmallTypes.nextOf (.ref i1) >>= _) _ _ { s with heap:=g1 }
 refine uab (zhl (h1.to λ o e=>e1.extBut _ _ D.n3 e) (hl1.to λ o e=>e1.extBut _ _ o1.1 e) hx λ g2 a2 e2=>uah ?_)
 have b2:IsPair g2 TO a b:=e2.extBut _ _ D.n8 (e1.extBut _ _ D.n2 hto)
 refine uab (ucn b2 rfl ?_)
 refine uab (uf8 b2 λ g3 b3 e3=>?_)
 replace b3:IsPair g3 TO x b:=b3
 refine uab (uet (uah ?_))
 refine uab (uab (ugo ?_))
 show wpAny _ _ (Builtin.SmallTypes.nextOf (.ref i2) >>= _) _ _ { s with heap:=g3 }
 refine uab (zhl (h2.to λ o e=>e3.extBut _ _ D.n9.symm (e2.extBut _ _ D.n10.symm (e1.extBut _ _ D.n4 e))) (hl2.to λ o e=>e3.extBut _ _ o2.2.2.1 (e2.extBut _ _ o2.2.2.2.1 (e1.extBut _ _ o2.1 e))) hy λ g4 a4 e4=>uah ?_)
 have b4:IsPair g4 TO x b:=e4.extBut _ _ D.n9 b3
 refine uab (ucn b4 rfl ?_)
 refine uab (uf8 b4 λ g5 b5 e5=>?_)
 replace b5:IsPair g5 TO x y:=b5
 refine uab (uet (uah (uah ?_)))
 refine uab (ucn b5 rfl ?_)
 refine uab (ugc ?_)
 have sz:g5.objs.size=s.heap.objs.size:=by rw[e5.1,e4.1,e3.1,e2.1,e1.1]
 have z5:IsZip g5 z TI TO .ellipsis:=e5.extBut _ _ D.n2.symm (e4.extBut _ _ D.n4.symm (e3.extBut _ _ D.n2.symm (e2.extBut _ _ D.n3.symm z1)))
 have k5:∀ c o,c≠z->c≠TO->c≠i1->c≠i2->s.heap.get? c=some o->g5.get? c=some o:=λ c o c1 c2 c3 c4 e =>
  e5.extBut _ _ c2 (e4.extBut _ _ c4 (e3.extBut _ _ c2 (e2.extBut _ _ c3 (e1.extBut _ _ c1 e))))
 have a15:ItAt t1 g5 i1 l1 (k + 1):=a2.to λ o e=>e5.extBut _ _ D.n8.symm (e4.extBut _ _ D.n10 (e3.extBut _ _ D.n8.symm e))
 have a25:ItAt t2 g5 i2 l2 (k + 1):=a4.to λ o e=>e5.extBut _ _ D.n9.symm e
 have zlt:z < g5.objs.size:=Heap.lt_size z5
 show wpAny _ _ (Builtin.SmallTypes.ownedTupleHandOut (.ref z) (.ref g5.objs.size) >>= _) _ _ { s with heap:=_ }
 refine uab ?_
 unfold Builtin.SmallTypes.ownedTupleHandOut
 have z6:IsZip (g5.push { cls:=.type "tuple",data:=.seq #[x,y] }) z TI TO .ellipsis:=Heap.get?_push_of_some _ z5
 refine uab (ub8 z6 (by simp) λ g7 z7 e7=>?_)
 replace z7:IsZip g7 z TI TO (rawInt g5.objs.size):=z7
 refine ub8 z7 (by simp) λ g8 z8 e8=>?_
 replace z8:IsZip g8 z TI TO (rawInt g5.objs.size):=z8
 have up:∀ c o,c≠z->g5.get? c=some o->g8.get? c=some o:=λ c o c1 e=>e8.extBut _ _ c1 (e7.extBut _ _ c1 (Heap.get?_push_of_some _ e))
 have t8:IsPair g8 g5.objs.size x y:=e8.extBut _ _ (udb zlt) (e7.extBut _ _ (udb zlt) (Heap.get?_push_size _ rfl))
 have sz8:g8.objs.size=g5.objs.size + 1:=by rw[e8.1,e7.1,Heap.size_push]
 rw[sz] at z8 t8 sz8
 refine uah ⟨_,rfl,?_⟩
 show Q (.ref g5.objs.size) { s with heap:=g8 }
 rw[sz]
 exact hQ g8 ⟨z8,up _ _ D.n1 (k5 _ _ D.n1 D.n5 D.n6 D.n7 hti),⟨x,y,up _ _ D.n2 b5⟩,a15.to λ o e=>up _ o D.n3 e,a25.to λ o e=>up _ o D.n4 e⟩ t8 sz8 λ c o c1 c2 c3 c4 e=>up c o c1 (k5 c o c1 c2 c3 c4 e)
theorem zpd {t1 t2:Bool} {z TI TO i1 i2 l1 l2:Addr} {k:Nat} {xs ys:Array Value} {Q:Fin->Shared->Prop} (hh:A.handled=none) (D:Ap z TI TO i1 i2) (o1:Out z TI TO i1 i2 l1) (o2:Out z TI TO i1 i2 l2)
  (Z:Zd t1 t2 s.heap z TI TO i1 i2 l1 l2 .none k) (hl1:SqAt t1 s.heap l1 xs) (hl2:SqAt t2 s.heap l2 ys) (hend:xs[k]?=none\/ys[k]?=none)
  (hE:∀ h' e,(∀ c o,c≠z->c≠TO->c≠i1->c≠i2->s.heap.get? c=some o->h'.get? c=some o)->(∃ o,h'.get? e=some o/\o.cls=.type "StopIteration")->E (.ref e) { s with heap:=h' }) :
  wpAny (model prog w) A (Builtin.«zip.__next__» ⟨[.ref z],[]⟩) Q E s:=by
 obtain⟨hz,hti,⟨a,b,hto⟩,h1,h2⟩:=Z
 show wpAny _ _ (field (.ref z) 2 >>= _) _ _ s
 refine uab (ub2 hz rfl (x:=.bool false) rfl ?_)
 show wpAny _ _ (field (.ref z) 3 >>= _) _ _ s
 refine uab (ub2 hz rfl (x:=.ref TI) rfl ?_)
 refine uab (ucn hti rfl ?_)
 show wpAny _ _ (Builtin.SmallTypes.ownedTupleIsFree (.ref z) >>= _) _ _ s
 refine uab ?_
 unfold Builtin.SmallTypes.ownedTupleIsFree
 refine uab (ub2 hz rfl (x:=.none) rfl (uah ?_))
 simp only [if_true]
 refine uab (udj ?_)
 refine uab (ub2 hz rfl (x:=.ref TO) rfl ?_)
 refine uab (ub8 hz (by simp) λ g1 z1 e1=>?_)
 replace z1:IsZip g1 z TI TO .ellipsis:=z1
 refine uab ?_
 simp only [List.zipIdx_cons,List.zipIdx_nil,ugw,List.forIn_nil]
 refine uab (uab (ugo ?_))
 show wpAny _ _ (Builtin.SmallTypes.nextOf (.ref i1) >>= _) _ _ { s with heap:=g1 }
 cases hx:xs[k]? with
 | none =>
  refine uab (zjx hh (h1.to λ o e=>e1.extBut _ _ D.n3 e) (hl1.to λ o e=>e1.extBut _ _ o1.1 e) hx λ g2 e e2 he=>?_)
  obtain⟨oe,p1,p2⟩:=he
  have z2:IsZip g2 z TI TO .ellipsis:=e2 _ _ D.n3.symm z1
  have ez:e≠z:=λ q=>by subst q;rw[z2] at p1;cases p1;simp at p2
  exact ub8 z2 (by simp) λ g3 _ e3=>hE g3 e (λ c o c1 _ c3 _ q=>e3.extBut _ _ c1 (e2 _ _ c3 (e1.extBut _ _ c1 q))) ⟨oe,e3.extBut _ _ ez p1,p2⟩
 | some x =>
  have hy:ys[k]?=none:=by
   rcases hend with q | q
   ·rw[hx] at q;cases q
   ·exact q
  refine uab (zhl (h1.to λ o e=>e1.extBut _ _ D.n3 e) (hl1.to λ o e=>e1.extBut _ _ o1.1 e) hx λ g2 a2 e2=>uah ?_)
  have b2:IsPair g2 TO a b:=e2.extBut _ _ D.n8 (e1.extBut _ _ D.n2 hto)
  refine uab (ucn b2 rfl ?_)
  refine uab (uf8 b2 λ g3 b3 e3=>?_)
  refine uab (uet (uah ?_))
  refine uab (uab (ugo ?_))
  show wpAny _ _ (Builtin.SmallTypes.nextOf (.ref i2) >>= _) _ _ { s with heap:=g3 }
  refine uab (zjx hh (h2.to λ o e=>e3.extBut _ _ D.n9.symm (e2.extBut _ _ D.n10.symm (e1.extBut _ _ D.n4 e))) (hl2.to λ o e=>e3.extBut _ _ o2.2.2.1 (e2.extBut _ _ o2.2.2.2.1 (e1.extBut _ _ o2.1 e))) hy λ g4 e e4 he=>?_)
  obtain⟨oe,p1,p2⟩:=he
  have z4:IsZip g4 z TI TO .ellipsis:=e4 _ _ D.n4.symm (e3.extBut _ _ D.n2.symm (e2.extBut _ _ D.n3.symm z1))
  have ez:e≠z:=λ q=>by subst q;rw[z4] at p1;cases p1;simp at p2
  exact ub8 z4 (by simp) λ g5 _ e5=>hE g5 e (λ c o c1 c2 c3 c4 q=>e5.extBut _ _ c1 (e4 _ _ c4 (e3.extBut _ _ c2 (e2.extBut _ _ c3 (e1.extBut _ _ c1 q))))) ⟨oe,e5.extBut _ _ ez p1,p2⟩
theorem zn0 {t1 t2:Bool} {z TI TO i1 i2 l1 l2:Addr} {k:Nat} {xs ys:Array Value} {x y:Value} {Q:Option Value->Shared->Prop} (D:Ap z TI TO i1 i2) (o1:Out z TI TO i1 i2 l1) (o2:Out z TI TO i1 i2 l2)
  (Z:Zd t1 t2 s.heap z TI TO i1 i2 l1 l2 .none k) (hl1:SqAt t1 s.heap l1 xs) (hl2:SqAt t2 s.heap l2 ys) (hx:xs[k]?=some x) (hy:ys[k]?=some y)
  (hQ:∀ h',Zd t1 t2 h' z TI TO i1 i2 l1 l2 (rawInt s.heap.objs.size) (k + 1)->IsPair h' s.heap.objs.size x y->h'.objs.size=s.heap.objs.size + 1 ->
   (∀ c o,c≠z->c≠TO->c≠i1->c≠i2->s.heap.get? c=some o->h'.get? c=some o)->Q (some (.ref s.heap.objs.size)) { s with heap:=h' }) :
  wpAny (model prog w) A (pyNext (.ref z)) Q E s:=by
 have hT:s.TypeIs (.ref z) "zip":=⟨_,Z.z,rfl⟩
 unfold pyNext
 exact uab (ud7 (ubl (name := Str.ofString "__next__") hT F.slot_zip_next (ubi F.slot_zip_next hT F.entry_zip_next
     (zpe D o1 o2 Z hl1 hl2 hx hy λ h' b1 b2 b3 b4=>uah (hQ h' b1 b2 b3 b4)) (F.args_zip_next_1 _))))
theorem znz {t1 t2:Bool} {z TI TO i1 i2 l1 l2:Addr} {k:Nat} {xs ys:Array Value} {Q:Option Value->Shared->Prop} (hh:A.handled=none) (D:Ap z TI TO i1 i2) (o1:Out z TI TO i1 i2 l1) (o2:Out z TI TO i1 i2 l2)
  (Z:Zd t1 t2 s.heap z TI TO i1 i2 l1 l2 .none k) (hl1:SqAt t1 s.heap l1 xs) (hl2:SqAt t2 s.heap l2 ys) (hend:xs[k]?=none\/ys[k]?=none)
  (hQ:∀ h',(∀ c o,c≠z->c≠TO->c≠i1->c≠i2->s.heap.get? c=some o->h'.get? c=some o)->Q none { s with heap:=h' }):wpAny (model prog w) A (pyNext (.ref z)) Q E s:=by
 have hT:s.TypeIs (.ref z) "zip":=⟨_,Z.z,rfl⟩
 unfold pyNext
 refine uab (ud7 (ubl (name := Str.ofString "__next__") hT F.slot_zip_next (ubi F.slot_zip_next hT F.entry_zip_next
     (zpd hh D o1 o2 Z hl1 hl2 hend λ h' e hk he=>?_) (F.args_zip_next_1 _))))
 obtain⟨o,p1,p2⟩:=he
 exact uab (ue3 (T:="StopIteration") (b:=true) ⟨o,p1,p2⟩ uge (uah (hQ _ hk)))
abbrev zh1 (h:Heap) (t1:Bool) (l1:Addr):Heap:=h.push (itObj t1 l1)
abbrev zh2 (h:Heap) (t1 t2:Bool) (l1 l2:Addr):Heap:=(zh1 h t1 l1).push (itObj t2 l2)
abbrev zh3 (h:Heap) (t1 t2:Bool) (l1 l2:Addr):Heap:=(zh2 h t1 t2 l1 l2).push { cls:=.type "tuple",data:=.seq #[.ref h.objs.size,.ref (zh1 h t1 l1).objs.size] }
abbrev zh4 (h:Heap) (t1 t2:Bool) (l1 l2:Addr):Heap:=(zh3 h t1 t2 l1 l2).push { cls:=.type "tuple",data:=.seq #[.none,.none] }
abbrev zh5 (h:Heap) (t1 t2:Bool) (l1 l2:Addr):Heap:=(zh4 h t1 t2 l1 l2).push { cls:=.type "zip",data:=.fields #[.none,.bool false,.bool false,.ref (zh2 h t1 t2 l1 l2).objs.size,.ref (zh3 h t1 t2 l1 l2).objs.size] }
theorem zrq (t1 t2:Bool) (l1 l2:Addr) (xs ys:Array Value) :
  Meets (Builtin.«zip.__new__» ⟨[.type "zip",.ref l1,.ref l2],[]⟩) (λ _ R s=>SqAt t1 s.heap l1 xs/\SqAt t2 s.heap l2 ys/\R (.ok (.ret (.ref (zh4 s.heap t1 t2 l1 l2).objs.size))) { s with heap:=zh5 s.heap t1 t2 l1 l2 }) :=
 .of_wp λ prog w A R s h=>by
  obtain⟨hp,g,d,tk,os⟩:=s;obtain⟨hl1,hl2,h⟩:=h
  have hsub:=sub_zip
  have b1:SqAt t1 (Shared.heap ⟨hp,g,d,tk,os⟩) l1 xs:=hl1
  have b2:SqAt t2 (Shared.heap ⟨hp.push (itObj t1 l1),g,d,tk,os⟩) l2 ys:=SqAt.to hl2 λ o e=>Heap.get?_push_of_some _ e
  wp_walk using zfm b1,zfm b2
  exact⟨_,rfl,h⟩
theorem zqs {t1 t2:Bool} {l1 l2:Addr} {xs ys:Array Value} {Q:Value->Shared->Prop} (hl1:SqAt t1 s.heap l1 xs) (hl2:SqAt t2 s.heap l2 ys)
  (h:∀ h',Zd t1 t2 h' (s.heap.objs.size + 4) (s.heap.objs.size + 2) (s.heap.objs.size + 3) s.heap.objs.size (s.heap.objs.size + 1) l1 l2 .none 0->h'.objs.size=s.heap.objs.size + 5 ->
   (∀ c o,s.heap.get? c=some o->h'.get? c=some o)->Q (.ref (s.heap.objs.size + 4)) { s with heap:=h' }) :
  wpAny (model prog w) A (call (.type "zip") [.ref l1,.ref l2]) Q E s:=by
 refine callType_new F.called_zip (by decide) (F.typeCall_zip_2 _ _) (F.newCall_zip_2 _ _) (λ obj=>F.args_object_init_3 obj _ _) F.entry_zip_new (zrq t1 t2 l1 l2 xs ys) ⟨hl1,hl2,?_⟩
 have z1:(zh1 s.heap t1 l1).objs.size=s.heap.objs.size + 1:=Heap.size_push ..
 have z2:(zh2 s.heap t1 t2 l1 l2).objs.size=s.heap.objs.size + 2:=by rw[Heap.size_push,z1]
 have z3:(zh3 s.heap t1 t2 l1 l2).objs.size=s.heap.objs.size + 3:=by rw[Heap.size_push,z2]
 have z4:(zh4 s.heap t1 t2 l1 l2).objs.size=s.heap.objs.size + 4:=by rw[Heap.size_push,z3]
 have z5:(zh5 s.heap t1 t2 l1 l2).objs.size=s.heap.objs.size + 5:=by rw[Heap.size_push,z4]
 have g5:(zh5 s.heap t1 t2 l1 l2).get? (zh4 s.heap t1 t2 l1 l2).objs.size=some _:=Heap.get?_push_size _ rfl
 have g4:(zh5 s.heap t1 t2 l1 l2).get? (zh3 s.heap t1 t2 l1 l2).objs.size=some _:=Heap.get?_push_of_some _ (Heap.get?_push_size _ rfl)
 have g3:(zh5 s.heap t1 t2 l1 l2).get? (zh2 s.heap t1 t2 l1 l2).objs.size=some _:=Heap.get?_push_of_some _ (Heap.get?_push_of_some _ (Heap.get?_push_size _ rfl))
 have g2:ItAt t2 (zh5 s.heap t1 t2 l1 l2) (zh1 s.heap t1 l1).objs.size l2 0:=(ItAt.new (t:=t2) (h:=zh1 s.heap t1 l1) (l:=l2)).to λ o e=>Heap.get?_push_of_some _ (Heap.get?_push_of_some _ (Heap.get?_push_of_some _ e))
 have g1:ItAt t1 (zh5 s.heap t1 t2 l1 l2) s.heap.objs.size l1 0:=(ItAt.new (t:=t1) (h:=s.heap) (l:=l1)).to λ o e=>Heap.get?_push_of_some _ (Heap.get?_push_of_some _ (Heap.get?_push_of_some _ (Heap.get?_push_of_some _ e)))
 show _/\_
 rw[z2,z3,z4] at g5
 rw[z1,z2] at g3
 rw[z3] at g4
 rw[z1] at g2
 rw[z4]
 exact⟨⟨_,g5,rfl⟩,h _ ⟨g5,g3,⟨_,_,g4⟩,g1,g2⟩ z5 λ c o q=>Heap.get?_push_of_some _ (Heap.get?_push_of_some _ (Heap.get?_push_of_some _ (Heap.get?_push_of_some _ (Heap.get?_push_of_some _ q))))⟩
theorem zt5 (n:Nat):Ap (n + 4) (n + 2) (n + 3) n (n + 1):=by
 constructor <;> (show (_:Nat)≠(_:Nat)) <;> left
theorem zns {n l:Nat} (h:l < n):Out (n + 4) (n + 2) (n + 3) n (n + 1) l:=by
 refine⟨?_,?_,?_,?_,?_⟩ <;> (show (_:Nat)≠(_:Nat)) <;> left
end
end Z3
namespace U3
open PySem PyProof.Rows
section
variable {prog:Program} {w:World} {A:Around} {E:Value->Shared->Prop} {s:Shared}
theorem zlr {it l:Addr} {xs:Array Value} (hne:l≠it):∀ (n i:Nat) (s:Shared) (Q:List Value->Shared->Prop),s.heap.IsListIter it l i->s.heap.IsList l xs->i + n<=xs.size ->
  (∀ h',h'.IsListIter it l (i + n)->Heap.SameBut it s.heap h'->Q ((xs.toList.drop i).take n) { s with heap:=h' })->wpAny (model prog w) A (draw (.ref it) n) Q E s
 | 0,i,s,Q,hi,_,_,h=>by
  show wpAny _ _ (pure []) Q E s
  exact uah (by simpa using h s.heap hi (Heap.SameBut.refl ..))
 | n + 1,i,s,Q,hi,hl,hle,h=>by
  have lt:i < xs.size:=by left
  show wpAny _ _ (pyNext (.ref it) >>= _) Q E s
  refine uab (wpAny_pyNext_list_item hi hl (x:=xs[i]) (by simp [lt]) λ g1 i1 e1=>?_)
  refine uab (ubk (zlr hne n (i + 1) _ _ i1 (hl.extBut e1.extBut hne) (by left) λ g2 i2 e2=>uah ?_))
  have hd:xs.toList.drop i=xs[i]::xs.toList.drop (i + 1):=by simp [ufa,lt]
  have q:=h g2 (by rw[show i + (n + 1)=i + 1 + n by left];exact i2) (e1.trans e2)
  rw[hd,List.take_succ_cons] at q
  exact q
theorem zl6 {l:Addr} {xs:Array Value} {targets:List (Bool × (Value->Sem Unit))} {Q:Unit->Shared->Prop} (hh:A.handled=none) (hl:s.heap.IsList l xs)
  (hn:targets.length=xs.size) (hs:targets.findIdx? (·.1)=none)
  (h:∀ h',Heap.ExtBut s.heap.objs.size s.heap h'->wpAny (model prog w) A (assignInOrder (targets.map (·.2)) xs.toList) Q E { s with heap:=h' }) :
  wpAny (model prog w) A (unpack (.ref l) targets) Q E s:=by
 have ne:l≠s.heap.objs.size:=by obtain⟨o,ho,_⟩:=hl;exact uaw (Heap.lt_size ho)
 unfold unpack
 rw[hn,hs]
 refine uab (ubk ?_)
 unfold unpackItems
 refine uab ?_
 unfold notIterableAtAll
 refine uab (wpAny_specialOf hl.typeIs slot_list_iter.lookup ?_)
 refine uah ?_
 simp only [ub5,if_false]
 refine uab (ubk (uc7 hl ?_))
 refine uab (ubk (zlr ne xs.size 0 _ _ ⟨_,Heap.get?_push_size _ rfl,rfl,rfl⟩ (hl.push _) (by left) λ g1 i1 e1=>?_))
 have all:List.take xs.size (List.drop 0 xs.toList)=xs.toList:=by
  rw[List.drop_zero];exact ufu (by simp)
 rw[all,if_neg (by simp)]
 have l1:g1.IsList l xs:=(hl.push _).extBut e1.extBut ne
 refine uab (ubk (wpAny_pyNext_list_end hh i1 l1 (by simp) λ g2 e2=>?_))
 simp only [Option.isSome_none,ub5,if_false]
 exact uah (h g2 λ b o hb e=>e2 b o hb (e1.extBut b o hb (Heap.get?_push_of_some _ e)))
theorem assign_tuple_lst {env:Env} {elts:List Expr} {x1} {pos:Pos} {l:Addr} {xs:Array Value} {Q:Unit->Shared->Prop} (hh:A.handled=none) (hl:s.heap.IsList l xs)
  (hn:(assignEach elts env).length=xs.size) (hs:(assignEach elts env).findIdx? (·.1)=none)
  (h:∀ h',Heap.ExtBut s.heap.objs.size s.heap h'->wpAny (model prog w) A (assignInOrder ((assignEach elts env).map (·.2)) xs.toList) Q E { s with heap:=h' }) :
  wpAny (model prog w) A (assign (.Tuple elts x1 pos) env (.ref l)) Q E s:=by
 rw[assign_Tuple]
 exact uab (ue5 (zl6 hh hl hn hs h))
end
end U3
namespace L3
open PySem PySem.Spec PyProof.Rows L2
abbrev Fls:Value->Shared->Prop:=λ _ _=>False
abbrev testsOf (ifs:List Expr) (env:Env):Sem Bool :=
 forIn ifs true λ c r=>if r=true then do let ok ← isTrue c env (eval c env);pure (ForInStep.yield ok) else pure (ForInStep.yield r)
section
variable {prog:Program} {w:World} {A:Around} {R:Result->Shared->Prop} {s:Shared}
theorem zmo {elt tg iter:Expr} {ifs:List Expr} {scope:Scope} {pos:Pos} {it acc:Value} {env:Env} (W:Nat->Shared->Prop)
  (step:∀ n s,W n s->wpAny (model prog w) A (pyNext it) (λ r s1=>(r=none/\R (.ok .next) s1)\/∃ v,r=some v /\
   wpAny (model prog w) A (letOwnedTupleGo tg it v) (λ _ s2=>wpAny (model prog w) A (assign tg env v) (λ _ s3 =>
    wpAny (model prog w) A (testsOf ifs env) (λ ok s4=>if ok=true then wpAny (model prog w) A (eval elt env) (λ x s5 =>
     wpAny (model prog w) A (call (.builtin "list.append") [acc,x]) (λ _ s6=>∃ m,m < n/\W m s6) Fls s5) Fls s4 else ∃ m,m < n/\W m s4) Fls s3) Fls s2) Fls s1) Fls s)
  (n:Nat) (h:W n s):codeAny (model prog w) A (.compLoop (.ListComp elt [⟨tg,iter,ifs,0⟩] scope pos) 0 it acc env) R s:=by
 refine codeAny_loop rfl W (λ k s1 hk=>?_) n h
 show wpAny _ A ((compTurn (.ListComp elt [⟨tg,iter,ifs,0⟩] scope pos) 0 it acc env).onRaise (λ x=>do noteFrame x env;theTreesLotGoes x)) _ _ s1
 refine wpAny_noted ?_
 rw[compTurn_list]
 refine uab (ue5 (uab (ucv (step k s1 hk) (λ r s2 h2=>?_) λ _ _ z=>z.elim)))
 rcases h2 with ⟨rfl,h2⟩ | ⟨v,rfl,h2⟩
 ·exact uah h2
 ·refine uab (ucv h2 (λ _ s3 h3=>?_) λ _ _ z=>z.elim)
  refine uab (ucv h3 (λ _ s4 h4=>?_) λ _ _ z=>z.elim)
  refine uab (ucv h4 (λ ok s5 h5=>?_) λ _ _ z=>z.elim)
  cases ok with
  | false=>exact uah ⟨rfl,h5⟩
  | true =>
   refine uab (uab (ucv h5 (λ x s6 h6=>?_) λ _ _ z=>z.elim))
   refine uab (ucv h6 (λ _ s7 h7=>?_) λ _ _ z=>z.elim)
   exact uah (uah ⟨rfl,h7⟩)
end
def clOf (cells:List (Str × Addr)):List (Str × NameKind)->List (Str × Addr)->List (Str × Addr)
 | [],cs=>cs
 | (n,k)::r,cs=>clOf cells r (if k=.free then (n,(cells.lookup n).getD 0)::cs else cs)
theorem zlw {cells:List (Str × Addr)}:∀ {names:List (Str × NameKind)} {cs:List (Str × Addr)} {p:Str × Addr},p ∈ clOf cells names cs->p ∈ cs\/((p.1,NameKind.free) ∈ names/\p.2=(cells.lookup p.1).getD 0)
 | [],_,_,h=>.inl h
 | (n,k)::r,cs,p,h=>by
  rcases zlw (names:=r) h with q | ⟨q1,q2⟩
  ·by_cases hk:k=.free
   ·rw[if_pos hk] at q
    rcases uar.mp q with e | q
    ·subst e;subst hk;exact .inr ⟨ual,rfl⟩
    ·exact .inl q
   ·rw[if_neg hk] at q;exact .inl q
  ·exact .inr ⟨uap _ q1,q2⟩
theorem zlx {cells:List (Str × Addr)}:∀ {names:List (Str × NameKind)} {cs:List (Str × Addr)} {x:Str},((x,NameKind.free) ∈ names\/∃ c,(x,c) ∈ cs)->∃ c,(x,c) ∈ clOf cells names cs
 | [],_,_,h=>h.elim (λ z=>nomatch z) id
 | (n,k)::r,cs,x,h=>by
  refine zlx (names:=r) ?_
  rcases h with h | ⟨c,h⟩
  ·rcases uar.mp h with e | h
   ·cases e
    exact .inr ⟨_,by rw[if_pos rfl];exact ual⟩
   ·exact .inl h
  ·refine .inr ⟨c,?_⟩
   split
   ·exact uap _ h
   ·exact h
theorem zdt {env:Env}:∀ (names:List (Str × NameKind)) (cs:List (Str × Addr)),(∀ y ∈ names,y.2=.free->∃ c,env.cells.lookup y.1=some c) ->
  (forIn names cs λ x r=>(match x with | (n,k)=>if (k == NameKind.free)=true then do let c ← cellOf env n;pure (ForInStep.yield ((n,c)::r)) else pure (ForInStep.yield r):Sem (ForInStep (List (Str × Addr)))))=pure (clOf env.cells names cs)
 | [],cs,_=>rfl
 | (n,k)::r,cs,h=>by
  rw[ugw]
  by_cases hk:k=.free
  ·subst hk
   obtain⟨c,hc⟩:=h (n,.free) ual rfl
   have e1:cellOf env n=pure c:=by unfold cellOf;rw[hc]
   have e2:clOf env.cells ((n,NameKind.free)::r) cs=clOf env.cells r ((n,c)::cs):=by
    show clOf env.cells r (if NameKind.free=NameKind.free then (n,(env.cells.lookup n).getD 0)::cs else cs)=_
    rw[if_pos rfl,hc]
    rfl
   rw[e2,← zdt r ((n,c)::cs) λ y hy=>h y (uap _ hy)]
   simp only [beq_self_eq_true,if_true,e1,pure_bind]
  ·have e2:clOf env.cells ((n,k)::r) cs=clOf env.cells r cs:=by
    show clOf env.cells r (if k=NameKind.free then _ else cs)=_
    rw[if_neg hk]
   have hb:(k == NameKind.free)=false:=by simpa using hk
   rw[e2,← zdt r cs λ y hy=>h y (uap _ hy)]
   simp only [hb,ub5,if_false,pure_bind]
theorem zmp {scope:Scope} {env:Env} (h:∀ y ∈ scope.names,y.2=.free->∃ c,env.cells.lookup y.1=some c):closureFor scope env=pure (clOf env.cells scope.names []):=by
 have q:=zdt (env:=env) scope.names [] h
 unfold closureFor
 refine Eq.trans ?_ q
 first | rfl | simp
theorem zb9 {env:Env}:∀ {names:List (Str × NameKind)} {x:Str},names.lookup x=some .free ->
  (names.map λ (n,k)=>if (k == NameKind.free && env.scope.kind == .function && env.kindOf n == some .cell) then (n,NameKind.cell) else (n,k)).lookup x=some .cell \/
  (names.map λ (n,k)=>if (k == NameKind.free && env.scope.kind == .function && env.kindOf n == some .cell) then (n,NameKind.cell) else (n,k)).lookup x=some .free
 | [],_,h=>by simp at h
 | (n,k)::r,x,h=>by
  have ih:=@zb9 env r x
  rw[ucq]
  by_cases hx:(x == n)=true
  ·rw[uct,hx] at h
   have h':k=.free:=by simpa using h
   subst h'
   dsimp only
   split
   ·apply uat;rw[uct,hx]
   ·apply uf7;rw[uct,hx]
  ·have hx':(x == n)=false:=by simpa using hx
   rw[uct,hx'] at h
   dsimp only
   split
   ·rw[uct,hx'];exact ih h
   ·rw[uct,hx'];exact ih h
theorem zgj {env:Env}:∀ {names:List (Str × NameKind)} {x:Str},(∀ y ∈ names,y.2≠.cell) ->
  ((names.map λ (n,k)=>if (k == NameKind.free && env.scope.kind == .function && env.kindOf n == some .cell) then (n,NameKind.cell) else (n,k)).lookup x=some .cell \/
  (names.map λ (n,k)=>if (k == NameKind.free && env.scope.kind == .function && env.kindOf n == some .cell) then (n,NameKind.cell) else (n,k)).lookup x=some .free)->(x,NameKind.free) ∈ names
 | [],_,_,h=>by simp at h
 | (n,k)::r,x,hc,h=>by
  rw[ucq] at h
  by_cases hx:(x == n)=true
  ·have e:x=n:=by simpa using hx
   subst e
   dsimp only at h
   by_cases hk:(k == NameKind.free && env.scope.kind == .function && env.kindOf x == some .cell)=true
   ·rw[if_pos hk] at h
    have:k=.free:=by
     simp only [ubv] at hk
     simpa using hk.1.1
    subst this
    exact ual
   ·rw[if_neg hk,uct,hx] at h
    rcases h with h | h
    ·exact absurd (by simpa using h) (hc (x,k) ual)
    ·have:k=.free:=by simpa using h
     subst this
     exact ual
  ·have hx':(x == n)=false:=by simpa using hx
   refine uap _ (zgj (env:=env) (λ y hy=>hc y (uap _ hy)) ?_)
   dsimp only at h
   split at h
   ·rw[uct,hx'] at h;exact h
   ·rw[uct,hx'] at h;exact h
def compOk (N:List Str) (sc0 scope:Scope) (fr:List Str) (js:List Nat):Bool :=
 decide (scope.kind=.function) && (scope.names.all λ y=>decide (y.2≠.cell) && (decide (y.2≠.free) || decide (sc0.names.lookup y.1=some .cell) || decide (sc0.names.lookup y.1=some .free)) &&
  (decide (y.2≠.local) || decide (scope.names.lookup y.1=some .local))) && decide (fr.length=js.length) &&
 ((fr.zip js).all λ p=>decide (N[p.2]?=some p.1) && decide (scope.names.lookup p.1=some .free) && (decide (sc0.names.lookup p.1=some .cell) || decide (sc0.names.lookup p.1=some .free)))
def cxComp (X:Cx) (own fr:List Str) (scope:Scope) (fp:List Addr) (pins:List (Addr × Obj)) (s3:Shared) (H3:Hp):Cx :=
 { X with N:=own++fr,s₀:=s3,H₀:=H3,env:=compEnvC scope (clOf X.env.cells scope.names []) s3.heap.objs.size X.env,outer:=X.stack,stack:=X.stack,ex:=fp,fn:=λ _=>false,pn:=X.pn++pins,xe:=Fls }
def PTs (X:Cx) (ifs:List Expr) (t:TT):Prop :=
 ∀ (pins:List (Addr × Obj)) (s:Shared) (σ:L2.St) (H:Hp) (Q:Bool->Hp->Prop),Inv X pins σ H s->t σ H Q->wpAny (model X.prog X.w) X.A (testsOf ifs X.env) (TP X pins σ Q) X.xe s
def tTrue:TT:=λ _ H Q=>Q true H
theorem zcg {X:Cx}:PTs X [] tTrue:=λ _ _ _ H _ I h=>wpAny_tests_nil ⟨H,I,h⟩
theorem zcr {X:Cx} {c:Expr} {t:TT} (h:PT X c t):PTs X [c] t:=λ pins s σ H Q I q=>wpAny_tests_one (h pins s σ H Q I q)
def start3 (own:List Str) (js:List Nat) (σ:L2.St):L2.St:=uay own.length none++js.map λ j=>(σ[j]?).join
def CompGo (own:List Str) (js:List Nat) (g:TG) (tt:TT) (te:TE) (σ:L2.St) (Q:VK) (J:It) (H1:Hp):Prop:=∀ D,H1 D=none->∃ W:Nat->Nat->List V->L2.St->Hp->Prop,
 (∃ m,W 0 m [] (start3 own js σ) (upd H1 D (.lst [])))/\∀ i m ys σ' H',W i m ys σ' H'->H' D=some (.lst ys) ->
  (J.stop i H'/\Q (.ref D) H')\/(J.go i H'/\∀ x H2,J.yld i H' x H2->g x σ' H2 λ σ3 H3=>tt σ3 H3 λ b H4 =>
   if b=true then te σ3 H4 λ v H5=>H5 D=some (.lst ys)/\ys.length < sizeLine/\∃ m',m' < m/\W (i + 1) m' (ys++[v]) σ3 (upd H5 D (.lst (ys++[v])))
   else H4 D=some (.lst ys)/\∃ m',m' < m/\W (i + 1) m' ys σ3 H4)
def tComp (own:List Str) (js:List Nat) (wi:TI) (g:TG) (tt:TT) (te:TE):TE:=λ σ H Q=>wi σ H λ J H1=>CompGo own js g tt te σ Q J H1
section
variable {X:Cx} {elt tg iter:Expr} {ifs:List Expr} {scope sc0:Scope} {pos:Pos} {own fr N:List Str} {js:List Nat} {wi:TI} {g:TG} {tt:TT} {te:TE}
theorem zoe {σ:L2.St} {js:List Nat} {k:Nat} {v:V} (e:(js.map λ j=>(σ[j]?).join)[k]?=some (some v)):∃ j,js[k]?=some j/\σ[j]?=some (some v):=by
 rw[uaq] at e
 cases hj:js[k]? with
 | none=>rw[hj] at e;cases e
 | some j =>
  rw[hj] at e
  refine⟨j,rfl,?_⟩
  have e':(σ[j]?).join=some v:=by simpa using e
  cases hs:σ[j]? with
  | none=>rw[hs] at e';cases e'
  | some o=>rw[hs] at e';exact congrArg some e'
theorem zp5 {pins:List (Addr × Obj)} {σ:L2.St} {H3:Hp} {s3:Shared} {fp:List Addr} {h4:Heap} {t4:Nat} {m4:Str->Option Value}
  (hN:X.N=N) (hsc:X.env.scope=sc0) (hok:compOk N sc0 scope fr js=true) (I:Inv X pins σ H3 s3) (hf:∀ b ∈ fp,FpOk X pins H3 b) (hlt:∀ b ∈ fp,b < s3.heap.objs.size)
  (k:∀ b o,s3.heap.get? b=some o->h4.get? b=some o) (hns:h4.Ns s3.heap.objs.size m4):Inv (cxComp X own fr scope fp pins s3 H3) [] (start3 own js σ) H3 { s3 with heap:=h4,toks:=t4 }:=by
 subst hN hsc
 unfold compOk at hok
 simp only [ubv,decide_eq_true_eq,uc9] at hok
 obtain⟨⟨⟨hk,hall⟩,hlen⟩,hfr⟩:=hok
 have hfree:∀ y ∈ scope.names,y.2=.free->∃ c,X.env.cells.lookup y.1=some c:=λ y hy e=>by
  have q:=(hall y hy).1.2
  simp only [ude,decide_eq_true_eq] at q
  rcases q with (q | q) | q
  ·exact absurd e q
  ·exact I.ok.has y.1 (.inl q)
  ·exact I.ok.has y.1 (.inr q)
 have hcl:∀ x c,(clOf X.env.cells scope.names []).lookup x=some c->X.env.cells.lookup x=some c:=λ x c e=>by
  rcases zlw (uc3 e) with z | ⟨z1,z2⟩
  ·exact absurd z (by simp)
  ·obtain⟨c',hc'⟩:=hfree _ z1 rfl
   have hc'':X.env.cells.lookup x=some c':=hc'
   have z2':c=(X.env.cells.lookup x).getD 0:=z2
   rw[hc''] at z2' ⊢
   simp at z2'
   rw[z2']
 have hasC:∀ x,(x,NameKind.free) ∈ scope.names->∃ c,(clOf X.env.cells scope.names []).lookup x=some c:=λ x hx=>by
  obtain⟨c,hc⟩:=zlx (cells:=X.env.cells) (cs:=[]) (.inl hx)
  cases q:(clOf X.env.cells scope.names []).lookup x with
  | some c'=>exact⟨c',rfl⟩
  | none =>
   have:∀ (l:List (Str × Addr)),(x,c) ∈ l->l.lookup x≠none:=λ l=>by
    induction l with
    | nil=>intro z;cases z
    | cons p r ih =>
     intro z
     obtain⟨p1,p2⟩:=p
     rw[uct]
     rcases uar.mp z with z | z
     ·cases z
      simp
     ·split
      ·simp
      ·exact ih z
   exact absurd q (this _ hc)
 have hcell:∀ y ∈ scope.names,y.2≠.cell:=λ y hy=>(hall y hy).1.1
 have sz:X.base.objs.size<=s3.heap.objs.size:=ua9 I.ok.bsz I.sz
 refine⟨⟨I.ok.mod,hk,I.ok.glob,I.ok.blt,uai _,λ x y c e1 e2=>I.ok.inj x y c (hcl x c e1) (hcl y c e2),λ x hx=>hasC x (zgj hcell hx),λ x c z=>absurd z (by simp [cxComp]),
  I.ok.hd,I.ok.frames,.inl rfl,λ b hb=>⟨uaw (hlt b hb),λ x c e=>(hf b hb).2.2.2.2.1 x c (hcl x c e)⟩,I.bs,sz,λ b o e hb=>?_,λ b hb z=>?_,I.stack,I.stkFree⟩,
  rfl,I.bare,Un.kept k,⟨m4,hns,λ i x v e1 e2 e3=>?_⟩,λ x c e=>?_,I.hok.fresh (uai _),λ x c e=>I.freeC x c (hcl x c e),λ p hp=>?_,I.hok.kept k,?_⟩
 ·obtain⟨_,_,_,f3,_⟩:=hf b hb
  rcases f3 with f3 | f3
  ·exact I.ok.noex b o e f3
  ·exact absurd (ua2 (Heap.lt_size e) (ua9 I.ok.bsz f3)) (uck _)
 ·obtain⟨_,f1,f2,_⟩:=hf b hb
  rcases uar.mp (I.stkSub b z) with z | z
  ·exact f1 z
  ·exact f2 z
 ·have e2':(uay own.length (none:Option V)++js.map λ j=>(σ[j]?).join)[i]?=some (some v):=e2
  have e1':(own++fr)[i]?=some x:=e1
  by_cases hi:i < own.length
  ·rw[uci (by simpa using hi),udh,if_pos hi] at e2'
   cases e2'
  ·rw[ucg (by simpa using hi),ube] at e2'
   rw[ucg (by left)] at e1'
   obtain⟨j,hj,hv⟩:=zoe e2'
   have hz:(fr.zip js)[i - own.length]?=some (x,j):=by
    rw[List.getElem?_zip_eq_some]
    exact⟨e1',hj⟩
   have q:=hfr _ (uao hz)
   obtain⟨⟨q1,q2⟩,q3⟩:=q
   have q3'':X.env.scope.names.lookup x=some .cell\/X.env.scope.names.lookup x=some .free:=by simpa using q3
   have q3':X.env.kindOf x=some .cell\/X.env.kindOf x=some .free:=q3''
   obtain⟨m,hn,hl⟩:=I.loc
   obtain⟨u,r,l⟩:=hl j x v q1 hv (q3'.elim (λ z=>.inr (.inl z)) λ z=>.inr (.inr z))
   refine⟨u,r,.inr ⟨zb9 q2,?_⟩⟩
   rcases l with ⟨z,_⟩ | ⟨_,c,hc,hcellv⟩
   ·rcases q3' with w | w <;> (rw[z] at w;cases w)
   ·obtain⟨c',hc'⟩:=hasC x (uc3 q2)
    have e:=hcl x c' hc'
    rw[hc] at e
    cases e
    obtain⟨o,ho,hd⟩:=hcellv
    exact⟨c,hc',o,k c o ho,hd⟩
 ·obtain⟨v,o,ho,hd⟩:=I.cell x c (hcl x c e)
  exact⟨v,o,k c o ho,hd⟩
 ·have hp':p ∈ X.pn++pins:=by
   have:p ∈ (X.pn++pins)++([]:List (Addr × Obj)):=hp
   simpa using this
  obtain⟨a,b,c,d,f⟩:=I.pin p hp'
  refine⟨k _ _ a,b,uaw (Heap.lt_size a),λ z=>?_,f⟩
  rcases uar.mp (I.stkSub p.1 z) with z | z
  ·exact c z
  ·exact d z
 ·show (uay own.length (none:Option V)++js.map λ j=>(σ[j]?).join).length=(own++fr).length
  simp [hlen]
theorem zja {pins:List (Addr × Obj)} {s:Shared} {σ:L2.St} {H:Hp} {Q:VK} {use:Option (Value->Sem Unit)} {Qo:Value->Shared->Prop} {cpos:Pos}
  (hc:X.calm=true) (hi:PI X tg iter wi) (hg:∀ fp pins s3 H3,PG (cxComp X own fr scope fp pins s3 H3) tg g) (ht:∀ fp pins s3 H3,PTs (cxComp X own fr scope fp pins s3 H3) ifs tt)
  (he:∀ fp pins s3 H3,PE (cxComp X own fr scope fp pins s3 H3) elt te) (hok:compOk N sc0 scope fr js=true) (hN:X.N=N) (hsc:X.env.scope=sc0)
  (hs:∀ x,foldedSetIterable iter X.env x=pure x) (I:Inv X pins σ H s) (h:tComp own js wi g tt te σ H Q)
  (fin:∀ (C D:Addr) (s6:Shared) (H6:Hp) (m6:Str->Option Value),Inv X pins σ H6 s6->FpOk X pins H6 C->s6.heap.Ns C m6->Q (.ref D) H6->compPost (model X.prog X.w) X.A X.xe use Qo (.ref D) C (.ok .next) s6) :
  wpAny (model X.prog X.w) X.A (comprehension (.ListComp elt [⟨tg,iter,ifs,0⟩] scope pos) scope X.env cpos (newList []) false (eval iter X.env) use) Qo X.xe s:=by
 have hok':=hok
 unfold compOk at hok'
 simp only [ubv,decide_eq_true_eq,uc9] at hok'
 obtain⟨⟨⟨hk,hall⟩,hlen⟩,hfr⟩:=hok'
 have hcell:∀ y ∈ scope.names,y.2≠.cell:=λ y hy=>(hall y hy).1.1
 have hloc:∀ y ∈ scope.names,y.2=.local->scope.names.lookup y.1=some .local:=λ y hy e=>by
  have q:=(hall y hy).2
  simp only [ude,decide_eq_true_eq] at q
  rcases q with q | q
  ·exact absurd e q
  ·exact q
 have hfree:∀ y ∈ scope.names,y.2=.free->∃ c,X.env.cells.lookup y.1=some c:=λ y hy e=>by
  have q:=(hall y hy).1.2
  simp only [ude,decide_eq_true_eq] at q
  rw[← hsc] at q
  rcases q with (q | q) | q
  ·exact absurd e q
  ·exact I.ok.has y.1 (.inl q)
  ·exact I.ok.has y.1 (.inr q)
 refine wpAny_comprehension_free (use:=use) rfl hs (zmp hfree) hk hloc (thn (hi pins s σ H _ I h) λ v s1 h1=>thn h1 λ itv s2 h2=>?_)
 obtain⟨it,fp,tn,J,H2,e,I2,T,st2,f2,rd⟩:=h2
 subst e
 have hD2:H2 s2.heap.objs.size=none:=I2.fresh
 obtain⟨W,⟨m0,w0⟩,turn⟩:=rd s2.heap.objs.size hD2
  -- the new list
 refine ud6 ?_ (ubb _)
 have I3:Inv X pins σ (upd H2 s2.heap.objs.size (.lst [])) { s2 with heap:=s2.heap.push { cls:=.type "list",data:=.seq ([]:List Value).toArray } }:=I2.lnew (t':=s2.toks) .nil (ubb _)
 generalize hs3:({ s2 with heap:=s2.heap.push { cls:=.type "list",data:=.seq ([]:List Value).toArray } }:Shared)=s3 at I3
 generalize hD:s2.heap.objs.size=D at *
 have fpl:∀ b ∈ fp,b < D:=λ b hb=>by
  obtain⟨o,ho,_⟩:=T.obj _ _ st2 b hb
  rw[← hD];exact Heap.lt_size ho
 have k23:∀ b o,s2.heap.get? b=some o->s3.heap.get? b=some o:=λ b o e=>by rw[← hs3];exact Heap.get?_push_of_some _ e
 have hD3:s3.heap.objs.size=D + 1:=by rw[← hs3,← hD];exact Heap.size_push ..
 have f3:∀ b ∈ fp,FpOk X pins (upd H2 D (.lst [])) b:=λ b hb=>by
  obtain⟨f0,f⟩:=f2 b hb
  exact⟨by rw[zap (uaw (fpl b hb))];exact f0,f⟩
 refine wpAny_newFunctionEnv hcell (by intro y hy;simp at hy) (λ h4 hns4 hsb4=>?_) hk
 have k34:∀ b o,s3.heap.get? b=some o->h4.get? b=some o:=λ b o e=>hsb4.extBut b o (uaw (Heap.lt_size e)) (Heap.get?_push_of_some _ e)
 have I4:=zp5 (own:=own) (t4:=s3.toks + ([]:List (Str × Value)).length) hN hsc hok I3 f3 (λ b hb=>ua2 (fpl b hb) (by rw[hD3];exact uc2 _)) k34 hns4
 have tn4:tn 0 h4:=T.keep 0 s2.heap h4 st2 λ b hb o e=>k34 b o (k23 b o e)
 have I4o:=I4.ok
 have fpS:∀ {H'':Hp},(∀ b ∈ fp,H'' b=none)->∀ b ∈ fp,FpOk (cxComp X own fr scope fp pins s3 (upd H2 D (.lst []))) [] H'' b:=λ hn b hb =>
  ⟨hn b hb,(I4o.exf b hb).1,I4o.exfs b hb,.inl hb,(I4o.exf b hb).2,λ p hp=>(f2 b hb).2.2.2.2.2 p (by
   have:p ∈ (X.pn++pins)++([]:List (Addr × Obj)):=hp
   simpa using this)⟩
 have loop : codeAny (model X.prog X.w) X.A (.compLoop (.ListComp elt [⟨tg, iter, ifs, 0⟩] scope pos) 0 (.ref it) (.ref D) (compEnvC scope (clOf X.env.cells scope.names []) s3.heap.objs.size X.env))
     (compPost (model X.prog X.w) X.A X.xe use Qo (.ref D) s3.heap.objs.size) { s3 with heap:=h4,toks:=s3.toks + ([]:List (Str × Value)).length }:=by
  refine zmo (λ n s'=>∃ i ys σ' H',Inv (cxComp X own fr scope fp pins s3 (upd H2 D (.lst []))) [] σ' H' s'/\tn i s'.heap/\(∀ b ∈ fp,H' b=none)/\H' D=some (.lst ys)/\W i n ys σ' H')
   ?step m0 ⟨0,[],_,_,I4,tn4,λ b hb=>(f3 b hb).1,zai,w0⟩
  rintro n s5 ⟨i,ys,σ5,H5,I5,tn5,fr5,d5,w5⟩
  rcases turn i n ys σ5 H5 w5 d5 with ⟨stop,q⟩ | ⟨go,stp⟩
  ·refine thn (T.done (cxComp X own fr scope fp pins s3 (upd H2 D (.lst []))) rfl rfl rfl hc i [] s5 σ5 H5 Fls I5 (fpS fr5) tn5 stop) λ r s6 ⟨hr,I6⟩=>.inl ⟨hr,?_⟩
   obtain⟨m6,hn6,_⟩:=id I6.loc
   have u1:Un (frs X.stack) fp H2 H5 s2.heap s6.heap:=(Un.laid k23 (uer hD) hD2).trans I6.base
   have fC:H5 s3.heap.objs.size=none:=I6.free
   have IX:Inv X pins σ H5 s6:=I2.call' (s':=s6) (ch:=fp) (by
    have:=I6.os
    rw[← hs3] at this
    exact this) u1 I6.hok I6.bare λ b hb=>by
     obtain⟨_,g1,_,g3,g4,g5⟩:=f2 b hb
     exact⟨g3,g1,g4,g5⟩
   exact fin s3.heap.objs.size D s6 H5 m6 IX (I2.fpOk (by rw[hD3,hD];exact uc2 _) fC) hn6 q
  ·refine thn (T.item (cxComp X own fr scope fp pins s3 (upd H2 D (.lst []))) rfl rfl rfl hc i [] s5 σ5 H5 Fls I5 (fpS fr5) tn5 go) λ r s6 ⟨u,hr,h6⟩=>.inr ⟨u,hr,thn h6 λ _ s7 ⟨x,H7,I7,r7,y7,tn7,fr7⟩=>?_⟩
   have I7':=I7.pinned (fpS fr7) (T.obj _ _ tn7)
   refine thn (hg fp pins s3 (upd H2 D (.lst [])) _ s7 σ5 H7 x u _ I7' r7 (stp x H7 y7)) λ _ s8 ⟨σ8,H8,I8,q8⟩=>?_
   refine thn (ht fp pins s3 (upd H2 D (.lst [])) _ s8 σ8 H8 _ I8 q8) λ ok s9 ⟨H9,I9,q9⟩=>?_
   have back:∀ {σ':L2.St} {H':Hp} {s':Shared},Inv (cxComp X own fr scope fp pins s3 (upd H2 D (.lst []))) ([]++pinsAt fp s7.heap) σ' H' s'->tn (i + 1) s'.heap/\∀ b ∈ fp,H' b=none:=λ {σ' H' s'} J=>by
    refine⟨T.keep _ _ _ tn7 λ b hb o e=>(J.pin (b,o) (ubc _ (ubc _ (zc2 hb e)))).1,λ b hb=>?_⟩
    obtain⟨o,e,_⟩:=T.obj _ _ tn7 b hb
    exact (J.pin (b,o) (ubc _ (ubc _ (zc2 hb e)))).2.1
   cases ok with
   | false =>
    rw[if_neg uas] at q9
    obtain⟨d9,m',hm,w9⟩:=q9
    rw[if_neg uas]
    exact⟨m',hm,i + 1,ys,σ8,H9,I9.unpinned,(back I9).1,(back I9).2,d9,w9⟩
   | true =>
    rw[if_pos rfl] at q9 ⊢
    refine thn (he fp pins s3 (upd H2 D (.lst [])) _ s9 σ8 H9 _ I9 q9) λ xv s10 ⟨v,H10,I10,r10,d10,len,m',hm,w10⟩=>?_
    refine thn (zct (X:=cxComp X own fr scope fp pins s3 (upd H2 D (.lst []))) _ s10 σ8 H10 (.ref D) [v] (.ref D) [xv] (λ _ H'=>H'=upd H10 D (.lst (ys++[v]))) I10 rfl (.cons r10 .nil) ⟨D,ys,v,rfl,rfl,d10,len,rfl⟩) λ _ s11 ⟨_,H11,I11,_,e11⟩=>?_
    subst e11
    exact⟨m',hm,i + 1,ys++[v],σ8,_,I11.unpinned,(back I11).1,(back I11).2,zai,w10⟩
 exact codeAny_compStart_list loop (T.self X.A 0 _ _ _ tn4 loop)
theorem zbw (hc:X.calm=true) (hi:PI X tg iter wi) (hg:∀ fp pins s3 H3,PG (cxComp X own fr scope fp pins s3 H3) tg g) (ht:∀ fp pins s3 H3,PTs (cxComp X own fr scope fp pins s3 H3) ifs tt)
  (he:∀ fp pins s3 H3,PE (cxComp X own fr scope fp pins s3 H3) elt te) (hok:compOk N sc0 scope fr js=true:=by symm) (hN:X.N=N:=by rfl) (hsc:X.env.scope=sc0:=by rfl)
  (hs:∀ x,foldedSetIterable iter X.env x=pure x:=by intro _;rfl):PE X (.ListComp elt [⟨tg,iter,ifs,0⟩] scope pos) (tComp own js wi g tt te):=by
 intro pins s σ H Q I h
 rw[eval_ListComp]
 refine zja hc hi hg ht he hok hN hsc hs I h λ C D s6 H6 m6 I6 f6 n6 q6=>⟨m6,n6,λ h7 sb=>⟨.ref D,H6,?_,rfl,q6⟩⟩
 obtain⟨f0,f1,_,f3,f4,f5⟩:=f6
 exact I6.turned (it:=C) (t':=s6.toks) (λ b o hb e=>sb.extBut b o hb e) f0 f1 f3 f4 f5
theorem zb6 {i:Nat} {y:Str} {py spos:Pos} (hc:X.calm=true) (hi:PI X tg iter wi) (hg:∀ fp pins s3 H3,PG (cxComp X own fr scope fp pins s3 H3) tg g) (ht:∀ fp pins s3 H3,PTs (cxComp X own fr scope fp pins s3 H3) ifs tt)
  (he:∀ fp pins s3 H3,PE (cxComp X own fr scope fp pins s3 H3) elt te) (hNd:X.N.Nodup) (hy:X.N[i]?=some y) (hx:Loc X.env.scope y) (hok:compOk N sc0 scope fr js=true:=by symm) (hN:X.N=N:=by rfl) (hsc:X.env.scope=sc0:=by rfl)
  (hsw:swapsWith (.ListComp elt [⟨tg,iter,ifs,0⟩] scope pos) (some (.Name y py)) spos.line X.env=pure true:=by rfl) (hf:X.fn y=true\/X.env.scope.names.lookup y=some .local:=by first | exact .inl rfl | exact .inr rfl | assumption)
  (hs:∀ x,foldedSetIterable iter X.env x=pure x:=by intro _;rfl):PS X (.Assign [.Name y py] (.ListComp elt [⟨tg,iter,ifs,0⟩] scope pos) spos) (tAsg (tComp own js wi g tt te) (gName i)):=by
 intro pins s σ H D I h
 rw[exec_Assign_Name_used _ _ _ _ hsw]
 refine uab (ue5 (uab ?_))
 show wpAny _ _ (do let _ ← comprehension (.ListComp elt [⟨tg,iter,ifs,0⟩] scope pos) scope X.env _ (newList []) false (eval iter X.env) (some (assign (.Name y py) X.env))) _ _ s
 refine uab (ucv (zja (use:=some (assign (.Name y py) X.env)) (Qo:=λ _ s'=>SP X pins D .next s') hc hi hg ht he hok hN hsc hs I h λ C L s6 H6 m6 I6 f6 n6 q6=>?_) (λ _ s' q=>uah (uah q)) λ _ _ z=>z)
 obtain⟨f0,f1,f2,f3,f4,f5⟩:=f6
 show wpAny _ _ (assign (.Name y py) X.env (.ref L)) _ _ s6
 refine wpAny_assign_Name (zij I6 hNd hy hx (v:=.ref L) rfl (λ s7 I7 ⟨a,sb,ha⟩=>?_) hf)
 have ne:C≠a:=by
  rcases ha with e | e
  ·rw[e];exact f1
  ·exact λ z=>f4 y a e z.symm
 refine⟨m6,n6.sameBut sb ne,λ h8 sb8=>⟨σ.set i (some (.ref L)),H6,?_,q6⟩⟩
 exact I7.turned (it:=C) (t':=s7.toks) (λ b o hb e=>sb8.extBut b o hb e) f0 f1 f3 f4 f5
end
section
variable {X:Cx} {pins:List (Addr × Obj)} {σ:L2.St} {H H':Hp} {s:Shared} {h':Heap} {ch:List Addr} {t':Nat}
theorem turnsTo (I:Inv X pins σ H s) (hf:∀ b ∈ ch,FpOk X pins H b) (k:∀ b o,b ∉ ch->s.heap.get? b=some o->h'.get? b=some o) (hH:∀ b u,H b=some u->H' b=some u)
  (hfree:∀ b o,s.heap.get? b=some o->H b=none->H' b=none) (hok:HOk X.prog X.w H' h'):Inv X pins σ H' { s with heap:=h',toks:=t' }:=by
 refine I.step (g':=s.gens) (d':=s.drawn) (ch:=ch) (λ b hb=>?_) (λ b o _ _ hc e _=>k b o hc e) (λ b o _ _ hc e _=>⟨o.slots,k b o hc e⟩) (λ b o _ e n=>hfree b o e n) (λ b o hc e=>⟨o,k b o hc e⟩)
  (λ b xs e=>hH _ _ e) (λ b o u e=>hH _ _ e) (λ b ps e=>⟨#[],by rw[hH _ _ e];simp⟩) (λ m hm=>?_) hok I.bare
 ·obtain⟨_,f1,_,f3,f4,f5⟩:=hf b hb
  exact⟨f3,f1,f4,f5⟩
 ·obtain⟨o,es,ep,ho,r⟩:=hm
  exact⟨o,es,ep,k _ o (λ z=>(hf _ z).2.1 rfl) ho,r⟩
theorem turns (I:Inv X pins σ H s) (hf:∀ b ∈ ch,FpOk X pins H b) (k:∀ b o,b ∉ ch->s.heap.get? b=some o->h'.get? b=some o):Inv X pins σ H { s with heap:=h',toks:=t' }:=by
 refine turnsTo I hf k (λ _ _ e=>e) (λ _ _ _ n=>n) λ b u e=>?_
 refine (I.hok b u e).stay (λ c v hc q=>k c v (λ z=>?_) q) (λ _ q=>q) λ _ _ q=>q
 have n:=(hf c z).1
 rcases hc with rfl | hc
 ·rw[n] at e;cases e
 ·rw[n] at hc;cases hc
theorem turnsTup {xs:List V} {its:List Value} {T:Addr} (I:Inv X pins σ H s) (hf:∀ b ∈ ch,FpOk X pins H b) (k:∀ b o,b ∉ ch->s.heap.get? b=some o->h'.get? b=some o) (hT:s.heap.objs.size<=T)
  (hz:xs.length<=sizeLine) (hv:Vals xs its) (ht:TupN h' T its.toArray):Inv X pins σ (upd H T (.tup xs)) { s with heap:=h',toks:=t' }:=by
 have fr:H T=none:=I.hok.fresh hT
 have ne:∀ b u,H b=some u->b≠T:=λ b u e=>zaf e fr
 refine turnsTo I hf k (λ b u e=>by rw[zap (ne b u e)];exact e) (λ b o e n=>by rw[zap (uaw (ua2 (Heap.lt_size e) hT))];exact n) λ b u e=>?_
 by_cases hb:b=T
 ·subst hb
  rw[zai] at e
  cases e
  exact⟨hz,its,hv,ht⟩
 ·rw[zap hb] at e
  refine (I.hok b u e).stay (λ c v hc q=>k c v (λ z=>?_) q) (λ c q=>by rw[zap (ne c _ q)];exact q) λ c ys q=>by rw[zap (ne c _ q)];exact q
  have n:=(hf c z).1
  rcases hc with rfl | hc
  ·rw[n] at e;cases e
  ·rw[n] at hc;cases hc
end
def SqX (t:Bool) (K:uac) (H:Hp) (a:Addr) (xs:List V):Prop:=if t=true then SqT K H a xs else SqL K H a xs
section
variable {X:Cx} {pins:List (Addr × Obj)} {σ:L2.St} {H:Hp} {s:Shared} {a:Addr} {xs ys:List V} {t:Bool}
theorem seqX (I:Inv X pins σ H s) (h:SqX t X.K H a xs):∃ its:List Value,Vals xs its/\Z3.SqAt t s.heap a its.toArray/\xs.length<=sizeLine:=by
 cases t with
 | true=>obtain⟨its,r,p,z⟩:=I.tuple (show SqT X.K H a xs from h);exact⟨its,r,p,z⟩
 | false=>obtain⟨its,r,p,z⟩:=I.list (show SqL X.K H a xs from h);exact⟨its,r,p.isList,z⟩
theorem zgx (I:Inv X pins σ H s) (h:SqX t X.K H a xs) (h':SqX t X.K H a ys):xs=ys:=by
 cases t with
 | true=>exact I.tuple_inj h h'
 | false=>exact I.list_inj h h'
end
def Itz (t1 t2:Bool) (K:uac) (l1 l2:Addr):It :=
 ⟨λ i H=>∃ xs ys x y,SqX t1 K H l1 xs/\SqX t2 K H l2 ys/\xs[i]?=some x/\ys[i]?=some y,
  λ i H v H'=>∃ T x y,H T=none/\v=.ref T/\H'=upd H T (.tup [x,y])/\(∀ xs,SqX t1 K H l1 xs->xs[i]?=some x)/\(∀ ys,SqX t2 K H l2 ys->ys[i]?=some y),
  λ i H=>∃ xs ys,SqX t1 K H l1 xs/\SqX t2 K H l2 ys/\(xs.length<=i\/ys.length<=i)⟩
theorem zpi {P:Program} {w:World} {K:uac} {elts:List Expr} {kk:Nat} {pos:Pos} {t1 t2:Bool} {z TI TO i1 i2 l1 l2:Addr} (D:Z3.Ap z TI TO i1 i2) (o1:Z3.Out z TI TO i1 i2 l1) (o2:Z3.Out z TI TO i1 i2 l2) :
  Turn P w K (.Tuple elts kk pos) (Itz t1 t2 K l1 l2) [z,TI,TO,i1,i2] z (λ i h=>Z3.Zd t1 t2 h z TI TO i1 i2 l1 l2 .none i) where
 mem:=by simp
 obj:=λ i h st b hb=>by
  obtain⟨q1,q2,⟨_,_,q3⟩,q4,q5⟩:=st
  obtain⟨o4,n4,e4,_,d4⟩:=q4.obj
  obtain⟨o5,n5,e5,_,d5⟩:=q5.obj
  simp only [uar,ua4,or_false] at hb
  rcases hb with rfl | rfl | rfl | rfl | rfl
  ·exact⟨_,q1,λ v q=>by cases q⟩
  ·exact⟨_,q2,λ v q=>by cases q⟩
  ·exact⟨_,q3,λ v q=>by cases q⟩
  ·exact⟨_,e4,λ v q=>by rw[d4] at q;cases q⟩
  ·exact⟨_,e5,λ v q=>by rw[d5] at q;cases q⟩
 keep:=λ i h h' st k=>by
  obtain⟨q1,q2,⟨a,b,q3⟩,q4,q5⟩:=st
  exact⟨k z (by simp) _ q1,k TI (by simp) _ q2,⟨a,b,k TO (by simp) _ q3⟩,q4.to λ o e=>k i1 (by simp) o e,q5.to λ o e=>k i2 (by simp) o e⟩
 item:=by
  intro X hP hw hK hc i pins s σ H E I hf st hg
  subst hP hw hK
  obtain⟨xs,ys,x,y,q1,q2,hx,hy⟩:=hg
  obtain⟨its1,r1,p1,z1⟩:=seqX I q1
  obtain⟨its2,r2,p2,z2⟩:=seqX I q2
  obtain⟨u1,hu1,ru1⟩:=r1.get hx
  obtain⟨u2,hu2,ru2⟩:=r2.get hy
  have hf4:∀ b ∈ [z,TO,i1,i2],FpOk X pins H b:=λ b hb=>hf b (by
   simp only [uar,ua4,or_false] at hb ⊢
   rcases hb with rfl | rfl | rfl | rfl <;> simp)
  refine Z3.zn0 D o1 o2 st p1 p2 (x:=u1) (y:=u2) (by simpa using hu1) (by simpa using hu2) λ h' zd tp sz kp=>?_
  have I1 : Inv X pins σ (upd H s.heap.objs.size (.tup [x, y])) { s with heap := h', toks := s.toks } := turnsTup (ch := [z, TO, i1, i2]) (its := [u1, u2]) I hf4 (λ b o hb e => by
      simp only [uar,ua4,or_false,not_or] at hb
      exact kp b o hb.1 hb.2.1 hb.2.2.1 hb.2.2.2 e) (uai _) (by show 2<=sizeLine;rw[ucf];decide) (.cons ru1 (.cons ru2 .nil)) ⟨_,tp,rfl,⟨_,rfl⟩,rfl⟩
  have fr:H s.heap.objs.size=none:=I.fresh
  have zne:∀ b ∈ [z,TI,TO,i1,i2],b≠s.heap.objs.size:=λ b hb e=>by
   have key:∃ o,s.heap.get? b=some o:=by
    obtain⟨q1,q2,⟨_,_,q3⟩,q4,q5⟩:=st
    obtain⟨o4,n4,e4,_,d4⟩:=q4.obj
    obtain⟨o5,n5,e5,_,d5⟩:=q5.obj
    simp only [uar,ua4,or_false] at hb
    rcases hb with rfl | rfl | rfl | rfl | rfl
    ·exact⟨_,q1⟩
    ·exact⟨_,q2⟩
    ·exact⟨_,q3⟩
    ·exact⟨_,e4⟩
    ·exact⟨_,e5⟩
   obtain⟨o,ho⟩:=key
   exact absurd (Heap.lt_size ho) (by rw[e];exact uck _)
  refine⟨_,rfl,wpAny_letOwnedTupleGo_zip zd.z λ h2 zd2 sb=>?_⟩
  obtain⟨f0,f1,f2,f3,f4,f5⟩:=hf z (by simp)
  have I2:Inv X pins σ (upd H s.heap.objs.size (.tup [x,y])) { s with heap:=h2,toks:=s.toks }:=Inv.turned (s:={ s with heap:=h',toks:=s.toks }) (it:=z) (t':=s.toks) I1 (λ b o hb e=>sb.extBut b o hb e) (by rw[zap (zne z (by simp))];exact f0) f1 f3 f4 f5
  refine⟨.ref s.heap.objs.size,_,I2,rfl,⟨_,x,y,fr,rfl,rfl,λ zs hz=>by rw[zgx I hz q1];exact hx,λ zs hz=>by rw[zgx I hz q2];exact hy⟩,?_,λ b hb=>by rw[zap (zne b hb)];exact (hf b hb).1⟩
  obtain⟨_,w2,⟨a3,b3,w3⟩,w4,w5⟩:=zd
  exact⟨zd2,sb.extBut _ _ D.n1 w2,⟨a3,b3,sb.extBut _ _ D.n2 w3⟩,w4.to λ o e=>sb.extBut _ _ D.n3 e,w5.to λ o e=>sb.extBut _ _ D.n4 e⟩
 done:=by
  intro X hP hw hK hc i pins s σ H E I hf st hg
  subst hP hw hK
  obtain⟨xs,ys,q1,q2,hx⟩:=hg
  obtain⟨its1,r1,p1,z1⟩:=seqX I q1
  obtain⟨its2,r2,p2,z2⟩:=seqX I q2
  have l1:=r1.length
  have l2:=r2.length
  have hf4:∀ b ∈ [z,TO,i1,i2],FpOk X pins H b:=λ b hb=>hf b (by
   simp only [uar,ua4,or_false] at hb ⊢
   rcases hb with rfl | rfl | rfl | rfl <;> simp)
  refine Z3.znz (I.ok.hd hc) D o1 o2 st p1 p2 (hx.elim (λ q=>.inl (by simp;left)) λ q=>.inr (by simp;left)) λ h' kp=>⟨rfl,?_⟩
  exact turns (ch:=[z,TO,i1,i2]) (t':=s.toks) I hf4 λ b o hb e=>by
   simp only [uar,ua4,or_false,not_or] at hb
   exact kp b o hb.1 hb.2.1 hb.2.2.1 hb.2.2.2 e
 self:=λ _ _ _ _ _ st h=>wpAny_pyIter_zip st.z h
def iZip (t1 t2:Bool) (K:uac) (ta:TA):TI:=λ σ H R=>ta σ H λ vs H1=>∃ l1 l2,vs=[.ref l1,.ref l2]/\(∃ xs,SqX t1 K H1 l1 xs)/\(∃ ys,SqX t2 K H1 l2 ys)/\R (Itz t1 t2 K l1 l2) H1
theorem znn {X:Cx} {elts:List Expr} {kk:Nat} {pos':Pos} (t1 t2:Bool) {a b:Expr} {ta:TA} {p pos:Pos} (hg:Gl X "zip") (hm:X.mg "zip"=none) (ha:PA X [a,b] ta)
  (hs:starEach [a,b] X.env=[(false,eval a X.env),(false,eval b X.env)]:=by rfl) (hs2:starEach [b] X.env=[(false,eval b X.env)]:=by rfl) :
  PI X (.Tuple elts kk pos') (.Call (.Name "zip" p) [a,b] [] pos) (iZip t1 t2 X.K ta):=by
 intro pins s σ H R I h
 refine Call_ (zdz I hg hm boot_zip (ucz (thn (ha pos pins s σ H _ I h) λ us s1 ⟨vs,H1,I1,r1,q1⟩=>?_) (by rw[hs,hs2]) (by rw[hs2];rfl)))
 obtain⟨l1,l2,e,⟨xs,qx⟩,⟨ys,qy⟩,q⟩:=q1
 subst e
 cases r1 with
 | cons r rr =>
  cases rr with
  | cons r' rr =>
   cases rr
   cases r
   cases r'
   obtain⟨its1,r1,p1,z1⟩:=seqX I1 qx
   obtain⟨its2,r2,p2,z2⟩:=seqX I1 qy
   have lt:∀ {t:Bool} {l:Addr} {xs:Array Value},Z3.SqAt t s1.heap l xs->l < s1.heap.objs.size:=λ {t l xs} q=>by
    cases t with
    | true=>obtain⟨o,e,_⟩:=(show s1.heap.IsTuple l xs from q);exact Heap.lt_size e
    | false=>obtain⟨o,e,_⟩:=(show s1.heap.IsList l xs from q);exact Heap.lt_size e
   refine Z3.zqs p1 p2 λ h' zd sz kp=>wpAny_pyIter_zip zd.z ?_
   have I2:Inv X pins σ H1 { s1 with heap:=h',toks:=s1.toks }:=I1.kept (t':=s1.toks) kp
   refine⟨s1.heap.objs.size + 4,[s1.heap.objs.size + 4,s1.heap.objs.size + 2,s1.heap.objs.size + 3,s1.heap.objs.size,s1.heap.objs.size + 1],_,_,H1,rfl,I2,zpi (Z3.zt5 _) (Z3.zns (lt p1)) (Z3.zns (lt p2)),zd,λ b hb=>?_,q⟩
   have hb':s1.heap.objs.size<=b:=by
    simp only [uar,ua4,or_false] at hb
    rcases hb with rfl | rfl | rfl | rfl | rfl
    ·exact ueu _ _
    ·exact ueu _ _
    ·exact ueu _ _
    ·exact uai _
    ·exact ueu _ _
   exact I1.fpOk hb' (I1.hok.fresh hb')
section
variable {X:Cx} {pos:Pos}
inductive gLst_i (K:uac) (n:Nat) (t:TGs) (v:V) (σ:L2.St) (H:Hp) (Q:L2.St->Hp->Prop):Prop
 | mk:∀ a xs,(v=.ref a)->(SqL K H a xs)->(xs.length=n)->(t xs σ H Q)->gLst_i K n t v σ H Q
def gLst (K:uac) (n:Nat) (t:TGs):TG:=λ v σ H Q=>gLst_i K n t v σ H Q
theorem zti {es:List Expr} {k:Nat} {t:TGs} {n:Nat} (hc:X.calm=true) (h:PGs X es t) (hn:(assignEach es X.env).length=n:=by rfl) (hst:(assignEach es X.env).findIdx? (·.1)=none:=by rfl):PG X (.Tuple es k pos) (gLst X.K n t):=by
 intro pins s σ H v u Q I r hw
 obtain⟨a,xs,e1,hq,hl,hw⟩:=hw
 subst e1
 cases r
 obtain⟨its,rv,ht,hz⟩:=I.list hq
 refine U3.assign_tuple_lst (I.ok.hd hc) ht.isList (by simp [hn,← hl,rv.length]) hst λ h' hx=>?_
 have I1:Inv X pins σ H { s with heap:=h' }:=I.kept (t':=s.toks) λ b o e=>hx b o (uaw (Heap.lt_size e)) e
 exact h pins _ σ H xs _ Q I1 (by simpa using rv) hw
theorem zpk {prog:Program} {w:World} {A:Around} {bs:List Bool} {its:List Value} (r:Vals (bs.map V.bl) its):TruthOf prog w A (λ i v=>its.toArray[i]?=some v) (λ i=>bs.getD i true):=by
 intro i v s Q E hP hq
 have hP':its[i]?=some v:=by simpa using hP
 have hl:=r.length
 have hi:i < its.length:=(uan.mp hP').1
 have hb:i < bs.length:=by rw[uae] at hl;left
 obtain⟨u,hu,ru⟩:=r.get (i:=i) (x:=V.bl bs[i]) (by rw[uaq,uad hb];rfl)
 rw[hP'] at hu
 cases hu
 have e:v=Value.bool bs[i]:=ru
 subst e
 have e2:bs.getD i true=bs[i]:=by simp [udc,hb]
 have hq':Q (bs.getD i true) s:=hq
 rw[e2] at hq'
 exact uc6 hq'
theorem zpb (bs:List Bool):((uag bs.length).all λ i=>bs.getD i true)=bs.all id:=by
 rw[udf,uc9,uc9]
 constructor
 ·intro h b hb
  obtain⟨i,hi,e⟩:=ucl hb
  have:=h i (uav.mpr hi)
  rw[← e]
  simpa [udc,hi] using this
 ·intro h i hi
  have hi':=uav.mp hi
  have:=h bs[i] (ud8 hi')
  simpa [udc,hi'] using this
inductive call_all_i (K:uac) (xs:List V) (H:Hp) (Q:VK):Prop
 | mk:∀ (p:Addr) (bs:List Bool),(xs=[.ref p])->(SqL K H p (bs.map V.bl))->(Q (.bl (bs.all id)) H)->call_all_i K xs H Q
theorem zlz (hh:X.calm=true):CallR X (.builtin "all") (call_all_i X.K):=by
 intro pins s σ H xs us Q I r h
 obtain⟨p,bs,rfl,hq,q⟩:=h
 obtain⟨u,rfl,rx⟩:=vals1 r
 cases rx
 obtain⟨its,rv,pl,hz⟩:=I.list hq
 have hl:=rv.length
 have lt:p≠s.heap.objs.size:=by obtain⟨o,e,_⟩:=pl.isList;exact uaw (Heap.lt_size e)
 refine call_all_walk (uc7 pl.isList ?_)
 have W:=Walks.list (prog:=X.prog) (w:=X.w) (A:=X.A.in1) (show X.A.in1.handled=none from I.ok.hd hh) s.heap.objs.size p lt its.toArray
 refine⟨s.heap.objs.size,_,_,_,_,_,_,rfl,W,⟨⟨_,Heap.get?_push_size _ rfl,rfl,rfl⟩,pl.isList.push _⟩,zpk rv,λ h' tk hk=>?_⟩
 refine⟨.bl (bs.all id),H,I.kept (t':=tk) λ b o e=>hk b o (λ z=>?_) (Heap.get?_push_of_some _ e),?_,q⟩
 ·have:b=s.heap.objs.size:=by simpa using z
  exact absurd (Heap.lt_size e) (by rw[this];exact uck _)
 ·show Value.bool _=Value.bool _
  have e1:its.toArray.size=bs.length:=by rw[uak,← hl,uae]
  rw[e1,zpb]
inductive call_isi_i (K:uac) (n:String) (xs:List V) (H:Hp) (Q:VK):Prop
 | mk:∀ x t b,(xs=[x,.ty n])->(TyOf K H x t)->(PySem.W.kitOne K t (.type n)=some b)->(Q (.bl b) H)->call_isi_i K n xs H Q
theorem zbx {n:String}:CallR X (.builtin "isinstance") (call_isi_i X.K n):=by
 intro pins s σ H xs us Q I r h
 obtain⟨x,t,b,rfl,ty,e,q⟩:=h
 obtain⟨u,c,rfl,ru,rc⟩:=r.two
 cases rc
 exact zog I ru ty e λ tk=>⟨.bl b,H,I.tok tk,rfl,q⟩
variable {a b c d:Expr} {ta tb tc td:TE}
end
mutual
def Is (K:uac) (H:Hp):PyData->V->Prop
 | .none,v=>v=.non
 | .bool b,v=>v=.bl b
 | .int i,v=>v=.int i
 | .str x,v=>v=.str x
 | .tuple ds,v=>∃ p vs,v=.ref p/\H p=some (.tup vs)/\IsAll K H ds vs
 | .list ds,v=>∃ p vs,v=.ref p/\H p=some (.lst vs)/\IsAll K H ds vs
 | .dict kvs,v=>kvs=[]/\∃ p,v=.ref p/\H p=some (.dK [])
def IsAll (K:uac) (H:Hp):List PyData->List V->Prop
 | [],vs=>vs=[]
 | d::ds,vs=>∃ v r,vs=v::r/\Is K H d v/\IsAll K H ds r
end
section
variable {K:uac} {H H':Hp}
mutual
theorem Is.same (e:Same H H'):∀ (d:PyData) {v:V},Is K H d v->Is K H' d v
 | .none,_,h=>h
 | .bool _,_,h=>h
 | .int _,_,h=>h
 | .str _,_,h=>h
 | .tuple ds,_,h=>let ⟨p,vs,q1,q2,q3⟩:=h;⟨p,vs,q1,e _ _ q2,IsAll.same e ds q3⟩
 | .list ds,_,h=>let ⟨p,vs,q1,q2,q3⟩:=h;⟨p,vs,q1,e _ _ q2,IsAll.same e ds q3⟩
 | .dict kvs,_,h=>let ⟨q0,p,q1,q2⟩:=h;⟨q0,p,q1,e _ _ q2⟩
theorem IsAll.same (e:Same H H'):∀ (ds:List PyData) {vs:List V},IsAll K H ds vs->IsAll K H' ds vs
 | [],_,h=>h
 | d::ds,_,h=>let ⟨v,r,q1,q2,q3⟩:=h;⟨v,r,q1,Is.same e d q2,IsAll.same e ds q3⟩
end
theorem IsAll.length:∀ {ds:List PyData} {vs:List V},IsAll K H ds vs->vs.length=ds.length
 | [],_,h=>by rw[show _=[] from h];rfl
 | d::ds,_,⟨v,r,q1,q2,q3⟩=>by rw[q1,ubu,ubu,IsAll.length q3]
theorem IsAll.of:∀ {ds:List PyData} {vs:List V},vs.length=ds.length->(∀ (i:Nat) (d:PyData) (v:V),ds[i]?=some d->vs[i]?=some v->Is K H d v)->IsAll K H ds vs
 | [],[],_,_=>rfl
 | [],_::_,h,_=>by simp at h
 | _::_,[],h,_=>by simp at h
 | d::ds,v::vs,h,q=>⟨v,vs,rfl,q 0 d v rfl rfl,IsAll.of (by simpa using h) λ i d' v' h1 h2=>q (i + 1) d' v' (by simpa using h1) (by simpa using h2)⟩
theorem IsAll.append:∀ {ds es:List PyData} {vs us:List V},IsAll K H ds vs->IsAll K H es us->IsAll K H (ds++es) (vs++us)
 | [],_,_,_,h,q=>by rw[show _=[] from h];exact q
 | d::ds,_,_,_,⟨v,r,q1,q2,q3⟩,q=>⟨v,r++_,by rw[q1];rfl,q2,IsAll.append q3 q⟩
theorem IsAll.ints (ns:List Int):IsAll K H (ns.map .int) (ns.map V.int):=by
 refine IsAll.of (by simp) λ i d v h1 h2=>?_
 rw[uaq] at h1 h2
 cases e:ns[i]? with
 | none=>rw[e] at h1;cases h1
 | some n=>rw[e] at h1 h2;cases h1;cases h2;exact rfl
theorem IsAll.of_ints:∀ {ns:List Int} {vs:List V},IsAll K H (ns.map .int) vs->vs=ns.map V.int
 | [],_,h=>h
 | n::ns,_,⟨v,r,q1,q2,q3⟩=>by
  have e:v=.int n:=q2
  rw[q1,e,IsAll.of_ints q3];rfl
end
section
variable {X:Cx} {pins:List (Addr × Obj)} {σ:L2.St} {H:Hp} {s:Shared}
mutual
theorem zc0 (I:Inv X pins σ H s):∀ (d:PyData) {v:V} {u:Value},Is X.K H d v->RelV v u->∃ as,Reads s.heap u d as
 | .none,_,_,h,r=>by
  have e:_=V.non:=h
  subst e;cases r;exact⟨_,.none⟩
 | .bool b,_,_,h,r=>by
  have e:_=V.bl b:=h
  subst e;cases r;exact⟨_,.bool b⟩
 | .int i,_,_,h,r=>by
  have e:_=V.int i:=h
  subst e;obtain⟨t,rfl⟩:=r;exact⟨_,.int i t⟩
 | .str x,_,_,h,r=>by
  have e:_=V.str x:=h
  subst e;obtain⟨t,rfl⟩:=r;exact⟨_,.str x t⟩
 | .tuple ds,_,_,h,r=>by
  obtain⟨p,vs,rfl,q2,q3⟩:=(show ∃ p vs,_=V.ref p/\H p=some (.tup vs)/\IsAll X.K H ds vs from h)
  cases r
  obtain⟨its,rv,⟨o,e1,e2,n,e3⟩,_⟩:=I.tuple (SqT.of q2)
  obtain⟨as,ra⟩:=zcf I ds q3 rv
  exact⟨_,.tuple e1 e2 e3 (by simpa using ra)⟩
 | .list ds,_,_,h,r=>by
  obtain⟨p,vs,rfl,q2,q3⟩:=(show ∃ p vs,_=V.ref p/\H p=some (.lst vs)/\IsAll X.K H ds vs from h)
  cases r
  obtain⟨its,rv,⟨o,n,e1,e2,_,e3⟩,_⟩:=I.list (SqL.of q2)
  obtain⟨as,ra⟩:=zcf I ds q3 rv
  exact⟨_,.list e1 e2 e3 (by simpa using ra)⟩
 | .dict kvs,_,_,h,r=>by
  obtain⟨e0,p,rfl,q2⟩:=(show kvs=[]/\∃ p,_=V.ref p/\H p=some (.dK []) from h)
  subst e0
  cases r
  obtain⟨_,_,vs,kv,o,es,ep,g1,g2,g3,_,g4,_⟩:=(show ObjOk X.prog X.w H s.heap p (.dK []) from I.hok p _ q2)
  cases kv
  have e1:es.toList=[]:=by cases h:es.toList with
   | nil=>rfl
   | cons x r=>rw[h] at g4;cases g4
  exact⟨_,.dict g1 g2.1 g3 (by rw[e1];exact .nil) (by rw[e1];exact .nil)⟩
theorem zcf (I:Inv X pins σ H s):∀ (ds:List PyData) {vs:List V} {us:List Value},IsAll X.K H ds vs->Vals vs us->∃ as,ReadsAll s.heap us ds as
 | [],_,_,h,r=>by
  have e:_=[]:=h
  subst e;cases r;exact⟨_,.nil⟩
 | d::ds,_,_,h,r=>by
  obtain⟨v,vr,rfl,q2,q3⟩:=(show ∃ v r,_=v::r/\Is X.K H d v/\IsAll X.K H ds r from h)
  cases r with
  | cons r1 r2 =>
   obtain⟨as,a1⟩:=zc0 I d q2 r1
   obtain⟨bs,a2⟩:=zcf I ds q3 r2
   exact⟨_,.cons a1 a2⟩
end
inductive op_eqD_i (K:uac) (uu:Nat) (x:V) (y:V) (H:Hp) (Q:VK):Prop
 | mk:∀ da db,(Is K H da x)->(Is K H db y)->(da.canLay0=true)->(db.canLay0=true)->(uu + min da.depth db.depth < cLine)->(Q (.bl (PyData.eqv da db)) H)->op_eqD_i K uu x y H Q
theorem zlc:OpR X (compareOp .Eq) (op_eqD_i X.K X.A.units):=by
 intro pins s σ H x y v u Q I rx ry h
 obtain⟨da,db,h1,h2,c1,c2,hu,q⟩:=h
 obtain⟨as,ra⟩:=zc0 I da h1 rx
 obtain⟨bs,rb⟩:=zc0 I db h2 ry
 exact SeqAt.compareEq_reads ra rb c1 c2 hu (za1 I q rfl)
inductive op_neD_i (K:uac) (uu:Nat) (x:V) (y:V) (H:Hp) (Q:VK):Prop
 | mk:∀ da db,(Is K H da x)->(Is K H db y)->(da.canLay0=true)->(db.canLay0=true)->(uu + min da.depth db.depth < cLine)->(Q (.bl (!PyData.eqv da db)) H)->op_neD_i K uu x y H Q
theorem zlb:OpR X (compareOp .NotEq) (op_neD_i X.K X.A.units):=by
 intro pins s σ H x y v u Q I rx ry h
 obtain⟨da,db,h1,h2,c1,c2,hu,q⟩:=h
 obtain⟨as,ra⟩:=zc0 I da h1 rx
 obtain⟨bs,rb⟩:=zc0 I db h2 ry
 exact SeqAt.compareNe_reads ra rb c1 c2 hu (za1 I q rfl)
theorem zp9 {ys:List V} {its:List Value} (r:Vals ys its) {i:Nat} (hi:i < ys.length):RelV (ys.getD i .non) (its.getD i .none):=by
 have hl:=r.length
 obtain⟨u,hu,ru⟩:=r.get (i:=i) (x:=ys[i]) (uad hi)
 have e1:ys.getD i .non=ys[i]:=by simp [udc,hi]
 have e2:its.getD i .none=u:=by simp [udc,hu]
 rw[e1,e2];exact ru
theorem zcy {ys:List V} {its:List Value} (r:Vals ys its):∀ (l:List Nat),(∀ i ∈ l,i < ys.length)->Vals (l.map λ i=>ys.getD i .non) (l.map λ i=>its.getD i Value.none)
 | [],_=>.nil
 | i::l,h=>.cons (zp9 r (h i ual)) (zcy r l λ j hj=>h j (uap _ hj))
theorem zdg {n:Nat} {p:Array Nat} (g:Srt.Gd n p):∀ i ∈ p.toList,i < n:=λ i hi=>by
 have:=g.mem_iff.mp (Array.mem_toList_iff.mp hi)
 simpa using this
theorem zfo {α:Type} {n:Nat} {p:Array Nat} (g:Srt.Gd n p) (f:Nat->α):(p.toList.map f).Perm ((uag n).map f):=by
 have h:=Array.perm_iff_toList_perm.mp g
 exact (by simpa using h:p.toList.Perm (uag n)).map f
theorem zdk {n:Nat} {p:Array Nat} {r:Nat->Int} {R:Nat->Nat->Prop} (g:Srt.Gd n p) (u:Srt.Up r p n) (h:∀ i j,i < n->j < n->r i<=r j->R i j):p.toList.Pairwise R:=by
 rw[ubh]
 intro i j hi hj hij
 have sz:=g.sz
 have hi':i < p.size:=by simpa using hi
 have hj':j < p.size:=by simpa using hj
 have q:=u i j (ue9 hij) (by left)
 have e:∀ k (hk:k < p.size),p.getD k 0=p[k]:=λ k hk=>by simp [ugb,hk]
 unfold Srt.ky at q
 rw[e i hi',e j hj'] at q
 have m:∀ k (hk:k < p.size),p[k] < n:=λ k hk=>zdg g _ (by simp)
 have:=h p[i] p[j] (m i hi') (m j hj') q
 simpa using this
theorem zbg {α:Type} (l:List α) (d:α):(uag l.length).map (λ i=>l.getD i d)=l:=by
 refine ues (by simp) λ i h1 h2=>?_
 simp [udc,h2]
inductive call_sortedI_i (K:uac) (xs:List V) (H:Hp) (Q:VK):Prop
 | mk:∀ p ns,(xs=[.ref p])->(SqL K H p (ns.map V.int))->(ns.length < 64)->(∀ ms:List Int,ms.Perm ns->ms.Pairwise (·<=·)->∀ l,H l=none->Q (.ref l) (upd H l (.lst (ms.map V.int))))->call_sortedI_i K xs H Q
theorem zd4:CallR X (.builtin "sorted") (call_sortedI_i X.K):=by
 intro pins s σ H xs us Q I r h
 obtain⟨p,ns,rfl,hq,h64,q⟩:=h
 obtain⟨u,rfl,rx⟩:=vals1 r
 cases rx
 obtain⟨its,rv,pl,hz⟩:=I.list hq
 have hl:=rv.length
 rw[uae] at hl
 have hI:IntsAre its ns:=zbh rv
 have line:(64:Nat)<=sizeLine:=by rw[ucf];decide
 refine Srt.zik (r:=λ i=>ns.getD i 0) (κ:=oneType') pl.isList (by left) (λ h2 A' s' Q' _ q'=>Srt.zhe hI h2 q') (λ A' s' i j C _ hi hj q'=>Srt.zkd hI hi hj q') λ pp h' c g u kp e=>?_
 have g':Srt.Gd ns.length pp:=by rw[hl];exact g
 have u':Srt.Up (λ i=>ns.getD i 0) pp ns.length:=by rw[hl];exact u
 have pm:(pp.toList.map λ i=>ns.getD i 0).Perm ns:=by
  have:=zfo g' λ i=>ns.getD i 0
  rw[zbg] at this
  exact this
 have pw:(pp.toList.map λ i=>ns.getD i 0).Pairwise (·<=·):=by
  rw[ucc]
  exact zdk g' u' λ i j _ _ z=>z
 have fr:H (s.heap.objs.size + 1)=none:=I.hok.fresh (uc2 _)
 have ev:((pp.toList.map λ i=>ns.getD i 0).map V.int)=pp.toList.map λ i=>(ns.map V.int).getD i .non:=by
  rw[ubq]
  refine uby λ i hi=>?_
  have:=zdg g' i hi
  simp [udc,this]
 refine⟨.ref (s.heap.objs.size + 1),_,I.laid (a:=s.heap.objs.size + 1) (o:=.lst ((pp.toList.map λ i=>ns.getD i 0).map V.int)) (t':=s.toks) kp (uc2 _) ⟨?_,Srt.outOf its pp,c,?_,e⟩,rfl,q _ pm pw _ fr⟩
 ·have:=pm.length_eq
  rw[uae,this];left
 ·rw[ev]
  exact zcy rv pp.toList λ i hi=>by rw[uae];exact zdg g' i hi
inductive call_sortedT_i (K:uac) (xs:List V) (H:Hp) (Q:VK):Prop
 | mk:∀ p ys ks,(xs=[.ref p])->(SqL K H p ys)->(ys.length < 64)->(Paired (λ (y:V) (k:List Int)=>∃ a,y=.ref a/\SqT K H a (k.map V.int)) ys ks)->((∀ k ∈ ks,k≠[]))->(∀ qs:List (V × List Int),qs.Perm (ys.zip ks)->qs.Pairwise (λ a b=>Srt.lexI b.2 a.2=false)->∀ l,H l=none->Q (.ref l) (upd H l (.lst (qs.map (·.1)))))->call_sortedT_i K xs H Q
theorem zjc:CallR X (.builtin "sorted") (call_sortedT_i X.K):=by
 intro pins s σ H xs us Q I r h
 obtain⟨p,ys,ks,rfl,hq,h64,hp,hne,q⟩:=h
 obtain⟨u,rfl,rx⟩:=vals1 r
 cases rx
 obtain⟨its,rv,pl,hz⟩:=I.list hq
 have hl:=rv.length
 have hlk:ys.length=ks.length:=Paired.length hp
 have line:(64:Nat)<=sizeLine:=by rw[ucf];decide
 have hT:∀ {ys:List V} {ks:List (List Int)} {its:List Value},Paired (λ (y:V) (k:List Int)=>∃ a,y=.ref a/\SqT X.K H a (k.map V.int)) ys ks->Vals ys its->Paired (Srt.TupI s.heap) its ks:=by
  intro ys ks its hp
  induction hp generalizing its with
  | nil=>intro rv;cases rv;exact .nil
  | cons r t ih =>
   intro rv
   cases rv with
   | cons r1 r2 =>
    refine .cons ?_ (ih r2)
    obtain⟨a,rfl,qa⟩:=r
    cases r1
    obtain⟨its',rv',⟨o,e1,e2,n,e3⟩,_⟩:=I.tuple qa
    exact⟨a,o,its'.toArray,n,rfl,e1,e2,e3,by simpa using zbh rv'⟩
 have tp:=hT hp rv
 have mono:∀ {h':Heap},(∀ b o,s.heap.get? b=some o->h'.get? b=some o)->Paired (Srt.TupI h') its ks:=λ k=>Paired.mapP tp λ v k' z=>z.to k
 refine Srt.zik (r:=Srt.rank its.length λ i j=>Srt.lexI (ks.getD i []) (ks.getD j [])) (κ:=tuples' true) pl.isList (by left) (λ h2 A' s' Q' k q'=>Srt.zkv (mono k) hne h2 q')
  (λ A' s' i j C k hi hj q'=>Srt.zm4 (mono k) hi hj (by rw[Srt.zeu (lt:=λ i j=>Srt.lexI (ks.getD i []) (ks.getD j [])) (λ i=>Srt.zb4 _) (λ _ _ _ _ _ _=>Srt.zbs _ _ _) (λ _ _ _ _ _ _=>Srt.zc3 _ _ _) hi hj] at q';exact q')) λ pp h' c g u kp e=>?_
 have fr:H (s.heap.objs.size + 1)=none:=I.hok.fresh (uc2 _)
 have pm:(pp.toList.map λ i=>(ys.getD i .non,ks.getD i [])).Perm (ys.zip ks):=by
  have h1:=zfo g λ i=>(ys.getD i V.non,ks.getD i [])
  have e1:(uag its.length).map (λ i=>(ys.getD i V.non,ks.getD i []))=ys.zip ks:=by
   refine ues (by simp;left) λ i h1 h2=>?_
   have hi:i < its.length:=by simpa using h1
   have a1:i < ys.length:=by left
   have a2:i < ks.length:=by left
   simp [udc,a1,a2]
  rw[e1] at h1
  exact h1
 have pw:(pp.toList.map λ i=>(ys.getD i V.non,ks.getD i [])).Pairwise (λ a b=>Srt.lexI b.2 a.2=false):=by
  rw[ucc]
  refine zdk g u λ i j hi hj z=>?_
  have w:=Srt.zeu (n:=its.length) (lt:=λ i j=>Srt.lexI (ks.getD i []) (ks.getD j [])) (λ i=>Srt.zb4 _) (λ _ _ _ _ _ _=>Srt.zbs _ _ _) (λ _ _ _ _ _ _=>Srt.zc3 _ _ _) hj hi
  rw[decide_eq_false (by left)] at w
  exact w.symm
 have ev:(pp.toList.map λ i=>(ys.getD i V.non,ks.getD i [])).map (·.1)=pp.toList.map λ i=>ys.getD i V.non:=by
  rw[ubq];rfl
 refine⟨.ref (s.heap.objs.size + 1),_,I.laid (a:=s.heap.objs.size + 1) (o:=.lst ((pp.toList.map λ i=>(ys.getD i V.non,ks.getD i [])).map (·.1))) (t':=s.toks) kp (uc2 _) ⟨?_,Srt.outOf its pp,c,?_,e⟩,rfl,q _ pm pw _ fr⟩
 ·have:=pm.length_eq
  rw[uae,this,List.length_zip];left
 ·rw[ev]
  exact zcy rv pp.toList λ i hi=>by have:=zdg g i hi;left
end
def Ok (P:Program) (w:World) (K:uac) (mg:Str->Option Value) (base:Heap) (k:Nat) (x:Str) (ps:List Str) (sp:Sp):Prop :=
 ∃ (f:Addr) (fd:FuncData),FnOk P w K mg base CX0 k f fd ps sp/\Binds K fd ps []/\uej K (.ref f)=true/\mg x=some (.ref f)
def DefOk (K:uac) (mg:Str->Option Value) (x:Str) (st:Stmt) (ps:List Str):Prop :=
 ∃ (f:Addr) (fd:FuncData),Fun K x x st f fd/\Binds K fd ps []/\mg x=some (.ref f)
section
variable {P:Program} {w:World} {K:uac} {mg:Str->Option Value} {base:Heap} {x:Str} {ps N:List Str} {sp sp':Sp} {k:Nat} {st:Stmt}
theorem Ok.mono {j:Nat} (O:Ok P w K mg base j x ps sp) (h:j<=k):Ok P w K mg base k x ps sp:=let ⟨f,fd,F,r⟩:=O;⟨f,fd,F.mono h,r⟩
theorem Ok.imp (O:Ok P w K mg base k x ps sp) (h:∀ vs H Q E,sp' vs H Q E->sp vs H Q E):Ok P w K mg base k x ps sp':=let ⟨f,fd,F,r⟩:=O;⟨f,fd,F.imp h,r⟩
theorem zbd (D:DefOk K mg x st ps) (S:FnScope N ps (defScope st)) (len:∀ vs H Q E,sp vs H Q E->vs.length=ps.length)
  (hbody:∀ (f:Addr) (cdv:Value) (A:Around) (outer:List Env) (s:Shared) (H:Hp) (vs:List V) (Q:VK) (E:XK),Room k (A.deeper (envOfC x (defScope st) s.heap.objs.size f cdv))->sp vs H Q E ->
   ∃ t,PSs (cxOf CX0 P w K mg base N x (defScope st) f cdv A outer s H E).nox (defBody st) t/\t { nx:=λ _ H'=>Q .non H',rt:=Q } (start N vs) H):Ok P w K mg base (k + 1) x ps sp:=by
 obtain⟨f,fd,F,b,m⟩:=D
 exact⟨f,fd,F.ok S len (λ cdv A outer s H vs Q E hr h=>hbody f cdv A outer s H vs Q E hr h),b,F.kp,m⟩
theorem zaj {X:Cx} {p pos:Pos} {e:Expr} {es:List Expr} {t:TA} (O:Ok X.prog X.w X.K X.mg X.base k x ps sp) (hr:Room k X.A) (hg:Gl X x) (ha:PA X (e::es) t)
  (hdb:(x == ("__debug__":Str))=false:=by decide) (he:starEach (e::es) X.env=(false,eval e X.env)::starEach es X.env:=by rfl) (hpl:(backTo pos (starEach es X.env)).any (·.1)=false:=by rfl) :
  PE X (.Call (.Name x p) (e::es) [] pos) (tCall sp [] E0 t):=by
 obtain⟨f,fd,F,b,kp,m⟩:=O
 exact zsb F hr hg m kp b .nil pass0 ha hdb he hpl
end
structure Bi (mg:Str->Option Value):Prop where
 z_len:mg "len"=none
 z_range:mg "range"=none
 z_zip:mg "zip"=none
 z_all:mg "all"=none
 z_sorted:mg "sorted"=none
 z_isinstance:mg "isinstance"=none
 z_min:mg "min"=none
 z_max:mg "max"=none
 z_tuple:mg "tuple"=none
 z_list:mg "list"=none
 z_int:mg "int"=none
 z_bool:mg "bool"=none
 z_str:mg "str"=none
 z_enumerate:mg "enumerate"=none
 z_sum:mg "sum"=none
 z_abs:mg "abs"=none
 z_set:mg "set"=none
 z_reversed:mg "reversed"=none
 z_any:mg "any"=none
 z_repr:mg "repr"=none
 z_dict:mg "dict"=none
def But (p:Addr) (H H':Hp):Prop:=∀ b o,b≠p->H b=some o->H' b=some o
section
variable {K:uac} {H H1 H2:Hp} {p a:Addr} {o:HO} {xs ys:List V}
theorem But.refl:But p H H:=λ _ _ _ h=>h
theorem But.trans (a:But p H H1) (b:But p H1 H2):But p H H2:=λ c o n h=>b c o n (a c o n h)
theorem But.upd:But p H (upd H p o):=λ b u n h=>by rw[zap n];exact h
theorem Same.but (h:Same H H1):But p H H1:=λ b o _ q=>h b o q
theorem zal (h:H a=none):Same H (upd H a o):=λ b u q=>by rw[zap (zaf q h)];exact q
end
mutual
def tupD:PyData->Bool
 | .none | .bool _ | .int _ | .str _=>true
 | .tuple ds=>tupAll ds
 | .list _ | .dict _=>false
def tupAll:List PyData->Bool
 | []=>true
 | d::ds=>tupD d && tupAll ds
end
mutual
theorem Is.but {K:uac} {H H':Hp} {p:Addr} {xs:List V} (e:But p H H') (hp:H p=some (.lst xs)):∀ (d:PyData) {v:V},tupD d=true->Is K H d v->Is K H' d v
 | .none,_,_,h=>h
 | .bool _,_,_,h=>h
 | .int _,_,_,h=>h
 | .str _,_,_,h=>h
 | .tuple ds,_,t,h=>let ⟨q,vs,q1,q2,q3⟩:=h;⟨q,vs,q1,e _ _ (λ z=>by subst z;rw[hp] at q2;cases q2) q2,IsAll.but e hp ds t q3⟩
 | .list ds,_,t,h=>by cases t
 | .dict _,_,t,h=>by cases t
theorem IsAll.but {K:uac} {H H':Hp} {p:Addr} {xs:List V} (e:But p H H') (hp:H p=some (.lst xs)):∀ (ds:List PyData) {vs:List V},tupAll ds=true->IsAll K H ds vs->IsAll K H' ds vs
 | [],_,_,h=>h
 | d::ds,_,t,h=>by
  have t':(tupD d && tupAll ds)=true:=t
  rw[ubv] at t'
  obtain⟨v,r,q1,q2,q3⟩:=h
  exact⟨v,r,q1,Is.but e hp d t'.1 q2,IsAll.but e hp ds t'.2 q3⟩
end
def Pot (H:Hp) (p:Addr):Prop:=∃ a b:Int,H p=some (.lst [.int a,.int b])/\0<=a/\0<=b/\b < 2147483647
theorem Pot.lst {H:Hp} {p:Addr} (h:Pot H p):∃ xs,H p=some (.lst xs):=let ⟨a,b,e,_⟩:=h;⟨_,e⟩
inductive spPot_i (K:uac) (vs:List V) (H:Hp) (Q:VK):Prop
 | mk:∀ a k (ns:List Int),(vs=[.ref a,.int k])->(SqL K H a (ns.map V.int))->(0<=k)->(k<=100)->(∀ l H',Same H H'->H l=none->Pot H' l->Q (.ref l) H')->spPot_i K vs H Q
def spPot (K:uac):Sp:=λ vs H Q _=>spPot_i K vs H Q
inductive spTake_i  (vs:List V) (H:Hp) (Q:VK):Prop
 | mk:∀ p m,(vs=[.ref p,.int m])->(Pot H p)->(0 < m)->(m < 1073741824)->(∀ r H',0<=r->r < m->But p H H'->Pot H' p->Q (.int r) H')->spTake_i vs H Q
def spTake :Sp:=λ vs H Q _=>spTake_i vs H Q
inductive spOrder_i  (vs:List V) (H:Hp) (Q:VK):Prop
 | mk:∀ p m,(vs=[.ref p,.int m])->(Pot H p)->(0<=m)->(m<=1000)->(∀ l H' (ms:List Int),But p H H'->Pot H' p->H l=none->l≠p->H' l=some (.lst (ms.map V.int))->ms.Perm ((uag m.toNat).map λ i:Nat=>(i:Int))->Q (.ref l) H')->spOrder_i vs H Q
def spOrder :Sp:=λ vs H Q _=>spOrder_i vs H Q
abbrev Tie:=Int × Int × Int
def tieI (t:Tie):List Int:=[t.1,t.2.1,t.2.2]
def tieD (t:Tie):PyData:=.tuple ((tieI t).map .int)
def webD (n:Int) (ties:List Tie):PyData:=.tuple [.int n,.tuple (ties.map tieD)]
def endLt (s t:Tie):Prop:=s.1 < t.1\/(s.1=t.1/\s.2.1 < t.2.1)
structure WebOk (n:Int) (ties:List Tie):Prop where
 n1:1<=n
 n24:n<=24
 rise:ties.Pairwise endLt
 few:ties.length<=60
 tie:∀ t ∈ ties,0<=t.1/\t.1 < t.2.1/\t.2.1 < n/\1<=t.2.2/\t.2.2<=10 ^ 18
end L3
namespace L3
structure Grown (n:Nat) (ms:List Int) (b a:Nat) (ties:List Tie):Prop where
 few:ties.length<=60
 ok:∀ t ∈ ties,0<=t.1/\t.1 < t.2.1/\t.2.1 < (n:Int)/\1<=t.2.2/\t.2.2<=10 ^ 18
 of:∀ t ∈ ties,∃ a' b':Nat,a' < b'/\b' < n/\(b' < b\/(b'=b/\a' < a))/\((t.1=ms.getD a' 0/\t.2.1=ms.getD b' 0)\/(t.1=ms.getD b' 0/\t.2.1=ms.getD a' 0))
 nd:ties.Pairwise λ s t=>¬ (s.1=t.1/\s.2.1=t.2.1)
theorem Grown.start {n:Nat} {ms:List Int}:Grown n ms 0 0 []:=⟨ubb _,(λ t h=>by cases h),(λ t h=>by cases h),uex⟩
theorem Grown.down {n:Nat} {ms:List Int} {b:Nat} {ties:List Tie} (g:Grown n ms b b ties):Grown n ms (b + 1) 0 ties :=
 ⟨g.few,g.ok,λ t h=>by
  obtain⟨a',b',h1,h2,h3,h4⟩:=g.of t h
  exact⟨a',b',h1,h2,.inl (by left),h4⟩,g.nd⟩
theorem Grown.skip {n:Nat} {ms:List Int} {b a:Nat} {ties:List Tie} (g:Grown n ms b a ties):Grown n ms b (a + 1) ties :=
 ⟨g.few,g.ok,λ t h=>by
  obtain⟨a',b',h1,h2,h3,h4⟩:=g.of t h
  exact⟨a',b',h1,h2,by left,h4⟩,g.nd⟩
structure Perm0 (n:Nat) (ms:List Int):Prop where
 len:ms.length=n
 lo:∀ i,i < n->0<=ms.getD i 0/\ms.getD i 0 < (n:Int)
 inj:∀ i j,i < n->j < n->ms.getD i 0=ms.getD j 0->i=j
theorem Perm0.of {n:Nat} {ms:List Int} (h:ms.Perm ((uag n).map λ i:Nat=>(i:Int))):Perm0 n ms:=by
 have hl:ms.length=n:=by simpa using h.length_eq
 have nd:ms.Nodup:=(h.nodup_iff).mpr (by
  rw[ubt,ucc]
  exact (List.nodup_range (n:=n)).imp λ h z=>h (by left))
 refine⟨hl,λ i hi=>?_,λ i j hi hj e=>?_⟩
 ·have e:ms.getD i 0=ms[i]:=by simp [udc,show i < ms.length by left]
  have m:ms[i]'(by left) ∈ (uag n).map λ i:Nat=>(i:Int):=h.mem_iff.mp (ud8 _)
  rw[e]
  obtain⟨k,hk,ek⟩:=ubj.mp m
  have:=uav.mp hk
  left
 ·have e1:ms.getD i 0=ms[i]:=by simp [udc,show i < ms.length by left]
  have e2:ms.getD j 0=ms[j]:=by simp [udc,show j < ms.length by left]
  rw[e1,e2] at e
  exact (List.getElem_inj nd).mp e
theorem Grown.add {n:Nat} {ms:List Int} {b a:Nat} {ties:List Tie} {x y l:Int} (g:Grown n ms b a ties) (pm:Perm0 n ms) (ha:a < b) (hb:b < n) (hf:ties.length < 60) (hl:1<=l) (hl2:l<=10 ^ 18)
  (hxy:(x=ms.getD a 0/\y=ms.getD b 0)\/(x=ms.getD b 0/\y=ms.getD a 0)) (hle:x<=y):Grown n ms b (a + 1) (ties++[(x,y,l)]):=by
 have han:=ugj ha hb
 have la:=pm.lo a han
 have lb:=pm.lo b hb
 have ne:ms.getD a 0≠ms.getD b 0:=λ e=>uaw ha (pm.inj a b han hb e)
 refine⟨by rw[uaj,ubs];exact hf,λ t ht=>?_,λ t ht=>?_,?_⟩
 ·rcases uaz.mp ht with h | h
  ·exact g.ok t h
  ·have e:t=(x,y,l):=uam.mp h
   subst e
   refine⟨?_,?_,?_,hl,hl2⟩
   ·show 0<=x
    rcases hxy with ⟨q1,q2⟩ | ⟨q1,q2⟩
    ·rw[q1];exact la.1
    ·rw[q1];exact lb.1
   ·show x < y
    refine Int.lt_iff_le_and_ne.mpr ⟨hle,λ z=>?_⟩
    rcases hxy with ⟨q1,q2⟩ | ⟨q1,q2⟩
    ·exact ne (q1.symm.trans (z.trans q2))
    ·exact ne (q2.symm.trans (z.symm.trans q1))
   ·show y < (n:Int)
    rcases hxy with ⟨q1,q2⟩ | ⟨q1,q2⟩
    ·rw[q2];exact lb.2
    ·rw[q2];exact la.2
 ·rcases uaz.mp ht with h | h
  ·obtain⟨a',b',h1,h2,h3,h4⟩:=g.of t h
   exact⟨a',b',h1,h2,h3.imp id λ z=>⟨z.1,ub4 z.2⟩,h4⟩
  ·have e:t=(x,y,l):=uam.mp h
   subst e
   exact⟨a,b,ha,hb,.inr ⟨rfl,ucj _⟩,hxy⟩
 ·rw[uev]
  refine⟨g.nd,ufl _ _,λ t ht u hu=>?_⟩
  have e:u=(x,y,l):=uam.mp hu
  subst e
  rintro ⟨e1,e2⟩
  obtain⟨a',b',h1,h2,h3,h4⟩:=g.of t ht
  have e1':t.1=x:=e1
  have e2':t.2.1=y:=e2
  have h1n:=ugj h1 h2
  have fin:a'=a->b'=b->False:=λ ea eb=>h3.elim (λ z=>uaw z eb) λ z=>uaw z.2 ea
  have fin2:a'=b->b'=a->False:=λ ea eb=>Nat.lt_asymm ha (by rw[← ea,← eb];exact h1)
  rcases h4 with ⟨p1,p2⟩ | ⟨p1,p2⟩ <;> rcases hxy with ⟨q1,q2⟩ | ⟨q1,q2⟩
  ·exact fin (pm.inj a' a h1n han (p1.symm.trans (e1'.trans q1))) (pm.inj b' b h2 hb (p2.symm.trans (e2'.trans q2)))
  ·exact fin2 (pm.inj a' b h1n hb (p1.symm.trans (e1'.trans q1))) (pm.inj b' a h2 han (p2.symm.trans (e2'.trans q2)))
  ·exact fin2 (pm.inj a' b h1n hb (p2.symm.trans (e2'.trans q2))) (pm.inj b' a h2 han (p1.symm.trans (e1'.trans q1)))
  ·exact fin (pm.inj a' a h1n han (p2.symm.trans (e2'.trans q2))) (pm.inj b' b h2 hb (p1.symm.trans (e1'.trans q1)))
theorem zr3 {ts:List Tie} (h:ts.Pairwise λ a b=>Srt.lexI (tieI b) (tieI a)=false) (nd:ts.Pairwise λ s t=>¬ (s.1=t.1/\s.2.1=t.2.1)):ts.Pairwise endLt:=by
 refine (h.and nd).imp λ {a b} hab=>?_
 obtain⟨h1,h2⟩:=hab
 obtain⟨a1,a2,a3⟩:=a
 obtain⟨b1,b2,b3⟩:=b
 simp only [tieI,Srt.lexI] at h1
 show a1 < b1\/(a1=b1/\a2 < b2)
 have h2':¬ (a1=b1/\a2=b2):=h2
 by_cases e1:b1=a1
 ·rw[if_pos e1] at h1
  by_cases e2:b2=a2
  ·exact absurd ⟨e1.symm,e2.symm⟩ h2'
  ·rw[if_neg e2] at h1
   have:=of_decide_eq_false h1
   exact .inr ⟨e1.symm,by left⟩
 ·rw[if_neg e1] at h1
  have:=of_decide_eq_false h1
  exact .inl (by left)
end L3
namespace L3
open PySem PySem.Spec PyProof.Rows L2
section
variable {X:Cx} {pos:Pos}
theorem znt:OpR X (binaryOp .Mult) (rI (λ i j=>IntMulOk i j) λ i j=>.int (i * j)):=opI λ _ _ _ _ _ _ _ hc q=>mul_int q hc
theorem mulB:IntMulOk ((10:Int) ^ (60:Int).toNat) ((10:Int) ^ (60:Int).toNat):=IntMulOk.of_bits (by symm) (by symm)
theorem mulB2:IntMulOk ((10:Int) ^ (60:Int).toNat * (10:Int) ^ (60:Int).toNat) ((10:Int) ^ (60:Int).toNat):=IntMulOk.of_bits (by symm) (by symm)
theorem posB:(0:Int) < (10:Int) ^ (60:Int).toNat * (10:Int) ^ (60:Int).toNat * (10:Int) ^ (60:Int).toNat:=by symm
inductive call_range_i  (xs:List V) (H:Hp) (Q:VK):Prop
 | mk:∀ (j:Int),(xs=[.int j])->(∀ p,H p=none->Q (.ref p) (upd H p (.rng 0 j)))->call_range_i xs H Q
theorem zc4:CallR X (.type "range") (call_range_i):=by
 intro pins s σ H xs us Q I r h
 obtain⟨j,rfl,q⟩:=h
 obtain⟨u,rfl,t,rfl⟩:=vals1 r
 refine call_range_1 ⟨.ref s.heap.objs.size,_,I.laid (a:=s.heap.objs.size) (o:=.rng 0 j) (λ b o e=>Heap.get?_push_of_some _ e) (uai _) ⟨_,_,_,Heap.get?_push_size _ rfl⟩,rfl,q _ I.fresh⟩
inductive call_list_rng_i  (xs:List V) (H:Hp) (Q:VK):Prop
 | mk:∀ (p:Addr) (j:Int),(xs=[.ref p])->(H p=some (.rng 0 j))->(0<=j)->(j<=1000)->(∀ l,H l=none->Q (.ref l) (upd H l (.lst ((uag j.toNat).map λ i:Nat=>V.int (i:Int)))))->call_list_rng_i xs H Q
theorem zdi (hh:X.calm=true):CallR X (.type "list") (call_list_rng_i):=by
 intro pins s σ H xs us Q I r h
 obtain⟨p,j,rfl,hp,hj0,hj,q⟩:=h
 obtain⟨u,rfl,rx⟩:=vals1 r
 cases rx
 obtain⟨t,u,v,e⟩:=(show ObjOk X.prog X.w H s.heap p (.rng 0 j) from I.hok p _ hp)
 refine call_list_range (n:=j.toNat) (I.ok.hd hh) (show IsRange s.heap p 0 j 1 t u v from e) (small_one (by left) (by left) (by left) (by left)) (by rw[rangeSize_one];split <;> left) (by left) λ h' tk acc c hk hS hacc=>?_
 refine⟨.ref s.heap.objs.size,_,I.laid (a:=s.heap.objs.size) (o:=.lst ((uag j.toNat).map λ i:Nat=>V.int (i:Int))) (t':=tk) hk (uai _) ⟨?_,acc.toList,c,?_,by simpa using hS⟩,rfl,q _ I.fresh⟩
 ·rw[uae,uba,ucf];left
 ·have go:∀ (n:Nat) (l:List Value),l.length=n->(∀ (k:Nat) (v:Value),l[k]?=some v->∃ t,v=Value.int (0 + (k:Int) * 1) t)->Vals ((uag n).map λ i:Nat=>V.int (i:Int)) l:=by
   intro n l hl hv
   have gen:∀ (l:List Value) (o:Nat),(∀ (k:Nat) (v:Value),l[k]?=some v->∃ t,v=Value.int ((o + k:Nat):Int) t)->Vals ((uea o l.length).map λ i:Nat=>V.int (i:Int)) l:=by
    intro l
    induction l with
    | nil=>intro o _;exact .nil
    | cons x r ih =>
     intro o h
     rw[ubu,ufq,ucq]
     obtain⟨t,ht⟩:=h 0 x rfl
     refine .cons ⟨t,by simpa using ht⟩ (ih (o + 1) λ k v hk=>?_)
     obtain⟨t,ht⟩:=h (k + 1) v (by simpa using hk)
     exact⟨t,by rw[ht];congr 1;left⟩
   have:=gen l 0 λ k v hk=>by
    obtain⟨t,ht⟩:=hv k v hk
    exact⟨t,by rw[ht];congr 1;left⟩
   rw[hl] at this
   rw[List.range_eq_range']
   exact this
  refine go _ _ (by simpa using hacc.1) λ k v hk=>hacc.2 k v (by simpa using hk)
end
theorem zgn {α:Type}:∀ (l:List α) (k:Nat) (h:k < l.length),(l[k]::l.eraseIdx k).Perm l
 | [],k,h=>absurd h (udw _)
 | a::l,0,_=>ugi _
 | a::l,k + 1,h=>by
  have h':k < l.length:=by simpa using h
  show (l[k]::a::l.eraseIdx k).Perm (a::l)
  exact (List.Perm.swap a l[k] _).trans ((zgn l k h').cons a)
theorem zi3 {α β:Type} (f:α->β):∀ (l:List α) (k:Nat),(l.eraseIdx k).map f=(l.map f).eraseIdx k
 | [],_=>rfl
 | _::_,0=>rfl
 | a::l,k + 1=>by
  show f a::(l.eraseIdx k).map f=f a::(l.map f).eraseIdx k
  rw[zi3 f l k]
def TieL (H:Hp) (ys:List V) (ts:List Tie):Prop:=Paired (λ (y:V) (t:Tie)=>∃ a,y=.ref a/\H a=some (.tup ((tieI t).map V.int))) ys ts
theorem TieL.keep {H H':Hp} {ys:List V} {ts:List Tie} (h:TieL H ys ts) (k:∀ a xs,H a=some (.tup xs)->H' a=some (.tup xs)):TieL H' ys ts :=
 Paired.mapP h λ y t ⟨a,e1,e2⟩=>⟨a,e1,k _ _ e2⟩
theorem TieL.snoc {H:Hp} {ys:List V} {ts:List Tie} {a:Addr} {t:Tie} (h:TieL H ys ts) (e:H a=some (.tup ((tieI t).map V.int))):TieL H (ys++[.ref a]) (ts++[t]):=Paired.snoc h ⟨a,rfl,e⟩
theorem zgi {α β γ:Type} {F:β->γ->Prop} (f:α->β) (g:α->γ):∀ {l:List α},(∀ x ∈ l,F (f x) (g x))->Paired F (l.map f) (l.map g)
 | [],_=>.nil
 | x::l,h=>.cons (h x ual) (zgi f g λ y hy=>h y (uap _ hy))
theorem zgg {α β γ:Type} {F:α->β->Prop} {f:β->γ}:∀ {l:List α} {r:List β},Paired F l r->∀ q ∈ l.zip (r.map f),∃ b,q.2=f b/\F q.1 b
 | _,_,.nil,q,h=>by cases h
 | _,_,.cons (a:=a) (b:=b) x t,q,h=>by
  rw[ucq,ue7] at h
  rcases uar.mp h with e | h
  ·subst e;exact⟨b,rfl,x⟩
  ·exact zgg t q h
theorem ze2 {F:V->Tie->Prop} {G:V->List Int->Prop} (h:∀ y t,F y t->G y (tieI t)):∀ {ys:List V} {ts:List Tie},Paired F ys ts->Paired G ys (ts.map tieI)
 | _,_,.nil=>.nil
 | _,_,.cons x t=>.cons (h _ _ x) (ze2 h t)
def tieOf:List Int->Tie
 | [a,b,c]=>(a,b,c)
 | _=>(0,0,0)
theorem zrw (t:Tie):tieOf (tieI t)=t:=rfl
theorem zru {H:Hp} {ys:List V} {ts:List Tie} (h:TieL H ys ts) {qs:List (V × List Int)} (p:qs.Perm (ys.zip (ts.map tieI))) (w:qs.Pairwise λ a b=>Srt.lexI b.2 a.2=false) :
  ∃ ts':List Tie,ts'.Perm ts/\TieL H (qs.map (·.1)) ts'/\ts'.Pairwise λ a b=>Srt.lexI (tieI b) (tieI a)=false:=by
 have mem:∀ q ∈ qs,∃ t,q.2=tieI t/\∃ a,q.1=.ref a/\H a=some (.tup ((tieI t).map V.int)):=λ q hq=>zgg h q (p.mem_iff.mp hq)
 have back:∀ q ∈ qs,tieI (tieOf q.2)=q.2:=λ q hq=>by
  obtain⟨t,e,_⟩:=mem q hq
  rw[e];rfl
 refine⟨qs.map λ q=>tieOf q.2,?_,zgi _ _ λ q hq=>?_,?_⟩
 ·have e1:(qs.map λ q=>tieOf q.2).Perm ((ys.zip (ts.map tieI)).map λ q=>tieOf q.2):=p.map _
  have e2:(ys.zip (ts.map tieI)).map (λ q=>tieOf q.2)=ts:=by
   have l:ys.length=(ts.map tieI).length:=by rw[uae];exact Paired.length h
   have:(ys.zip (ts.map tieI)).map (λ q=>tieOf q.2)=((ys.zip (ts.map tieI)).map (·.2)).map tieOf:=by rw[ubq];rfl
   rw[this,ufr (uer l.symm),ubq]
   exact (uby λ t _=>zrw t).trans (List.map_id _)
  rw[e2] at e1
  exact e1
 ·obtain⟨t,e,a,ea,eh⟩:=mem q hq
  refine⟨a,ea,?_⟩
  rw[back q hq,e];exact eh
 ·rw[ucc]
  refine w.imp_of_mem λ {a b} ha hb z=>?_
  rw[back a ha,back b hb];exact z
theorem TieL.is {K:uac} {H:Hp}:∀ {ys:List V} {ts:List Tie},TieL H ys ts->IsAll K H (ts.map tieD) ys
 | _,_,.nil=>rfl
 | _,_,.cons (a:=y) (b:=t) ⟨a,e1,e2⟩ r=>⟨_,_,rfl,⟨a,_,e1,e2,IsAll.ints _⟩,TieL.is r⟩
theorem zl7 {x y:Int} {ms:List Int} (p:ms.Perm [x,y]) (w:ms.Pairwise (·<=·)):∃ a b,ms=[a,b]/\a<=b/\((a=x/\b=y)\/(a=y/\b=x)):=by
 have hl:=p.length_eq
 match ms,hl,p,w with
 | [a,b],_,p,w =>
  refine⟨a,b,rfl,by simpa using w,?_⟩
  have ha:a ∈ [x,y]:=p.mem_iff.mp (by simp)
  rcases uar.mp ha with e | e
  ·subst e
   have:=(List.perm_cons a).mp p
   have e2:b=y:=by simpa using List.perm_singleton.mp this
   exact .inl ⟨rfl,e2⟩
  ·have e':a=y:=by simpa using e
   subst e'
   have p2:[a,b].Perm [a,x]:=p.trans (List.Perm.swap a x [])
   have:=(List.perm_cons a).mp p2
   have e2:b=x:=by simpa using List.perm_singleton.mp this
   exact .inr ⟨rfl,e2⟩
def TupKeep (H H':Hp):Prop:=∀ a xs,H a=some (.tup xs)->H' a=some (.tup xs)
section
variable {J:It} {g:TG} {te:TE} {own:List Str} {js:List Nat} {σ:L2.St} {H1:Hp} {Q:VK}
theorem zhp (n:Nat) (Sg:L2.St->Prop) (R:Nat->V->Hp->Prop) (hn:n<=1000) (h0:Sg (start3 own js σ)) (mono:∀ i v H H',TupKeep H H'->R i v H->R i v H')
  (go:∀ i H',i < n->Same H1 H'->J.go i H') (stop:∀ H',Same H1 H'->J.stop n H')
  (step:∀ i x σ' H' H2,i < n->Same H1 H'->J.yld i H' x H2->Sg σ'->∀ C:L2.St->V->Hp->Prop,(∀ σ3 v H5,Sg σ3->Same H' H5->R i v H5->C σ3 v H5)->g x σ' H2 λ σ3 H3=>te σ3 H3 λ v H5=>C σ3 v H5)
  (fin:∀ D ys H',H1 D=none->Same H1 H'->H' D=some (.lst ys)->ys.length=n->(∀ i v,ys[i]?=some v->R i v H')->Q (.ref D) H'):CompGo own js g tTrue te σ Q J H1:=by
 intro D hD
 refine⟨λ i m ys σ' H'=>m=n - i/\i<=n/\Sg σ'/\Same H1 H'/\ys.length=i/\∀ j v,ys[j]?=some v->R j v H',⟨n,rfl,ubb _,h0,zal hD,rfl,λ j v e=>by simp at e⟩,?_⟩
 rintro i m ys σ' H' ⟨rfl,hi,sg,sm,hl,hr⟩ hd
 by_cases hlt:i < n
 ·refine .inr ⟨go i H' hlt sm,λ x H2 hy=>?_⟩
  refine step i x σ' H' H2 hlt sm hy sg (λ σ3 v H5=>H5 D=some (.lst ys)/\ys.length < sizeLine/\∃ m',m' < n - i/\(m'=n - (i + 1)/\i + 1<=n/\Sg σ3/\Same H1 (upd H5 D (.lst (ys++[v])))/\(ys++[v]).length=i + 1/\∀ j u,(ys++[v])[j]?=some u->R j u (upd H5 D (.lst (ys++[v]))))) λ σ3 v H5 sg3 s5 r5=>?_
  have hd5:=s5 _ _ hd
  refine⟨hd5,ubf (by left:ys.length<=1000) (by decide),n - (i + 1),by left,rfl,hlt,sg3,λ b o e=>?_,by rw[uaj,ubs,hl],λ j u e=>?_⟩
  ·rw[zap (zaf e hD)];exact s5 _ _ (sm _ _ e)
  ·have tk5:TupKeep H5 (upd H5 D (.lst (ys++[v]))):=λ a xs e=>by rw[zap (λ z=>by rw[z,hd5] at e;cases e)];exact e
   by_cases hj:j < ys.length
   ·rw[uci hj] at e
    exact mono _ _ _ _ tk5 (mono _ _ _ _ (λ a xs z=>s5 _ _ z) (hr j u e))
   ·rw[ucg (by left)] at e
    have ej:j=ys.length:=by
     have:=(uan.mp e).1
     simp at this;left
    subst ej
    have eu:v=u:=by simpa using e
    subst eu
    rw[hl]
    exact mono _ _ _ _ tk5 r5
 ·have e:i=n:=by left
  subst e
  exact .inl ⟨stop H' sm,fin D ys H' hD sm hd hl hr⟩
theorem zhn {K:uac} {a:Addr} {xs:List V} (hx:H1 a=some (.tup xs)) (Sg:L2.St->Prop) (R:Nat->V->Hp->Prop) (hn:xs.length<=1000) (h0:Sg (start3 own js σ)) (mono:∀ i v H H',TupKeep H H'->R i v H->R i v H')
  (step:∀ i x σ' H',xs[i]?=some x->Same H1 H'->Sg σ'->∀ C:L2.St->V->Hp->Prop,(∀ σ3 v H5,Sg σ3->Same H' H5->R i v H5->C σ3 v H5)->g x σ' H' λ σ3 H3=>te σ3 H3 λ v H5=>C σ3 v H5)
  (fin:∀ D ys H',H1 D=none->Same H1 H'->H' D=some (.lst ys)->ys.length=xs.length->(∀ i v,ys[i]?=some v->R i v H')->Q (.ref D) H'):CompGo own js g tTrue te σ Q (Itt K a) H1:=by
 refine zhp xs.length Sg R hn h0 mono (λ i H' hi s=>⟨xs,xs[i],SqT.of (s _ _ hx),by simp [hi]⟩) (λ H' s=>⟨xs,SqT.of (s _ _ hx),uai _⟩) (λ i x σ' H' H2 hi s hy sg C hC=>?_) fin
 obtain⟨rfl,hy⟩:=hy
 exact step i x σ' _ (hy xs (SqT.of (s _ _ hx))) s sg C hC
theorem zqq {K:uac} {a:Addr} {xs:List V} (hx:H1 a=some (.lst xs)) (Sg:L2.St->Prop) (R:Nat->V->Hp->Prop) (hn:xs.length<=1000) (h0:Sg (start3 own js σ)) (mono:∀ i v H H',TupKeep H H'->R i v H->R i v H')
  (step:∀ i x σ' H',xs[i]?=some x->Same H1 H'->Sg σ'->∀ C:L2.St->V->Hp->Prop,(∀ σ3 v H5,Sg σ3->Same H' H5->R i v H5->C σ3 v H5)->g x σ' H' λ σ3 H3=>te σ3 H3 λ v H5=>C σ3 v H5)
  (fin:∀ D ys H',H1 D=none->Same H1 H'->H' D=some (.lst ys)->ys.length=xs.length->(∀ i v,ys[i]?=some v->R i v H')->Q (.ref D) H'):CompGo own js g tTrue te σ Q (Itl K a) H1:=by
 refine zhp xs.length Sg R hn h0 mono (λ i H' hi s=>⟨xs,xs[i],SqL.of (s _ _ hx),by simp [hi]⟩) (λ H' s=>⟨xs,SqL.of (s _ _ hx),uai _⟩) (λ i x σ' H' H2 hi s hy sg C hC=>?_) fin
 obtain⟨rfl,hy⟩:=hy
 exact step i x σ' _ (hy xs (SqL.of (s _ _ hx))) s sg C hC
theorem SqX.of {t:Bool} {K:uac} {H:Hp} {a:Addr} {xs:List V} (h:H a=some (if t=true then .tup xs else .lst xs)):SqX t K H a xs:=by
 cases t with
 | true=>exact SqT.of h
 | false=>exact SqL.of h
theorem zlv {t1 t2:Bool} {K:uac} {a b:Addr} {xs zs:List V} (hx:H1 a=some (if t1=true then .tup xs else .lst xs)) (hz:H1 b=some (if t2=true then .tup zs else .lst zs)) (Sg:L2.St->Prop) (R:Nat->V->Hp->Prop) (hn:xs.length<=1000)
  (h0:Sg (start3 own js σ)) (mono:∀ i v H H',TupKeep H H'->R i v H->R i v H')
  (step:∀ i x z T σ' H',xs[i]?=some x->zs[i]?=some z->Same H1 H'->H' T=none->Sg σ'->∀ C:L2.St->V->Hp->Prop,(∀ σ3 v H5,Sg σ3->Same H' H5->R i v H5->C σ3 v H5)->g (.ref T) σ' (upd H' T (.tup [x,z])) λ σ3 H3=>te σ3 H3 λ v H5=>C σ3 v H5)
  (fin:∀ D ys H',H1 D=none->Same H1 H'->H' D=some (.lst ys)->ys.length=min xs.length zs.length->(∀ i v,ys[i]?=some v->R i v H')->Q (.ref D) H'):CompGo own js g tTrue te σ Q (Itz t1 t2 K a b) H1:=by
 have s1:∀ H',Same H1 H'->SqX t1 K H' a xs:=λ H' s=>SqX.of (s _ _ hx)
 have s2:∀ H',Same H1 H'->SqX t2 K H' b zs:=λ H' s=>SqX.of (s _ _ hz)
 refine zhp (min xs.length zs.length) Sg R (by left) h0 mono (λ i H' hi s=>⟨xs,zs,xs[i]'(by left),zs[i]'(by left),s1 H' s,s2 H' s,by simp [show i < xs.length by left],by simp [show i < zs.length by left]⟩)
  (λ H' s=>⟨xs,zs,s1 H' s,s2 H' s,by left⟩) (λ i x σ' H' H2 hi s hy sg C hC=>?_) fin
 obtain⟨T,x1,z1,hT,rfl,rfl,e1,e2⟩:=hy
 exact step i x1 z1 T σ' H' (e1 _ (s1 H' s)) (e2 _ (s2 H' s)) s hT sg C hC
end
theorem zl1 {f:Nat->Bool} {n:Nat} {ys:List V} (hl:ys.length=n) (h:∀ (i:Nat) (v:V),ys[i]?=some v->v=V.bl (f i)):ys=((uag n).map f).map V.bl:=by
 refine udd λ i=>?_
 by_cases hi:i < n
 ·obtain⟨v,hv⟩:∃ v,ys[i]?=some v:=⟨ys[i],uad (by left)⟩
  rw[hv,h i v hv]
  simp [hi]
 ·rw[ubd (by left),ubd (by simp;left)]
def tyD:PyData->String
 | .none=>"NoneType"
 | .bool _=>"bool"
 | .int _=>"int"
 | .str _=>"str"
 | .tuple _=>"tuple"
 | .list _=>"list"
 | .dict _=>"dict"
theorem zs6 {K:uac} {H:Hp}:∀ {d:PyData} {v:V},Is K H d v->TyOf K H v (.type (tyD d))
 | .none,_,h=>by rw[show _=V.non from h];exact .non
 | .bool b,_,h=>by rw[show _=V.bl b from h];exact .bl b
 | .int i,_,h=>by rw[show _=V.int i from h];exact .int i
 | .str x,_,h=>by rw[show _=V.str x from h];exact .str x
 | .tuple _,_,⟨p,vs,e,h,_⟩=>by rw[e];exact .tup h
 | .list _,_,⟨p,vs,e,h,_⟩=>by rw[e];exact .lst h
 | .dict _,_,⟨_,p,e,h⟩=>by rw[e];exact .dK h
def wholeB:PyData->Bool
 | .int _=>true
 | _=>false
def tieB (n:Int):PyData->Bool
 | .tuple [.int a,.int b,.int l]=>decide (0<=a) && decide (a < b) && decide (b < n) && decide (1<=l) && decide (l<=10 ^ 18)
 | _=>false
def few:PyData->Prop
 | .tuple ds=>ds.length<=1000
 | .list ds=>ds.length<=1000
 | _=>True
inductive spD1_i (K:uac) (pre:PyData->Prop) (f:PyData->Bool) (vs:List V) (H:Hp) (Q:VK):Prop
 | mk:∀ d v,(vs=[v])->(Is K H d v)->(pre d)->(∀ H',Same H H'->Q (.bl (f d)) H')->spD1_i K pre f vs H Q
def spD1 (K:uac) (pre:PyData->Prop) (f:PyData->Bool):Sp:=λ vs H Q _=>spD1_i K pre f vs H Q
section
variable {g:TG} {te:TE} {own:List Str} {js:List Nat} {σ:L2.St} {H1:Hp} {Q:VK}
end
def e2 (e:Int × Int):List Int:=[e.1,e.2]
def risingB (es:List (Int × Int)):Bool:=((uag (min es.length (es.drop 1).length)).map λ i=>HT.lexLt (e2 (es.getD i (0,0))) (e2 ((es.drop 1).getD i (0,0)))).all id
def TwoL (H:Hp) (ys:List V) (es:List (Int × Int)):Prop:=Paired (λ (y:V) (e:Int × Int)=>∃ a,y=.ref a/\H a=some (.tup [.int e.1,.int e.2])) ys es
section
variable {g:TG} {te:TE} {own:List Str} {js:List Nat} {σ:L2.St} {H1:Hp} {Q:VK}
end
section
variable {X:Cx} {own fr:List Str} {scope:Scope} {fp:List Addr} {pins:List (Addr × Obj)} {s3:Shared} {H3:Hp} {pos:Pos}
theorem ze0 {es:List Expr} {k:Nat} {t:TGs} {n:Nat} (hc:X.calm=true) (h:PGs (cxComp X own fr scope fp pins s3 H3) es t)
  (hn:(assignEach es (cxComp X own fr scope fp pins s3 H3).env).length=n:=by rfl) (hst:(assignEach es (cxComp X own fr scope fp pins s3 H3).env).findIdx? (·.1)=none:=by rfl):PG (cxComp X own fr scope fp pins s3 H3) (.Tuple es k pos) (gTup X.K n t) :=
 zbl (X:=cxComp X own fr scope fp pins s3 H3) hc h hn hst
theorem zek:IxR (cxComp X own fr scope fp pins s3 H3) (rIxL X.K):=zau (X:=cxComp X own fr scope fp pins s3 H3)
theorem zb0:IxR (cxComp X own fr scope fp pins s3 H3) (rIxT X.K):=za5 (X:=cxComp X own fr scope fp pins s3 H3)
theorem zbp:OpR (cxComp X own fr scope fp pins s3 H3) (compareOp .NotIn) (rIn X.K true):=ziq (X:=cxComp X own fr scope fp pins s3 H3)
end
def KeepOk (m:Nat) (ks:List Nat):Prop:=ks.Pairwise (· < ·)/\∀ k ∈ ks,k < m
def keepI (ks:List Nat):List Int:=ks.map λ k:Nat=>(k:Int)
def keepD (ks:List Nat):PyData:=.tuple ((keepI ks).map .int)
theorem KeepOk.len {m:Nat} {ks:List Nat} (h:KeepOk m ks):ks.length<=m:=by
 have go:∀ (ks:List Nat) (lo m:Nat),ks.Pairwise (· < ·)->(∀ k ∈ ks,lo<=k/\k < m)->ks.length + lo<=max m lo:=by
  intro ks
  induction ks with
  | nil=>intro lo m _ _;simp;left
  | cons k r ih =>
   intro lo m hp hb
   have h1:=hb k ual
   have:=ih (k + 1) m (ucx.mp hp).2 λ j hj=>⟨(ucx.mp hp).1 j hj,(hb j (uap _ hj)).2⟩
   rw[ubu]
   left
 have:=go ks 0 m h.1 λ k hk=>⟨ubb _,h.2 k hk⟩
 left
theorem za3 {K:uac} {H:Hp} {n:Int} {ts:List Tie} {v:V} (h:Is K H (webD n ts) v):∃ (p g:Addr) (ws:List V),v=.ref p/\H p=some (.tup [.int n,.ref g])/\H g=some (.tup ws)/\IsAll K H (ts.map tieD) ws/\ws.length=ts.length:=by
 obtain⟨p,vs,rfl,hp,v1,r1,rfl,e1,v2,r2,rfl,⟨g,ws,rfl,hg,hall⟩,e3⟩:=h
 have e1':v1=.int n:=e1
 have e3':r2=[]:=e3
 subst e1' e3'
 exact⟨p,g,ws,rfl,hp,hg,hall,by have:=hall.length;rw[uae] at this;exact this⟩
end L3
namespace Z3
open PySem
section
variable {prog:Program} {w:World} {A:Around} {E:Value->Shared->Prop} {s:Shared}
theorem zqd (t:Bool) (l:Addr) (xs:Array Value) :
  Meets (Builtin.«enumerate.__new__» ⟨[.type "enumerate",.ref l],[]⟩) (λ _ R s=>SqAt t s.heap l xs /\
   R (.ok (.ret (.ref (s.heap.push (itObj t l)).objs.size))) { s with heap:=(s.heap.push (itObj t l)).push { cls:=.type "enumerate",data:=.fields #[.none,.bool false,.ref s.heap.objs.size,rawInt 0,.none,.none] } }) :=
 .of_wp λ prog w A R s h=>by
  obtain⟨hp,g,d,tk,os⟩:=s;obtain⟨hl,h⟩:=h
  have hsub:=sub_enumerate
  have b1:SqAt t (Shared.heap ⟨hp,g,d,tk,os⟩) l xs:=hl
  obtain⟨o,ho⟩:∃ o,hp.get? l=some o:=by
   cases t with
   | true=>obtain⟨o,q,_⟩:=(show hp.IsTuple l xs from hl);exact⟨o,q⟩
   | false=>obtain⟨o,q,_⟩:=(show hp.IsList l xs from hl);exact⟨o,q⟩
  wp_walk using AutoSeq1.wpAny_loadPart' ho
  refine wpAny_stack_any λ st=>?_
  refine uah ?_
  split
  ·rename_i c _ _ _ _ _
   rcases (c == Value.type "enumerate") with _ | _
   ·wp_walk using AutoSeq1.wpAny_loadPart' ho,zfm b1
    exact⟨_,rfl,h⟩
   ·wp_walk using AutoSeq1.wpAny_loadPart' ho,zfm b1
    exact⟨_,rfl,h⟩
  ·wp_walk using AutoSeq1.wpAny_loadPart' ho,zfm b1
   exact⟨_,rfl,h⟩
theorem zo4 {t:Bool} {l:Addr} {xs:Array Value} {Q:Value->Shared->Prop} (hl:SqAt t s.heap l xs)
  (h:∀ h',IsEnum h' (s.heap.objs.size + 1) s.heap.objs.size ((0:Nat):Int) .none->ItAt t h' s.heap.objs.size l 0->h'.objs.size=s.heap.objs.size + 2->(∀ b o,s.heap.get? b=some o->h'.get? b=some o)->Q (.ref (s.heap.objs.size + 1)) { s with heap:=h' }) :
  wpAny (model prog w) A (call (.type "enumerate") [.ref l]) Q E s:=by
 refine callType_new F.called_enumerate (by decide) (F.typeCall_enumerate_1 _) (F.newCall_enumerate_1 _) (λ obj=>F.args_object_init_2 obj _) F.entry_enumerate_new (zqd t l xs) ⟨hl,?_⟩
 have z1:(s.heap.push (itObj t l)).objs.size=s.heap.objs.size + 1:=Heap.size_push ..
 have g1:ItAt t ((s.heap.push (itObj t l)).push { cls:=.type "enumerate",data:=.fields #[.none,.bool false,.ref s.heap.objs.size,rawInt 0,.none,.none] }) s.heap.objs.size l 0:=(ItAt.new (t:=t) (h:=s.heap) (l:=l)).to λ o e=>Heap.get?_push_of_some _ e
 have g2:((s.heap.push (itObj t l)).push { cls:=.type "enumerate",data:=.fields #[.none,.bool false,.ref s.heap.objs.size,rawInt 0,.none,.none] }).get? (s.heap.push (itObj t l)).objs.size=some _:=Heap.get?_push_size _ rfl
 show _/\_
 rw[z1] at g2 ⊢
 exact⟨⟨_,g2,rfl⟩,h _ g2 g1 (by rw[Heap.size_push,z1]) λ b o q=>Heap.get?_push_of_some _ (Heap.get?_push_of_some _ q)⟩
theorem zoq {t:Bool} {e it l:Addr} {i:Nat} {xs:Array Value} {x old:Value} {Q:Value->Shared->Prop} (he:IsEnum s.heap e it i old) (hi:ItAt t s.heap it l i) (hl:SqAt t s.heap l xs) (hx:xs[i]?=some x) (ne:e≠it)
  (hQ:∀ h',IsEnumOut h' e it ((i:Int) + 1) x s.heap.objs.size->ItAt t h' it l (i + 1)->h'.get? s.heap.objs.size=some { cls:=.type "tuple",data:=.seq #[.int i s.toks,x] }->h'.objs.size=s.heap.objs.size + 1 ->
   (∀ b o,b≠e->b≠it->s.heap.get? b=some o->h'.get? b=some o)->Q (.ref s.heap.objs.size) { s with heap:=h',toks:=s.toks + 1 }) :
  wpAny (model prog w) A (Builtin.«enumerate.__next__» ⟨[.ref e],[]⟩) (λ fin s'=>∃ v,fin=.done (.ret v)/\Q v s') E s:=by
 obtain⟨hp,g,d,tk,os⟩:=s
 show wpAny _ _ (field (.ref e) 2 >>= _) _ _ _
 refine uab (ub2 he rfl (x:=.ref it) rfl (uab (zhl hi hl hx λ k1 i1 s1=>?_)))
 replace s1:Heap.SameBut it hp k1:=s1
 have q1:IsEnum k1 e it i old:=(s1.2 e ne).trans he
 show wpAny _ _ (field (.ref e) 3 >>= _) _ _ ⟨k1,g,d,tk,os⟩
 refine uab (ub2 q1 rfl (x:=rawInt i) rfl ?_)
 show wpAny _ _ (field (.ref e) 4 >>= _) _ _ ⟨k1,g,d,tk,os⟩
 refine uab (ub2 q1 rfl (x:=.none) rfl ?_)
 show wpAny _ _ (mkInt i >>= _) _ _ ⟨k1,g,d,tk,os⟩
 refine uab (wpAny_mkInt ?_)
 show wpAny _ _ (setField (.ref e) 3 (rawInt ((i:Int) + 1)) >>= _) _ _ ⟨k1,g,d,tk + 1,os⟩
 refine uab (ub8 q1 (by simp) λ k2 q2 s2=>?_)
 replace s2:Heap.SameBut e k1 k2:=s2
 replace q2:IsEnum k2 e it ((i:Int) + 1) old:=q2
 show wpAny _ _ (setField (.ref e) 4 .none >>= _) _ _ ⟨k2,g,d,tk + 1,os⟩
 refine uab (ub8 q2 (by simp) λ k3 q3 s3=>?_)
 replace s3:Heap.SameBut e k2 k3:=s3
 replace q3:IsEnum k3 e it ((i:Int) + 1) old:=q3
 show wpAny _ _ (newTuple [.int i tk,x] >>= _) _ _ ⟨k3,g,d,tk + 1,os⟩
 refine uab (ugc ?_)
 have q4:IsEnum (k3.push { cls:=.type "tuple",data:=.seq #[.int i tk,x] }) e it ((i:Int) + 1) old:=Heap.get?_push_of_some _ q3
 generalize hk4:k3.push { cls:=.type "tuple",data:=.seq #[.int i tk,x] }=k4 at q4
 have sz:k3.objs.size=hp.objs.size:=by rw[s3.1,s2.1,s1.1]
 have lt:e < hp.objs.size:=Heap.lt_size he
 have t4:k4.get? hp.objs.size=some { cls:=.type "tuple",data:=.seq #[.int i tk,x] }:=by rw[← hk4,← sz];exact Heap.get?_push_size _ rfl
 have z4:k4.objs.size=hp.objs.size + 1:=by rw[← hk4,Heap.size_push,sz]
 have up4:∀ b o,b≠e->b≠it->hp.get? b=some o->k4.get? b=some o:=λ b o n1 n2 q=>by
  rw[← hk4];exact Heap.get?_push_of_some _ (s3.extBut b o n1 (s2.extBut b o n1 (s1.extBut b o n2 q)))
 have i4:ItAt t k4 it l (i + 1):=i1.to λ o q=>by
  rw[← hk4];exact Heap.get?_push_of_some _ (s3.extBut _ _ ne.symm (s2.extBut _ _ ne.symm q))
 show wpAny _ _ (Builtin.SmallTypes.ownedTupleIsFree (.ref e) >>= _) _ _ ⟨k4,g,d,tk + 1,os⟩
 rw[sz]
 clear hk4 q3 s3 q2 s2 q1 s1 i1 sz k3 k2 k1
 refine uab ?_
 unfold Builtin.SmallTypes.ownedTupleIsFree
 refine uab (ub2 q4 rfl (x:=.none) rfl (uah ?_))
 simp only [if_true]
 refine uab (udj (uab (ub2 q4 rfl (x:=old) rfl (uab (ub8 q4 (by simp) λ k5 q5 s5=>?_)))))
 replace s5:Heap.SameBut e k4 k5:=s5
 replace q5:IsEnum k5 e it ((i:Int) + 1) x:=q5
 show wpAny _ _ (Builtin.SmallTypes.ownedTupleHandOut (.ref e) (.ref hp.objs.size) >>= _) _ _ ⟨k5,g,d,tk + 1,os⟩
 refine uab ?_
 unfold Builtin.SmallTypes.ownedTupleHandOut
 refine uab (ub8 q5 (by simp) λ k6 q6 s6=>?_)
 replace s6:Heap.SameBut e k5 k6:=s6
 replace q6:IsEnumOut k6 e it ((i:Int) + 1) x hp.objs.size:=q6
 refine ub8 q6 (by simp) λ k7 q7 s7=>?_
 replace s7:Heap.SameBut e k6 k7:=s7
 replace q7:IsEnumOut k7 e it ((i:Int) + 1) x hp.objs.size:=q7
 have up:∀ b o,b≠e->k4.get? b=some o->k7.get? b=some o:=λ b o n q=>s7.extBut b o n (s6.extBut b o n (s5.extBut b o n q))
 exact uab (uet (uah ⟨_,rfl,hQ k7 q7 (i4.to λ o q=>up _ o ne.symm q) (up _ _ (udb lt) t4) (by rw[s7.1,s6.1,s5.1,z4]) λ b o n1 n2 q=>up b o n1 (up4 b o n1 n2 q)⟩))
theorem zf6 {t:Bool} {e it l:Addr} {i:Nat} {xs:Array Value} {x old:Value} {Q:Option Value->Shared->Prop} (he:IsEnum s.heap e it i old) (hi:ItAt t s.heap it l i) (hl:SqAt t s.heap l xs) (hx:xs[i]?=some x) (ne:e≠it)
  (hQ:∀ h',IsEnumOut h' e it ((i:Int) + 1) x s.heap.objs.size->ItAt t h' it l (i + 1)->h'.get? s.heap.objs.size=some { cls:=.type "tuple",data:=.seq #[.int i s.toks,x] }->h'.objs.size=s.heap.objs.size + 1 ->
   (∀ b o,b≠e->b≠it->s.heap.get? b=some o->h'.get? b=some o)->Q (some (.ref s.heap.objs.size)) { s with heap:=h',toks:=s.toks + 1 }) :
  wpAny (model prog w) A (pyNext (.ref e)) Q E s:=by
 have ty:s.TypeIs (.ref e) "enumerate":=⟨_,he,rfl⟩
 unfold pyNext
 exact uab (ud7 (ubl (name := Str.ofString "__next__") ty F.slot_enumerate_next (ubi F.slot_enumerate_next ty F.entry_enumerate_next
     (zoq he hi hl hx ne λ h' a b c d k=>uah (hQ h' a b c d k)) (F.args_enumerate_next_1 _))))
theorem zf5 {t:Bool} {e it l:Addr} {i:Nat} {xs:Array Value} {old:Value} {Q:Option Value->Shared->Prop} (hh:A.handled=none) (he:IsEnum s.heap e it i old) (hi:ItAt t s.heap it l i) (hl:SqAt t s.heap l xs) (hx:xs[i]?=none)
  (hQ:∀ h',Heap.ExtBut it s.heap h'->Q none { s with heap:=h' }):wpAny (model prog w) A (pyNext (.ref e)) Q E s:=by
 have ty:s.TypeIs (.ref e) "enumerate":=⟨_,he,rfl⟩
 unfold pyNext
 refine uab (ud7 (ubl (name:=Str.ofString "__next__") ty F.slot_enumerate_next (ubi F.slot_enumerate_next ty F.entry_enumerate_next ?_ (F.args_enumerate_next_1 _))))
 show wpAny _ _ (field (.ref e) 2 >>= _) _ _ _
 refine uab (ub2 he rfl (x:=.ref it) rfl (uab (zjx hh hi hl hx λ h' x k ⟨o,p1,p2⟩=>?_)))
 exact uab (ue3 (T:="StopIteration") (b:=true) ⟨o,p1,p2⟩ uge (uah (hQ _ k)))
end
end Z3
namespace L3
open PySem PySem.Spec PyProof.Rows L2
def Itn (t:Bool) (K:uac) (l:Addr):It :=
 ⟨λ i H=>∃ xs x,SqX t K H l xs/\xs[i]?=some x,
  λ i H v H'=>∃ T x,H T=none/\v=.ref T/\H'=upd H T (.tup [.int (i:Nat),x])/\(∀ xs,SqX t K H l xs->xs[i]?=some x),
  λ i H=>∃ xs,SqX t K H l xs/\xs.length<=i⟩
theorem zm3 {P:Program} {w:World} {K:uac} {elts:List Expr} {kk:Nat} {pos:Pos} {t:Bool} {e it l:Addr} (n1:e≠it) (n2:l≠e) (n3:l≠it) :
  Turn P w K (.Tuple elts kk pos) (Itn t K l) [e,it] e (λ i h=>(∃ old,IsEnum h e it (i:Int) old)/\Z3.ItAt t h it l i) where
 mem:=by simp
 obj:=λ i h st b hb=>by
  obtain⟨⟨old,q1⟩,q2⟩:=st
  obtain⟨o2,m2,e2,_,d2⟩:=q2.obj
  simp only [uar,ua4,or_false] at hb
  rcases hb with rfl | rfl
  ·exact⟨_,q1,λ v q=>by cases q⟩
  ·exact⟨_,e2,λ v q=>by rw[d2] at q;cases q⟩
 keep:=λ i h h' st k=>by
  obtain⟨⟨old,q1⟩,q2⟩:=st
  exact⟨⟨old,k e (by simp) _ q1⟩,q2.to λ o z=>k it (by simp) o z⟩
 item:=by
  intro X hP hw hK hc i pins s σ H E I hf st hg
  subst hP hw hK
  obtain⟨xs,x,q1,hx⟩:=hg
  obtain⟨⟨old,en⟩,ia⟩:=st
  obtain⟨its1,r1,p1,z1⟩:=seqX I q1
  obtain⟨u1,hu1,ru1⟩:=r1.get hx
  refine Z3.zf6 en ia p1 (x:=u1) (by simpa using hu1) n1 λ h' eo ia' tp sz kp=>?_
  have I1 : Inv X pins σ (upd H s.heap.objs.size (.tup [.int (i : Nat), x])) { s with heap := h', toks := s.toks + 1 } := turnsTup (ch := [e, it]) (its := [.int i s.toks, u1]) I hf (λ b o hb z => by
      simp only [uar,ua4,or_false,not_or] at hb
      exact kp b o hb.1 hb.2 z) (uai _) (by show 2<=sizeLine;rw[ucf];decide) (.cons ⟨_,rfl⟩ (.cons ru1 .nil)) ⟨_,tp,rfl,⟨_,rfl⟩,rfl⟩
  have fr:H s.heap.objs.size=none:=I.fresh
  have elt:e < s.heap.objs.size:=Heap.lt_size en
  have ilt:it < s.heap.objs.size:=by obtain⟨o2,m2,e2,_⟩:=ia.obj;exact Heap.lt_size e2
  have zne:∀ b ∈ [e,it],b≠s.heap.objs.size:=λ b hb=>by
   simp only [uar,ua4,or_false] at hb
   rcases hb with rfl | rfl
   ·exact uaw elt
   ·exact uaw ilt
  refine⟨_,rfl,wpAny_letOwnedTupleGo_enum eo λ h2 en2 sb=>?_⟩
  obtain⟨f0,f1,f2,f3,f4,f5⟩:=hf e (by simp)
  have I2:Inv X pins σ (upd H s.heap.objs.size (.tup [.int (i:Nat),x])) { s with heap:=h2,toks:=s.toks + 1 }:=Inv.turned (s:={ s with heap:=h',toks:=s.toks + 1 }) (it:=e) (t':=s.toks + 1) I1 (λ b o hb z=>sb.extBut b o hb z) (by rw[zap (zne e (by simp))];exact f0) f1 f3 f4 f5
  refine⟨.ref s.heap.objs.size,_,I2,rfl,⟨_,x,fr,rfl,rfl,λ zs hz=>by rw[zgx I hz q1];exact hx⟩,?_,λ b hb=>by rw[zap (zne b hb)];exact (hf b hb).1⟩
  exact⟨⟨_,by simpa using en2⟩,ia'.to λ o z=>sb.extBut _ _ n1.symm z⟩
 done:=by
  intro X hP hw hK hc i pins s σ H E I hf st hg
  subst hP hw hK
  obtain⟨xs,q1,hx⟩:=hg
  obtain⟨⟨old,en⟩,ia⟩:=st
  obtain⟨its1,r1,p1,z1⟩:=seqX I q1
  have l1:=r1.length
  refine Z3.zf5 (I.ok.hd hc) en ia p1 (by simp;left) λ h' kp=>⟨rfl,?_⟩
  exact turns (ch:=[e,it]) (t':=s.toks) I hf λ b o hb z=>by
   simp only [uar,ua4,or_false,not_or] at hb
   exact kp b o hb.2 z
 self:=λ _ _ _ _ _ st h=>by
  obtain⟨⟨old,en⟩,_⟩:=st
  exact wpAny_pyIter_enum en h
def iEnum (t:Bool) (K:uac) (ta:TA):TI:=λ σ H R=>ta σ H λ vs H1=>∃ l,vs=[.ref l]/\(∃ xs,SqX t K H1 l xs)/\R (Itn t K l) H1
theorem zez {X:Cx} {elts:List Expr} {kk:Nat} {pos':Pos} (t:Bool) {a:Expr} {ta:TA} {p pos:Pos} (hg:Gl X "enumerate") (hm:X.mg "enumerate"=none) (ha:PA X [a] ta)
  (hs:starEach [a] X.env=[(false,eval a X.env)]:=by rfl) (hs2:starEach [] X.env=[]:=by rfl) :
  PI X (.Tuple elts kk pos') (.Call (.Name "enumerate" p) [a] [] pos) (iEnum t X.K ta):=by
 intro pins s σ H R I h
 refine Call_ (zdz I hg hm boot_enumerate (ucz (thn (ha pos pins s σ H _ I h) λ us s1 ⟨vs,H1,I1,r1,q1⟩=>?_) (by rw[hs,hs2]) (by rw[hs2];rfl)))
 obtain⟨l,e,⟨xs,qx⟩,q⟩:=q1
 subst e
 obtain⟨u,rfl,rx⟩:=vals1 r1
 cases rx
 obtain⟨its1,r1,p1,z1⟩:=seqX I1 qx
 have lt:l < s1.heap.objs.size:=by
  cases t with
  | true=>obtain⟨o,e,_⟩:=(show s1.heap.IsTuple l _ from p1);exact Heap.lt_size e
  | false=>obtain⟨o,e,_⟩:=(show s1.heap.IsList l _ from p1);exact Heap.lt_size e
 refine Z3.zo4 p1 λ h' en ia sz kp=>wpAny_pyIter_enum en ?_
 have I2:Inv X pins σ H1 { s1 with heap:=h',toks:=s1.toks }:=I1.kept (t':=s1.toks) kp
 refine⟨s1.heap.objs.size + 1,[s1.heap.objs.size + 1,s1.heap.objs.size],_,_,H1,rfl,I2,zm3 (Nat.succ_ne_self _) (uaw (ub4 lt)) (uaw lt),⟨⟨_,en⟩,ia⟩,λ b hb=>?_,q⟩
 have hb':s1.heap.objs.size<=b:=by
  simp only [uar,ua4,or_false] at hb
  rcases hb with rfl | rfl
  ·exact uc2 _
  ·exact uai _
 exact I1.fpOk hb' (I1.hok.fresh hb')
end L3
namespace HT
open PySem PyProof.Rows
section
variable {prog:Program} {w:World} {A:Around} {E:Value->Shared->Prop} {s:Shared}
theorem zju {t:Addr} {items:Array Value} {Q:Bool->Shared->Prop} (ht:IsTup s.heap t items) (h:Q true s):wpAny (model prog w) A (Builtin.Tuple.tupleIsExact (.ref t)) Q E s:=by
 unfold Builtin.Tuple.tupleIsExact
 exact uab (ufi ht.typeIs (uah h))
theorem zdb {t sl:Addr} {items:Array Value} {vl vu:Value} {lo hi:Option Int} {Q:Value->Shared->Prop} (ht:IsTup s.heap t items) (hs:s.heap.IsSliceOf sl vl vu .none) (pl:IsPart vl lo) (pu:IsPart vu hi)
  (hw:sIx items.size 0 lo=0/\sIx items.size items.size hi=items.size) (h:Q (.ref t) s):wpAny (model prog w) A (getItem (.ref t) (.ref sl)) Q E s:=by
 obtain⟨os,hos,hcs,hds⟩:=id hs
 have ty:s.TypeIs (.ref sl) "slice":=⟨os,hos,hcs⟩
 unfold getItem
 try with_reducible refine ubk ?_
 first | refine uab (uah ?_) | skip
 refine uab (wpAny_sequenceKey ht.typeIs (by decide) (uab (ubl (name:=Str.ofString "__getitem__") ht.typeIs ub6
  (ubi ub6 ht.typeIs entry_tuple_getitem ?_ (args_tuple_getitem _ _)))))
 show wpAny _ _ (Builtin.Tuple.tupleItemsOf (.ref t) >>= _) _ _ s
 refine uab (tupleItemsOf_ ht (uab (ufi ty ?_)))
 rw[if_pos (by decide)]
 refine uab (zco hs pl pu ?_)
 have yes:(((sIx items.size 0 lo:Nat):Int) == 0 && (1:Int) == 1 && (sIx items.size items.size hi - sIx items.size 0 lo) == items.size)=true:=by
  rw[hw.1,hw.2];simp
 show wpAny _ _ (if (((sIx items.size 0 lo:Nat):Int) == 0 && (1:Int) == 1 && (sIx items.size items.size hi - sIx items.size 0 lo) == items.size)=true then _ else _) _ _ s
 rw[if_pos yes]
 refine uab (zju ht ?_)
 rw[if_pos rfl]
 exact uab (udj (uab (uah (uah ⟨_,rfl,uah h⟩))))
theorem zs0 {t b:Addr} {ws:List Value} {Q:Value->Shared->Prop} (ht:IsTup s.heap t ([]:List Value).toArray) (hb:IsTup s.heap b ws.toArray) (h:Q (.ref b) s):wpAny (model prog w) A (binaryOp .Add (.ref t) (.ref b)) Q E s:=by
 obtain⟨⟨cls,dd,data,sl⟩,ho,hc,n,hd⟩:=id ht
 obtain⟨⟨cls2,dd2,data2,sl2⟩,ho2,hc2,n2,hd2⟩:=id hb
 simp only at hc hd hc2 hd2
 subst hc hd hc2 hd2
 exact ug6 ⟨_,ho,rfl⟩ ⟨_,ho2,rfl⟩ uhc seq_tuple_add uff ufb (ue6 _ _) (tuple_addW0 t b _ ws.toArray n n2 dd dd2 sl sl2 rfl) ⟨ho,ho2,h⟩
end
end HT
namespace L3
open PySem PySem.Spec PyProof.Rows L2
section
variable {X:Cx} {pins:List (Addr × Obj)} {σ:L2.St} {H:Hp} {s:Shared} {e:Expr} {te:TE} {pos p2:Pos}
theorem zqn {xs:List V} {lo hi:Option Int} (h:HT.sIx xs.length 0 lo=0/\HT.sIx xs.length xs.length hi=xs.length):cutV xs lo hi=xs:=by
 unfold cutV
 rw[h.1,h.2]
 simp
inductive rSlA_i  (x:V) (lo:Option Int) (hi:Option Int) (H:Hp) (Q:VK):Prop
 | mk:∀ a xs,(x=.ref a)->(H a=some (.tup xs))->(∀ p H',Same H H'->H' p=some (.tup (cutV xs lo hi))->Q (.ref p) H')->rSlA_i x lo hi H Q
def rSlA :V->Option Int->Option Int->Hp->VK->Prop:=λ x lo hi H Q=>rSlA_i x lo hi H Q
theorem zgw:SlR X rSlA:=by
 intro pins s σ H x v vl vu lo hi sl Q I rx hs pl pu h
 obtain⟨a,xs,rfl,hx,q⟩:=h
 by_cases c:HT.sIx xs.length 0 lo=0/\HT.sIx xs.length xs.length hi=xs.length
 ·cases rx
  obtain⟨its,r,ht,hz⟩:=I.tuple (SqT.of hx)
  have hlen:its.toArray.size=xs.length:=by rw[uak];exact r.length.symm
  refine⟨"tuple",_,ub6.lookup,ht.typeIs,HT.zdb ht hs pl pu (by rw[hlen];exact c) ⟨.ref a,H,I,rfl,q _ _ (Same.refl H) (by rw[zqn c];exact hx)⟩⟩
 ·exact zta (X:=X) pins s σ H (.ref a) v vl vu lo hi sl Q I rx hs pl pu ⟨a,xs,rfl,SqT.of hx,c,λ p hp=>q p _ (zal hp) zai⟩
inductive rCatA_i  (x:V) (y:V) (H:Hp) (Q:VK):Prop
 | mk:∀ a b xs ys,(x=.ref a)->(y=.ref b)->(H a=some (.tup xs))->(H b=some (.tup ys))->(xs.length + ys.length<=sizeLine)->(∀ p H',Same H H'->H' p=some (.tup (xs++ys))->Q (.ref p) H')->rCatA_i x y H Q
def rCatA :R2:=λ x y H Q=>rCatA_i x y H Q
theorem zsh:OpR X (binaryOp .Add) rCatA:=by
 intro pins s σ H x y v u Q I rx ry h
 obtain⟨a,b,xs,ys,rfl,rfl,ha,hb,hz,q⟩:=h
 by_cases c:xs=[]
 ·subst c
  cases rx
  cases ry
  obtain⟨its,r1,p1,_⟩:=I.tuple (SqT.of ha)
  obtain⟨its2,r2,p2,_⟩:=I.tuple (SqT.of hb)
  cases r1
  exact HT.zs0 p1 p2 ⟨.ref b,H,I,rfl,q _ _ (Same.refl H) hb⟩
 ·refine zsg (X:=X) pins s σ H _ _ v u Q I rx ry ⟨a,b,xs,ys,rfl,rfl,SqT.of ha,SqT.of hb,c,hz,λ e=>q _ _ (Same.refl H) (by rw[e,ub1];exact ha),λ _ p hp=>q p _ (zal hp) zai⟩
end
def numB (m:Nat):PyData->Bool
 | .int i=>decide (0<=i) && decide (i < (m:Int))
 | _=>false
def intOf:PyData->Int
 | .int i=>i
 | _=>0
def risI (ns:List Int):Bool:=((uag (min ns.length (ns.drop 1).length)).map λ i=>decide (ns.getD i 0 < (ns.drop 1).getD i 0)).all id
def keepB (m:Nat):PyData->Bool
 | .tuple ds=>ds.all (numB m) && risI (ds.map intOf)
 | _=>false
theorem zkc {ds:List PyData} (h:∀ d ∈ ds,∃ i,d=.int i):ds=(ds.map intOf).map .int:=by
 rw[ubq]
 conv=>lhs;rw[← List.map_id ds]
 refine uby λ d hd=>?_
 obtain⟨i,rfl⟩:=h d hd
 rfl
structure Pre (m:Nat) (ds:List PyData) (i:Nat) (a:Int):Prop where
 num:∀ d ∈ ds.take i,numB m d=true
 up:((ds.take i).map intOf).Pairwise (· < ·)
 top:∀ x ∈ (ds.take i).map intOf,x<=a
 at_:a=-1\/a ∈ (ds.take i).map intOf
theorem zm9 {α:Type} {ds:List α} {i:Nat} {d:α} (e:ds[i]?=some d):ds.take (i + 1)=ds.take i++[d]:=by
 rw[ubo,e];rfl
def flatD:V->Bool
 | .non | .bl _ | .int _ | .str _=>true
 | _=>false
theorem Pot.same {H H':Hp} {p:Addr} (h:Pot H p) (s:Same H H'):Pot H' p:=let ⟨a,b,e,z⟩:=h;⟨a,b,s _ _ e,z⟩
theorem zkw:∀ ns:List Int,tupAll (ns.map .int)=true
 | []=>rfl
 | n::ns=>by show (tupD (.int n) && tupAll (ns.map .int))=true;rw[zkw ns];rfl
theorem zkt:∀ ts:List Tie,tupAll (ts.map tieD)=true
 | []=>rfl
 | t::r=>by show (tupD (tieD t) && tupAll (r.map tieD))=true;rw[zkt r];rfl
theorem zrt (n:Int) (ts:List Tie):tupD (webD n ts)=true:=by
 show (true && (tupAll (ts.map tieD) && true))=true
 rw[zkt ts];rfl
theorem zpj (ks:List Nat):tupD (keepD ks)=true:=zkw _
end L3
namespace L3
end L3
namespace L3
open PySem PySem.Spec PyProof.Rows L2
theorem lI {c:TT} {a b:TS} {D:Ends} {σ:L2.St} {H:Hp} (h:let A:=a;let B:=b;let E:=D;let S:=σ;tIfS c A B E S H):tIfS c a b D σ H:=h
end L3
namespace HT
open PySem PyProof.Rows
section
open PySem.SeqAt
open PySem.AutoSeq1 (wpAny_loadPart')
open PySem.MeetsSeq PySem.MeetsSeq2 PySem.MeetsSeq3
end
section
variable {prog:Program} {w:World} {A:Around} {E:Value->Shared->Prop} {s:Shared}
end
end HT
namespace L3
open PySem PySem.Spec PyProof.Rows L2
section
variable {X:Cx}
end
def wide:Nat->PyData->Prop
 | 0,_=>True
 | k + 1,.tuple ds=>ds.length<=1000/\∀ d ∈ ds,wide k d
 | k + 1,.list ds=>ds.length<=1000/\∀ d ∈ ds,wide k d
 | _ + 1,_=>True
def endsD:PyData->Int × Int
 | .tuple [.int a,.int b,.int _]=>(a,b)
 | _=>(0,0)
def tiesB (n:Int):PyData->Bool
 | .tuple ds=>decide (ds.length<=60) && ds.all (tieB n) && risingB (ds.map endsD)
 | _=>false
def Gd (H:Hp):Nat->V->Prop
 | 0,v=>flatD v=true
 | k + 1,v=>flatD v=true\/(∃ p vs,v=.ref p/\(H p=some (.tup vs)\/H p=some (.lst vs))/\vs.length<=1000/\∀ u ∈ vs,Gd H k u)\/(∃ p,v=.ref p/\H p=some (.dK []))
def lt2 (e f:Int × Int):Prop:=e.1 < f.1\/(e.1=f.1/\e.2 < f.2)
theorem zlg (e f:Int × Int):HT.lexLt (e2 e) (e2 f)=true↔lt2 e f:=by
 show (if e.1=f.1 then (if e.2=f.2 then false else decide (e.2 < f.2)) else decide (e.1 < f.1))=true↔_
 unfold lt2
 by_cases h:e.1=f.1
 ·rw[if_pos h]
  by_cases h2:e.2=f.2
  ·rw[if_pos h2];simp;left
  ·rw[if_neg h2,decide_eq_true_eq];left
 ·rw[if_neg h,decide_eq_true_eq];left
structure PreT (n:Int) (ds:List PyData) (i:Nat) (a:Int × Int):Prop where
 tie:∀ d ∈ ds.take i,tieB n d=true
 up:((ds.take i).map endsD).Pairwise lt2
 top:∀ x ∈ (ds.take i).map endsD,x=a\/lt2 x a
 at_:a=(-1,-1)\/a ∈ (ds.take i).map endsD
section
variable {X:Cx} {es:List Expr} {t:TA} {pos:Pos}
def tTupG (t:TA):TE:=λ σ H Q=>t σ H λ xs H1=>xs.length<=1000/\∀ p H',Same H1 H'->H1 p=none->H' p=some (.tup xs)->Q (.ref p) H'
def tLstG (t:TA):TE:=λ σ H Q=>t σ H λ xs H1=>xs.length<=1000/\∀ p H',Same H1 H'->H1 p=none->H' p=some (.lst xs)->Q (.ref p) H'
theorem zbk {x1} (h:PA X es t):PE X (.Tuple es x1 pos) (tTupG t):=by
 intro pins s σ H Q I hq
 refine wpAny_Tuple_spliced (thn (h pos pins s σ H _ I hq) λ us s1 ⟨xs,J,I1,r,z,q⟩=>?_)
 have z':xs.length<=sizeLine:=ua9 z (by decide)
 have fr:J s1.heap.objs.size=none:=I1.hok.fresh (uai _)
 refine⟨by rw[← r.length];exact z',.ref s1.heap.objs.size,upd J s1.heap.objs.size (.tup xs),I1.laid (t':=s1.toks) (λ b u e=>Heap.get?_push_of_some _ e) (uai _) ⟨z',us,r,⟨_,Heap.get?_push_size _ rfl,rfl,⟨_,rfl⟩,rfl⟩⟩,rfl,q _ _ (zal fr) fr zai⟩
theorem za0 (h:PA X es t):PE X (.List es pos) (tLstG t):=by
 intro pins s σ H Q I hq
 refine wpAny_List_spliced (thn (h pos pins s σ H _ I hq) λ us s1 ⟨xs,J,I1,r,z,q⟩=>?_)
 have z':xs.length<=sizeLine:=ua9 z (by decide)
 have fr:J s1.heap.objs.size=none:=I1.hok.fresh (uai _)
 refine⟨by rw[← r.length];exact z',.ref s1.heap.objs.size,upd J s1.heap.objs.size (.lst xs),I1.laid (t':=s1.toks) (λ b u e=>Heap.get?_push_of_some _ e) (uai _) ⟨z',us,0,r,Heap.get?_push_size _ rfl⟩,rfl,q _ _ (zal fr) fr zai⟩
inductive rExtendG_i  (x:V) (vs:List V) (H:Hp) (Q:VK):Prop
 | mk:∀ l b xs zs,(x=.ref l)->(vs=[.ref b])->(H l=some (.lst xs))->(H b=some (.lst zs))->(xs.length + zs.length<=1000)->(∀ H',But l H H'->H' l=some (.lst (xs++zs))->Q .non H')->rExtendG_i x vs H Q
def rExtendG :V->List V->Hp->VK->Prop:=λ x vs H Q=>rExtendG_i x vs H Q
theorem zmi:MtM X "list.extend" rExtendG:=by
 intro pins s σ H x vs v us Q I rx rv h
 obtain⟨l,b,xs,zs,rfl,rfl,hH,hB,hz,q⟩:=h
 exact zi1 (X:=X) pins s σ H _ _ v us Q I rx rv ⟨l,b,xs,zs,rfl,rfl,hH,hB,ua9 hz (by decide),q _ But.upd zai⟩
inductive rAppendG_i  (x:V) (vs:List V) (H:Hp) (Q:VK):Prop
 | mk:∀ l xs y,(x=.ref l)->(vs=[y])->(H l=some (.lst xs))->(xs.length < 1000)->(∀ H',But l H H'->H' l=some (.lst (xs++[y]))->Q .non H')->rAppendG_i x vs H Q
def rAppendG :V->List V->Hp->VK->Prop:=λ x vs H Q=>rAppendG_i x vs H Q
theorem zb8:MtM X "list.append" rAppendG:=by
 intro pins s σ H x vs v us Q I rx rv h
 obtain⟨l,xs,y,rfl,rfl,hH,hz,q⟩:=h
 exact zct (X:=X) pins s σ H _ _ v us Q I rx rv ⟨l,xs,y,rfl,rfl,hH,ua2 hz (by decide),q _ But.upd zai⟩
end
def Sm (H:Hp) (t:Addr):Prop:=∃ vs:List V,(H t=some (.tup vs)\/H t=some (.lst vs))/\vs.length<=1000/\vs.all flatD=true
def GdF (H:Hp) (xs:List V):Prop:=∀ u ∈ xs,∃ t,u=.ref t/\Sm H t
def GdL (l:Addr) (H:Hp) (xs:List V):Prop:=∀ u ∈ xs,∃ t,u=.ref t/\t≠l/\Sm H t
theorem GdL.append {l:Addr} {H:Hp} {xs ys:List V} (h:GdL l H xs) (k:GdL l H ys):GdL l H (xs++ys):=λ u hu=>(uaz.mp hu).elim (h u) (k u)
theorem zs1 {prog:Program} {w:World} {A:Around} {E:Value->Shared->Prop} {s:Shared} {l b:Addr} {vs ws:List Value} {Q:Value->Shared->Prop} (hl:s.heap.IsList l vs.toArray) (hb:s.heap.IsList b ws.toArray)
  (h:Q (.ref s.heap.objs.size) { s with heap:=s.heap.push { cls:=.type "list",data:=.seq (vs++ws).toArray } }) (hz:vs.length + ws.length<=sizeLine):wpAny (model prog w) A (binaryOp .Add (.ref l) (.ref b)) Q E s:=by
 obtain⟨⟨c1,d1,t1,s1⟩,g1,h1,n1,e1⟩:=id hl
 obtain⟨⟨c2,d2,t2,s2⟩,g2,h2,n2,e2⟩:=id hb
 simp only at h1 e1 h2 e2
 subst h1 e1 h2 e2
 have e:vs.toArray++ws.toArray=(vs++ws).toArray:=by simp
 refine ug6 ⟨_,g1,rfl⟩ ⟨_,g2,rfl⟩ noFill_list_add seq_list_add PySem.F.slot_list_add PySem.F.entry_list_add (PySem.F.args_list_add_2 _ _) (list_addW l b vs.toArray ws.toArray n1 n2 d1 d2 s1 s2 (by rw[uak,uak];exact hz)) ⟨g1,g2,?_⟩
 rw[e]
 exact h
inductive rCatL_i  (x:V) (y:V) (H:Hp) (Q:VK):Prop
 | mk:∀ a b xs ys,(x=.ref a)->(y=.ref b)->(H a=some (.lst xs))->(H b=some (.lst ys))->(xs.length + ys.length<=1000)->(∀ p H',Same H H'->H p=none->H' p=some (.lst (xs++ys))->Q (.ref p) H')->rCatL_i x y H Q
def rCatL :R2:=λ x y H Q=>rCatL_i x y H Q
theorem zg3 {X:Cx}:OpR X (binaryOp .Add) rCatL:=by
 intro pins s σ H x y v u Q I rx ry h
 obtain⟨a,b,xs,ys,rfl,rfl,ha,hb,hz,q⟩:=h
 cases rx
 cases ry
 obtain⟨its,r1,p1,_⟩:=I.list (SqL.of ha)
 obtain⟨jts,r2,p2,_⟩:=I.list (SqL.of hb)
 have hz':xs.length + ys.length<=sizeLine:=ua9 hz (by decide)
 have fr:H s.heap.objs.size=none:=I.hok.fresh (uai _)
 refine zs1 p1.isList p2.isList ⟨.ref s.heap.objs.size,_,I.laid (t':=s.toks) (o:=.lst (xs++ys)) (λ b ob q=>Heap.get?_push_of_some _ q) (uai _) ⟨by rw[uaj];exact hz',_,0,r1.append r2,Heap.get?_push_size _ rfl⟩,rfl,q _ _ (zal fr) fr zai⟩ (by rw[← r1.length,← r2.length];exact hz')
section
variable {g:TG} {te:TE} {own:List Str} {js:List Nat} {σ:L2.St} {H1:Hp} {Q:VK}
end
inductive call_tupleG_i  (xs:List V) (H:Hp) (Q:VK):Prop
 | mk:∀ p ys,(xs=[.ref p])->(H p=some (.lst ys))->(∀ l H',Same H H'->H l=none->H' l=some (.tup ys)->Q (.ref l) H')->call_tupleG_i xs H Q
theorem za7 {X:Cx}:CallR X (.type "tuple") (call_tupleG_i):=by
 intro pins s σ H xs us Q I r h
 obtain⟨p,ys,rfl,hp,q⟩:=h
 exact zdh (X:=X) pins s σ H _ us Q I r ⟨p,ys,rfl,.inl ⟨SqL.of hp,λ l hl=>q l _ (zal hl) hl zai⟩⟩
def Row3 (H:Hp) (v:V):Prop:=∃ (t:Addr) (x y z:Int),v=.ref t/\H t=some (.tup [.int x,.int y,.int z])
structure BE (X:Cx) (e:Expr) (t:TE):Prop where
 h:PE X e t
structure BA (X:Cx) (es:List Expr) (t:TA):Prop where
 h:PA X es t
structure BS (X:Cx) (st:Stmt) (t:TS):Prop where
 h:PS X st t
structure BSs (X:Cx) (ss:List Stmt) (t:TS):Prop where
 h:PSs X ss t
section
variable {X:Cx}
theorem zqt {st:Stmt} {rest:List Stmt} {t u:TS} (a:BS X st t) (b:BSs X rest u):BSs X (st::rest) (tSeq t u):=⟨zab a.h b.h⟩
theorem zs2 {st:Stmt} {t:TS} (a:BS X st t):BSs X [st] t:=⟨zad a.h⟩
theorem zt2 {pos:Pos} {i:Nat} {x:Str} {e:Expr} {te:TE} {pos':Pos} (hN:X.N.Nodup) (hi:X.N[i]?=some x) (hx:L2.Loc X.env.scope x) (he:BE X e te) (hs:swapsWith e (some (.Name x pos')) pos.line X.env=pure false:=by rfl)
  (hf:X.fn x=true\/X.env.scope.names.lookup x=some .local:=by first | exact .inl rfl | exact .inr rfl | assumption):BS X (.Assign [.Name x pos'] e pos) (tAsg te (gName i)):=⟨zan hN hi hx he.h hs hf⟩
theorem zs3 {es:List Expr} {t:TA} {pos:Pos} (a:BA X es t):BE X (.List es pos) (tLstG t):=⟨za0 a.h⟩
theorem zt4:BA X [] tNil:=⟨zac⟩
end
end L3
namespace Far
inductive Walk (A:List (Nat × Nat × Int)) (s:Nat):Nat->Int->Prop
 | nil:Walk A s s 0
 | snoc {u v:Nat} {l x:Int}:Walk A s u x->(u,v,l) ∈ A->Walk A s v (x + l)
variable {A:List (Nat × Nat × Int)} {s:Nat}
def Pos (A:List (Nat × Nat × Int)):Prop:=∀ u v l,(u,v,l) ∈ A->1<=l
theorem Walk.nonneg (P:Pos A) {v:Nat} {x:Int} (h:Walk A s v x):0<=x:=by
 induction h with
 | nil=>exact ubm 0
 | snoc _ m ih=>have:=P _ _ _ m;left
def Dst (A:List (Nat × Nat × Int)) (s v:Nat) (o:Option Int):Prop:=(∀ y,o=some y->Walk A s v y)/\∀ L,Walk A s v L->∃ y,o=some y/\y<=L
theorem Dst.unique {v:Nat} {o p:Option Int} (h:Dst A s v o) (k:Dst A s v p):o=p:=by
 cases o with
 | none =>
  cases p with
  | none=>rfl
  | some y=>obtain⟨_,e,_⟩:=h.2 y (k.1 y rfl);cases e
 | some x =>
  obtain⟨y,rfl,hy⟩:=k.2 x (h.1 x rfl)
  obtain⟨z,e,hz⟩:=h.2 y (k.1 y rfl)
  cases e
  rw[show x=y by left]
theorem least {P:Nat->Prop}:∀ n,P n->∃ m,P m/\∀ k,P k->m<=k:=by
 intro n
 induction n using Nat.strongRecOn with
 | ind n ih =>
  intro h
  by_cases c:∃ k,k < n/\P k
  ·obtain⟨k,hk,pk⟩:=c;exact ih k hk pk
  ·exact⟨n,h,λ k pk=>by
    by_cases z:k < n
    ·exact absurd ⟨k,z,pk⟩ c
    ·left⟩
theorem zmn (P:Pos A) (s v:Nat):∃ o,Dst A s v o:=by
 by_cases c:∃ x,Walk A s v x
 ·obtain⟨x,hx⟩:=c
  have nn:=hx.nonneg P
  obtain⟨m,hm,mn⟩:=least (P:=λ k=>Walk A s v (k:Int)) x.toNat (by rw[ubg nn];exact hx)
  refine⟨some m,λ y e=>by cases e;exact hm,λ L hL=>⟨m,rfl,?_⟩⟩
  have n2:=hL.nonneg P
  have:=mn L.toNat (by rw[ubg n2];exact hL)
  left
 ·exact⟨none,⟨λ y e=>(by cases e),λ L hL=>absurd ⟨L,hL⟩ c⟩⟩
theorem Walk.cons {u v:Nat} {l:Int} (m:(u,v,l) ∈ A) {w:Nat} {x:Int} (h:Walk A v w x):Walk A u w (x + l):=by
 induction h with
 | nil=>exact .snoc .nil m
 | snoc _ m' ih=>rw[uga];exact .snoc ih m'
def Sym (A:List (Nat × Nat × Int)):Prop:=∀ u v l,(u,v,l) ∈ A->(v,u,l) ∈ A
theorem Walk.back (S:Sym A) {v:Nat} {x:Int} (h:Walk A s v x):Walk A v s x:=by
 induction h with
 | nil=>exact .nil
 | snoc _ m ih=>exact ih.cons (S _ _ _ m)
theorem Dst.back (S:Sym A) {v:Nat} {o:Option Int} (h:Dst A s v o):Dst A v s o:=⟨λ y e=>(h.1 y e).back S,λ L hL=>h.2 L (hL.back S)⟩
def lt2 (e f:Int × Int):Prop:=e.1 < f.1\/(e.1=f.1/\e.2 < f.2)
def get {α:Type} (cs:List (Option α)) (v:Nat):Option α:=cs.getD v none
theorem za6 {α:Type} {cs:List (Option α)} {v i:Nat} {x:Option α} (h:v < cs.length):get (cs.set v x) i=if i=v then x else get cs i:=by
 unfold get
 rw[uaf,List.getElem?_set,uaf]
 by_cases c:v=i
 ·subst c;simp [h]
 ·simp [c,Ne.symm c]
def ct {α:Type}:List (Option α)->Nat
 | []=>0
 | none::r=>ct r
 | some _::r=>ct r + 1
theorem zqo {α:Type}:∀ cs:List (Option α),ct cs<=cs.length
 | []=>uai 0
 | none::r=>Nat.le_succ_of_le (zqo r)
 | some _::r=>ugs (zqo r)
theorem zlu {α:Type} {c:α}:∀ {cs:List (Option α)} {v:Nat},v < cs.length->ct (cs.set v (some c))=ct cs + (if (get cs v).isSome then 0 else 1)
 | none::r,0,_=>rfl
 | some _::r,0,_=>rfl
 | none::r,v + 1,h=>zlu (cs:=r) (v:=v) (by simpa using h)
 | some _::r,v + 1,h=>by
  have:=zlu (c:=c) (cs:=r) (v:=v) (by simpa using h)
  show ct (r.set v (some c)) + 1=ct r + 1 + _
  rw[this]
  show _=ct r + 1 + (if (get r v).isSome then 0 else 1)
  left
theorem zrn {α:Type}:∀ {cs:List (Option α)} {v:Nat} {c:α},get cs v=some c->1<=ct cs
 | [],v,c,h=>by cases h
 | some _::r,_,_,_=>ugs (ubb _)
 | none::r,0,c,h=>by cases h
 | none::r,v + 1,c,h=>zrn (cs:=r) (v:=v) (c:=c) h
def WM:Int:=2 ^ 130
def mW:Option (Int × Int)->Nat
 | none=>(2 ^ 250)
 | some c=>(c.1 * WM + c.2).toNat
def mu:List (Option (Int × Int))->Nat
 | []=>0
 | c::r=>mW c + mu r
theorem zrd {x:Option (Int × Int)}:∀ {cs:List (Option (Int × Int))} {v:Nat},v < cs.length->mW x < mW (get cs v)->mu (cs.set v x) < mu cs
 | c::r,0,_,h=>Nat.add_lt_add_right (k:=mu r) h
 | c::r,v + 1,hl,h=>Nat.add_lt_add_left (k:=mW c) (zrd (cs:=r) (v:=v) (by simpa using hl) h)
structure Good (A:List (Nat × Nat × Int)) (n s:Nat) (cs:List (Option (Int × Int))):Prop where
 len:cs.length=n
 walk:∀ v c,get cs v=some c->Walk A s v c.1
 w0:∀ v c,get cs v=some c->0<=c.2/\c.2<=c.1 * 2 ^ 60
 top:∀ v c,get cs v=some c->c.1<=((ct cs:Nat) - 1:Int) * 10 ^ 18
 start:∃ c,get cs s=some c/\c.1<=0
theorem Good.step {n u v:Nat} {l w:Int} {cs:List (Option (Int × Int))} {c:Int × Int} (P:Pos A) (n24:n<=24) (g:Good A n s cs) (arc:(u,v,l) ∈ A) (l1:l<=10 ^ 18) (w0:0<=w) (w1:w<=2 ^ 60) (hv:v < n) (hu:get cs u=some c)
  (h:get cs v=none\/∃ c',get cs v=some c'/\lt2 (c.1 + l,c.2 + w) c'):Good A n s (cs.set v (some (c.1 + l,c.2 + w)))/\mu (cs.set v (some (c.1 + l,c.2 + w))) < mu cs:=by
 have hv':v < cs.length:=by rw[g.len];exact hv
 have l0:=P _ _ _ arc
 have wk:=Walk.snoc (g.walk _ _ hu) arc
 have c0:=(g.walk _ _ hu).nonneg P
 obtain⟨cw0,cw1⟩:=g.w0 _ _ hu
 have ct24:ct cs<=24:=by have:=zqo cs;rw[g.len] at this;left
 have ctp:=zrn hu
 have es:=zlu (c:=(c.1 + l,c.2 + w)) hv'
 have topc:=g.top _ _ hu
 have wbound:c.2 + w<=(c.1 + l) * 2 ^ 60:=by rw[Int.add_mul];left
 have big:c.1 + l<=((ct (cs.set v (some (c.1 + l,c.2 + w))):Nat) - 1:Int) * 10 ^ 18:=by
  rw[es]
  rcases h with h | ⟨c',h,hlt⟩
  ·rw[h]
   show _<=(((ct cs + 1:Nat):Int) - 1) * 10 ^ 18
   left
  ·rw[h]
   show _<=(((ct cs + 0:Nat):Int) - 1) * 10 ^ 18
   have:=g.top _ _ h
   unfold lt2 at hlt
   simp only at hlt
   left
 have ctm:ct cs<=ct (cs.set v (some (c.1 + l,c.2 + w))):=by rw[es];exact ueu _ _
 refine⟨⟨by rw[ucb];exact g.len,λ v' d e=>?_,λ v' d e=>?_,λ v' d e=>?_,?_⟩,?_⟩
 ·rw[za6 hv'] at e
  split at e
  ·rename_i z;subst z;cases e;exact wk
  ·exact g.walk _ _ e
 ·rw[za6 hv'] at e
  split at e
  ·cases e;exact⟨by show 0<=c.2 + w;left,wbound⟩
  ·exact g.w0 _ _ e
 ·rw[za6 hv'] at e
  split at e
  ·cases e;exact big
  ·have:=g.top _ _ e
   left
 ·obtain⟨d,hd,hd0⟩:=g.start
  rw[za6 hv']
  split
  ·rename_i z;subst z
   refine⟨_,rfl,?_⟩
   rcases h with h | ⟨c',h,hlt⟩
   ·rw[h] at hd;cases hd
   ·rw[h] at hd;cases hd
    unfold lt2 at hlt
    simp only at hlt
    show c.1 + l<=0
    left
  ·exact⟨d,hd,hd0⟩
 ·refine zrd hv' ?_
  have ctb:ct (cs.set v (some (c.1 + l,c.2 + w)))<=24:=by have:=zqo (cs.set v (some (c.1 + l,c.2 + w)));rw[ucb,g.len] at this;left
  have x23:c.1 + l<=23 * 10 ^ 18:=by left
  have y23:c.2 + w<=23 * 10 ^ 18 * 2 ^ 60:=by left
  have WMe:WM=1361129467683753853853498429727072845824:=by decide
  rcases h with h | ⟨c',h,hlt⟩
  ·rw[h]
   show ((c.1 + l) * WM + (c.2 + w)).toNat < 2 ^ 250
   have:(c.1 + l) * WM + (c.2 + w) < 2 ^ 250:=by rw[WMe];left
   left
  ·rw[h]
   obtain⟨d0,d1⟩:=g.w0 _ _ h
   have t0:=(g.walk _ _ h).nonneg P
   have tt:=g.top _ _ h
   show ((c.1 + l) * WM + (c.2 + w)).toNat < (c'.1 * WM + c'.2).toNat
   unfold lt2 at hlt
   simp only at hlt
   have:(c.1 + l) * WM + (c.2 + w) < c'.1 * WM + c'.2:=by
    rw[WMe]
    rcases hlt with z | ⟨z,z'⟩
    ·left
    ·rw[z];left
   have p0:0<=(c.1 + l) * WM + (c.2 + w):=by rw[WMe];left
   left
def Stab (A:List (Nat × Nat × Int)) (cs:List (Option (Int × Int))):Prop:=∀ u v l c,(u,v,l) ∈ A->get cs u=some c->∃ c',get cs v=some c'/\c'.1<=c.1 + l
theorem Good.dst {n:Nat} {cs:List (Option (Int × Int))} (g:Good A n s cs) (st:Stab A cs) (v:Nat):Dst A s v ((get cs v).map (·.1)):=by
 refine⟨λ y e=>?_,λ L hL=>?_⟩
 ·cases h:get cs v with
  | none=>rw[h] at e;cases e
  | some c=>rw[h] at e;cases e;exact g.walk _ _ h
 ·have:∃ c,get cs v=some c/\c.1<=L:=by
   induction hL with
   | nil=>exact g.start
   | snoc _ m ih =>
    obtain⟨c,hc,hle⟩:=ih
    obtain⟨c',hc',hle'⟩:=st _ _ _ _ m hc
    exact⟨c',hc',by left⟩
  obtain⟨c,hc,hle⟩:=this
  exact⟨c.1,by rw[hc];rfl,hle⟩
structure Snd (A:List (Nat × Nat × Int)) (n s:Nat) (D:List (Option Int)):Prop where
 len:D.length=n
 walk:∀ v x,get D v=some x->Walk A s v x
 start:∃ x,get D s=some x/\x<=0
structure Rnd (A:List (Nat × Nat × Int)) (n s:Nat) (δ:Nat->Option Int) (D0:List (Option Int)) (B:(Nat × Nat × Int)->Prop) (D:List (Option Int)):Prop where
 snd:Snd A n s D
 keep:∀ v,get D0 v=δ v->get D v=δ v
 arc:∀ u v l x,B (u,v,l)->get D0 u=δ u->δ u=some x->∃ y,get D v=some y/\y<=x + l
section
variable {n:Nat} {δ:Nat->Option Int} {D0 D:List (Option Int)} {B:(Nat × Nat × Int)->Prop} {u v:Nat} {l:Int}
def plus (B:(Nat × Nat × Int)->Prop) (a:Nat × Nat × Int):(Nat × Nat × Int)->Prop:=λ b=>B b\/b=a
end
theorem zcv {α:Type} {p q:α->Bool}:∀ {xs:List α},(∀ x ∈ xs,p x=true->q x=true)->(∃ x ∈ xs,q x=true/\p x=false)->xs.countP p < xs.countP q
 | [],_,⟨x,h,_⟩=>by cases h
 | a::r,h,⟨x,hx,e1,e2⟩=>by
  rw[ufs,ufs]
  have le:r.countP p<=r.countP q:=ufy λ x hx=>h x (uap _ hx)
  rcases uar.mp hx with rfl | hx
  ·rw[e1,e2];simp;left
  ·have:=zcv (xs:=r) (λ x hx=>h x (uap _ hx)) ⟨x,hx,e1,e2⟩
   have:=h a ual
   cases e:p a <;> cases e':q a <;> simp_all <;> left
def cnt (n:Nat) (δ:Nat->Option Int) (D:List (Option Int)):Nat:=(uag n).countP λ v=>decide (get D v=δ v)
def Done (n:Nat) (δ:Nat->Option Int) (D:List (Option Int)) (k:Nat):Prop:=(∀ v,v < n->get D v=δ v)\/k + 1<=cnt n δ D
def PSt (c0:List (Option (Int × Int))) (B:(Nat × Nat × Int)->Prop) (cs:List (Option (Int × Int))) (ag:Bool):Prop :=
 (ag=false/\cs=c0/\∀ u v l c,B (u,v,l)->get c0 u=some c->∃ c',get c0 v=some c'/\c'.1<=c.1 + l)\/(ag=true/\mu cs < mu c0)
section
variable {c0 cs:List (Option (Int × Int))} {B B':(Nat × Nat × Int)->Prop} {ag:Bool} {u v:Nat} {l w:Int}
end
theorem zdq {α:Type} (n v:Nat):get (uay n (none:Option α)) v=none:=by
 unfold get
 rw[uaf,udh]
 split <;> rfl
theorem zrm {α:Type}:∀ n:Nat,ct (uay n (none:Option α))=0
 | 0=>rfl
 | n + 1=>zrm n
theorem Good.first {n:Nat} (hs:s < n):Good A n s ((uay n none).set s (some (0,0))):=by
 have hl:s < (uay n (none:Option (Int × Int))).length:=by rw[ube];exact hs
 have cases':∀ v c,get ((uay n (none:Option (Int × Int))).set s (some (0,0))) v=some c->v=s/\c=(0,0):=λ v c e=>by
  rw[za6 hl,zdq] at e
  split at e
  ·rename_i z;cases e;exact⟨z,rfl⟩
  ·cases e
 refine⟨by rw[ucb,ube],λ v c e=>?_,λ v c e=>?_,λ v c e=>?_,⟨(0,0),?_,ubm _⟩⟩
 ·obtain⟨rfl,rfl⟩:=cases' _ _ e;exact .nil
 ·obtain⟨rfl,rfl⟩:=cases' _ _ e;exact⟨ubm _,by decide⟩
 ·obtain⟨rfl,rfl⟩:=cases' _ _ e
  rw[zlu hl,zrm,zdq];decide
 ·rw[za6 hl,if_pos rfl]
end Far
namespace L3
open PySem PySem.Spec PyProof.Rows L2
def tieAt (ts:List Tie) (k:Nat):Tie:=ts.getD k (0,0,0)
def arcs2 (t:Tie):List (Nat × Nat × Int):=[(t.1.toNat,t.2.1.toNat,t.2.2),(t.2.1.toNat,t.1.toNat,t.2.2)]
def arcs (ts:List Tie) (ks:List Nat):List (Nat × Nat × Int):=ks.flatMap λ k=>arcs2 (tieAt ts k)
theorem arcs_mem {ts:List Tie} {ks:List Nat} {a:Nat × Nat × Int}:a ∈ arcs ts ks↔∃ k,k ∈ ks/\a ∈ arcs2 (tieAt ts k):=by
 unfold arcs;rw[uc0]
theorem arcs2_mem {t:Tie} {a:Nat × Nat × Int}:a ∈ arcs2 t↔a=(t.1.toNat,t.2.1.toNat,t.2.2)\/a=(t.2.1.toNat,t.1.toNat,t.2.2):=by
 unfold arcs2;simp
theorem zav {ts:List Tie} {k:Nat} (h:k < ts.length):ts[k]?=some (tieAt ts k)/\tieAt ts k ∈ ts:=by
 have e:ts[k]?=some (tieAt ts k):=by unfold tieAt;rw[uaf,uad h];rfl
 exact⟨e,uao e⟩
theorem zsw {a b c d:Int} (h1:0<=a) (h2:a < b) (h3:0<=c) (h4:c < d) (h:a.toNat=c.toNat/\b.toNat=d.toNat\/a.toNat=d.toNat/\b.toNat=c.toNat):a=c/\b=d:=by left
theorem zlp {s t:Tie} (h:endLt s t) (e1:s.1=t.1) (e2:s.2.1=t.2.1):False:=by
 rcases h with h | h
 ·exact Int.lt_irrefl _ (e1 ▸ h)
 ·exact Int.lt_irrefl _ (e2 ▸ h.2)
theorem zkx {n:Int} {ts:List Tie} (ok:WebOk n ts) {k k':Nat} (hk:k < ts.length) (hk':k' < ts.length) (e1:(tieAt ts k).1=(tieAt ts k').1) (e2:(tieAt ts k).2.1=(tieAt ts k').2.1):k=k':=by
 have pw:∀ i j (hi:i < ts.length) (hj:j < ts.length),i < j->endLt (tieAt ts i) (tieAt ts j):=λ i j hi hj z=>by
  have q:=ubh.mp ok.rise i j hi hj z
  have g:∀ {i:Nat} (hi:i < ts.length),ts[i]=tieAt ts i:=λ {i} hi=>uau ((uad hi).symm.trans (zav hi).1)
  rwa [g hi,g hj] at q
 rcases ueo k k' with z | z | z
 ·exact (zlp (pw k k' hk hk' z) e1 e2).elim
 ·exact z
 ·exact (zlp (pw k' k hk' hk z) e1.symm e2.symm).elim
section
variable {n:Int} {ts:List Tie} {ks:List Nat}
theorem zqw (ok:WebOk n ts) (ko:KeepOk ts.length ks):Far.Pos (arcs ts ks):=λ u v l h=>by
 obtain⟨k,hk,h⟩:=arcs_mem.mp h
 have:=ok.tie _ (zav (ko.2 k hk)).2
 rcases arcs2_mem.mp h with h | h <;> cases h <;> left
theorem zo9 (ok:WebOk n ts) (ko:KeepOk ts.length ks):∀ u v l,(u,v,l) ∈ arcs ts ks->u < n.toNat/\v < n.toNat:=λ u v l h=>by
 obtain⟨k,hk,h⟩:=arcs_mem.mp h
 have:=ok.tie _ (zav (ko.2 k hk)).2
 rcases arcs2_mem.mp h with h | h <;> cases h <;> left
end
def CV (H:Hp) (v:V):Option (Int × Int)->Prop
 | none=>v=.non
 | some e=>∃ t,v=.ref t/\H t=some (.tup [.int e.1,.int e.2])
theorem CV.keep {H H':Hp} (k:TupKeep H H') {v:V}:∀ {o:Option (Int × Int)},CV H v o->CV H' v o
 | none,h=>h
 | some e,⟨t,h1,h2⟩=>⟨t,h1,k _ _ h2⟩
def CostL (H:Hp) (vs:List V) (cs:List (Option (Int × Int))):Prop:=vs.length=cs.length/\∀ i v,vs[i]?=some v->CV H v (Far.get cs i)
section
variable {H H' J J':Hp} {vs cvs avs ws:List V} {cs:List (Option (Int × Int))} {lw lc la t:Addr} {n k:Nat} {x y:Int}
theorem CostL.keep (h:CostL H vs cs) (k:TupKeep H H'):CostL H' vs cs:=⟨h.1,λ i v e=>(h.2 i v e).keep k⟩
theorem CostL.set {v:V} {c:Int × Int} (h:CostL H vs cs) (hk:k < vs.length) (hv:CV H v (some c)):CostL H (vs.set k v) (cs.set k (some c)):=by
 refine⟨by rw[ucb,ucb];exact h.1,λ i u e=>?_⟩
 rw[Far.za6 (by rw[← h.1];exact hk)]
 rw[List.getElem?_set] at e
 by_cases z:k=i
 ·subst z;rw[if_pos rfl,if_pos hk] at e;cases e;rw[if_pos rfl];exact hv
 ·rw[if_neg z] at e;rw[if_neg (Ne.symm z)];exact h.2 i u e
theorem CostL.first (n:Nat):CostL H (uay n .non) (uay n none):=by
 refine⟨by rw[ube,ube],λ i v e=>?_⟩
 rw[Far.zdq]
 rw[udh] at e
 split at e
 ·cases e;rfl
 ·cases e
theorem zih {p:Addr} {xs:List V} {o:HO} (h:J p=some (.lst xs)):TupKeep J (upd J p o):=λ a ys e=>by
 rw[zap (λ z=>by rw[z,h] at e;cases e)];exact e
theorem zm7 (s:Same J J'):TupKeep J J':=λ a xs e=>s _ _ e
structure RH (H J:Hp) (lw lc la:Addr) (ws:List V) (n:Nat) (cs:List (Option (Int × Int))):Prop where
 same:Same H J
 fc:H lc=none
 fa:H la=none
 nwc:lw≠lc
 nwa:lw≠la
 nca:lc≠la
 wl:J lw=some (.lst ws)
 co:∃ cvs,J lc=some (.lst cvs)/\CostL J cvs cs
 ah:∃ avs,J la=some (.lst avs)/\avs.length=n
end
theorem znf {α:Type} (x:α):∀ k:Nat,(uay k [x]).flatten=uay k x
 | 0=>rfl
 | k + 1=>by rw[udg,uem,znf x k];rfl
def ov:Option Int->V
 | none=>.non
 | some x=>.int x
theorem zsc {D:List (Option Int)} {i:Nat} (h:i < D.length):(D.map ov)[i]?=some (ov (Far.get D i)):=by
 rw[uaq,uad h]
 unfold Far.get
 rw[uaf,uad h];rfl
theorem zaw {α:Type} {xs:List α} {i:Int} {x:α} (h0:0<=i) (h:xs[i.toNat]?=some x):atI xs i=some x:=by
 have hl:=(uan.mp h).1
 unfold atI ixN
 rw[if_pos h0,if_pos (by left)]
 exact h
theorem zcu {n:Nat} {i:Int} (h0:0<=i) (h:i < n):ixN n i=some i.toNat:=by
 unfold ixN;rw[if_pos h0,if_pos h]
inductive rRep1_i  (x:V) (y:V) (H:Hp) (Q:VK):Prop
 | mk:∀ l k z,(x=.ref l)->(y=.int k)->(H l=some (.lst [z]))->(0<=k)->(k<=1000)->(∀ p H',Same H H'->H p=none->H' p=some (.lst (uay k.toNat z))->Q (.ref p) H')->rRep1_i x y H Q
def rRep1 :R2:=λ x y H Q=>rRep1_i x y H Q
theorem ze4 {X:Cx}:OpR X (binaryOp .Mult) rRep1:=by
 intro pins s σ H x y v u Q I rx ry h
 obtain⟨l,k,z,rfl,rfl,hH,h1,h2,q⟩:=h
 refine ztk (X:=X) pins s σ H _ _ v u Q I rx ry ⟨l,k,_,rfl,rfl,hH,by left,by left,?_,λ p hp=>q p _ (zal hp) hp (by rw[zai,znf])⟩
 exact ua9 (by show 1 * k.toNat<=1000;left) (by decide:1000<=sizeLine)
theorem zcd {K:uac} {H:Hp}:∀ {ts:List Tie} {ws:List V} {k:Nat},IsAll K H (ts.map tieD) ws->k < ts.length->∃ a,ws[k]?=some (.ref a)/\H a=some (.tup [.int (tieAt ts k).1,.int (tieAt ts k).2.1,.int (tieAt ts k).2.2])
 | t::r,ws,0,h,_=>by
  obtain⟨v,vs,rfl,h1,_⟩:=h
  obtain⟨a,xs,rfl,ha,hx⟩:=h1
  have e:xs=(tieI t).map V.int:=IsAll.of_ints (ns:=tieI t) hx
  subst e
  exact⟨a,rfl,ha⟩
 | t::r,ws,k + 1,h,hk=>by
  obtain⟨v,vs,rfl,_,h2⟩:=h
  obtain⟨a,e,ha⟩:=zcd (ts:=r) (ws:=vs) (k:=k) h2 (by simpa using hk)
  exact⟨a,e,ha⟩
theorem zgl {K:uac} {H:Hp} {ks:List Nat} {v:V} (h:Is K H (keepD ks) v):∃ p,v=.ref p/\H p=some (.tup ((keepI ks).map V.int)):=by
 obtain⟨p,vs,rfl,hp,hx⟩:=h
 have e:=IsAll.of_ints hx
 subst e
 exact⟨p,rfl,hp⟩
theorem zkb {ks:List Nat} {i:Nat} {x:V} (h:((keepI ks).map V.int)[i]?=some x):∃ k,ks[i]?=some k/\x=.int (k:Int):=by
 unfold keepI at h
 rw[ubq,uaq] at h
 cases e:ks[i]? with
 | none=>rw[e] at h;cases h
 | some k=>rw[e] at h;cases h;exact⟨k,rfl,rfl⟩
theorem zoy {H:Hp} {vs:List V} {cs:List (Option (Int × Int))} {i:Int} (h:CostL H vs cs) (h0:0<=i) (hi:i.toNat < cs.length):∃ v,atI vs i=some v/\CV H v (Far.get cs i.toNat):=by
 have hl:i.toNat < vs.length:=by rw[h.1];exact hi
 have e:vs[i.toNat]?=some vs[i.toNat]:=uad hl
 exact⟨_,zaw h0 e,h.2 _ _ e⟩
def pows (m:Nat):List V:=(uag m).map λ i=>V.int (2 ^ i)
theorem zr7 {m i:Nat} (h:i < m):(pows m)[i]?=some (.int (2 ^ i)):=by unfold pows;rw[uaq,uc5 h];rfl
theorem zni (m:Nat):pows (m + 1)=pows m++[.int (2 ^ m)]:=by unfold pows;rw[uee,ua3];rfl
theorem ztf {i:Nat} (h:i < 60):(0:Int)<=2 ^ i/\(2:Int) ^ i<=2 ^ 60:=by
 have e:((2 ^ i:Nat):Int)=(2:Int) ^ i:=by norm_cast
 have:2 ^ i<=2 ^ 60:=Nat.pow_le_pow_right (by decide) (by left)
 constructor
 ·rw[← e];exact ua0 _
 ·rw[← e];exact_mod_cast this
inductive spWeights_i (K:uac) (vs:List V) (H:Hp) (Q:VK):Prop
 | mk:∀ n ts v,(vs=[v])->(Is K H (webD n ts) v)->(ts.length<=60)->(∀ l H',Same H H'->H l=none->H' l=some (.lst (pows ts.length))->Q (.ref l) H')->spWeights_i K vs H Q
def spWeights (K:uac):Sp:=λ vs H Q _=>spWeights_i K vs H Q
inductive spCost_i (K:uac) (vs:List V) (H:Hp) (Q:VK):Prop
 | mk:∀ c x y l w,(vs=[.ref c,.int l,.int w])->(H c=some (.tup [.int x,.int y]))->(∀ t H',Same H H'->H' t=some (.tup [.int (x + l),.int (y + w)])->Q (.ref t) H')->spCost_i K vs H Q
def spCost (K:uac):Sp:=λ vs H Q _=>spCost_i K vs H Q
def WK (K:uac) (H:Hp) (n:Int) (ts:List Tie) (ks:List Nat) (wv kv:V):Prop:=Is K H (webD n ts) wv/\WebOk n ts/\Is K H (keepD ks) kv/\KeepOk ts.length ks
theorem WK.same {K:uac} {H H':Hp} {n:Int} {ts:List Tie} {ks:List Nat} {wv kv:V} (h:WK K H n ts ks wv kv) (s:Same H H'):WK K H' n ts ks wv kv:=⟨Is.same s _ h.1,h.2.1,Is.same s _ h.2.2.1,h.2.2.2⟩
inductive spReached_i (K:uac) (vs:List V) (H:Hp) (Q:VK):Prop
 | mk:∀ n ts ks wv kv r,(vs=[wv,kv,.int r])->(WK K H n ts ks wv kv)->(0<=r)->(r < n)->(∀ p lc la cvs avs cs H',Same H H'->H' p=some (.tup [.ref lc,.ref la])->H' lc=some (.lst cvs)->H' la=some (.lst avs)->CostL H' cvs cs->Far.Good (arcs ts ks) n.toNat r.toNat cs->Far.Stab (arcs ts ks) cs->Q (.ref p) H')->spReached_i K vs H Q
def spReached (K:uac):Sp:=λ vs H Q _=>spReached_i K vs H Q
inductive spFars_i (K:uac) (vs:List V) (H:Hp) (Q:VK):Prop
 | mk:∀ n ts ks wv kv r,(vs=[wv,kv,.int r])->(WK K H n ts ks wv kv)->(0<=r)->(r < n)->(∀ l D H',Same H H'->H l=none->H' l=some (.lst (D.map ov))->D.length=n.toNat->(∀ v,v < n.toNat->Far.Dst (arcs ts ks) r.toNat v (Far.get D v))->Q (.ref l) H')->spFars_i K vs H Q
def spFars (K:uac):Sp:=λ vs H Q _=>spFars_i K vs H Q
end L3
namespace HT
open PySem PyProof.Rows
open Sem (wp)
section
variable {prog:Program} {w:World} {A:Around} {E:Value->Shared->Prop} {s:Shared}
end
end HT
namespace L3
open PySem PySem.Spec PyProof.Rows L2
def hAt (hs:List Int) (a:Int):Int:=hs.getD a.toNat 0
def absI (i:Int):Int:=if i < 0 then -i else i
def acrossI (ts:List Tie) (hs:List Int) (k:Nat):Int:=absI (hAt hs (tieAt ts k).1 - hAt hs (tieAt ts k).2.1)
def holdB (n:Int) (ts:List Tie) (ks:List Nat) (hs:List Int):Bool:=decide (hs.length=n.toNat) && ks.all λ k=>decide (acrossI ts hs k<=(tieAt ts k).2.2)
def capO (roof:Int):Option Int->Int
 | none=>roof
 | some x=>if roof < x then roof else x
def IntT (H:Hp) (p:Addr) (hs:List Int):Prop:=H p=some (.tup (hs.map V.int))/\hs.length<=1000
def AllI (xs:List V):Prop:=∃ ns:List Int,xs=ns.map V.int
theorem zbt:∀ hs:List Int,PyData.canLayAll0 (hs.map .int)=true
 | []=>rfl
 | t::r=>by
  show (PyData.canLay0 (.int t) && PyData.canLayAll0 (r.map .int))=true
  rw[zbt r]
  rfl
theorem zfr:∀ hs:List Int,PyData.depthAll (hs.map .int)<=1
 | []=>ubb _
 | t::r=>by
  show max (PyData.depth (.int t)) (PyData.depthAll (r.map .int))<=1
  have h1:=zfr r
  have h2:PyData.depth (.int t)<=1:=ua9 (uer (by rfl:PyData.depth (.int t)=0)) (by decide)
  left
section
variable {g:TG} {te:TE} {own:List Str} {js:List Nat} {σ:L2.St} {H1:Hp} {Q:VK}
end
section
variable {J:It} {g:TG} {tt:TT} {te:TE} {own:List Str} {js:List Nat} {σ:L2.St} {H1:Hp} {Q:VK}
theorem zho (n:Nat) (Sg:L2.St->Prop) (sel:Nat->Option V) (hn:n<=1000) (h0:Sg (start3 own js σ))
  (go:∀ i H',i < n->Same H1 H'->J.go i H') (stop:∀ H',Same H1 H'->J.stop n H')
  (step:∀ i x σ' H' H2,i < n->Same H1 H'->J.yld i H' x H2->Sg σ'->∀ (C:L2.St->V->Hp->Prop) (L:L2.St->Hp->Prop),(∀ σ3 v H5,Sg σ3->Same H' H5->sel i=some v->C σ3 v H5)->(∀ σ3 H5,Sg σ3->Same H' H5->sel i=none->L σ3 H5) ->
   g x σ' H2 λ σ3 H3=>tt σ3 H3 λ b H4=>if b=true then te σ3 H4 λ v H5=>C σ3 v H5 else L σ3 H4)
  (fin:∀ D H',H1 D=none->Same H1 H'->H' D=some (.lst ((uag n).filterMap sel))->Q (.ref D) H'):CompGo own js g tt te σ Q J H1:=by
 intro D hD
 refine⟨λ i m ys σ' H'=>m=n - i/\i<=n/\Sg σ'/\Same H1 H'/\ys=(uag i).filterMap sel,⟨n,rfl,ubb _,h0,zal hD,rfl⟩,?_⟩
 rintro i m ys σ' H' ⟨rfl,hi,sg,sm,rfl⟩ hd
 have len:((uag i).filterMap sel).length<=i:=by have:=ub7 sel (uag i);rw[uba] at this;exact this
 by_cases hlt:i < n
 ·refine .inr ⟨go i H' hlt sm,λ x H2 hy=>?_⟩
  refine step i x σ' H' H2 hlt sm hy sg
   (λ σ3 v H5=>H5 D=some (.lst ((uag i).filterMap sel))/\((uag i).filterMap sel).length < sizeLine/\∃ m',m' < n - i/\(m'=n - (i + 1)/\i + 1<=n/\Sg σ3/\Same H1 (upd H5 D (.lst ((uag i).filterMap sel++[v])))/\(uag i).filterMap sel++[v]=(uag (i + 1)).filterMap sel))
   (λ σ3 H5=>H5 D=some (.lst ((uag i).filterMap sel))/\∃ m',m' < n - i/\(m'=n - (i + 1)/\i + 1<=n/\Sg σ3/\Same H1 H5/\(uag i).filterMap sel=(uag (i + 1)).filterMap sel)) (λ σ3 v H5 sg3 s5 e=>?_) (λ σ3 H5 sg3 s5 e=>?_)
  ·refine⟨s5 _ _ hd,ubf (by left:((uag i).filterMap sel).length<=1000) (by decide),n - (i + 1),by left,rfl,hlt,sg3,λ b o z=>?_,?_⟩
   ·rw[zap (zaf z hD)];exact s5 _ _ (sm _ _ z)
   ·rw[uee,uco];simp [e]
  ·refine⟨s5 _ _ hd,n - (i + 1),by left,rfl,hlt,sg3,sm.trans s5,?_⟩
   rw[uee,uco];simp [e]
 ·have e:i=n:=by left
  subst e
  exact .inl ⟨stop H' sm,fin D H' hD sm hd⟩
theorem zoz {t:Bool} {K:uac} {a:Addr} {xs:List V} (hx:H1 a=some (if t=true then .tup xs else .lst xs)) (Sg:L2.St->Prop) (sel:Nat->Option V) (hn:xs.length<=1000) (h0:Sg (start3 own js σ))
  (step:∀ i x T σ' H',xs[i]?=some x->Same H1 H'->H' T=none->Sg σ'->∀ (C:L2.St->V->Hp->Prop) (L:L2.St->Hp->Prop),(∀ σ3 v H5,Sg σ3->Same H' H5->sel i=some v->C σ3 v H5)->(∀ σ3 H5,Sg σ3->Same H' H5->sel i=none->L σ3 H5) ->
   g (.ref T) σ' (upd H' T (.tup [.int (i:Nat),x])) λ σ3 H3=>tt σ3 H3 λ b H4=>if b=true then te σ3 H4 λ v H5=>C σ3 v H5 else L σ3 H4)
  (fin:∀ D H',H1 D=none->Same H1 H'->H' D=some (.lst ((uag xs.length).filterMap sel))->Q (.ref D) H'):CompGo own js g tt te σ Q (Itn t K a) H1:=by
 have s1:∀ H',Same H1 H'->SqX t K H' a xs:=λ H' s=>SqX.of (s _ _ hx)
 refine zho xs.length Sg sel hn h0 (λ i H' hi s=>⟨xs,xs[i],s1 H' s,by simp [hi]⟩) (λ H' s=>⟨xs,s1 H' s,uai _⟩) (λ i x σ' H' H2 hi s hy sg C L hC hL=>?_) fin
 obtain⟨T,y,hT,rfl,rfl,e⟩:=hy
 exact step i y T σ' H' (e _ (s1 H' s)) s hT sg C L hC hL
end
end L3
namespace Far
variable {A:List (Nat × Nat × Int)} {s:Nat}
def Con (A:List (Nat × Nat × Int)) (s v:Nat):Prop:=∃ x,Walk A s v x
noncomputable def rB (A:List (Nat × Nat × Int)) (s v:Nat):Bool:=@decide (Con A s v) (Classical.propDecidable _)
end Far
namespace L3
open PySem PySem.Spec PyProof.Rows L2
def natV (ns:List Nat):List V:=ns.map λ v:Nat=>V.int (v:Int)
theorem zbb (ns:List Nat):natV ns=(keepI ns).map V.int:=by unfold natV keepI;rw[ubq];rfl
theorem zgy (p:Nat->Bool):∀ is:List Nat,is.filterMap (λ i=>if p i=true then some (V.int (i:Int)) else none)=natV (is.filter p)
 | []=>rfl
 | i::r=>by
  rw[ucm,List.filter_cons]
  cases e:p i with
  | true=>rw[if_pos rfl,if_pos rfl,zgy p r];rfl
  | false=>rw[if_neg uas,if_neg uas,zgy p r]
theorem IsAll.snoc {K:uac} {H:Hp} {d:PyData} {v:V} (hv:Is K H d v):∀ {ds:List PyData} {vs:List V},IsAll K H ds vs->IsAll K H (ds++[d]) (vs++[v])
 | [],_,h=>by
  have e:_=[]:=h
  subst e
  exact⟨v,[],rfl,hv,rfl⟩
 | _::_,_,⟨u,r,e,h1,h2⟩=>by
  subst e
  exact⟨u,r++[v],rfl,h1,IsAll.snoc hv h2⟩
theorem zdp {a:Int} (h:0<=a) (ns:List Nat):inV (.int a) (natV ns)=decide (a.toNat ∈ ns):=by
 unfold inV natV
 rw[List.any_map,udf,uft,decide_eq_true_iff]
 constructor
 ·rintro ⟨v,hv,e⟩
  have e':((v:Int) == a)=true:=e
  have:(v:Int)=a:=by simpa using e'
  have e2:a.toNat=v:=by left
  rw[e2];exact hv
 ·intro m
  exact⟨_,m,show (((a.toNat:Nat):Int) == a)=true by rw[ubg h];simp⟩
theorem zcl (ns:List Nat):(natV ns).all flatV=true:=by
 unfold natV;rw[List.all_map];exact uc9.mpr λ _ _=>rfl
end L3
namespace Srt
open PySem PySem.Spec PyProof.Rows PySem.W
section
variable {prog:Program} {w:World} {A:Around} {E:Value->Shared->Prop} {s:Shared}
theorem zge {x:Value} {vs:List Value} {Q:Value->Shared->Prop} {r:Nat->Int} {κ:SortKind} (h64:vs.length < 64)
  (hcol:∀ (A':Around) (E':Value->Shared->Prop) (Q':List Value->Shared->Prop),(∀ h',(∀ b o,s.heap.get? b=some o->h'.get? b=some o)->Q' vs { s with heap:=h' })->wpAny (model prog w) A' (collect x) Q' E' s)
  (hk:2<=vs.length->∀ (A':Around) (s':Shared) (Q:SortKind->Shared->Prop),(∀ b o,s.heap.get? b=some o->s'.heap.get? b=some o)->Q κ s'->wpAny (model prog w) A' (keyKind' vs.toArray) Q (λ _ _=>False) s')
  (hc:∀ (A':Around) (s':Shared) (i j:Nat) (C:Bool->Shared->Prop),(∀ b o,s.heap.get? b=some o->s'.heap.get? b=some o)->i < vs.length->j < vs.length->C (decide (r i < r j)) s'->kas_ask prog w A' κ vs i j C s')
  (h:∀ (p:Array Nat) (h':Heap) (c:Nat) (g:Heap),Gd vs.length p->Up r p vs.length->(∀ b o,s.heap.get? b=some o->g.get? b=some o)->(∀ b o,g.get? b=some o->h'.get? b=some o)->h'.get? g.objs.size=some (seqObj "list" (outOf vs p).toArray c)->Q (.ref g.objs.size) { s with heap:=h' }) :
  wpAny (model prog w) A (call (.builtin "sorted") [x]) Q E s:=by
 have line:(64:Nat)<=sizeLine:=by rw[ucf];decide
 refine Calls.call_function_entry kind_sorted plain_sorted entry_sorted (args_sorted1 _) ?_
 unfold Builtin.«sorted»
 refine uab (m:=checkCount "sorted" 1 1 _) (uah (uab (hcol _ _ _ λ g k1=>uab (ud6 ?_ (by left)))))
 have hoL:(g.push { cls:=.type "list",data:=.seq vs.toArray }).get? g.objs.size=some (seqObj "list" vs.toArray 0):=Heap.get?_push_size _ rfl
 have k2:∀ b o,s.heap.get? b=some o->(g.push { cls:=.type "list",data:=.seq vs.toArray }).get? b=some o:=λ b o q=>Heap.get?_push_of_some _ (k1 b o q)
 have ne:∀ b o,s.heap.get? b=some o->b≠g.objs.size:=λ b o q=>uaw (Heap.lt_size (k1 b o q))
 have ne2:∀ b o,g.get? b=some o->b≠g.objs.size:=λ b o q=>uaw (Heap.lt_size q)
 show wpAny _ _ _ _ _ { s with heap:=g.push { cls:=.type "list",data:=.seq vs.toArray } }
 refine uab (ubk (ubi slot_list_sort ⟨_,hoL,rfl⟩ entry_list_sort ?_ (args_list_sort _)))
 refine lsort (s:={ s with heap:=g.push { cls:=.type "list",data:=.seq vs.toArray } }) (r:=r) (κ:=κ) hoL h64 (λ h2 s' Q' st q=>hk h2 _ s' Q' (λ b o e=>st b o (ne b o e) (k2 b o e)) q)
  (λ s' i j C st hi hj q=>hc _ s' i j C (λ b o e=>st b o (ne b o e) (k2 b o e)) hi hj q) λ p h' c g1 u1 st e=>⟨_,rfl,?_⟩
 exact uah ⟨_,rfl,h p h' c g g1 u1 k1 (λ b o q=>st b o (ne2 b o q) (Heap.get?_push_of_some _ q)) e⟩
end
end Srt
namespace HT
open PySem PyProof.Rows
section
variable {prog:Program} {w:World} {A:Around} {E:Value->Shared->Prop} {s:Shared}
theorem zkm {Q:List Value->Shared->Prop} {r:Addr} {a b c:Int} {t u v:Tok} {n:Nat} (hh:A.handled=none) (hr:IsRange s.heap r a b c t u v) (hsmall:Builtin.Range.small a b c=true)
  (hn:Builtin.Range.rangeSize a b c=n) (hlen:n<=2 ^ 24)
  (hQ:∀ h' tk acc',(∀ b o,s.heap.get? b=some o->h'.get? b=some o)->ItemsOf (λ i v=>∃ t,v=.int (a + i * c) t) acc' n->Q acc'.toList { s with heap:=h',toks:=tk }) :
  wpAny (model prog w) A (collect (.ref r)) Q E s:=by
 unfold collect
 refine uab (wpAny_runValue (ucu ugh ?_))
 rw[Around.under_plainId ugg _]
 show wpAny _ A.in1 (newList [] >>= λ l=>again (.builtin "list.__iadd__" ⟨[l,.ref r],[]⟩)) _ _ s
 refine uab (ubx ?_)
 refine uah ⟨udo ueb _,ucu ugz ?_⟩
 rw[Around.under_plainId ueb _]
 show wpAny _ A.in1 (Builtin.List.listExtendWith (.ref s.heap.objs.size) (.ref r) (.ref s.heap.objs.size)) _ _ _
 have hS:(s.heap.push { cls:=.type "list",data:=.seq ([]:List Value).toArray }).get? s.heap.objs.size=some { cls:=.type "list",data:=.seq #[] }:=Heap.get?_push_size _ rfl
 have fin' : ∀ (h' : Heap) (tk : Nat) (acc' : Array Value) (c' : Nat), (∀ b o, s.heap.get? b = some o → h'.get? b = some o) → h'.get? s.heap.objs.size = some { cls := .type "list", dict := none, data := .seq acc' c', slots := #[] } → ItemsOf (λ i v => ∃ t, v = .int (a + i * c) t) acc' n →
     wpAny (model prog w) A (load s.heap.objs.size >>= λ o=>match o.data with | .seq xs _=>pure xs.toList | _=>unsupported "internal:collect") Q E { s with heap:=h',toks:=tk }:=λ h' tk acc' c' hk hS' hacc=>uab (wpAny_load hS' (uah (hQ h' tk acc' hk hacc)))
 refine ucv (wpAny_extend_range (A:=A) (R:=λ r s'=>r=.ok (.ret (.ref s.heap.objs.size))/\∃ (h':Heap) (tk:Nat) (acc':Array Value) (c':Nat),s'={ s with heap:=h',toks:=tk }/\(∀ b o,s.heap.get? b=some o->h'.get? b=some o)/\h'.get? s.heap.objs.size=some { cls:=.type "list",dict:=none,data:=.seq acc' c',slots:=#[] }/\ItemsOf (λ i v=>∃ t,v=.int (a + i * c) t) acc' n)
  (s:={ s with heap:=s.heap.push { cls:=.type "list",data:=.seq ([]:List Value).toArray } }) hh (Heap.get?_push_of_some _ hr) hsmall hn hlen s.heap.objs.size (.ref s.heap.objs.size) 0 hS λ h' tk acc' c' hk hS' hacc=>⟨rfl,h',tk,acc',c',rfl,λ b o e=>hk b o (uaw (Heap.lt_size e)) (Heap.get?_push_of_some _ e),hS',hacc⟩) (λ fin s' h=>?_) (λ e s' h=>?_)
 ·cases fin with
  | done f =>
   obtain⟨e,h',tk,acc',c',rfl,h1,h2,h3⟩:=h
   cases e
   exact fin' h' tk acc' c' h1 h2 h3
  | again c'=>exact⟨h.1,ufk h.2 λ r s'' hr=>by obtain⟨rfl,h',tk,acc',c',rfl,h1,h2,h3⟩:=hr;exact fin' h' tk acc' c' h1 h2 h3⟩
 ·exact absurd h.1 (by simp)
end
theorem zda (r:Addr) (a b c:Int) (t u v:Tok) (n:Nat) (hsmall:Builtin.Range.small a b c=true) (hn:Builtin.Range.rangeSize a b c=n) (hlen:n<=1000) :
  Meets (Builtin.«tuple.__new__» ⟨[.type "tuple",.ref r],[]⟩)
   (λ A R s=>A.handled=none/\IsRange s.heap r a b c t u v/\∀ (h':Heap) (tk:Nat) (acc':Array Value),(∀ b o',s.heap.get? b=some o'->h'.get? b=some o')->ItemsOf (λ i v=>∃ t,v=.int (a + i * c) t) acc' n->R (.ok (.ret (.ref h'.objs.size))) { s with heap:=h'.push { cls:=.type "tuple",data:=.seq acc' },toks:=tk }) :=
 .of_wp λ prog w A R s h=>by
  obtain⟨hp,g,d,tk,os⟩:=s;obtain⟨hh,hr,h⟩:=h
  have hsub:=sub_tuple_self
  have hinit:=init_tuple_lookup
  have hmh:=madeHere_tuple
  have hT:Shared.TypeIs ⟨hp,g,d,tk,os⟩ (.ref r) "range":=⟨_,hr,rfl⟩
  wp_walk using ufi hT,zkm (A:=A.in1) hh hr hsmall hn (ua9 hlen (by decide))
  intro h' tk' acc' hk hacc
  show wpAny _ _ (Builtin.Tuple.tupleExact acc'.toList.toArray >>= λ v=>ret v) _ _ _
  unfold Builtin.Tuple.tupleExact
  have sz:acc'.size=n:=hacc.1
  refine uab (ubx ?_ (by show acc'.toList.toArray.size<=sizeLine;rw[show acc'.toList.toArray=acc' by simp,sz,ucf];left))
  refine uah ⟨_,rfl,?_⟩
  have e:acc'.toList.toArray=acc':=by simp
  rw[e]
  exact h h' tk' acc' hk hacc
section
variable {prog:Program} {w:World} {A:Around} {E:Value->Shared->Prop} {s:Shared}
theorem zeb {Q:Value->Shared->Prop} {r:Addr} {a b c:Int} {t u v:Tok} {n:Nat} (hh:A.handled=none) (hr:IsRange s.heap r a b c t u v) (hsmall:Builtin.Range.small a b c=true)
  (hn:Builtin.Range.rangeSize a b c=n) (hlen:n<=1000)
  (hQ:∀ (h':Heap) (tk:Nat) (acc':Array Value),(∀ b o,s.heap.get? b=some o->h'.get? b=some o)->ItemsOf (λ i v=>∃ t,v=.int (a + i * c) t) acc' n->Q (.ref h'.objs.size) { s with heap:=h'.push { cls:=.type "tuple",data:=.seq acc' },toks:=tk }) :
  wpAny (model prog w) A (call (.type "tuple") [.ref r]) Q E s :=
 callType_new PySem.F.called_tuple (by decide) (PySem.F.typeCall_tuple_1 _) (PySem.F.newCall_tuple_1 _) (λ obj=>PySem.F.args_object_init_2 obj _) PySem.F.entry_tuple_new
  (zda r a b c t u v n hsmall hn hlen) ⟨hh,hr,λ h' tk acc' hk hacc=>⟨⟨_,Heap.get?_push_size _ rfl,rfl⟩,hQ h' tk acc' hk hacc⟩⟩
end
end HT
namespace L3
open PySem PySem.Spec PyProof.Rows L2
section
variable {X:Cx}
inductive call_tuple_rng_i  (xs:List V) (H:Hp) (Q:VK):Prop
 | mk:∀ (p:Addr) (j:Int),(xs=[.ref p])->(H p=some (.rng 0 j))->(0<=j)->(j<=1000)->(∀ l H',Same H H'->H l=none->H' l=some (.tup (natV (uag j.toNat)))->Q (.ref l) H')->call_tuple_rng_i xs H Q
theorem zc9 (hh:X.calm=true):CallR X (.type "tuple") (call_tuple_rng_i):=by
 intro pins s σ H xs us Q I r h
 obtain⟨p,j,rfl,hp,hj0,hj,q⟩:=h
 obtain⟨u,rfl,rx⟩:=vals1 r
 cases rx
 obtain⟨t,u,v,e⟩:=(show ObjOk X.prog X.w H s.heap p (.rng 0 j) from I.hok p _ hp)
 refine HT.zeb (n:=j.toNat) (I.ok.hd hh) (show IsRange s.heap p 0 j 1 t u v from e) (small_one (by left) (by left) (by left) (by left)) (by rw[rangeSize_one];split <;> left) (by left) λ h' tk acc hk hacc=>?_
 have I1:Inv X pins σ H { s with heap:=h',toks:=tk }:=I.kept (t':=tk) hk
 have fr:H h'.objs.size=none:=I1.hok.fresh (uai _)
 refine⟨.ref h'.objs.size,upd H h'.objs.size (.tup (natV (uag j.toNat))),I1.laid (t':=tk) (o:=.tup (natV (uag j.toNat))) (λ b o e=>Heap.get?_push_of_some _ e) (uai _) ⟨?_,acc.toList,?_,(by rw[show acc.toList.toArray=acc by simp];exact⟨_,Heap.get?_push_size _ rfl,rfl,⟨_,rfl⟩,rfl⟩)⟩,rfl,q _ _ (zal fr) fr zai⟩
 ·unfold natV;rw[uae,uba,ucf];left
 ·have go:∀ (n:Nat) (l:List Value),l.length=n->(∀ (k:Nat) (v:Value),l[k]?=some v->∃ t,v=Value.int (0 + (k:Int) * 1) t)->Vals ((uag n).map λ i:Nat=>V.int (i:Int)) l:=by
   intro n l hl hv
   have gen:∀ (l:List Value) (o:Nat),(∀ (k:Nat) (v:Value),l[k]?=some v->∃ t,v=Value.int ((o + k:Nat):Int) t)->Vals ((uea o l.length).map λ i:Nat=>V.int (i:Int)) l:=by
    intro l
    induction l with
    | nil=>intro o _;exact .nil
    | cons x r ih =>
     intro o h
     rw[ubu,ufq,ucq]
     obtain⟨t,ht⟩:=h 0 x rfl
     refine .cons ⟨t,by simpa using ht⟩ (ih (o + 1) λ k v hk=>?_)
     obtain⟨t,ht⟩:=h (k + 1) v (by simpa using hk)
     exact⟨t,by rw[ht];congr 1;left⟩
   have:=gen l 0 λ k v hk=>by
    obtain⟨t,ht⟩:=hv k v hk
    exact⟨t,by rw[ht];congr 1;left⟩
   rw[hl,← List.range_eq_range'] at this
   exact this
  exact go j.toNat acc.toList (by rw[ub0];exact hacc.1) λ k v hv=>hacc.2 k v (by simpa using hv)
inductive call_sortedIT_i  (xs:List V) (H:Hp) (Q:VK):Prop
 | mk:∀ p ns,(xs=[.ref p])->(H p=some (.tup (ns.map V.int)))->(ns.length < 64)->(∀ ms:List Int,ms.Perm ns->ms.Pairwise (·<=·)->∀ l H',Same H H'->H l=none->H' l=some (.lst (ms.map V.int))->Q (.ref l) H')->call_sortedIT_i xs H Q
theorem zhs:CallR X (.builtin "sorted") (call_sortedIT_i):=by
 intro pins s σ H xs us Q I r h
 obtain⟨p,ns,rfl,hq,h64,q⟩:=h
 obtain⟨u,rfl,rx⟩:=vals1 r
 cases rx
 obtain⟨its,rv,pl,hz⟩:=I.tuple (SqT.of hq)
 have hl:=rv.length
 rw[uae] at hl
 have hI:IntsAre its ns:=zbh rv
 have line:(64:Nat)<=sizeLine:=by rw[ucf];decide
 obtain⟨o,ho,hc,n,hd⟩:=id pl
 refine Srt.zge (vs:=its) (r:=λ i=>ns.getD i 0) (κ:=oneType') (by left) (λ A' E' Q' hQ=>?_) (λ h2 A' s' Q' _ q'=>Srt.zhe hI h2 q') (λ A' s' i j C _ hi hj q'=>Srt.zkd hI hi hj q') λ pp h' c gg g u kg kp e=>?_
 ·refine wpAny_collect_seq p (.inr rfl) ho hc hd (λ h' hk=>?_) (by rw[uak];left)
  exact hQ h' hk
 have g':Srt.Gd ns.length pp:=by rw[hl];exact g
 have u':Srt.Up (λ i=>ns.getD i 0) pp ns.length:=by rw[hl];exact u
 have pm:(pp.toList.map λ i=>ns.getD i 0).Perm ns:=by
  have:=zfo g' λ i=>ns.getD i 0
  rw[zbg] at this
  exact this
 have pw:(pp.toList.map λ i=>ns.getD i 0).Pairwise (·<=·):=by
  rw[ucc]
  exact zdk g' u' λ i j _ _ z=>z
 have I1:Inv X pins σ H { s with heap:=gg,toks:=s.toks }:=I.kept (t':=s.toks) kg
 have fr:H gg.objs.size=none:=I1.hok.fresh (uai _)
 have ev:((pp.toList.map λ i=>ns.getD i 0).map V.int)=pp.toList.map λ i=>(ns.map V.int).getD i .non:=by
  rw[ubq]
  refine uby λ i hi=>?_
  have:=zdg g' i hi
  simp [udc,this]
 refine⟨.ref gg.objs.size,_,I1.laid (a:=gg.objs.size) (o:=.lst ((pp.toList.map λ i=>ns.getD i 0).map V.int)) (t':=s.toks) kp (uai _) ⟨?_,Srt.outOf its pp,c,?_,e⟩,rfl,q _ pm pw _ _ (zal fr) fr zai⟩
 ·have:=pm.length_eq
  rw[uae,this];left
 ·rw[ev]
  exact zcy rv pp.toList λ i hi=>by rw[uae];exact zdg g' i hi
end
section
variable {g:TG} {tt:TT} {te:TE} {own:List Str} {js:List Nat} {σ:L2.St} {H1:Hp} {Q:VK}
theorem zi9 {K:uac} {a:Addr} {xs:List V} (hx:H1 a=some (.tup xs)) (Sg:L2.St->Prop) (sel:Nat->Option V) (hn:xs.length<=1000) (h0:Sg (start3 own js σ))
  (step:∀ i x σ' H',xs[i]?=some x->Same H1 H'->Sg σ'->∀ (C:L2.St->V->Hp->Prop) (L:L2.St->Hp->Prop),(∀ σ3 v H5,Sg σ3->Same H' H5->sel i=some v->C σ3 v H5)->(∀ σ3 H5,Sg σ3->Same H' H5->sel i=none->L σ3 H5) ->
   g x σ' H' λ σ3 H3=>tt σ3 H3 λ b H4=>if b=true then te σ3 H4 λ v H5=>C σ3 v H5 else L σ3 H4)
  (fin:∀ D H',H1 D=none->Same H1 H'->H' D=some (.lst ((uag xs.length).filterMap sel))->Q (.ref D) H'):CompGo own js g tt te σ Q (Itt K a) H1:=by
 refine zho xs.length Sg sel hn h0 (λ i H' hi s=>⟨xs,xs[i],SqT.of (s _ _ hx),by simp [hi]⟩) (λ H' s=>⟨xs,SqT.of (s _ _ hx),uai _⟩) (λ i x σ' H' H2 hi s hy sg C L hC hL=>?_) fin
 obtain⟨rfl,hy⟩:=hy
 exact step i x σ' _ (hy xs (SqT.of (s _ _ hx))) s sg C L hC hL
end
def outs (m:Nat) (ks:List Nat):List Nat:=(uag m).filter λ k=>decide (k ∉ ks)
noncomputable def gO (ts:List Tie) (ks:List Nat) (k:Nat):Option Int :=
 @dite (Option Int) (∃ o,Far.Dst (arcs ts ks) (tieAt ts k).1.toNat (tieAt ts k).2.1.toNat o) (Classical.propDecidable _) (λ h=>Classical.choose h) λ _=>none
inductive spWhole_i (K:uac) (vs:List V) (H:Hp) (Q:VK):Prop
 | mk:∀ n ts v,(vs=[v])->(Is K H (webD n ts) v)->(ts.length<=60)->(∀ l H',Same H H'->H l=none->H' l=some (.tup (natV (uag ts.length)))->Q (.ref l) H')->spWhole_i K vs H Q
def spWhole (K:uac):Sp:=λ vs H Q _=>spWhole_i K vs H Q
theorem zbr {ns:List Nat} {i:Nat} {x:V} (h:(natV ns)[i]?=some x):∃ k,ns[i]?=some k/\x=.int (k:Int):=by
 rw[zbb] at h;exact zkb h
end L3
namespace Far
variable {A:List (Nat × Nat × Int)} {s:Nat}
structure Ahd (A:List (Nat × Nat × Int)) (s:Nat) (cs:List (Option (Int × Int))) (as:List (Option Nat)):Prop where
 len:as.length=cs.length
 root:get as s=none
 has:∀ v c,get cs v=some c->v≠s->get as v≠none
 arc:∀ v u,get as v=some u->∃ l cu cv,(u,v,l) ∈ A/\get cs u=some cu/\get cs v=some cv/\cu.1 + l<=cv.1
inductive Tr (A:List (Nat × Nat × Int)) (a:Nat):List Nat->Nat->Int->Prop
 | one:Tr A a [a] a 0
 | snoc {ws:List Nat} {u v:Nat} {x l:Int}:Tr A a ws u x->(u,v,l) ∈ A->Tr A a (ws++[v]) v (x + l)
def beyond (n:Nat) (cs:List (Option (Int × Int))) (d:Int):Nat:=(uag n).countP λ v=>match get cs v with | none=>false | some c=>decide (d<=c.1)
theorem zo5 {n u:Nat} {cs:List (Option (Int × Int))} {cu:Int × Int} {d:Int} (hu:u < n) (e:get cs u=some cu) (h:cu.1 < d):beyond n cs d < beyond n cs cu.1:=by
 refine zcv (λ v _ hv=>?_) ⟨u,uav.mpr hu,?_,?_⟩
 ·cases e2:get cs v with
  | none=>rw[e2] at hv;cases hv
  | some c=>rw[e2] at hv;have:=of_decide_eq_true hv;exact decide_eq_true (by left)
 ·rw[e];exact decide_eq_true (ubm _)
 ·rw[e];exact decide_eq_false (by left)
theorem zji (n:Nat) (cs:List (Option (Int × Int))) (d:Int):beyond n cs d<=n:=by
 have:=List.countP_le_length (p:=λ v=>match get cs v with | none=>false | some c=>decide (d<=c.1)) (l:=uag n)
 rw[uba] at this;exact this
theorem zmq {n u:Nat} {cs:List (Option (Int × Int))} {cu:Int × Int} (hu:u < n) (e:get cs u=some cu):1<=beyond n cs cu.1 :=
 List.countP_pos_iff.mpr ⟨u,uav.mpr hu,by rw[e];exact decide_eq_true (ubm _)⟩
end Far
namespace L3
open PySem PySem.Spec PyProof.Rows L2
def oa:Option Nat->V
 | none=>.non
 | some u=>.int (u:Int)
structure RA (H J:Hp) (lw lc la:Addr) (ws:List V) (cs:List (Option (Int × Int))) (as:List (Option Nat)):Prop where
 same:Same H J
 fc:H lc=none
 fa:H la=none
 nwc:lw≠lc
 nwa:lw≠la
 nca:lc≠la
 wl:J lw=some (.lst ws)
 co:∃ cvs,J lc=some (.lst cvs)/\CostL J cvs cs
 ah:J la=some (.lst (as.map oa))
section
variable {H H' J J':Hp} {vs cvs ws:List V} {cs:List (Option (Int × Int))} {as:List (Option Nat)} {lw lc la t:Addr} {k:Nat} {x y:Int}
theorem RA.step (h:RA H J lw lc la ws cs as) (s:Same J J'):RA H J' lw lc la ws cs as :=
 ⟨h.same.trans s,h.fc,h.fa,h.nwc,h.nwa,h.nca,s _ _ h.wl,let ⟨c,e,z⟩:=h.co;⟨c,s _ _ e,z.keep (zm7 s)⟩,s _ _ h.ah⟩
theorem RA.put (h:RA H J lw lc la ws cs as) (hc:J lc=some (.lst cvs)) (hk:k < cvs.length) (ht:J t=some (.tup [.int x,.int y])):RA H (upd J lc (.lst (cvs.set k (.ref t)))) lw lc la ws (cs.set k (some (x,y))) as:=by
 obtain⟨c,e,z⟩:=h.co
 rw[hc] at e;cases e
 refine⟨λ b o eb=>?_,h.fc,h.fa,h.nwc,h.nwa,h.nca,?_,⟨_,zai,CostL.set (z.keep (zih hc)) hk ⟨t,rfl,zih hc _ _ ht⟩⟩,?_⟩
 ·rw[zap (zaf eb h.fc)];exact h.same _ _ eb
 ·rw[zap h.nwc];exact h.wl
 ·rw[zap h.nca.symm];exact h.ah
theorem RA.mark {u:Nat} (h:RA H J lw lc la ws cs as):RA H (upd J la (.lst ((as.map oa).set k (.int (u:Int))))) lw lc la ws cs (as.set k (some u)):=by
 obtain⟨c,e,z⟩:=h.co
 refine⟨λ b o eb=>?_,h.fc,h.fa,h.nwc,h.nwa,h.nca,?_,⟨c,?_,z.keep (zih h.ah)⟩,?_⟩
 ·rw[zap (zaf eb h.fa)];exact h.same _ _ eb
 ·rw[zap h.nwa];exact h.wl
 ·rw[zap h.nca];exact e
 ·rw[zai,List.map_set];rfl
end
theorem zsj {D:List (Option Nat)} {i:Nat} (h:i < D.length):(D.map oa)[i]?=some (oa (Far.get D i)):=by
 rw[uaq,uad h]
 unfold Far.get
 rw[uaf,uad h];rfl
def WayV (H:Hp) (A:List (Nat × Nat × Int)) (a b:Nat) (v:V):Prop:=(v=.non/\Far.Dst A a b none)\/∃ t ws x,v=.ref t/\H t=some (.tup (natV ws))/\ws.length<=24/\Far.Tr A a ws b x/\Far.Dst A a b (some x)
def isTB (ts:List Tie) (u v:Nat) (k:Nat):Bool:=decide ((tieAt ts k).1=min (u:Int) v) && decide ((tieAt ts k).2.1=max (u:Int) v)
def tbN (ts:List Tie) (u v:Nat):Option Nat:=(uag ts.length).find? (isTB ts u v)
theorem zq2 {n:Int} {ts:List Tie} {ks:List Nat} (ok:WebOk n ts) (ko:KeepOk ts.length ks) {u v:Nat} {l:Int} (h:(u,v,l) ∈ arcs ts ks):∃ k,tbN ts u v=some k/\k < ts.length/\(tieAt ts k).2.2=l:=by
 obtain⟨k,hk,m⟩:=arcs_mem.mp h
 have hkl:=ko.2 k hk
 have tk:=ok.tie _ (zav hkl).2
 have isk:isTB ts u v k=true/\(tieAt ts k).2.2=l:=by
  unfold isTB
  rcases arcs2_mem.mp m with e | e
  ·have e1:u=(tieAt ts k).1.toNat:=congrArg (·.1) e
   have e2:v=(tieAt ts k).2.1.toNat:=congrArg (·.2.1) e
   have e3:l=(tieAt ts k).2.2:=congrArg (·.2.2) e
   have eu:(u:Int)=(tieAt ts k).1:=by rw[e1];exact ubg tk.1
   have ev:(v:Int)=(tieAt ts k).2.1:=by rw[e2];exact ubg (udx (Int.lt_of_le_of_lt tk.1 tk.2.1))
   rw[eu,ev,Int.min_eq_left (udx tk.2.1),Int.max_eq_right (udx tk.2.1)]
   exact⟨by rw[decide_eq_true rfl,decide_eq_true rfl];rfl,e3.symm⟩
  ·have e1:u=(tieAt ts k).2.1.toNat:=congrArg (·.1) e
   have e2:v=(tieAt ts k).1.toNat:=congrArg (·.2.1) e
   have e3:l=(tieAt ts k).2.2:=congrArg (·.2.2) e
   have eu:(u:Int)=(tieAt ts k).2.1:=by rw[e1];exact ubg (udx (Int.lt_of_le_of_lt tk.1 tk.2.1))
   have ev:(v:Int)=(tieAt ts k).1:=by rw[e2];exact ubg tk.1
   rw[eu,ev,Int.min_eq_right (udx tk.2.1),Int.max_eq_left (udx tk.2.1)]
   exact⟨by rw[decide_eq_true rfl,decide_eq_true rfl];rfl,e3.symm⟩
 cases e:tbN ts u v with
 | none =>
  have:=udq.mp e k (uav.mpr hkl)
  exact absurd isk.1 this
 | some k' =>
  have p:=udu e
  have hk':k' < ts.length:=uav.mp (ud4 e)
  refine⟨k',rfl,hk',?_⟩
  have same:k'=k:=by
   have q1:=p
   have q2:=isk.1
   unfold isTB at q1 q2
   rw[ubv] at q1 q2
   have a1:=of_decide_eq_true q1.1
   have a2:=of_decide_eq_true q1.2
   have b1:=of_decide_eq_true q2.1
   have b2:=of_decide_eq_true q2.2
   have ri:=ubh.mp ok.rise
   have g:∀ j (hj:j < ts.length),ts[j]=tieAt ts j:=λ j hj=>by
    have:=(zav hj).1
    rw[uad hj] at this
    exact uau this
   rcases ueo k' k with z | z | z
   ·have:=ri k' k hk' hkl z
    rw[g k' hk',g k hkl] at this
    exact (this.elim (λ z=>ugl z (a1.trans b1.symm)) λ z=>ugl z.2 (a2.trans b2.symm)).elim
   ·exact z
   ·have:=ri k k' hkl hk' z
    rw[g k' hk',g k hkl] at this
    exact (this.elim (λ z=>ugl z (b1.trans a1.symm)) λ z=>ugl z.2 (b2.trans a2.symm)).elim
  rw[same];exact isk.2
def tlen (ts:List Tie) (u v:Nat):Int:=(tieAt ts ((tbN ts u v).getD 0)).2.2
def wl (ts:List Tie):List Nat->Int
 | u::v::r=>tlen ts u v + wl ts (v::r)
 | _=>0
def linked (ts:List Tie):List Nat->Prop
 | u::v::r=>(∃ k,tbN ts u v=some k/\k < ts.length)/\linked ts (v::r)
 | _=>True
theorem zm5 {A:List (Nat × Nat × Int)} {a v:Nat} {ws:List Nat} {x:Int} (h:Far.Tr A a ws v x):∃ r,ws=r++[v]:=by
 cases h with
 | one=>exact⟨[],rfl⟩
 | snoc _ _=>exact⟨_,rfl⟩
theorem zm1 (ts:List Tie) (u v:Nat):∀ r:List Nat,wl ts (r++[u]++[v])=wl ts (r++[u]) + tlen ts u v
 | []=>by show tlen ts u v + 0=0 + tlen ts u v;left
 | [a]=>by show tlen ts a u + (tlen ts u v + 0)=tlen ts a u + 0 + tlen ts u v;left
 | a::b::r=>by
  have:=zm1 ts u v (b::r)
  show tlen ts a b + wl ts ((b::r)++[u]++[v])=tlen ts a b + wl ts ((b::r)++[u]) + tlen ts u v
  rw[this];left
theorem zfh (ts:List Tie) (u v:Nat) (h:∃ k,tbN ts u v=some k/\k < ts.length):∀ r:List Nat,linked ts (r++[u])->linked ts (r++[u]++[v])
 | [],_=>⟨h,trivial⟩
 | [a],hl=>⟨hl.1,h,trivial⟩
 | a::b::r,hl=>⟨hl.1,zfh ts u v h (b::r) hl.2⟩
theorem zs8 {n:Int} {ts:List Tie} {ks:List Nat} (ok:WebOk n ts) (ko:KeepOk ts.length ks) {a v:Nat} {ws:List Nat} {x:Int} (h:Far.Tr (arcs ts ks) a ws v x):wl ts ws=x/\linked ts ws:=by
 induction h with
 | one=>exact⟨rfl,trivial⟩
 | @snoc ws u v x l t m ih =>
  obtain⟨r,rfl⟩:=zm5 t
  obtain⟨k,e1,e2,e3⟩:=zq2 ok ko m
  refine⟨?_,zfh ts u v ⟨k,e1,e2⟩ r ih.2⟩
  rw[zm1,ih.1]
  unfold tlen
  rw[e1]
  show x + (tieAt ts k).2.2=x + l
  rw[e3]
theorem zca {ts:List Tie}:∀ {ws:List Nat} {i u v:Nat},linked ts ws->ws[i]?=some u->ws[i + 1]?=some v->∃ k,tbN ts u v=some k/\k < ts.length
 | a::b::r,0,u,v,h,e1,e2=>by cases e1;cases e2;exact h.1
 | a::b::r,i + 1,u,v,h,e1,e2=>zca (ws:=b::r) (i:=i) h.2 (by simpa using e1) (by simpa using e2)
 | [a],0,u,v,_,_,e2=>by cases e2
 | [a],i + 1,u,v,_,e1,_=>by cases e1
 | [],i,u,v,_,e1,_=>by cases e1
def alongN (ts:List Tie) (ws:List Nat):List Nat:=(uag (ws.length - 1)).map λ i=>(tbN ts (ws.getD i 0) (ws.getD (i + 1) 0)).getD 0
inductive spTB_i (K:uac) (vs:List V) (H:Hp) (Q:VK):Prop
 | mk:∀ (n:Int) (ts:List Tie) (wv:V) (u v:Nat),(vs=[wv,.int (u:Int),.int (v:Int)])->(Is K H (webD n ts) wv)->(ts.length<=60)->(∀ H',Same H H'->Q (oa (tbN ts u v)) H')->spTB_i K vs H Q
def spTB (K:uac):Sp:=λ vs H Q _=>spTB_i K vs H Q
theorem zqy {ts:List Tie} {ws:List Nat} (h:linked ts ws):∀ k ∈ alongN ts ws,k < ts.length:=λ k hk=>by
 unfold alongN at hk
 obtain⟨i,hi,rfl⟩:=ubj.mp hk
 have hi':=uav.mp hi
 have e1:ws[i]?=some (ws.getD i 0):=by rw[uaf,uad (by left)];rfl
 have e2:ws[i + 1]?=some (ws.getD (i + 1) 0):=by rw[uaf,uad (by left)];rfl
 obtain⟨k,e,hk⟩:=zca h e1 e2
 rw[e];exact hk
theorem zk9 (a b x y:Int):PyData.eqv (.tuple (([a,b]:List Int).map .int)) (.tuple (([x,y]:List Int).map .int))=(decide (a=x) && decide (b=y)):=by
 show (_ && (_ && true))=_
 rw[ue1]
 rfl
def but (ks:List Nat) (k:Nat):List Nat:=ks.filter λ j=>decide (j≠k)
theorem zef (p:Nat->Bool) (ks:List Nat):(uag ks.length).filterMap (λ i=>if p (ks.getD i 0)=true then some (V.int ((ks.getD i 0:Nat):Int)) else none)=natV (ks.filter p):=by
 have e:=congrArg (ug9 λ j:Nat=>if p j=true then some (V.int (j:Int)) else none) (zbg ks 0)
 rw[ue8] at e
 exact e.trans (zgy p ks)
def withinB (t l:Int):Option Int->Bool
 | none=>false
 | some x=>decide (x<=t * l)
end L3
namespace Far
def sumP:List Nat->Nat
 | []=>0
 | k::r=>2 ^ k + sumP r
theorem zdd {S S':List Nat} (h:S.Perm S'):sumP S=sumP S':=by
 induction h with
 | nil=>rfl
 | cons x _ ih=>show _ + _=_ + _;rw[ih]
 | swap x y l=>show 2 ^ y + (2 ^ x + sumP l)=2 ^ x + (2 ^ y + sumP l);left
 | trans _ _ h1 h2=>exact h1.trans h2
theorem zjw (S:List Nat):∀ T:List Nat,sumP (S++T)=sumP S + sumP T:=by
 intro T
 induction S with
 | nil=>show sumP T=0 + sumP T;left
 | cons k r ih=>show 2 ^ k + sumP (r++T)=2 ^ k + sumP r + sumP T;rw[ih];left
theorem zgu:∀ (m:Nat) {S:List Nat},S.Nodup->(∀ k ∈ S,k < m)->sumP S < 2 ^ m
 | 0,S,_,h=>by
  cases S with
  | nil=>exact Nat.zero_lt_one
  | cons k r=>exact absurd (h k ual) (udw _)
 | m + 1,S,nd,h=>by
  have e:2 ^ (m + 1)=2 ^ m + 2 ^ m:=by rw[Nat.pow_succ];left
  by_cases c:m ∈ S
  ·have p:=udz c
   have nd':(m::S.erase m).Nodup:=p.nodup_iff.mp nd
   have:=zgu m (S:=S.erase m) (uch.mp nd').2 λ k hk=>by
    have h1:=h k (ufw hk)
    have h2:k≠m:=λ z=>(uch.mp nd').1 (z ▸ hk)
    left
   rw[zdd p,e]
   show 2 ^ m + sumP (S.erase m) < _
   left
  ·have:=zgu m nd λ k hk=>by
    have h1:=h k hk
    have h2:k≠m:=λ z=>c (z ▸ hk)
    left
   left
theorem zgv:∀ (m:Nat) {S S':List Nat},S.Nodup->S'.Nodup->(∀ k ∈ S,k < m)->(∀ k ∈ S',k < m)->sumP S=sumP S'->∀ k,k ∈ S->k ∈ S'
 | 0,S,S',_,_,h,_,_,k,hk=>absurd (h k hk) (udw _)
 | m + 1,S,S',nd,nd',h,h',e,k,hk=>by
  have lower:∀ {T:List Nat},T.Nodup->(∀ k ∈ T,k < m + 1)->m ∉ T->sumP T < 2 ^ m:=λ {T} n1 n2 n3=>zgu m n1 λ j hj=>by
   have h1:=n2 j hj
   have h2:j≠m:=λ z=>n3 (z ▸ hj)
   left
  by_cases c:m ∈ S
  ·have p:=udz c
   have ndp:(m::S.erase m).Nodup:=p.nodup_iff.mp nd
   have e1:sumP S=2 ^ m + sumP (S.erase m):=zdd p
   by_cases c':m ∈ S'
   ·have p':=udz c'
    have ndp':(m::S'.erase m).Nodup:=p'.nodup_iff.mp nd'
    have e2:sumP S'=2 ^ m + sumP (S'.erase m):=zdd p'
    by_cases z:k=m
    ·rw[z];exact c'
    ·have lt:∀ {T:List Nat},(m::T.erase m).Nodup->(∀ k ∈ T,k < m + 1)->∀ j ∈ T.erase m,j < m:=λ {T} n1 n2 j hj=>by
      have h1:=n2 j (ufw hj)
      have h2:j≠m:=λ y=>(uch.mp n1).1 (y ▸ hj)
      left
     have:=zgv m (uch.mp ndp).2 (uch.mp ndp').2 (lt ndp h) (lt ndp' h') (by left) k ((uf2 z).mpr hk)
     exact ufw this
   ·have:=lower nd' h' c'
    left
  ·by_cases c':m ∈ S'
   ·have e2:sumP S'=2 ^ m + sumP (S'.erase m):=zdd (udz c')
    have:=lower nd h c
    left
   ·have lt:∀ {T:List Nat},(∀ k ∈ T,k < m + 1)->m ∉ T->∀ j ∈ T,j < m:=λ {T} n1 n2 j hj=>by
     have h1:=n1 j hj
     have h2:j≠m:=λ y=>n2 (y ▸ hj)
     left
    exact zgv m nd nd' (lt h c) (lt h' c') e k hk
abbrev Arc:=Nat × Nat × Int × Nat
inductive Rt (B:List Arc) (a:Nat):List Nat->List Nat->Nat->Int->Int->Prop
 | one:Rt B a [a] [] a 0 0
 | snoc {ws S:List Nat} {u v:Nat} {x y l:Int} {k:Nat}:Rt B a ws S u x y->(u,v,l,k) ∈ B->v ∉ ws->Rt B a (ws++[v]) (S++[k]) v (x + l) (y + 2 ^ k)
structure Keys (B:List Arc):Prop where
 sym:∀ u v l k,(u,v,l,k) ∈ B->(v,u,l,k) ∈ B
 key:∀ u v l u' v' l' k,(u,v,l,k) ∈ B->(u',v',l',k) ∈ B->l'=l/\((u'=u/\v'=v)\/(u'=v/\v'=u))
 ne:∀ u v l k,(u,v,l,k) ∈ B->u≠v
 pos:∀ u v l k,(u,v,l,k) ∈ B->1<=l
 few:∀ u v l k,(u,v,l,k) ∈ B->k < 60
variable {B:List Arc} {a b:Nat} {ws S:List Nat} {x y:Int}
theorem Rt.last (h:Rt B a ws S b x y):b ∈ ws:=by
 cases h with
 | one=>exact uam.mpr rfl
 | snoc _ _ _=>exact ubc _ (uam.mpr rfl)
theorem Rt.ends (K:Keys B) (h:Rt B a ws S b x y):∀ k ∈ S,∃ u v l,(u,v,l,k) ∈ B/\u ∈ ws/\v ∈ ws:=by
 induction h with
 | one=>intro k hk;cases hk
 | @snoc ws S u v x y l k r m nv ih =>
  intro j hj
  rcases uaz.mp hj with hj | hj
  ·obtain⟨p,q,l',h1,h2,h3⟩:=ih j hj
   exact⟨p,q,l',h1,ucr _ h2,ucr _ h3⟩
  ·rw[uam.mp hj]
   exact⟨u,v,l,m,ucr _ r.last,ubc _ (uam.mpr rfl)⟩
theorem Rt.fresh (K:Keys B) (h:Rt B a ws S b x y) {u v:Nat} {l:Int} {k:Nat} (m:(u,v,l,k) ∈ B) (nv:v ∉ ws):k ∉ S:=λ hk=>by
 obtain⟨p,q,l',m',hp,hq⟩:=h.ends K k hk
 rcases (K.key _ _ _ _ _ _ _ m m').2 with ⟨e1,e2⟩ | ⟨e1,e2⟩
 ·exact nv (e2 ▸ hq)
 ·exact nv (e1 ▸ hp)
theorem Rt.nodup (K:Keys B) (h:Rt B a ws S b x y):S.Nodup:=by
 induction h with
 | one=>exact ud3
 | @snoc ws S u v x y l k r m nv ih =>
  refine ucd.mpr ⟨ih,by simp,λ p hp q hq z=>?_⟩
  rw[uam.mp hq] at z
  exact r.fresh K m nv (z ▸ hp)
theorem Rt.small (K:Keys B) (h:Rt B a ws S b x y):∀ k ∈ S,k < 60:=λ k hk=>let ⟨u,v,l,m,_⟩:=h.ends K k hk;K.few u v l k m
theorem Rt.sum (h:Rt B a ws S b x y):y=(sumP S:Nat):=by
 induction h with
 | one=>rfl
 | @snoc ws S u v x y l k r m nv ih =>
  rw[zjw,ih]
  show ((sumP S:Nat):Int) + 2 ^ k=((sumP S + (2 ^ k + 0):Nat):Int)
  have:((2 ^ k:Nat):Int)=(2:Int) ^ k:=by norm_cast
  left
theorem Rt.lt (K:Keys B) (h:Rt B a ws S b x y):0<=y/\y < 2 ^ 60:=by
 have e:=h.sum
 have:=zgu 60 (h.nodup K) (h.small K)
 have e2:((2 ^ 60:Nat):Int)=(2:Int) ^ 60:=by norm_cast
 left
theorem Rt.unique (K:Keys B) (h:Rt B a ws S b x y):∀ {ws' S':List Nat} {x':Int},Rt B a ws' S' b x' y->ws'=ws/\x'=x:=by
 induction h with
 | one =>
  intro ws' S' x' r
  generalize ey:(0:Int)=yy at r
  cases r with
  | one=>exact⟨rfl,rfl⟩
  | @snoc ws0 S0 u _ x0 y0 l k r m nv =>
   have p:=r.lt K
   have:(0:Int) < 2 ^ k:=Int.pow_pos (by decide)
   left
 | @snoc ws0 S0 u v x0 y0 l k r m nv ih =>
  intro ws' S' x' r'
  have full:Rt B a (ws0++[v]) (S0++[k]) v (x0 + l) (y0 + 2 ^ k):=.snoc r m nv
  have se:sumP S'=sumP (S0++[k]):=by
   have e1:=r'.sum
   have e2:=full.sum
   left
  have sub:=zgv 60 (r'.nodup K) (full.nodup K) (r'.small K) (full.small K) se
  generalize ey:y0 + 2 ^ k=yy at r'
  cases r' with
  | one =>
   have p:=r.lt K
   have:(0:Int) < 2 ^ k:=Int.pow_pos (by decide)
   left
  | @snoc ws1 S1 u1 _ x1 y1 l1 k1 r1 m1 nv1 =>
   have in1:=sub k1 (ubc _ (uam.mpr rfl))
   have k1k:k1=k:=by
    rcases uaz.mp in1 with z | z
    ·exact absurd z (r.fresh K m1 nv)
    ·exact uam.mp z
   subst k1k
   obtain⟨el,eu⟩:=K.key _ _ _ _ _ _ _ m m1
   have uu:u1=u:=by
    rcases eu with ⟨e,_⟩ | ⟨e,e'⟩
    ·exact e
    ·exact absurd e' (K.ne _ _ _ _ m).symm
   subst uu
   have yy1:y1=y0:=by left
   subst yy1
   obtain⟨e1,e2⟩:=ih r1
   exact⟨by rw[e1],by rw[e2,el]⟩
theorem Rt.cons (K:Keys B) {u:Nat} {l:Int} {k:Nat} (m:(u,a,l,k) ∈ B) (h:Rt B a ws S b x y):u ∉ ws->Rt B u (u::ws) (k::S) b (x + l) (y + 2 ^ k):=by
 induction h with
 | one =>
  intro nu
  have:Rt B u ([u]++[a]) ([]++[k]) a (0 + l) (0 + 2 ^ k):=.snoc .one m (λ z=>nu (by rw[uam] at z ⊢;exact z.symm))
  exact this
 | @snoc ws S w v x y l' k' r m' nv ih =>
  intro nu
  have r2:=ih λ z=>nu (ucr _ z)
  have:Rt B u ((u::ws)++[v]) ((k::S)++[k']) v (x + l + l') (y + 2 ^ k + 2 ^ k'):=.snoc r2 m' λ z=>by
   rcases uar.mp z with z | z
   ·exact nu (ubc _ (uam.mpr z.symm))
   ·exact nv z
  rw[uga x l l',uga y] at this
  exact this
theorem Rt.back (K:Keys B) (h:Rt B a ws S b x y):Rt B b ws.reverse S.reverse a x y:=by
 induction h with
 | one=>exact .one
 | @snoc ws S u v x y l k r m nv ih =>
  rw[ue2,ue2]
  exact ih.cons K (K.sym _ _ _ _ m) (λ z=>nv (List.mem_reverse.mp z))
end Far
namespace Far
structure Best (B:List Arc) (n s:Nat) (cs:List (Option (Int × Int))) (as:List (Option Nat)):Prop where
 len:cs.length=n
 alen:as.length=n
 start:get cs s=some (0,0)
 root:get as s=none
 has:∀ v c,get cs v=some c->v≠s->get as v≠none
 nn:∀ v c,get cs v=some c->0<=c.1
 stab:∀ u v l k c,(u,v,l,k) ∈ B->get cs u=some c->∃ c',get cs v=some c'/\¬ lt2 (c.1 + l,c.2 + 2 ^ k) c'
 arc:∀ v u,get as v=some u->∃ l k cu,(u,v,l,k) ∈ B/\get cs u=some cu/\get cs v=some (cu.1 + l,cu.2 + 2 ^ k)
inductive TPw (as:List (Option Nat)) (s:Nat):List Nat->Nat->Prop
 | root:TPw as s [s] s
 | step {ws:List Nat} {u v:Nat}:get as v=some u->TPw as s ws u->TPw as s (ws++[v]) v
section
variable {B:List Arc} {n s:Nat} {cs:List (Option (Int × Int))} {as:List (Option Nat)}
theorem Best.route (K:Keys B) (h:Best B n s cs as):∀ (m:Nat) (v:Nat) (c:Int × Int),get cs v=some c->c.1.toNat<=m->∃ ws S,Rt B s ws S v c.1 c.2/\TPw as s ws v/\∀ w ∈ ws,∃ cw,get cs w=some cw/\cw.1<=c.1:=by
 intro m
 induction m using Nat.strongRecOn with
 | ind m ih =>
  intro v c e hm
  by_cases vs:v=s
  ·subst vs
   rw[h.start] at e;cases e
   exact⟨[v],[],.one,.root,λ w hw=>by rw[uam.mp hw];exact⟨_,h.start,ubm _⟩⟩
  ·cases ea:get as v with
   | none=>exact absurd ea (h.has v c e vs)
   | some u =>
    obtain⟨l,k,cu,ma,eu,ev⟩:=h.arc v u ea
    rw[e] at ev;cases ev
    have l1:=K.pos _ _ _ _ ma
    have c0:=h.nn _ _ eu
    simp only at hm
    obtain⟨ws,S,r,tp,all⟩:=ih cu.1.toNat (by left) u cu eu (uai _)
    have nv:v ∉ ws:=λ z=>by
     obtain⟨cw,e1,h1⟩:=all v z
     rw[e] at e1;cases e1
     simp only at h1;left
    refine⟨ws++[v],S++[k],.snoc r ma nv,.step ea tp,λ w hw=>?_⟩
    rcases uaz.mp hw with hw | hw
    ·obtain⟨cw,e1,h1⟩:=all w hw
     exact⟨cw,e1,by show cw.1<=cu.1 + l;left⟩
    ·rw[uam.mp hw]
     exact⟨_,e,ubm _⟩
theorem Best.small (K:Keys B) (h:Best B n s cs as) {v:Nat} {c:Int × Int} (e:get cs v=some c):0<=c.2/\c.2 < 2 ^ 60:=by
 obtain⟨ws,S,r,_⟩:=h.route K _ v c e (uai _)
 exact r.lt K
theorem Best.least (h:Best B n s cs as) {ws S:List Nat} {v:Nat} {x y:Int} (r:Rt B s ws S v x y):∃ c,get cs v=some c/\¬ lt2 (x,y) c:=by
 induction r with
 | one=>exact⟨_,h.start,λ z=>by unfold lt2 at z;simp only at z;left⟩
 | @snoc ws S u v x y l k r m nv ih =>
  obtain⟨c,e,hc⟩:=ih
  obtain⟨c',e',hc'⟩:=h.stab _ _ _ _ _ m e
  refine⟨c',e',λ z=>?_⟩
  unfold lt2 at *
  simp only at *
  left
end
def comb (c:Int × Int):Int:=c.1 * 2 ^ 61 + c.2
def arcsC (B:List Arc):List (Nat × Nat × Int):=B.map λ b=>(b.1,b.2.1,b.2.2.1 * 2 ^ 61 + 2 ^ b.2.2.2)
theorem arcsC_mem {B:List Arc} {u v:Nat} {L:Int}:(u,v,L) ∈ arcsC B↔∃ l k,(u,v,l,k) ∈ B/\L=l * 2 ^ 61 + 2 ^ k:=by
 unfold arcsC
 rw[ubj]
 constructor
 ·rintro ⟨⟨a,b,l,k⟩,h,e⟩
  cases e
  exact⟨l,k,h,rfl⟩
 ·rintro ⟨l,k,h,rfl⟩
  exact⟨(u,v,l,k),h,rfl⟩
section
variable {B:List Arc} {n s:Nat} {cs:List (Option (Int × Int))} {as:List (Option Nat)}
theorem zrs (k:Nat):(1:Int)<=2 ^ k:=Int.pow_pos (by decide)
theorem zpa (K:Keys B):Sym (arcsC B):=λ u v L h=>by
 obtain⟨l,k,m,rfl⟩:=arcsC_mem.mp h
 exact arcsC_mem.mpr ⟨l,k,K.sym _ _ _ _ m,rfl⟩
theorem Best.dst (K:Keys B) (h:Best B n s cs as) (v:Nat):Dst (arcsC B) s v ((get cs v).map comb):=by
 refine⟨λ y e=>?_,λ L w=>?_⟩
 ·cases ec:get cs v with
  | none=>rw[ec] at e;cases e
  | some c =>
   rw[ec] at e;cases e
   obtain⟨ws,S,r,_⟩:=h.route K _ v c ec (uai _)
   have go:∀ {ws S:List Nat} {v:Nat} {x y:Int},Rt B s ws S v x y->Walk (arcsC B) s v (comb (x,y)):=by
    intro ws S v x y r
    induction r with
    | one=>exact .nil
    | @snoc ws S u v x y l k r m nv ih =>
     have:=Walk.snoc ih (arcsC_mem.mpr ⟨l,k,m,rfl⟩)
     have e:comb (x + l,y + 2 ^ k)=comb (x,y) + (l * 2 ^ 61 + 2 ^ k):=by unfold comb;simp only;left
     rw[e];exact this
   exact go r
 ·have:∃ c,get cs v=some c/\comb c<=L:=by
   induction w with
   | nil=>exact⟨_,h.start,by decide⟩
   | @snoc u v l x w m ih =>
    obtain⟨c,e,hc⟩:=ih
    obtain⟨l',k,m',rfl⟩:=arcsC_mem.mp m
    obtain⟨c',e',hc'⟩:=h.stab _ _ _ _ _ m' e
    refine⟨c',e',?_⟩
    have s1:=h.small K e
    have s2:=h.small K e'
    have:=zrs k
    unfold comb at *
    unfold lt2 at hc'
    simp only at hc'
    left
  obtain⟨c,e,hc⟩:=this
  exact⟨comb c,by rw[e];rfl,hc⟩
theorem zqr {c d:Int × Int} (hc:0<=c.2/\c.2 < 2 ^ 61) (hd:0<=d.2/\d.2 < 2 ^ 61) (e:comb c=comb d):c=d:=by
 unfold comb at e
 exact Prod.ext (by left) (by left)
end
end Far
namespace Far
variable {B:List Arc} {A:List (Nat × Nat × Int)} {n s:Nat}
structure Run (B:List Arc) (s:Nat) (cs:List (Option (Int × Int))) (as:List (Option Nat)):Prop where
 len:as.length=cs.length
 start:get cs s=some (0,0)
 root:get as s=none
 has:∀ v c,get cs v=some c->v≠s->get as v≠none
 arc:∀ v u,get as v=some u->∃ l k cu cv,(u,v,l,k) ∈ B/\get cs u=some cu/\get cs v=some cv/\¬ lt2 cv (cu.1 + l,cu.2 + 2 ^ k)
theorem Run.step {u v:Nat} {l:Int} {k:Nat} {cs:List (Option (Int × Int))} {as:List (Option Nat)} {c:Int × Int} (P:Pos A) (g:Good A n s cs) (a:Run B s cs as) (m:(u,v,l) ∈ A) (mB:(u,v,l,k) ∈ B) (hv:v < n) (hu:get cs u=some c)
  (h:get cs v=none\/∃ c',get cs v=some c'/\lt2 (c.1 + l,c.2 + 2 ^ k) c'):Run B s (cs.set v (some (c.1 + l,c.2 + 2 ^ k))) (as.set v (some u)):=by
 have hc:v < cs.length:=by rw[g.len];exact hv
 have ha:v < as.length:=by rw[a.len];exact hc
 have l1:=P _ _ _ m
 have c0:=(g.walk _ _ hu).nonneg P
 have vs:v≠s:=λ z=>by
  rw[z] at h
  rcases h with h | ⟨c',h,hl⟩
  ·rw[a.start] at h;cases h
  ·rw[a.start] at h;cases h
   unfold lt2 at hl;simp only at hl;left
 have uv:u≠v:=λ z=>by
  rcases h with h | ⟨c',h,hl⟩
  ·rw[← z,hu] at h;cases h
  ·rw[← z,hu] at h;cases h
   unfold lt2 at hl;simp only at hl;left
 refine⟨by rw[ucb,ucb];exact a.len,by rw[za6 hc,if_neg (Ne.symm vs)];exact a.start,?_,λ x d e hx=>?_,λ x y e=>?_⟩
 ·rw[za6 ha,if_neg (Ne.symm vs)];exact a.root
 ·rw[za6 ha]
  split
  ·exact λ z=>by cases z
  ·rename_i xv
   rw[za6 hc,if_neg xv] at e
   exact a.has x d e hx
 ·rw[za6 ha] at e
  split at e
  ·rename_i z;subst z;cases e
   refine⟨l,k,c,_,mB,by rw[za6 hc,if_neg uv];exact hu,by rw[za6 hc,if_pos rfl],λ z=>?_⟩
   unfold lt2 at z;left
  ·rename_i xv
   obtain⟨l',k',cu,cv,m',e1,e2,hle⟩:=a.arc x y e
   by_cases yv:y=v
   ·subst yv
    refine⟨l',k',_,cv,m',by rw[za6 hc,if_pos rfl],by rw[za6 hc,if_neg xv];exact e2,λ z=>?_⟩
    rcases h with h | ⟨c',h,hl⟩
    ·rw[h] at e1;cases e1
    ·rw[h] at e1;cases e1
     unfold lt2 at hl hle z
     simp only at hl hle z
     left
   ·exact⟨l',k',cu,cv,m',by rw[za6 hc,if_neg yv];exact e1,by rw[za6 hc,if_neg xv];exact e2,hle⟩
theorem Run.first (hs:s < n):Run B s ((uay n none).set s (some (0,0))) (uay n none):=by
 have hl:s < (uay n (none:Option (Int × Int))).length:=by rw[ube];exact hs
 refine⟨by rw[ucb,ube,ube],by rw[za6 hl,if_pos rfl],zdq _ _,λ v c e hv=>?_,λ v u e=>?_⟩
 ·rw[za6 hl,if_neg hv,zdq] at e;cases e
 ·rw[zdq] at e;cases e
def Stab2 (B:List Arc) (cs:List (Option (Int × Int))):Prop:=∀ u v l k c,(u,v,l,k) ∈ B->get cs u=some c->∃ c',get cs v=some c'/\¬ lt2 (c.1 + l,c.2 + 2 ^ k) c'
def PS2 (c0:List (Option (Int × Int))) (R:Arc->Prop) (cs:List (Option (Int × Int))) (ag:Bool):Prop :=
 (ag=false/\cs=c0/\∀ u v l k c,R (u,v,l,k)->get c0 u=some c->∃ c',get c0 v=some c'/\¬ lt2 (c.1 + l,c.2 + 2 ^ k) c')\/(ag=true/\mu cs < mu c0)
def plusA (R:Arc->Prop) (a:Arc):Arc->Prop:=λ b=>R b\/b=a
section
variable {c0 cs:List (Option (Int × Int))} {R R':Arc->Prop} {ag:Bool} {u v k:Nat} {l:Int}
theorem PS2.less (h:PS2 c0 R cs ag) (z:∀ a,R' a->R a):PS2 c0 R' cs ag:=h.elim (λ ⟨a,b,c⟩=>.inl ⟨a,b,λ u v l k c' y=>c u v l k c' (z _ y)⟩) .inr
theorem PS2.no (h:PS2 c0 R cs ag) (hu:get cs u=none):PS2 c0 (plusA R (u,v,l,k)) cs ag:=by
 rcases h with ⟨a,b,c⟩ | h
 ·refine .inl ⟨a,b,λ u' v' l' k' c' z e=>?_⟩
  rcases z with z | z
  ·exact c _ _ _ _ _ z e
  ·cases z;rw[← b,hu] at e;cases e
 ·exact .inr h
theorem PS2.old (h:PS2 c0 R cs ag) {c d:Int × Int} (hu:get cs u=some c) (hv:get cs v=some d) (hn:¬ lt2 (c.1 + l,c.2 + 2 ^ k) d):PS2 c0 (plusA R (u,v,l,k)) cs ag:=by
 rcases h with ⟨a,b,z⟩ | h
 ·refine .inl ⟨a,b,λ u' v' l' k' c' y e=>?_⟩
  rcases y with y | y
  ·exact z _ _ _ _ _ y e
  ·cases y
   subst b
   rw[hu] at e;cases e
   exact⟨d,hv,hn⟩
 ·exact .inr h
theorem PS2.put (h:PS2 c0 R cs ag) {cs':List (Option (Int × Int))} (hm:mu cs' < mu cs):PS2 c0 (plusA R (u,v,l,k)) cs' true:=by
 rcases h with ⟨a,b,c⟩ | h
 ·exact .inr ⟨rfl,by rw[← b];exact hm⟩
 ·exact .inr ⟨rfl,ugj hm h.2⟩
end
theorem Run.best {cs:List (Option (Int × Int))} {as:List (Option Nat)} (P:Pos A) (g:Good A n s cs) (r:Run B s cs as) (st:Stab2 B cs):Best B n s cs as:=by
 refine⟨g.len,by rw[r.len];exact g.len,r.start,r.root,r.has,λ v c e=>(g.walk v c e).nonneg P,st,λ v u e=>?_⟩
 obtain⟨l,k,cu,cv,m,e1,e2,n1⟩:=r.arc v u e
 obtain⟨c',e3,n2⟩:=st _ _ _ _ _ m e1
 rw[e2] at e3;cases e3
 refine⟨l,k,cu,m,e1,?_⟩
 rw[e2]
 congr 1
 unfold lt2 at n1 n2
 simp only at n1 n2
 exact Prod.ext (by show cv.1=cu.1 + l;left) (by show cv.2=cu.2 + 2 ^ k;left)
end Far
namespace Far
def arcsF (B:List Arc):List (Nat × Nat × Int):=B.map λ b=>(b.1,b.2.1,b.2.2.1)
theorem arcsF_mem {B:List Arc} {u v:Nat} {l:Int}:(u,v,l) ∈ arcsF B↔∃ k,(u,v,l,k) ∈ B:=by
 unfold arcsF
 rw[ubj]
 constructor
 ·rintro ⟨⟨a,b,l',k⟩,h,e⟩
  cases e
  exact⟨k,h⟩
 ·rintro ⟨k,h⟩
  exact⟨(u,v,l,k),h,rfl⟩
section
variable {B:List Arc} {n s:Nat} {cs:List (Option (Int × Int))} {as:List (Option Nat)} {a b:Nat} {ws S:List Nat} {x y:Int}
theorem zm6 {v:Nat} {ws ws':List Nat} (hr:get as s=none) (t:TPw as s ws v):TPw as s ws' v->ws'=ws:=by
 induction t generalizing ws' with
 | root =>
  intro t'
  cases t' with
  | root=>rfl
  | step e _=>rw[hr] at e;cases e
 | step e t ih =>
  intro t'
  cases t' with
  | root=>rw[hr] at e;cases e
  | step e' t'=>rw[e] at e';cases e';rw[ih t']
theorem Best.rt (K:Keys B) (h:Best B n s cs as) {v:Nat} {c:Int × Int} (t:TPw as s ws v) (e:get cs v=some c):∃ S,Rt B s ws S v c.1 c.2:=by
 obtain⟨w1,S1,r1,p1,_⟩:=h.route K _ v c e (uai _)
 rw[zm6 h.root p1 t]
 exact⟨S1,r1⟩
theorem Rt.walk (r:Rt B a ws S b x y):Walk (arcsF B) a b x:=by
 induction r with
 | one=>exact .nil
 | snoc r m nv ih=>exact .snoc ih (arcsF_mem.mpr ⟨_,m⟩)
theorem Rt.tr (r:Rt B a ws S b x y):Tr (arcsF B) a ws b x:=by
 induction r with
 | one=>exact .one
 | snoc r m nv ih=>exact .snoc ih (arcsF_mem.mpr ⟨_,m⟩)
theorem Best.dst1 (K:Keys B) (h:Best B n s cs as) (v:Nat):Dst (arcsF B) s v ((get cs v).map (·.1)):=by
 refine⟨λ y e=>?_,λ L w=>?_⟩
 ·cases ec:get cs v with
  | none=>rw[ec] at e;cases e
  | some c =>
   rw[ec] at e;cases e
   obtain⟨ws,S,r,_⟩:=h.route K _ v c ec (uai _)
   exact r.walk
 ·have:∃ c,get cs v=some c/\c.1<=L:=by
   induction w with
   | nil=>exact⟨_,h.start,ubm _⟩
   | @snoc u v l x w m ih =>
    obtain⟨c,e,hc⟩:=ih
    obtain⟨k,m'⟩:=arcsF_mem.mp m
    obtain⟨c',e',hc'⟩:=h.stab _ _ _ _ _ m' e
    refine⟨c',e',?_⟩
    unfold lt2 at hc'
    simp only at hc'
    left
  obtain⟨c,e,hc⟩:=this
  exact⟨c.1,by rw[e];rfl,hc⟩
theorem Rt.unlike (r:Rt B a ws S b x y):ws.Nodup:=by
 induction r with
 | one=>simp
 | snoc r m nv ih =>
  refine ucd.mpr ⟨ih,by simp,λ p hp q hq z=>?_⟩
  rw[uam.mp hq] at z
  exact nv (z ▸ hp)
structure Uni (B:List Arc) (a b:Nat) (ws S:List Nat) (x y:Int):Prop where
 rt:Rt B a ws S b x y
 least:∀ ws' S' x' y',Rt B a ws' S' b x' y'->¬ lt2 (x',y') (x,y)
theorem Best.uni (K:Keys B) (h:Best B n s cs as) {v:Nat} {c:Int × Int} (t:TPw as s ws.reverse v) (e:get cs v=some c):∃ S,Uni B v s ws S c.1 c.2:=by
 obtain⟨S,r⟩:=h.rt K t e
 have rb:=r.back K
 rw[List.reverse_reverse] at rb
 refine⟨_,rb,λ ws' S' x' y' r' z=>?_⟩
 obtain⟨c',e',n'⟩:=h.least (r'.back K)
 rw[e] at e';cases e'
 exact n' z
end
end Far
namespace L3
open PySem PySem.Spec PyProof.Rows L2
def arcs2B (t:Tie) (k:Nat):List Far.Arc:=[(t.1.toNat,t.2.1.toNat,t.2.2,k),(t.2.1.toNat,t.1.toNat,t.2.2,k)]
def arcsB (ts:List Tie) (ks:List Nat):List Far.Arc:=ks.flatMap λ k=>arcs2B (tieAt ts k) k
theorem arcsB_mem {ts:List Tie} {ks:List Nat} {a:Far.Arc}:a ∈ arcsB ts ks↔∃ k,k ∈ ks/\a ∈ arcs2B (tieAt ts k) k:=by
 unfold arcsB;rw[uc0]
theorem arcs2B_mem {t:Tie} {k:Nat} {a:Far.Arc}:a ∈ arcs2B t k↔a=(t.1.toNat,t.2.1.toNat,t.2.2,k)\/a=(t.2.1.toNat,t.1.toNat,t.2.2,k):=by
 unfold arcs2B;simp
theorem zmw {ts:List Tie} {ks:List Nat} {i k:Nat} (h:ks[i]?=some k) {a:Far.Arc} (m:a ∈ arcsB ts (ks.take (i + 1))):a ∈ arcsB ts (ks.take i)\/a ∈ arcs2B (tieAt ts k) k:=by
 obtain⟨j,hj,m⟩:=arcsB_mem.mp m
 rw[zm9 h] at hj
 rcases uaz.mp hj with hj | hj
 ·exact .inl (arcsB_mem.mpr ⟨j,hj,m⟩)
 ·rw[uam.mp hj] at m;exact .inr m
theorem zc6 {n:Int} {ts:List Tie} {ks:List Nat} (ok:WebOk n ts) (ko:KeepOk ts.length ks):Far.Keys (arcsB ts ks):=by
 have at_:∀ {u v l k},(u,v,l,k) ∈ arcsB ts ks->k < ts.length/\((u=(tieAt ts k).1.toNat/\v=(tieAt ts k).2.1.toNat)\/(u=(tieAt ts k).2.1.toNat/\v=(tieAt ts k).1.toNat))/\l=(tieAt ts k).2.2/\k ∈ ks:=λ {u v l k} h=>by
  obtain⟨j,hj,m⟩:=arcsB_mem.mp h
  rcases arcs2B_mem.mp m with e | e <;> cases e
  ·exact⟨ko.2 _ hj,.inl ⟨rfl,rfl⟩,rfl,hj⟩
  ·exact⟨ko.2 _ hj,.inr ⟨rfl,rfl⟩,rfl,hj⟩
 refine⟨λ u v l k h=>?_,λ u v l u' v' l' k h h'=>?_,λ u v l k h=>?_,λ u v l k h=>?_,λ u v l k h=>?_⟩
 ·obtain⟨_,e,rfl,hk⟩:=at_ h
  refine arcsB_mem.mpr ⟨k,hk,arcs2B_mem.mpr ?_⟩
  rcases e with ⟨rfl,rfl⟩ | ⟨rfl,rfl⟩
  ·exact .inr rfl
  ·exact .inl rfl
 ·obtain⟨_,e,rfl,_⟩:=at_ h
  obtain⟨_,e',rfl,_⟩:=at_ h'
  refine⟨rfl,?_⟩
  rcases e with ⟨rfl,rfl⟩ | ⟨rfl,rfl⟩ <;> rcases e' with ⟨rfl,rfl⟩ | ⟨rfl,rfl⟩
  ·exact .inl ⟨rfl,rfl⟩
  ·exact .inr ⟨rfl,rfl⟩
  ·exact .inr ⟨rfl,rfl⟩
  ·exact .inl ⟨rfl,rfl⟩
 ·obtain⟨hk,e,_,_⟩:=at_ h
  have:=ok.tie _ (zav hk).2
  rcases e with ⟨rfl,rfl⟩ | ⟨rfl,rfl⟩ <;> left
 ·obtain⟨hk,_,e,_⟩:=at_ h
  have:=ok.tie _ (zav hk).2
  left
 ·obtain⟨hk,_⟩:=at_ h
  have:=ok.few
  left
theorem zqx {n:Int} {ts:List Tie} {ks:List Nat} (ok:WebOk n ts) (ko:KeepOk ts.length ks) {u v k:Nat} {l:Int} (h:(u,v,l,k) ∈ arcsB ts ks):u < n.toNat/\v < n.toNat:=by
 obtain⟨j,hj,m⟩:=arcsB_mem.mp h
 have:=ok.tie _ (zav (ko.2 j hj)).2
 rcases arcs2B_mem.mp m with e | e <;> cases e <;> left
inductive spReachedB_i (K:uac) (vs:List V) (H:Hp) (Q:VK):Prop
 | mk:∀ n ts ks wv kv r,(vs=[wv,kv,.int r])->(WK K H n ts ks wv kv)->(0<=r)->(r < n)->(∀ (p lc la:Addr) (cvs:List V) (as:List (Option Nat)) (cs:List (Option (Int × Int))) (H':Hp),Same H H'->H' p=some (.tup [.ref lc,.ref la])->H' lc=some (.lst cvs)->H' la=some (.lst (as.map oa))->CostL H' cvs cs->Far.Best (arcsB ts ks) n.toNat r.toNat cs as->Q (.ref p) H')->spReachedB_i K vs H Q
def spReachedB (K:uac):Sp:=λ vs H Q _=>spReachedB_i K vs H Q
inductive spTreeB_i (K:uac) (vs:List V) (H:Hp) (Q:VK):Prop
 | mk:∀ n ts ks wv kv r,(vs=[wv,kv,.int r])->(WK K H n ts ks wv kv)->(0<=r)->(r < n)->(∀ (p:Addr) (as:List (Option Nat)) (cs:List (Option (Int × Int))) (H':Hp),Same H H'->H' p=some (.tup (as.map oa))->Far.Best (arcsB ts ks) n.toNat r.toNat cs as->Q (.ref p) H')->spTreeB_i K vs H Q
def spTreeB (K:uac):Sp:=λ vs H Q _=>spTreeB_i K vs H Q
def WayB (H:Hp) (B:List Far.Arc) (n a b:Nat) (v:V):Prop:=∃ cs as,Far.Best B n b cs as/\((v=.non/\Far.get cs a=none)\/∃ t ws c,v=.ref t/\H t=some (.tup (natV ws))/\ws.length<=24/\Far.get cs a=some c/\Far.TPw as b ws.reverse a)
inductive spWayB_i (K:uac) (vs:List V) (H:Hp) (Q:VK):Prop
 | mk:∀ n ts ks wv kv a b,(vs=[wv,kv,.int a,.int b])->(WK K H n ts ks wv kv)->(0<=a)->(a < n)->(0<=b)->(b < n)->(∀ v H',Same H H'->WayB H' (arcsB ts ks) n.toNat a.toNat b.toNat v->Q v H')->spWayB_i K vs H Q
def spWayB (K:uac):Sp:=λ vs H Q _=>spWayB_i K vs H Q
def oaD:Option Nat->PyData
 | none=>.none
 | some u=>.int (u:Int)
end L3
namespace HT
open PySem PyProof.Rows
section
variable {prog:Program} {w:World} {A:Around} {E:Value->Shared->Prop} {s:Shared}
abbrev setS (ns:List Int) (m:Nat):Int->Bool:=λ x=>(firstMet (λ i=>ns.getD i 0) m).any λ y=>y == x
abbrev setN (ns:List Int) (m:Nat):Nat:=(firstMet (λ i=>ns.getD i 0) m).length
end
end HT
namespace L3
open PySem PySem.Spec PyProof.Rows L2
section
variable {X:Cx}
end
theorem zgp (val:Nat->Int):∀ k,argBest (λ i j=>decide (val i < val j)) k<=k/\∀ i,i<=k->val (argBest (λ i j=>decide (val i < val j)) k)<=val i
 | 0=>⟨uai _,λ i hi=>by rw[show i=0 by left];exact ubm _⟩
 | k + 1=>by
  obtain⟨h1,h2⟩:=zgp val k
  show (if decide (val (k + 1) < val (argBest _ k))=true then k + 1 else argBest _ k)<=k + 1/\∀ i,i<=k + 1->val (if decide (val (k + 1) < val (argBest _ k))=true then k + 1 else argBest _ k)<=val i
  by_cases c:val (k + 1) < val (argBest (λ i j=>decide (val i < val j)) k)
  ·rw[if_pos (decide_eq_true c)]
   refine⟨uai _,λ i hi=>?_⟩
   rcases ufz i (k + 1) with z | z
   ·have:=h2 i (by left);left
   ·rw[show i=k + 1 by left];exact ubm _
  ·rw[if_neg (λ z=>c (of_decide_eq_true z))]
   refine⟨by left,λ i hi=>?_⟩
   rcases ufz i (k + 1) with z | z
   ·exact h2 i (by left)
   ·rw[show i=k + 1 by left];left
inductive call_minL_i  (xs:List V) (H:Hp) (Q:VK):Prop
 | mk:∀ (p:Addr) (ns:List Int),(xs=[.ref p])->(H p=some (.lst (ns.map V.int)))->(ns≠[])->(∀ b,b ∈ ns->(∀ x ∈ ns,b<=x)->Q (.int b) H)->call_minL_i xs H Q
theorem zjd {X:Cx} (hh:X.calm=true):CallR X (.builtin "min") (call_minL_i):=by
 intro pins s σ H xs us Q I r h
 obtain⟨p,ns,rfl,hq,hne,q⟩:=h
 obtain⟨u,rfl,rx⟩:=vals1 r
 cases rx
 obtain⟨its,rv,pl,hz⟩:=I.list (SqL.of hq)
 have hl:=rv.length
 rw[uae] at hl
 have hI:IntsAre its ns:=zbh rv
 have lt:p≠s.heap.objs.size:=by obtain⟨o,e,_⟩:=pl.isList;exact uaw (Heap.lt_size e)
 refine call_min_walkS (uc7 pl.isList ?_)
 have W:=(Walks.list (prog:=X.prog) (w:=X.w) (A:=X.A.in1) (show X.A.in1.handled=none from I.ok.hd hh) s.heap.objs.size p lt its.toArray).toS
 have npos:0 < ns.length:=uf4.mpr hne
 have esz:its.toArray.size=ns.length:=by rw[uak,← hl]
 have hv:∀ (i:Nat) (v:Value),its.toArray[i]?=some v->∃ t,v=Value.int (ns.getD i 0) t:=λ i v hv=>IntsAre.int_at hI i v (by simpa using hv)
 refine⟨s.heap.objs.size,_,_,_,_,_,_,(λ i j=>decide (ns.getD i 0 < ns.getD j 0)),rfl,W,⟨⟨_,Heap.get?_push_size _ rfl,rfl,rfl⟩,pl.isList.push _⟩,λ b hb=>?_,by rw[esz];exact npos,CmpOf.ints_lt (λ i=>ns.getD i 0) hv,λ v s' hP hm=>?_⟩
 ·obtain⟨o,e,_⟩:=pl.isList
  have hlt:p < s.heap.objs.size:=Heap.lt_size e
  show b < (s.heap.push _).objs.size
  rw[Heap.size_push]
  simp only [uar,ua4,or_false] at hb
  rcases hb with z | z
  ·rw[z];exact ucj _
  ·rw[z];exact ub4 hlt
 ·obtain⟨t,rfl⟩:=hv _ _ hP
  obtain⟨b1,b2⟩:=zgp (λ i=>ns.getD i 0) (its.toArray.size - 1)
  rw[Moved.eq_with hm]
  refine⟨.int _,H,I.kept (t':=s'.toks) λ b o e=>hm.heap b o (λ z=>?_) (Heap.get?_push_of_some _ e),⟨t,rfl⟩,q _ ?_ λ x hx=>?_⟩
  ·have:b=s.heap.objs.size:=by simpa using z
   exact absurd (Heap.lt_size e) (by rw[this];exact uck _)
  ·have:argBest (λ i j=>decide (ns.getD i 0 < ns.getD j 0)) (its.toArray.size - 1) < ns.length:=by left
   rw[uaf,uad this];exact ud8 this
  ·obtain⟨i,hi,e⟩:=ucl hx
   have:=b2 i (by left)
   have g:ns.getD i 0=ns[i]:=by rw[uaf,uad hi];rfl
   rw[← e,← g];exact this
def iAny (K:uac) (tl:TE):TI:=λ σ H R=>tl σ H λ x H1=>ERef x λ a=>∃ t:Bool,(∃ xs,SqX t K H1 a xs)/\R (if t=true then Itt K a else Itl K a) H1
theorem zth {X:Cx} {tg l:Expr} {tl:TE} (hl:PE X l tl):PI X tg l (iAny X.K tl):=by
 intro pins s σ H R I h
 refine thn (hl pins s σ H _ I h) λ v s1 ⟨x,H1,I1,r1,q1⟩=>?_
 obtain⟨a,rfl,t,⟨xs,hq⟩,q⟩:=q1
 cases r1
 have fp:∀ b ∈ [s1.heap.objs.size],FpOk X pins H1 b:=λ b hb=>by
  rw[uam.mp hb];exact I1.fpOk (uai _) (I1.hok.fresh (uai _))
 cases t with
 | true =>
  obtain⟨its,_,p,_⟩:=I1.tuple (xs:=xs) hq
  exact ugn (show s1.heap.IsTuple a its.toArray from p) ⟨_,_,_,_,H1,rfl,I1.kept (t':=s1.toks) λ b o e=>Heap.get?_push_of_some _ e,zgd a _,⟨_,Heap.get?_push_size _ rfl,rfl,rfl⟩,fp,q⟩
 | false =>
  obtain⟨its,_,p,_⟩:=I1.list (xs:=xs) hq
  exact uc7 p.isList ⟨_,_,_,_,H1,rfl,I1.kept (t':=s1.toks) λ b o e=>Heap.get?_push_of_some _ e,zif a _,⟨_,Heap.get?_push_size _ rfl,rfl,rfl⟩,fp,q⟩
theorem zfp {K:uac} {a:Addr} {xs:List V} {t:Bool} {g:TG} {tb:TS} {D:Ends} {σ:L2.St} {H:Hp} (Pv:Nat->L2.St->Hp->Prop) (h0:Pv 0 σ H) (hl:∀ i σ H,i<=xs.length->Pv i σ H->SqX t K H a xs)
  (hs:∀ i x σ H,xs[i]?=some x->Pv i σ H->g x σ H λ σ2 H2=>tb { D with nx:=Pv (i + 1),ct:=Pv (i + 1),bk:=D.nx } σ2 H2) (hd:∀ σ H,Pv xs.length σ H->D.nx σ H) :
  ∃ W:Nat->Nat->L2.St->Hp->Prop,(∃ m,W 0 m σ H)/\∀ i m σ H,W i m σ H ->
   ((if t=true then Itt K a else Itl K a).stop i H/\D.nx σ H)\/((if t=true then Itt K a else Itl K a).go i H/\∃ N:L2.St->Hp->Prop,(∀ σ' H',N σ' H'->∃ m',m' < m/\W (i + 1) m' σ' H')/\∀ x H',(if t=true then Itt K a else Itl K a).yld i H x H'->g x σ H' λ σ2 H2=>tb { D with nx:=N,ct:=N,bk:=D.nx } σ2 H2):=by
 cases t with
 | true=>exact zck Pv h0 hl hs hd
 | false=>exact zen Pv h0 hl hs hd
theorem zc5 (ts:List Tie) (ks:List Nat):Far.arcsF (arcsB ts ks)=arcs ts ks:=by
 unfold arcs Far.arcsF arcsB
 rw[List.map_flatMap]
 rfl
theorem zjt {n:Int} {ts:List Tie} {ks:List Nat} (ok:WebOk n ts) (ko:KeepOk ts.length ks):Far.Sym (arcs ts ks):=λ u v l h=>by
 rw[← zc5] at h ⊢
 obtain⟨k,m⟩:=Far.arcsF_mem.mp h
 exact Far.arcsF_mem.mpr ⟨k,(zc6 ok ko).sym _ _ _ _ m⟩
inductive spReachedC_i (K:uac) (vs:List V) (H:Hp) (Q:VK):Prop
 | mk:∀ n ts ks wv kv r,(vs=[wv,kv,.int r])->(WK K H n ts ks wv kv)->(0<=r)->(r < n)->(∀ (p lc la:Addr) (cvs:List V) (as:List (Option Nat)) (cs:List (Option (Int × Int))) (H':Hp),Same H H'->H' p=some (.tup [.ref lc,.ref la])->H' lc=some (.lst cvs)->H' la=some (.lst (as.map oa))->CostL H' cvs cs->Far.Best (arcsB ts ks) n.toNat r.toNat cs as->Far.Good (arcs ts ks) n.toNat r.toNat cs->Far.Stab (arcs ts ks) cs->Q (.ref p) H')->spReachedC_i K vs H Q
def spReachedC (K:uac):Sp:=λ vs H Q _=>spReachedC_i K vs H Q
theorem znh {K:uac} (vs:List V) (H:Hp) (Q:VK) (E:XK) (h:spReachedB K vs H Q E):spReachedC K vs H Q E:=by
 obtain⟨n,ts,ks,wv,kv,r,e,wk,r0,r1,q⟩:=h
 exact⟨n,ts,ks,wv,kv,r,e,wk,r0,r1,λ p lc la cvs as cs H' S h1 h2 h3 cl B _ _=>q p lc la cvs as cs H' S h1 h2 h3 cl B⟩
theorem zng {K:uac} (vs:List V) (H:Hp) (Q:VK) (E:XK) (h:spReached K vs H Q E):spReachedC K vs H Q E:=by
 obtain⟨n,ts,ks,wv,kv,r,e,wk,r0,r1,q⟩:=h
 exact⟨n,ts,ks,wv,kv,r,e,wk,r0,r1,λ p lc la cvs as cs H' S h1 h2 h3 cl _ g st=>q p lc la cvs _ cs H' S h1 h2 h3 cl g st⟩
theorem zrz {ts:List Tie} {ks:List Nat} {cs:List (Option (Int × Int))} (h:Far.Stab2 (arcsB ts ks) cs):Far.Stab (arcs ts ks) cs:=λ u v l c m e=>by
 rw[← zc5] at m
 obtain⟨k,m⟩:=Far.arcsF_mem.mp m
 obtain⟨c',e',n'⟩:=h _ _ _ _ _ m e
 refine⟨c',e',?_⟩
 unfold Far.lt2 at n'
 simp only at n'
 left
theorem zrv {n:Int} {ts:List Tie} {ks:List Nat} (ok:WebOk n ts) (ko:KeepOk ts.length ks) {u v k:Nat} {l:Int} (h:(u,v,l,k) ∈ arcsB ts ks):ks.filter (isTB ts u v)=[k]:=by
 have hk:k ∈ ks/\isTB ts u v k=true:=by
  obtain⟨j,hj,m⟩:=arcsB_mem.mp h
  have tk:=ok.tie _ (zav (ko.2 j hj)).2
  unfold isTB
  rcases arcs2B_mem.mp m with e | e <;> cases e
  ·exact⟨hj,by rw[decide_eq_true (by left),decide_eq_true (by left)];rfl⟩
  ·exact⟨hj,by rw[decide_eq_true (by left),decide_eq_true (by left)];rfl⟩
 have one:∀ j ∈ ks,isTB ts u v j=true->j=k:=λ j hj p=>by
  have q:=hk.2
  have hjl:=ko.2 j hj
  have hkl:=ko.2 k hk.1
  unfold isTB at p q
  rw[ubv] at p q
  have a1:=of_decide_eq_true p.1
  have a2:=of_decide_eq_true p.2
  have b1:=of_decide_eq_true q.1
  have b2:=of_decide_eq_true q.2
  exact zkx ok hjl hkl (a1.trans b1.symm) (a2.trans b2.symm)
 have nd:ks.Nodup:=ko.1.imp λ h=>uaw h
 have nf:(ks.filter (isTB ts u v)).Nodup:=nd.sublist udi
 have mk:k ∈ ks.filter (isTB ts u v):=ubr.mpr hk
 have all:∀ j ∈ ks.filter (isTB ts u v),j=k:=λ j hj=>one j (ubr.mp hj).1 (ubr.mp hj).2
 match e:ks.filter (isTB ts u v) with
 | []=>rw[e] at mk;cases mk
 | [j]=>rw[all j (by rw[e];exact ual)]
 | i::j::r =>
  rw[e] at nf all
  have h1:=all i ual
  have h2:=all j (uap _ ual)
  exact absurd (h1.trans h2.symm) (λ z=>(uch.mp nf).1 (by rw[z];exact ual))
section
variable {own:List Str} {js:List Nat} {g:TG} {te:TE} {σ:L2.St} {Q:VK} {H1:Hp}
end
theorem zsf {X:Cx} {own fr:List Str} {scope:Scope} {fp:List Addr} {pins:List (Addr × Obj)} {s3:Shared} {H3:Hp}:OpR (cxComp X own fr scope fp pins s3 H3) (compareOp .Eq) (op_eqD_i X.K X.A.units):=zlc (X:=cxComp X own fr scope fp pins s3 H3)
end L3
namespace HT
open PySem PyProof.Rows
section
variable {prog:Program} {w:World} {A:Around} {R:Result->Shared->Prop} {I:Addr} {fp wr:List Addr} {G:Array GenState->Array GenState->Prop} {St:Nat->Shared->Prop} {its:List Value} {ns:List Int}
abbrev two8 (b:Int) (t:Tok) (c:Nat):Obj:={ cls:=.type "list",dict:=none,data:=.seq #[.int b t,.int b t] c,slots:=#[] }
def BotOf (ns:List Int) (j:Nat) (b:Int):Prop:=b ∈ ns/\∀ i,i<=j->i < ns.length->b<=ns.getD i 0
theorem zn6 (W:WalksS prog w A.in1 I fp wr G its.length (λ i v=>its[i]?=some v) St) (hI:IntsAre its ns) (S:Addr) (hSf:S ∉ fp) (kw:List (Str × Value)):∀ (k j:Nat) (s:Shared) (b:Int) (t:Tok) (c:Nat),
  its.length - (j + 1)=k->j + 1<=its.length->St (j + 1) s->BotOf ns j b->s.heap.get? S=some (two8 b t c) ->
  (∀ (b:Int) (t:Tok) (s':Shared),b ∈ ns->(∀ x ∈ ns,b<=x)->Moved (S::wr) G s s'->R (.ok (.ret (.int b t))) s')->codeAny (model prog w) A (.builtin "min.loop" ⟨[.ref I,.none,.ref S],kw⟩) R s:=by
 have nw:S ∉ wr:=λ h=>hSf (W.sub _ h)
 have up:∀ b ∈ wr,b ∈ S::wr:=λ b hb=>.tail _ hb
 have nm:(toString "min"++toString ".loop":String)="min.loop":=by decide
 have off:∀ {b:Addr},b ∉ S::wr->S≠b:=λ hb h=>hb (h ▸ ual)
 have hl:=hI.length
 intro k
 induction k with
 | zero =>
  intro j s b t c hk hj hst top hS hR
  have hin:j + 1=its.length:=by left
  refine ucu ufg ?_;rw[Around.under_plainId ucs _]
  show wpAny _ A.in1 (seqItems? (.ref S) >>= _) _ _ _;refine uab (ucn hS rfl ?_)
  show wpAny _ A.in1 (tryCatch (pyNext (.ref I)) _ >>= _) _ _ _;refine uab (ufn (W.done s _ _ (hin ▸ hst) λ s1 hm=>?_))
  have hS1:=hm.heap S _ nw hS
  show wpAny _ A.in1 (updateSeq S (λ _=>#[]) >>= _) _ _ s1;refine uab (uen hS1 rfl (uab (uet (uah ?_))))
  refine hR b t _ top.1 (λ x hx=>?_) ((hm.mono up).then_heap (tk:=s1.toks) (uai _) λ b o hb e=>(Heap.get?_update_other _ _ (off hb)).trans e)
  obtain⟨i,hi,e⟩:=ucl hx
  have:=top.2 i (by left) hi
  rw[uaf,uad hi] at this
  rw[← e];exact this
 | succ k ih =>
  intro j s b t c hk hj hst top hS hR
  have hlt:j + 1 < its.length:=by left
  refine ucu ufg ?_;rw[Around.under_plainId ucs _]
  show wpAny _ A.in1 (seqItems? (.ref S) >>= _) _ _ _;refine uab (ucn hS rfl ?_)
  show wpAny _ A.in1 (tryCatch (pyNext (.ref I)) _ >>= _) _ _ _;refine uab (ufn (W.item (j + 1) s _ _ hlt hst λ v s1 hP hst1 hm=>?_))
  have hS1:=hm.heap S _ nw hS
  obtain⟨u,rfl⟩:=IntsAre.int_at hI (j + 1) v hP
  show wpAny _ A.in1 (tryCatch (holding [_,_] (richCompare .Lt _ _ >>= _)) _ >>= _) _ _ s1
  refine uab (ufn (ubk (uab (lt_int (A:=A.in1) (uab (ubk (uc6 (uab (uet (uah ?_))))))))))
  have next:∀ m,m<=ns.getD (j + 1) 0->m<=b->m ∈ ns->BotOf ns (j + 1) m:=λ m h1 h2 h3=>⟨h3,λ i hi hi2=>by
   rcases ufz i (j + 1) with z | z
   ·exact ugm h2 (top.2 i (by left) hi2)
   ·have:i=j + 1:=by left
    subst this;exact h1⟩
  by_cases hb:ns.getD (j + 1) 0 < b
  ·rw[decide_eq_true hb];simp only [if_true]
   refine uab (uen hS1 rfl (uab (uet ?_)));rw[nm]
   have mem:ns.getD (j + 1) 0 ∈ ns:=by
    have:j + 1 < ns.length:=by left
    rw[uaf,uad this];exact ud8 this
   refine uah ⟨udo ucs _,ih (j + 1) _ _ u _ (by left) hlt (W.frame _ s1 _ s1.toks hst1 (uai _) λ b hbf o e=>(Heap.get?_update_other _ _ (λ h:S=b=>hSf (h ▸ hbf))).trans e) (next _ (ubm _) (by left) mem) (Heap.get?_update_self _ hS1 rfl) λ b' t' s2 h1 h2 hm2=>?_⟩
   exact hR b' t' s2 h1 h2 (Moved.trans W.gtrans ((hm.mono up).then_heap (tk:=s1.toks) (uai _) λ b o hb e=>(Heap.get?_update_other _ _ (off hb)).trans e) hm2)
  ·rw[decide_eq_false hb];simp only [ub5,if_false]
   refine uab (uet ?_);rw[nm]
   refine uah ⟨udo ucs _,ih (j + 1) _ b t c (by left) hlt hst1 (next b (by left) (ubm _) top.1) hS1 λ b' t' s2 h1 h2 hm2=>?_⟩
   exact hR b' t' s2 h1 h2 (Moved.trans W.gtrans (hm.mono up) hm2)
end
section
variable {prog:Program} {w:World} {A:Around} {E:Value->Shared->Prop} {s:Shared}
theorem zpl {id:String} {b:Builtin} {args:Args} {Q:Value->Shared->Prop} (hk:builtinKind id=none) (hp:plainId id=true) (hb:entryFor table id=some b) (ha:argsOk id args)
  (hc:wpAny (model prog w) A.in1 (b args) (λ fin s'=>match fin with
   | .done f=>(match (Except.ok f:Result) with | .ok (.ret v)=>Q v s' | .ok _=>False | .error e=>E e s')
   | .again c'=>c'.quiet=true/\codeAny (model prog w) A c' (λ r s'=>match r with | .ok (.ret v)=>Q v s' | .ok _=>False | .error e=>E e s') s') E s):wpAny (model prog w) A (call (.builtin id) args.pos args.kw) Q E s:=by
 refine wpAny_call (codeAny_call_builtin hp hb ?_);simp only [checkBuiltinCall,hk]
 cases hsig:Manifest.signature? id with
 | none=>exact uah hc
 | some sig =>
  have z:Bind.checkArgs id sig args=pure ():=by simpa only [argsOk,hsig] using ha
  simp only [z];exact uah hc
theorem zn5 (a v:Value):argsOk "min" ⟨[a],[(Str.ofString "default",v)]⟩:=by unfold argsOk;kernel_rfl
theorem zo2 {l:Addr} {its:List Value} {ns:List Int} {d:Value} {Q:Value->Shared->Prop} (hh:A.in1.handled=none) (hl:s.heap.IsList l its.toArray) (hI:IntsAre its ns)
  (h0:ns=[]->∀ (h':Heap) (tk:Nat),(∀ b o,s.heap.get? b=some o->h'.get? b=some o)->Q d { s with heap:=h',toks:=tk })
  (h1:∀ (b:Int) (t:Tok) (h':Heap) (tk:Nat),b ∈ ns->(∀ x ∈ ns,b<=x)->(∀ b o,s.heap.get? b=some o->h'.get? b=some o)->Q (.int b t) { s with heap:=h',toks:=tk }) :
  wpAny (model prog w) A (call (.builtin "min") [.ref l] [(Str.ofString "default",d)]) Q E s:=by
 have nm:(toString "min"++toString ".loop":String)="min.loop":=by decide
 refine zpl (args:=⟨[.ref l],[(Str.ofString "default",d)]⟩) PySem.F.kind_min PySem.F.plain_min PySem.F.entry_min (zn5 _ _) ?_
 show wpAny _ A.in1 (Builtin.Builtins.bindParams "min" ["key","default"] 0 ⟨[],[(Str.ofString "default",d)]⟩ >>= _) _ _ s
 refine uab (wpAny_of_eq (show Builtin.Builtins.bindParams "min" ["key","default"] 0 ⟨[],[(Str.ofString "default",d)]⟩=pure [none,some d] from rfl) (uab (uah ?_)))
 refine uab (uc7 hl ?_)
 have lt:l < s.heap.objs.size:=by obtain⟨o,e,_⟩:=hl;exact Heap.lt_size e
 have ne:l≠s.heap.objs.size:=uaw lt
 have W:=(Walks.list (prog:=prog) (w:=w) (A:=A.in1) hh s.heap.objs.size l ne its.toArray).toS
 have nS:s.heap.objs.size + 1 ∉ [s.heap.objs.size,l]:=by
  simp only [uar,ua4,or_false,not_or];exact⟨udb (ucj _),udb (ub4 lt)⟩
 have esz:its.toArray.size=its.length:=uak
 rw[esz] at W
 have eP:(λ (i:Nat) (v:Value)=>its.toArray[i]?=some v)=λ i v=>its[i]?=some v:=by funext i v;simp
 rw[eP] at W
 refine uab (ud6 ?_ (ubb _));rw[nm]
 have sz:∀ o:Obj,(s.heap.push o).objs.size=s.heap.objs.size + 1:=λ o=>Heap.size_push ..
 refine uah ⟨udo ucs _,?_⟩
 rw[sz]
 generalize hg:((s.heap.push { cls:=Value.type "list_iterator",data:=Data.fields #[.ref l,.int 0 0] }).push { cls:=Value.type "list",data:=Data.seq #[] })=g
 have kg:∀ b o,s.heap.get? b=some o->g.get? b=some o:=λ b o e=>by rw[← hg];exact Heap.get?_push_of_some _ (Heap.get?_push_of_some _ e)
 have hS:g.get? (s.heap.objs.size + 1)=some { cls:=.type "list",dict:=none,data:=.seq #[] 0,slots:=#[] }:=by rw[← hg,← sz];exact Heap.get?_push_size _ rfl
 have st0:g.IsListIter s.heap.objs.size l 0/\g.IsList l its.toArray:=by
  rw[← hg];exact⟨⟨_,Heap.get?_push_of_some _ (Heap.get?_push_size _ rfl),rfl,rfl⟩,(hl.push _).push _⟩
 have keep:∀ {s':Shared},Moved ((s.heap.objs.size + 1)::[s.heap.objs.size]) (λ a b=>b=a) { s with heap:=g } s'->∀ b o,s.heap.get? b=some o->s'.heap.get? b=some o:=λ hm b o e=>by
  have lb:=Heap.lt_size e
  refine hm.heap b o (λ z=>?_) (kg b o e)
  simp only [uar,ua4,or_false] at z
  rcases z with z | z
  ·exact absurd lb (by rw[z];exact Nat.not_lt.mpr (uc2 _))
  ·exact absurd lb (by rw[z];exact uck _)
 have hIl:=hI.length
 show codeAny (model prog w) A (.builtin "min.loop" ⟨[.ref s.heap.objs.size,.none,.ref (s.heap.objs.size + 1)],[(Str.ofString "default",d)]⟩) _ { s with heap:=g }
 refine ucu ufg ?_;rw[Around.under_plainId ucs _]
 show wpAny _ A.in1 (seqItems? (.ref (s.heap.objs.size + 1)) >>= _) _ _ _;refine uab (ucn hS rfl ?_)
 show wpAny _ A.in1 (tryCatch (pyNext (.ref s.heap.objs.size)) _ >>= _) _ _ _
 by_cases e:its.length=0
 ·refine uab (ufn (W.done { s with heap:=g } _ _ (by rw[e];exact st0) λ s1 hm=>?_))
  have en:ns=[]:=uef.mp (by left)
  rw[Moved.eq_with hm]
  refine uab (udj (uah ?_))
  exact h0 en _ _ (keep (hm.mono λ b hb=>.tail _ hb))
 ·refine uab (ufn (W.item 0 { s with heap:=g } _ _ (by left) st0 λ v s1 hP hst1 hm=>?_))
  have nw:s.heap.objs.size + 1 ∉ [s.heap.objs.size]:=λ z=>absurd (uam.mp z) (udb (ucj _))
  have hS1:=hm.heap _ _ nw hS
  obtain⟨u,rfl⟩:=IntsAre.int_at hI 0 v hP
  show wpAny _ A.in1 (updateSeq (s.heap.objs.size + 1) _ >>= _) _ _ s1
  refine uab (uen hS1 rfl ?_);rw[nm]
  have off:∀ {b:Addr},b ∉ (s.heap.objs.size + 1)::[s.heap.objs.size]->s.heap.objs.size + 1≠b:=λ hb h=>hb (h ▸ ual)
  have mem:ns.getD 0 0 ∈ ns:=by
   have:0 < ns.length:=by left
   rw[uaf,uad this];exact ud8 this
  refine uah ⟨udo ucs _,zn6 W hI _ nS _ _ 0 _ (ns.getD 0 0) u _ rfl (by left) (W.frame _ s1 _ s1.toks hst1 (uai _) λ b hbf o e=>(Heap.get?_update_other _ _ (λ h:s.heap.objs.size + 1=b=>nS (by rw[h];exact hbf))).trans e) ⟨mem,λ i hi _=>?_⟩ (Heap.get?_update_self _ hS1 rfl) λ b t s2 q1 q2 hm2=>?_⟩
  ·have:i=0:=by left
   subst this;exact ubm _
  ·have hm3:=Moved.trans W.gtrans ((hm.mono λ b hb=>.tail _ hb).then_heap (tk:=s1.toks) (uai _) λ b o hb e=>(Heap.get?_update_other _ _ (off hb)).trans e) hm2
   rw[Moved.eq_with hm3]
   exact h1 b t _ _ q1 q2 (keep hm3)
end
end HT
namespace L3
open PySem PySem.Spec PyProof.Rows L2
def tMinD (t tk:TA):TE:=λ σ H Q=>t σ H λ vs H1=>tk σ H1 λ ws H2=>∃ (p:Addr) (ns:List Int) (y:V),vs=[.ref p]/\ws=[y]/\H2 p=some (.lst (ns.map V.int))/\(ns=[]->Q y H2)/\∀ b,b ∈ ns->(∀ x ∈ ns,b<=x)->Q (.int b) H2
theorem zsa {X:Cx} {p pos kpos:Pos} {e d:Expr} {t tk:TA} (hc:X.calm=true) (hg:Gl X "min") (hm:X.mg "min"=none) (he:PA X [e] t) (hd:PK X [⟨some (Str.ofString "default"),d,kpos⟩] tk) (hs:starEach [e] X.env=[(false,eval e X.env)]:=by rfl)
  (hall:(backToKw pos (keywordEach [⟨some (Str.ofString "default"),d,kpos⟩] X.env)).filterMap (·.1)=[Str.ofString "default"]:=by rfl):PE X (.Call (.Name "min" p) [e] [⟨some (Str.ofString "default"),d,kpos⟩] pos) (tMinD t tk):=by
 intro pins s σ H Q I h
 refine ufj (zdz I hg hm (u:=.builtin "min") (by symm) ?_)
 refine callWith_kw (e:=e) (rest:=[]) (thn (he pos pins s σ H _ I h) λ us s1 ⟨vs,H1,I1,r1,q1⟩=>?_) ?a ?b ?c ?d
 case a=>rw[hs];rfl
 case b=>rw[hs];rfl
 case c=>rfl
 case d=>rfl
 refine thn (hd pos pins s1 σ H1 _ I1 q1) λ ws s2 ⟨zs,H2,I2,r2,q2⟩=>?_
 obtain⟨p,ns,y,rfl,rfl,hp,q0,q1⟩:=q2
 obtain⟨u,rfl,ru⟩:=r1.one
 obtain⟨v,rfl,rv⟩:=r2.one
 cases ru
 rw[hall]
 obtain⟨its,rI,pl,hz⟩:=I2.list (SqL.of hp)
 refine HT.zo2 (show X.A.in1.handled=none from I2.ok.hd hc) pl.isList (zbh rI) (λ e h' tk hk=>?_) (λ b t h' tk h1 h2 hk=>?_)
 ·exact⟨y,H2,I2.kept (t':=tk) hk,rv,q0 e⟩
 ·exact⟨.int b,H2,I2.kept (t':=tk) hk,⟨t,rfl⟩,q1 b h1 h2⟩
theorem IsAll.at_ {K:uac} {H:Hp}:∀ {ds:List PyData} {vs:List V} {i:Nat} {d:PyData},IsAll K H ds vs->ds[i]?=some d->∃ v,vs[i]?=some v/\Is K H d v
 | [],vs,i,d,_,h=>by cases h
 | d0::ds,vs,0,d,⟨v,r,e,h1,_⟩,h=>by
  cases h
  exact⟨v,by rw[e];rfl,h1⟩
 | d0::ds,vs,i + 1,d,⟨v,r,e,_,h2⟩,h=>by
  obtain⟨u,e1,e2⟩:=IsAll.at_ (i:=i) h2 h
  exact⟨u,by rw[e];exact e1,e2⟩
theorem IsAll.from_ {K:uac} {H:Hp}:∀ {ds:List PyData} {vs:List V} {i:Nat} {v:V},IsAll K H ds vs->vs[i]?=some v->∃ d,ds[i]?=some d/\Is K H d v
 | [],vs,i,v,h,e=>by
  have:vs=[]:=h
  rw[this] at e;cases e
 | d0::ds,vs,0,v,⟨u,r,e0,h1,_⟩,e=>by
  rw[e0] at e;cases e
  exact⟨d0,rfl,h1⟩
 | d0::ds,vs,i + 1,v,⟨u,r,e0,_,h2⟩,e=>by
  rw[e0] at e
  exact IsAll.from_ (i:=i) h2 e
section
variable {own:List Str} {js:List Nat} {g:TG} {tt:TT} {te:TE} {σ:L2.St} {Q:VK} {H1:Hp}
end
def lvl (ls:List (List Nat)) (i:Nat):List Nat:=ls.getD i []
structure LevOk (n:Nat) (ls:List (List Nat)):Prop where
 one:1<=ls.length
 six:ls.length<=6
 first:lvl ls 0=uag n
 rise:∀ i,(lvl ls i).Pairwise (· < ·)
 inn:∀ i,∀ p ∈ lvl ls i,p < n
 down:∀ i,∀ p ∈ lvl ls (i + 1),p ∈ lvl ls i
def IsTop (ls:List (List Nat)) (w b:Nat):Prop:=b < ls.length/\w ∈ lvl ls b/\∀ i,i < ls.length->w ∈ lvl ls i->i<=b
def Bun (ls:List (List Nat)) (D:List (Option Int)) (w:Nat):Prop:=∃ x,Far.get D w=some x/\∀ b p y,IsTop ls w b->p ∈ lvl ls (b + 1)->Far.get D p=some y->x < y
noncomputable def bunB (ls:List (List Nat)) (D:List (Option Int)) (w:Nat):Bool:=@decide (Bun ls D w) (Classical.propDecidable _)
def FarsOf (ts:List Tie) (n s:Nat) (D:List (Option Int)):Prop:=D.length=n/\∀ u,u < n->Far.Dst (arcs ts (uag ts.length)) s u (Far.get D u)
def FarsT (H:Hp) (p lf:Addr) (n:Nat) (ts:List Tie):Prop:=∃ ys,H lf=some (.lst ys)/\lf≠p/\ys.length=n/\∀ i v,ys[i]?=some v->∃ l D,v=.ref l/\l≠p/\H l=some (.lst (D.map ov))/\FarsOf ts n i D
end L3
namespace HT
open PySem PyProof.Rows
section
variable {prog:Program} {w:World} {A:Around} {R:Result->Shared->Prop} {I:Addr} {fp wr:List Addr} {G:Array GenState->Array GenState->Prop} {St:Nat->Shared->Prop} {its:List Value} {ks:List (List Int)}
end
section
variable {prog:Program} {w:World} {A:Around} {E:Value->Shared->Prop} {s:Shared}
end
end HT
namespace L3
open PySem PySem.Spec PyProof.Rows L2
theorem zpg {xs:List V} {us:List Value} (r:Vals xs us):∀ {i:Nat} {u:Value},us[i]?=some u->∃ x,xs[i]?=some x/\RelV x u:=by
 induction r with
 | nil=>intro i u e;cases e
 | cons r _ ih =>
  intro i u e
  cases i with
  | zero=>cases e;exact⟨_,rfl,r⟩
  | succ i=>exact ih (i:=i) e
noncomputable def topN (ls:List (List Nat)) (w:Nat):Nat:=@dite _ (∃ b,IsTop ls w b) (Classical.propDecidable _) (λ h=>Classical.choose h) (λ _=>0)
structure IsPiv (ls:List (List Nat)) (m:Nat) (D:List (Option Int)) (o:Option Nat):Prop where
 no:o=none->∀ q ∈ lvl ls m,Far.get D q=none
 yes:∀ p,o=some p->p ∈ lvl ls m/\∃ x,Far.get D p=some x/\∀ q ∈ lvl ls m,∀ y,Far.get D q=some y->x<=y/\(y=x->topN ls q<=topN ls p/\(topN ls q=topN ls p->p<=q))
def tupI (k:List Int):PyData:=.tuple (k.map .int)
section
variable {own:List Str} {js:List Nat} {g:TG} {tt:TT} {te:TE} {σ:L2.St} {Q:VK} {H1:Hp}
end
noncomputable def pivN (ls:List (List Nat)) (m:Nat) (D:List (Option Int)):Nat:=@dite _ (∃ p,IsPiv ls m D (some p)) (Classical.propDecidable _) (λ h=>Classical.choose h) (λ _=>0)
noncomputable def clN (ls:List (List Nat)):Nat->Nat->Nat->Nat->List (Option Int)->List (Option Int)->Int->List (List Int)
 | 0,w,a,b,_,_,x=>[[(w:Int),(a:Int),(b:Int),x]]
 | f + 1,w,a,b,Da,Db,x=>[(w:Int),(a:Int),(b:Int),x]::(if bunB ls Db w=true then [] else clN ls f (pivN ls (topN ls w + 1) Db) b a Db Da ((Far.get Db (pivN ls (topN ls w + 1) Db)).getD 0))
structure Cs (ts:List Tie) (n:Nat) (ls:List (List Nat)) (d:Int) (j w a b:Nat) (Da Db:List (Option Int)) (x:Int):Prop where
 fa:FarsOf ts n a Da
 fb:FarsOf ts n b Db
 wn:w < n
 an:a < n
 bn:b < n
 xa:Far.get Da w=some x
 lim:x<=j * d
 ab:Far.get Da b=some d
 ba:Far.get Db a=some d
 yb:∃ y,Far.get Db w=some y
 tp:j<=topN ls w
 bu:bunB ls Da w=true
section
variable {n:Int} {ts:List Tie} {ls:List (List Nat)} {d x:Int} {j w a b:Nat} {Da Db:List (Option Int)}
theorem allOk (ts:List Tie):KeepOk ts.length (uag ts.length):=⟨ubz,λ k hk=>uav.mp hk⟩
end
structure RowsOk (ls:List (List Nat)) (n:Nat) (d:Int) (Du Dv:List (Option Int)) (rows:List (List Int)):Prop where
 few:rows.length<=ls.length
 lim:∀ (i:Nat) (r:List Int),rows[i]?=some r->∃ p a b x:Int,r=[p,a,b,x]/\x<=i * d
 last:∃ (pre:List (List Int)) (w:Nat) (a b x:Int),rows=pre++[[(w:Int),a,b,x]]/\w < n/\bunB ls Du w=true/\bunB ls Dv w=true
def ClimbV (K:uac) (H:Hp) (ls:List (List Nat)) (n u v:Nat) (Du Dv:List (Option Int)) (r:V):Prop:=(r=.non/\Far.get Du v=none)\/∃ t ys d,r=.ref t/\Far.get Du v=some d/\H t=some (.tup ys)/\IsAll K H ((clN ls ls.length u u v Du Dv 0).map tupI) ys/\RowsOk ls n d Du Dv (clN ls ls.length u u v Du Dv 0)
def FarsM (H:Hp) (lf:Addr) (n:Nat) (ts:List Tie):Prop:=∃ ys,H lf=some (.lst ys)/\ys.length=n/\∀ i v,ys[i]?=some v->∃ l D,v=.ref l/\H l=some (.lst (D.map ov))/\FarsOf ts n i D
structure Clb (ts:List Tie) (n:Int) (ls:List (List Nat)) (d:Int) (u v:Nat) (Du Dv:List (Option Int)) (pre:List (List Int)) (w a b:Nat) (Da Db:List (Option Int)) (x:Int):Prop where
 cs:Cs ts n.toNat ls d pre.length w a b Da Db x
 sides:(Da=Du/\Db=Dv)\/(Da=Dv/\Db=Du)
 lim:∀ (i:Nat) (r:List Int),(pre++[[(w:Int),(a:Int),(b:Int),x]])[i]?=some r->∃ p a b x:Int,r=[p,a,b,x]/\x<=i * d
 rest:pre++clN ls (ls.length - pre.length) w a b Da Db x=clN ls ls.length u u v Du Dv 0
section
variable {n:Int} {ts:List Tie} {ls:List (List Nat)} {d x:Int} {u v w a b:Nat} {Du Dv Da Db:List (Option Int)} {pre:List (List Int)}
end
section
variable {K:uac} {J J':Hp} {ls:List (List Nat)} {n u v:Nat} {Du Dv:List (Option Int)} {r r1 r2:V}
end
end L3
namespace PySem.SeqAt
open PySem.Spec PySem.MeetsSeq PySem.MeetsSeq2 PySem.MeetsSeq3 PySem.SeqRoads2
open AutoSeq1 (wpAny_loadPart')
theorem zer {M:Model} {A:Around} {E:Value->Shared->Prop} {s:Shared} {β:Type} (f:Nat->β->Sem (ForInStep β)) (I:List Nat->β->Shared->Prop) (Q:β->Shared->Prop)
  (turn:∀ x rest b s,I (x::rest) b s->wpAny M A (f x b) (λ r s'=>match r with | .yield b'=>I rest b' s' | .done b'=>Q b' s') E s)
  (fin:∀ b s,I [] b s->Q b s) (m:Nat) (b:β) (h:I (uea 0 m) b s):wpAny M A (forIn [:m] b f) Q E s:=by
 rw[Std.Legacy.Range.forIn_eq_forIn_range']
 have e:uea [:m].start [:m].size [:m].step=uea 0 m:=by simp [Std.Legacy.Range.size]
 rw[e]
 exact wpAny_forIn_list f I Q turn fin _ b h
theorem tuple_indexAt (l:Addr) (items:Array Value) (n:Nat) (dd:Option Addr) (sl:Array (Option Value)) (x:Value) (e:Value->Bool) (j:Nat) (hj:j < items.size) (hit:e items[j]=true) (hno:∀ m (hm:m < items.size),m < j->e items[m]=false) :
  Meets (Builtin.«tuple.index» ⟨[.ref l,x],[]⟩)
   (λ A R s=>s.heap.get? l=some { cls:=.type "tuple",dict:=dd,data:=.seq items n,slots:=sl }/\(∀ y,y ∈ items->EqAt A.in1 s y x (e y))/\R (.ok (.ret (.int (j:Nat) s.toks))) { s with toks:=s.toks + 1 }) :=
 .of_wp λ prog w A R s h=>by
  obtain⟨hp,g,d,tk,os⟩:=s;obtain⟨hl,he,h⟩:=h
  wp_walk using udk hl,zer _ (λ rest b s'=>b.1=none/\s'=⟨hp,g,d,tk,os⟩/\∃ i,i<=j/\rest=uea i (items.size - i)) _
  case turn =>
   rintro i0 rest b s' ⟨hb,rfl,i,hi,hr⟩
   have hlt:i < items.size:=by left
   rw[show items.size - i=(items.size - (i + 1)) + 1 by left,ufq] at hr
   injection hr with e1 e2
   subst e1
   rw[ub3 hlt]
   show wpAny _ _ (eqBool items[i0] x >>= _) _ _ _
   refine uab (he items[i0] (Array.getElem_mem hlt) prog w _ _ ?_)
   by_cases hij:i0=j
   ·subst hij
    rw[hit]
    wp_walk
    exact⟨_,rfl,h⟩
   ·rw[hno i0 hlt (by left)]
    wp_walk
    exact⟨rfl,rfl,i0 + 1,by left,e2⟩
  case fin =>
   rintro ⟨b1,b2⟩ s' ⟨hb,rfl,i,hi,hr⟩
   rw[show items.size - i=(items.size - (i + 1)) + 1 by left,ufq] at hr
   cases hr
  case h =>
   exact⟨rfl,rfl,0,ubb _,by rw[Nat.min_self,Nat.sub_zero]⟩
end PySem.SeqAt
namespace L3
open PySem PySem.Spec PyProof.Rows L2
inductive rTIndex_i  (x:V) (vs:List V) (H:Hp) (Q:VK):Prop
 | mk:∀ (p:Addr) (ns:List Int) (i:Int) (k:Nat),(x=.ref p)->(vs=[.int i])->(H p=some (.tup (ns.map V.int)))->(ns[k]?=some i)->((∀ m,m < k->ns[m]?≠some i))->(Q (.int (k:Int)) H)->rTIndex_i x vs H Q
def rTIndex :V->List V->Hp->VK->Prop:=λ x vs H Q=>rTIndex_i x vs H Q
theorem zi0 {X:Cx}:MtM X "tuple.index" rTIndex:=by
 intro pins s σ H x vs v us Q I rx rv h
 obtain⟨p,ns,i,k,rfl,rfl,hH,hk,hno,q⟩:=h
 cases rx
 obtain⟨u1,rfl,ru1⟩:=vals1 rv
 obtain⟨t,rfl⟩:=ru1
 obtain⟨its,r,ht,hz⟩:=I.tuple (SqT.of hH)
 obtain⟨⟨cls,dd,data,sl⟩,ho,hc,n,hd⟩:=id ht
 simp only at hc hd
 subst hc hd
 have hl:=r.length
 rw[uae] at hl
 let e:Value->Bool:=λ w=>match w with | .int a _=>a == i | _=>false
 have rd:∀ m (hm:m < its.toArray.size),∃ (a:Int) (t':Tok),its.toArray[m]=.int a t'/\ns[m]?=some a:=λ m hm=>by
  rw[uak] at hm
  obtain⟨x',hx,rel⟩:=zpg r (uad hm)
  rw[uaq,uei] at hx
  obtain⟨a,ha,rfl⟩:=hx
  obtain⟨t',et⟩:=rel
  exact⟨a,t',by rw[List.getElem_toArray];exact et,ha⟩
 have hkl:k < its.toArray.size:=by
  rw[uak,← hl]
  exact (uan.mp hk).1
 refine ufv F.slot_tuple_index ⟨_,ho,rfl⟩ F.entry_tuple_index (F.args_tuple_index_2 _ _) (PySem.SeqAt.tuple_indexAt p its.toArray n dd sl (.int i t) e k hkl ?_ ?_) ⟨ho,?_,?_⟩
 ·obtain⟨a,t',e1,e2⟩:=rd k hkl
  rw[e1]
  rw[hk] at e2
  cases e2
  show (i == i)=true
  exact beq_self_eq_true i
 ·intro m hm hmk
  obtain⟨a,t',e1,e2⟩:=rd m hm
  rw[e1]
  show (a == i)=false
  refine beq_eq_false_iff_ne.mpr λ z=>hno m hmk ?_
  rw[e2,z]
 ·intro y hy
  obtain⟨m,hm,rfl⟩:=Array.getElem_of_mem hy
  obtain⟨a,t',e1,e2⟩:=rd m hm
  rw[e1]
  exact PySem.SeqAt.EqAt.int_int a t' i t
 ·exact⟨.int (k:Int),H,I.tok _,⟨_,rfl⟩,q⟩
def tBT (r:V->List V->Hp->VK->Prop) (to:TE) (t:TA):TE:=λ σ H Q=>to σ H λ x H1=>(∃ p ys,x=.ref p/\H1 p=some (.tup ys))/\t σ H1 λ xs H2=>r x xs H2 Q
section
variable {X:Cx} {o e:Expr} {es:List Expr} {to:TE} {t:TA} {name:Str} {apos cpos:Pos} {id:String} {r:V->List V->Hp->VK->Prop}
theorem zra (slot:Slot "tuple" name id) (hty:typeOf (.builtin id)=pure (.type "method_descriptor")) (hm:MtM X id r) (ho:PE X o to) (ha:PA X (e::es) t)
  (hbase:attributeBase o name X.env (eval o X.env)=eval o X.env:=by rfl)
  (hfew:((backTo cpos (starEach (e::es) X.env)).all (λ x=>!x.1) && (backToKw cpos (keywordEach [] X.env)).all (λ x=>x.1.isSome)
   && decide ((e::es).length + ([]:List Keyword).length + (if ([]:List Keyword).isEmpty then 0 else 1) < 30))=true:=by rfl)
  (hline:(apos.endLine == cpos.line)=true:=by rfl) (hs:starEach (e::es) X.env=(false,eval e X.env)::starEach es X.env:=by rfl) (hplain:(backTo cpos (starEach es X.env)).any (·.1)=false:=by rfl) :
  PE X (.Call (.Attribute o name apos) (e::es) [] cpos) (tBT r to t):=by
 intro pins s σ H Q I h
 refine wpAny_Call_method_late hbase hfew hline rfl (thn (ho pins s σ H _ I h) λ v s1 ⟨x,H1,I1,r1,ty,q1⟩=>?_)
 obtain⟨p,ys,rfl,hp⟩:=ty
 cases r1
 obtain⟨_,_,_,o1,g1,g2,_,g3⟩:=(show ObjOk X.prog X.w H1 s1.heap p (.tup ys) from I1.hok p _ hp)
 refine⟨"tuple",id,PySem.F.plainAttrs_tuple,slot,hty,⟨o1,g1,g2⟩,λ a e2=>by cases e2;exact⟨o1,g1,g3⟩,?_⟩
 have hA:=ha cpos pins s1 σ H1 _ I1 q1
 rw[hs] at hA ⊢
 refine Calls.callWith_builtin (by show (false || (backTo cpos (starEach es X.env)).any (·.1))=false;rw[hplain] <;> rfl) (Calls.evalArgs_plain ?_)
 exact thn hA λ us s2 ⟨vs,H2,I2,r2,q2⟩=>hm pins s2 σ H2 (.ref p) vs (.ref p) us Q I2 rfl r2 q2
end
def bk (hi:Option Int) (n j:Nat):Prop:=(hi=none/\j=0)\/(hi=some 0/\j=1/\1<=n)
section
variable {prog:Program} {w:World} {A:Around} {E:Value->Shared->Prop} {s:Shared}
end
section
variable {X:Cx} {e st:Expr} {te ts:TE} {lo hi:Option Expr} {th:TO} {pos p2:Pos}
end
end L3
namespace Far
section
variable {B:List Arc} {n s a b:Nat} {ws S:List Nat} {x y:Int} {cs:List (Option (Int × Int))} {as:List (Option Nat)}
theorem Rt.walkC (r:Rt B a ws S b x y):Walk (arcsC B) a b (comb (x,y)):=by
 induction r with
 | one=>exact .nil
 | @snoc ws S u v x y l k r m nv ih =>
  have:=Walk.snoc ih (arcsC_mem.mpr ⟨l,k,m,rfl⟩)
  have e:comb (x + l,y + 2 ^ k)=comb (x,y) + (l * 2 ^ 61 + 2 ^ k):=by unfold comb;simp only;left
  rw[e];exact this
def MinW (B:List Arc) (a b:Nat) (ws:List Nat):Prop:=∃ S x y,Rt B a ws S b x y/\∀ L,Walk (arcsC B) a b L->comb (x,y)<=L
theorem MinW.unique (K:Keys B) {ws':List Nat} (h:MinW B a b ws) (h':MinW B a b ws'):ws'=ws:=by
 obtain⟨S,x,y,r,l⟩:=h
 obtain⟨S',x',y',r',l'⟩:=h'
 have e1:=l _ r'.walkC
 have e2:=l' _ r.walkC
 have b1:=r.lt K
 have b2:=r'.lt K
 have e:=zqr (c:=(x,y)) (d:=(x',y')) ⟨b1.1,Int.lt_trans b1.2 (by decide)⟩ ⟨b2.1,Int.lt_trans b2.2 (by decide)⟩ (by left)
 injection e with ex ey
 subst ey
 exact (r.unique K r').1
theorem Best.minw (K:Keys B) (h:Best B n s cs as) {v:Nat} {c:Int × Int} (t:TPw as s ws.reverse v) (e:get cs v=some c):MinW B v s ws:=by
 obtain⟨S,r⟩:=h.rt K t e
 have rb:=r.back K
 rw[List.reverse_reverse] at rb
 refine⟨_,_,_,rb,λ L w=>?_⟩
 obtain⟨z,ez,le⟩:=(h.dst K v).2 L (w.back (zpa K))
 rw[e] at ez
 cases ez
 exact le
theorem MinW.nodup (h:MinW B a b ws):ws.Nodup:=by
 obtain⟨S,x,y,r,l⟩:=h
 exact r.unlike
end
def Shr (W1 W2:List Nat):Prop:=(∀ x ∈ W1,x ∉ W2)\/∃ p m q p2 q2,W1=p++m++q/\m≠[]/\(∀ x ∈ p,x ∉ W2)/\(∀ x ∈ q,x ∉ W2)/\(W2=p2++m++q2\/W2=p2++m.reverse++q2)
end Far
namespace L3
open PySem PySem.Spec PyProof.Rows L2
def WayM (H:Hp) (ts:List Tie) (ks:List Nat) (a b:Nat) (v:V):Prop:=(v=.non/\Far.Dst (arcs ts ks) a b none)\/∃ t ws x,v=.ref t/\H t=some (.tup (natV ws))/\ws.length<=24/\Far.MinW (arcsB ts ks) a b ws/\Far.Tr (arcs ts ks) a ws b x/\Far.Dst (arcs ts ks) a b (some x)
theorem zs5 {H:Hp} {n:Int} {m:Nat} {ts:List Tie} {ks:List Nat} {a b:Nat} {v:V} (ok:WebOk n ts) (ko:KeepOk ts.length ks) (h:WayB H (arcsB ts ks) m a b v):WayM H ts ks a b v:=by
 obtain⟨cs,as,B,h⟩:=h
 have KB:=zc6 ok ko
 have d:=B.dst1 KB a
 rw[zc5] at d
 rcases h with ⟨rfl,e⟩ | ⟨t,ws,c,rfl,ht,l24,e,tp⟩
 ·rw[e] at d
  exact .inl ⟨rfl,d.back (zjt ok ko)⟩
 ·rw[e] at d
  obtain⟨S,u⟩:=B.uni KB tp e
  have tr:=u.rt.tr
  rw[zc5] at tr
  exact .inr ⟨t,ws,c.1,rfl,ht,l24,B.minw KB tp e,tr,d.back (zjt ok ko)⟩
inductive spWayM_i (K:uac) (vs:List V) (H:Hp) (Q:VK):Prop
 | mk:∀ n ts ks wv kv a b,(vs=[wv,kv,.int a,.int b])->(WK K H n ts ks wv kv)->(0<=a)->(a < n)->(0<=b)->(b < n)->(∀ v H',Same H H'->WayM H' ts ks a.toNat b.toNat v->Q v H')->spWayM_i K vs H Q
def spWayM (K:uac):Sp:=λ vs H Q _=>spWayM_i K vs H Q
theorem zt7 {K:uac} (vs:List V) (H:Hp) (Q:VK) (E:XK) (h:spWayM K vs H Q E):spWayB K vs H Q E:=by
 obtain⟨n,ts,ks,wv,kv,a,b,e,wk,a0,a1,b0,b1,q⟩:=h
 exact⟨n,ts,ks,wv,kv,a,b,e,wk,a0,a1,b0,b1,λ v H' S h=>q v H' S (zs5 wk.2.1 wk.2.2.2 h)⟩
theorem zrx {n:Int} {ts:List Tie} {ks:List Nat} (ok:WebOk n ts) (ko:KeepOk ts.length ks) {u v k:Nat} {l:Int} (h:(u,v,l,k) ∈ arcsB ts ks):tbN ts u v=some k:=by
 have h2:(u,v,l,k) ∈ arcsB ts (uag ts.length):=by
  obtain⟨k',hk',m⟩:=arcsB_mem.mp h
  exact arcsB_mem.mpr ⟨k',uav.mpr (ko.2 k' hk'),m⟩
 have e:=zrv ok (allOk ts) h2
 unfold tbN
 rw[← List.head?_filter,e];rfl
inductive spShare_i (K:uac) (vs:List V) (H:Hp) (Q:VK):Prop
 | mk:∀ (t1 t2:Addr) (W1 W2:List Nat),(vs=[.ref t1,.ref t2])->(H t1=some (.tup (natV W1)))->(H t2=some (.tup (natV W2)))->(W1.length<=24)->(W2.length<=24)->(W1.Nodup)->(Far.Shr W1 W2)->(∀ H',Same H H'->Q (.bl true) H')->spShare_i K vs H Q
def spShare (K:uac):Sp:=λ vs H Q _=>spShare_i K vs H Q
def WaysL (J:Hp) (ts:List Tie) (ks:List Nat) (ys:List V):Prop:=∀ v ∈ ys,∃ t W a b,v=.ref t/\J t=some (.tup (natV W))/\W.length<=24/\Far.MinW (arcsB ts ks) a b W
end L3
namespace Far
inductive W2 (B:List Arc) (s:Nat):Nat->Int->Int->Prop
 | nil:W2 B s s 0 0
 | snoc {u v:Nat} {x y l:Int} {k:Nat}:W2 B s u x y->(u,v,l,k) ∈ B->W2 B s v (x + l) (y + 2 ^ k)
end Far
namespace L3
open PySem PySem.Spec PyProof.Rows L2
def WKL (K:uac) (H:Hp) (n:Int) (ts:List Tie) (ks:List Nat) (wv:V) (kp:Addr):Prop:=Is K H (webD n ts) wv/\WebOk n ts/\H kp=some (.lst ((keepI ks).map V.int))/\KeepOk ts.length ks
end L3
namespace Far
def chn (R:Nat->Nat->Prop):List Nat->Prop
 | []=>True
 | [_]=>True
 | a::b::r=>R a b/\chn R (b::r)
section
variable {R:Nat->Nat->Prop}
theorem zcm:∀ {l m:List Nat} {x y:Nat},chn R (l++[x])->R x y->chn R (y::m)->chn R (l++[x]++y::m)
 | [],m,x,y,_,r,h=>⟨r,h⟩
 | [a],m,x,y,h1,r,h=>⟨h1.1,zcm (l:=[]) (x:=x) (y:=y) h1.2 r h⟩
 | a::b::l,m,x,y,h1,r,h=>⟨h1.1,zcm (l:=b::l) (x:=x) (y:=y) h1.2 r h⟩
theorem zcc:∀ {l m:List Nat} {x:Nat},chn R (l++x::m)->chn R (l++[x])/\chn R (x::m)
 | [],m,x,h=>⟨trivial,h⟩
 | [a],m,x,h=>⟨⟨h.1,trivial⟩,h.2⟩
 | a::b::l,m,x,h=>⟨⟨h.1,(zcc (l:=b::l) (x:=x) h.2).1⟩,(zcc (l:=b::l) (x:=x) h.2).2⟩
theorem zfs (sy:∀ u v,R u v->R v u):∀ {l:List Nat},chn R l->chn R l.reverse
 | [],_=>trivial
 | [_],_=>trivial
 | a::b::r,h=>by
  have ih:=zfs sy h.2
  rw[uel] at ih
  rw[uel,uel]
  exact zcm (l:=r.reverse) (m:=[]) ih (sy _ _ h.1) trivial
theorem zjb:∀ {l:List Nat} {i u v:Nat},chn R l->l[i]?=some u->l[i + 1]?=some v->R u v
 | [],i,u,v,_,e,_=>by cases e
 | [a],i,u,v,_,_,e=>by cases e
 | a::b::r,0,u,v,h,e1,e2=>by cases e1;cases e2;exact h.1
 | a::b::r,i + 1,u,v,h,e1,e2=>zjb (l:=b::r) h.2 e1 e2
def RingOf (ws:List Nat) (h:Nat) (tl:List Nat):Prop:=∃ p q,ws=p++h::q/\(tl=q++p\/tl=(q++p).reverse)
end
end Far
namespace L3
open PySem PySem.Spec PyProof.Rows L2
def adjK (ts:List Tie) (ks:List Nat) (u v:Nat):Prop:=∃ k,k ∈ ks/\tbN ts u v=some k
inductive spAlongW_i (K:uac) (vs:List V) (H:Hp) (Q:VK):Prop
 | mk:∀ (n:Int) (ts:List Tie) (wv:V) (t:Addr) (ws:List Nat),(vs=[wv,.ref t])->(Is K H (webD n ts) wv)->(ts.length<=60)->(H t=some (.tup (natV ws)))->(ws.length<=25)->(linked ts ws)->(∀ l H',Same H H'->H' l=some (.lst (natV (alongN ts ws)))->Q (.ref l) H')->spAlongW_i K vs H Q
def spAlongW (K:uac):Sp:=λ vs H Q _=>spAlongW_i K vs H Q
def Turn (h:Nat) (tl:List Nat):Prop:=(∀ x ∈ tl,h<=x)/\∀ u v p q,tl=u::p->tl=q++[v]->u<=v
end L3
namespace Stb
open PySem
def Asc (xs:Array Nat):Prop:=∀ i j,i < j->j < xs.size->xs.getD i 0 < xs.getD j 0
theorem zkf (xs:Array Nat) (j:Nat) (asc:Asc xs):∀ (fuel lo hi:Nat),lo<=hi->hi<=xs.size->hi - lo<=fuel->(∀ i,i < lo->xs.getD i 0 < j)->(∀ i,hi<=i->i < xs.size->j<=xs.getD i 0) ->
  (∀ i,i < SetTable.below.go xs j fuel lo hi->xs.getD i 0 < j)/\(∀ i,SetTable.below.go xs j fuel lo hi<=i->i < xs.size->j<=xs.getD i 0)/\SetTable.below.go xs j fuel lo hi<=xs.size
 | 0,lo,hi,h1,h2,h3,a,b=>by
  have e:lo=hi:=by left
  subst e
  exact⟨a,b,h2⟩
 | fuel + 1,lo,hi,h1,h2,h3,a,b=>by
  unfold SetTable.below.go
  by_cases c:lo < hi
  ·rw[if_pos c]
   have hm:(lo + hi) / 2 < xs.size:=by left
   have eg:xs.getD ((lo + hi) / 2) j=xs.getD ((lo + hi) / 2) 0:=by rw[uc4,uc4,ub3 hm];rfl
   by_cases d:xs.getD ((lo + hi) / 2) j < j
   ·simp only [if_pos d]
    refine zkf xs j asc fuel _ hi (by left) h2 (by left) (λ i hi'=>?_) b
    rcases uf9 (Nat.le_of_lt_succ hi') with z | z
    ·have:=asc i _ z hm;left
    ·rw[z];left
   ·simp only [if_neg d]
    refine zkf xs j asc fuel lo _ (by left) (by left) (by left) a (λ i hi' hs=>?_)
    rcases uf9 hi' with z | z
    ·have:=asc _ i z hs;left
    ·rw[← z];left
  ·rw[if_neg c]
   have e:lo=hi:=by left
   subst e
   exact⟨a,b,h2⟩
theorem zdu (xs:Array Nat) (j:Nat) (asc:Asc xs):(∀ i,i < SetTable.below xs j->xs.getD i 0 < j)/\(∀ i,SetTable.below xs j<=i->i < xs.size->j<=xs.getD i 0)/\SetTable.below xs j<=xs.size:=by
 unfold SetTable.below
 exact zkf xs j asc _ 0 xs.size (ubb _) (uai _) (by left) (λ i h=>by left) (λ i h1 h2=>by left)
theorem zms (xs:Array Nat) (asc:Asc xs) {i p:Nat} (h:xs[i]?=some p):SetTable.below xs (p + 1)=i + 1:=by
 obtain⟨hi,e⟩:=ugx.mp h
 have eg:xs.getD i 0=p:=by rw[uc4,h];rfl
 obtain⟨h1,h2,h3⟩:=zdu xs (p + 1) asc
 rcases ueo (SetTable.below xs (p + 1)) (i + 1) with z | z | z
 ·have:=h2 i (by left) hi;left
 ·exact z
 ·have a:=h1 (i + 1) z
  have b:=asc i (i + 1) (by left) (by left)
  left
theorem zmr (xs:Array Nat) (asc:Asc xs):SetTable.below xs 0=0:=by
 obtain⟨h1,_,_⟩:=zdu xs 0 asc
 rcases Nat.eq_zero_or_pos (SetTable.below xs 0) with z | z
 ·exact z
 ·have:=h1 0 z;left
theorem Asc.list {xs:Array Nat}:Asc xs↔xs.toList.Pairwise (· < ·):=by
 rw[ubh]
 have g:∀ i (h:i < xs.toList.length),xs.getD i 0=xs.toList[i]:=λ i h=>by
  have h':i < xs.size:=by simpa using h
  rw[uc4,ub3 h'];simp
 constructor
 ·intro a i j hi hj ij
  have:=a i j ij (by simpa using hj)
  rw[g i hi,g j hj] at this
  exact this
 ·intro a i j ij hj
  have hj':j < xs.toList.length:=by simpa using hj
  have:=a i j (by left) hj' ij
  rw[g i (by left),g j hj']
  exact this
theorem zmv {xs:Array Nat} {j:Nat} (asc:Asc xs) (new:xs[SetTable.below xs j]?≠some j):Asc (SetTable.insertAt xs (SetTable.below xs j) j):=by
 obtain⟨h1,h2,h3⟩:=zdu xs j asc
 rw[Asc.list,SetTable.toList_insertAt]
 have al:=Asc.list.mp asc
 have g:∀ i (h:i < xs.size),xs.getD i 0=xs[i]:=λ i h=>by rw[uc4,ub3 h];rfl
 have lo:∀ x ∈ xs.toList.take (SetTable.below xs j),x < j:=λ x hx=>by
  obtain⟨i,hi,e⟩:=ucl hx
  rw[uc1] at hi
  have hs:i < xs.size:=by simp at hi;left
  have:=h1 i (by left)
  rw[g i hs] at this
  rw[List.getElem_take] at e
  have e':xs[i]=x:=by simpa using e
  left
 have hi:∀ x ∈ xs.toList.drop (SetTable.below xs j),j < x:=λ x hx=>by
  obtain⟨i,hi,e⟩:=ucl hx
  rw[udl] at hi
  have hs:SetTable.below xs j + i < xs.size:=by simp at hi;left
  have:=h2 (SetTable.below xs j + i) (by left) hs
  rw[g _ hs] at this
  rw[List.getElem_drop] at e
  have e':xs[SetTable.below xs j + i]=x:=by simpa using e
  rcases uf9 this with z | z
  ·left
  ·exfalso
   rcases Nat.eq_zero_or_pos i with i0 | i0
   ·subst i0
    apply new
    rw[ub3 (by left)]
    simp at z
    rw[← z]
   ·have b0:SetTable.below xs j < xs.size:=by left
    have q1:=h2 (SetTable.below xs j) (uai _) b0
    have q2:=asc (SetTable.below xs j) (SetTable.below xs j + i) (by left) hs
    rw[g _ hs] at q2
    left
 refine uev.mpr ⟨al.sublist (List.take_sublist _ _),ucx.mpr ⟨λ x hx=>hi x hx,al.sublist (List.drop_sublist _ _)⟩,λ a ha b hb=>?_⟩
 rcases uar.mp hb with z | z
 ·rw[z];exact lo a ha
 ·have:=lo a ha;have:=hi b z;left
theorem zo8 (n:Nat):Asc (Array.range n):=by
 rw[Asc.list]
 simpa using ubz
def TI (b:Bool) (t:SetTable):Prop:=Asc t.place/\t.led=b
theorem zpo (b:Bool):TI b (.fresh 0 0 b):=⟨λ i j _ h=>by simp [SetTable.fresh] at h,rfl⟩
theorem zcz {b:Bool} {t:SetTable} (h:TI b t) (n:Nat):TI b (t.standIn n):=⟨zo8 n,h.2⟩
theorem zt9 {b:Bool} {t:SetTable} (h:TI b t) (n:Nat):TI b (t.orStandIn n):=by
 unfold SetTable.orStandIn
 split
 ·exact h
 ·exact zcz h n
theorem zpn {b:Bool} {t:SetTable} (h:TI b t):TI b { t with plain:=false }:=h
theorem zk0 {t:SetTable} {j:Nat} (h:t.slot j=.empty\/t.slot j=.dummy):t.place[SetTable.below t.place j]?≠some j:=λ e=>by
 unfold SetTable.slot at h
 have c:(t.place[SetTable.below t.place j]? == some j)=true:=by rw[e];simp
 simp only [c,if_true] at h
 rcases h with h | h <;> cases h
theorem zdn (t:SetTable) (hashAt:Nat->Int) (h:Int):∀ (f:Nat) (p:SetTable.Probe),(∀ d,p.dummy=some d->t.slot d=.dummy)->∀ j dm,SetTable.probe.go t hashAt h f p=some (.empty j dm)->t.slot j=.empty/\∀ d,dm=some d->t.slot d=.dummy
 | 0,p,_,j,dm,e=>by cases e
 | f + 1,p,hp,j,dm,e=>by
  have adv:∀ q:SetTable.Probe,(t.advance q).dummy=q.dummy:=λ q=>by
   unfold SetTable.advance
   split <;> rfl
  unfold SetTable.probe.go at e
  split at e
  ·rename_i hs
   injection e with e
   injection e with e1 e2
   subst e1;subst e2
   exact⟨hs,hp⟩
  ·rename_i hs
   refine zdn t hashAt h f _ (λ d hd=>?_) j dm e
   rw[adv] at hd
   have:p.j=d:=by simpa using hd
   rw[← this];exact hs
  ·split at e
   ·cases e
   ·refine zdn t hashAt h f _ (λ d hd=>?_) j dm e
    rw[adv] at hd
    exact hp d hd
theorem zqa {t:SetTable} {h:Int} {s:Nat} {w:Bool} (e:t.freeSlot h=some (s,w)):t.place[SetTable.below t.place s]?≠some s:=by
 unfold SetTable.freeSlot at e
 split at e
 ·rename_i j dm hm
  unfold SetTable.probe at hm
  obtain⟨h1,h2⟩:=zdn t _ h _ _ (λ d hd=>by cases hd) j dm hm
  injection e with e
  injection e with e1 _
  cases dm with
  | none=>exact zk0 (.inl (by rw[← e1];exact h1))
  | some d=>exact zk0 (.inr (by rw[← e1];exact h2 d rfl))
 ·cases e
theorem zm8 {b:Bool} {t:SetTable} (h:TI b t) (es:Array (Int × Value)) (k:Int) (x:Value):TI b (layNew t es k x).2.1:=by
 unfold layNew
 split
 ·rename_i s w e
  exact zt9 (t:=(t.put s).1) ⟨zmv h.1 (zqa e),h.2⟩ _
 ·exact zcz h _
theorem zop {f:Nat->Option Nat} (hf:∀ j y,f j=some y->y=j):∀ l:List Nat,(l.filterMap f).Sublist l
 | []=>.slnil
 | j::l=>by
  rw[ucm]
  cases e:f j with
  | none=>exact (zop hf l).cons j
  | some y=>rw[hf j y e];exact (zop hf l).cons₂ j
theorem zpm {b:Bool} {t:SetTable} (h:TI b t) (es:Array (Int × Value)) (wanted:Nat):TI b (relayAll t es wanted).2.1:=by
 unfold relayAll
 split
 ·rename_i t' order e
  dsimp only
  split
  ·unfold SetTable.relaid SetTable.laid at e
   simp only [Option.bind_eq_bind,Option.bind_eq_some_iff] at e
   obtain⟨owner,_,e⟩:=e
   injection e with e
   injection e with e1 _
   rw[← e1]
   refine⟨?_,h.2⟩
   rw[Asc.list]
   simp only [List.map_filterMap]
   refine ubz.sublist (zop (λ j y hy=>?_) _)
   cases c:owner.getD j none with
   | none=>rw[c] at hy;cases hy
   | some z=>rw[c] at hy;exact (uau hy).symm
  ·exact zcz h _
 ·exact zcz h _
end Stb
namespace Stb
open PySem PyProof.Rows
def ledOf (w:World):Bool:=!w.params.followText "set-order"
def TIat (w:World) (h:Heap) (a:Addr):Prop:=∃ o es ep t,h.get? a=some o/\o.data=.set es ep t/\TI (ledOf w) t
abbrev SetT (P:Program) (w:World) (h:Heap) (a:Addr) (S:Int->Bool) (n:Nat):Prop:=h.SetOf (intKind P w) a S n/\TIat w h a
section
variable {prog:Program} {w:World} {A:Around} {E:Value->Shared->Prop} {s:Shared}
theorem SetT.keep {h h':Heap} {a:Addr} {S:Int->Bool} {n:Nat} (x:SetT prog w h a S n) (k:∀ o,h.get? a=some o->h'.get? a=some o):SetT prog w h' a S n:=by
 obtain⟨⟨o,es,ep,t,ho,r⟩,o',es',ep',t',ho',r'⟩:=x
 exact⟨⟨o,es,ep,t,k _ ho,r⟩,o',es',ep',t',k _ ho',r'⟩
theorem zli {g:Bool->Sem Unit} (gp:∀ (b:Bool) (z:Shared) (U:Unit->Shared->Prop),U () z->wpAny (model prog w) A (g b) U E z) {S':Int->Bool}
  {a:Addr} {o:Obj} {es es1:Array (Int × Value)} {ep:Nat} {t t2:SetTable} (ho:s.heap.get? a=some o) (ox:o.ExactSet) (od:o.data=.set es ep t)
  (el:ElemsOf (intKind prog w) es1.toList) (me:∀ k,S' k=true↔∃ e ∈ es1.toList,(intKind prog w).is k e.2=true) (small:es1.size < scanBound) (fit:t2.fits es1.size=true) (ti:TI (ledOf w) t2) {dum:Bool} {R:Option Bool->Shared->Prop}
  (fin:∀ h',Heap.SameBut a s.heap h'->SetT prog w h' a S' es1.size->R (some true) { s with heap:=h' }) :
  wpAny (model prog w) A (do
      storeSet a es1 t2
      if (!dum && t2.tooFull) = true then do
          g (relayAll t2 es1 (SetTable.grown es1.size)).2.2
          storeSet a (relayAll t2 es1 (SetTable.grown es1.size)).1 (relayAll t2 es1 (SetTable.grown es1.size)).2.1
          pure (some true)
        else pure (some true)) R E s:=by
 refine uab (wpAny_storeSet_of ho od ?_ (ugy small))
 obtain⟨g1,s1⟩:=SetOf_store (knd:=intKind prog w) ho ox od el me small fit
 have sb:=Heap.SameBut.update s.heap a (Obj.putSet es1 t2)
 split
 ·have pm:=relayAll_perm t2 es1 (SetTable.grown es1.size)
  have fr:=relayAll_fits t2 es1 (SetTable.grown es1.size)
  have tr:=zpm ti es1 (SetTable.grown es1.size)
  generalize relayAll t2 es1 (SetTable.grown es1.size)=Rl at pm fr tr ⊢
  obtain⟨es2,t3,gv⟩:=Rl
  dsimp only at pm fr tr ⊢
  have sz:es2.size=es1.size:=by rw[← ub0,pm.length_eq,ub0]
  have sm2:es2.size < scanBound:=sz ▸ small
  refine uab (gp _ _ _ (uab (wpAny_storeSet_of g1 rfl ?_ (ugy sm2))))
  obtain⟨g2,s2⟩:=SetOf_store (knd:=intKind prog w) g1 ox rfl (el.perm pm) (λ k=>(me k).trans ⟨λ ⟨e,he,q⟩=>⟨e,pm.mem_iff.mpr he,q⟩,λ ⟨e,he,q⟩=>⟨e,pm.mem_iff.mp he,q⟩⟩) sm2 fr
  rw[sz] at s2
  exact uah (fin _ (sb.trans (Heap.SameBut.update _ a _)) ⟨s2,_,_,_,_,g2,rfl,tr⟩)
 ·exact uah (fin _ sb ⟨s1,_,_,_,_,g1,rfl,ti⟩)
theorem zul {a:Addr} {S:Int->Bool} {n:Nat} {k:Int} {x:Value} {Q:Bool->Shared->Prop} (kx:(intKind prog w).is k x=true) (sx:x.scannable=true) (st:SetT prog w s.heap a S n) (room:n + 1 < scanBound)
  (fin:∀ h',Heap.SameBut a s.heap h'->SetT prog w h' a (λ y=>S y || decide (y=k)) (if S k then n else n + 1)->Q (!S k) { s with heap:=h' }) :
  wpAny (model prog w) A (setAddHashed a x ((intKind prog w).hash k)) Q E s:=by
 obtain⟨⟨o,es,ep,t,ho,ox,od,el,me,small,fit,en⟩,o',es',ep',t',ho',od',ti⟩:=st
 rw[ho] at ho';cases ho'
 rw[od] at od';cases od'
 have small1:es.size + 1 < scanBound:=en ▸ room
 unfold setAddHashed setAddHashedIn
 refine ubk (uab (ud5 ho od fit ?_))
 dsimp only
 rw[byScan_of sx small el,if_pos rfl]
 unfold setAddByScan
 refine uab (uab (udj (uab (wpAny_setScan_of kx ho od fit el ?_))))
 cases fd:List.findIdx? (λ e=>(intKind prog w).is k e.2) es.toList with
 | some j =>
  dsimp only
  obtain⟨jl,jp,_⟩:=List.findIdx?_eq_some_iff_getElem.mp fd
  have sk:S k=true:=(me k).mpr ⟨es.toList[j],ud8 jl,jp⟩
  refine uah (uah ?_)
  have es0:s={ s with heap:=s.heap }:=by cases s;rfl
  have q:=fin s.heap (Heap.SameBut.refl a s.heap) ⟨⟨o,es,ep,t,ho,ox,od,el,λ y=>by
   rw[ude,decide_eq_true_eq,← me y]
   exact⟨λ z=>z.elim id (λ e=>e ▸ sk),.inl⟩,small,fit,by rw[sk];exact en⟩,o,es,ep,t,ho,od,ti⟩
  rw[sk] at q;rw[es0];exact q
 | none =>
  dsimp only
  have sk:S k=false:=by
   cases c:S k with
   | false=>rfl
   | true=>obtain⟨e,he,hp⟩:=(me k).mp c;have:=List.findIdx?_eq_none_iff.mp fd e he;rw[hp] at this;cases this
  have pm:=layNew_perm t es ((intKind prog w).hash k) x
  have ft:=layNew_fits t es ((intKind prog w).hash k) x
  have tl:=zm8 ti es ((intKind prog w).hash k) x
  generalize layNew t es ((intKind prog w).hash k) x=L at pm ft tl ⊢
  obtain⟨es1,t1,dum,gv⟩:=L
  dsimp only at pm ft tl ⊢
  rw[Array.toList_push] at pm
  have el1:ElemsOf (intKind prog w) es1.toList:=(el.push kx sx).perm pm
  have me1:∀ y,(S y || decide (y=k))=true↔∃ e ∈ es1.toList,(intKind prog w).is y e.2=true:=mem_push_iff kx me pm
  have ez:es1.size=es.size + 1:=by rw[← ub0,pm.length_eq,uaj,ub0];rfl
  have small2:es1.size < scanBound:=ez ▸ small1
  have gw:∀ (b:Bool) (z:Shared) (U:Unit->Shared->Prop),U () z->wpAny (model prog w) A (match b with | true=>rule "set.scan.the-table-gave-way" | false=>pure ()) U E z :=
   λ b z U hq=>by cases b <;> first | exact uah hq | exact udj hq
  refine uab (gw _ _ _ ?_)
  have last:∀ h',Heap.SameBut a s.heap h'->SetT prog w h' a (λ y=>S y || decide (y=k)) es1.size->Q true { s with heap:=h' }:=λ h' sb z=>by
   have q:=fin h' sb;rw[sk] at q;rw[ez,en] at z;exact q z
  split
  ·refine uab ?_
   rw[hashByValue_scannable 8 sx]
   refine uah (zli (λ b z U hq=>?_) ho ox od el1 me1 small2 ?_ ?_ λ h' sb z=>?_)
   ·cases b <;> first | exact uah hq | exact udj hq
   ·split
    ·exact ft
    ·exact SetTable.fits_plain_off ft
   ·split
    ·exact tl
    ·exact zpn tl
   ·dsimp only;exact uah (last h' sb z)
  ·refine uab (uah ?_)
   simp only [↓reduceIte]
   refine zli (λ b z U hq=>?_) ho ox od el1 me1 small2 ft tl λ h' sb z=>?_
   ·cases b <;> first | exact uah hq | exact udj hq
   ·dsimp only;exact uah (last h' sb z)
theorem ztx {R:Result->Shared->Prop} {I:Addr} {fp wr:List Addr} {G:Array GenState->Array GenState->Prop} {n:Nat} {P:Nat->Value->Prop} {St:Nat->Shared->Prop} (W:WalksS prog w A.in1 I fp wr G n P St) (a:Addr) (af:a ∉ fp)
  (val:Nat->Int) (hv:∀ i v,P i v->∃ t,v=.int (val i) t) (hb:n + 1 < scanBound) :
  ∀ (k i:Nat) (s:Shared),n - i=k->i<=n->St i s->SetT prog w s.heap a (λ y=>(firstMet val i).any (· == y)) (firstMet val i).length ->
   (∀ s',Moved (a::wr) G s s'->SetT prog w s'.heap a (λ y=>(firstMet val n).any (· == y)) (firstMet val n).length->R (.ok (.ret .none)) s') ->
   codeAny (model prog w) A (.builtin "set.update.loop" ⟨[.ref a,.ref I],[]⟩) R s:=by
 have aw:a ∉ wr:=λ h=>af (W.sub _ h)
 have up:∀ b ∈ wr,b ∈ a::wr:=λ b hb=>uap _ hb
 intro k
 induction k with
 | zero =>
  intro i s hk hi st x fin
  obtain rfl:i=n:=by left
  refine ucu ufc ?_
  rw[Around.under_plainId udm _]
  show wpAny _ A.in1 (pyNext (.ref I) >>= _) _ _ s
  refine uab (W.done s _ _ st λ s' hm=>?_)
  show wpAny _ A.in1 (ret Value.none) _ _ s'
  exact uah (fin s' (hm.mono up) (x.keep λ o e=>hm.heap a o aw e))
 | succ k ih =>
  intro i s hk hi st x fin
  have lt:i < n:=by left
  refine ucu ufc ?_
  rw[Around.under_plainId udm _]
  show wpAny _ A.in1 (pyNext (.ref I) >>= _) _ _ s
  refine uab (W.item i s _ _ lt st λ v s' hP st' hm=>?_)
  obtain⟨t,rfl⟩:=hv i v hP
  have x':=x.keep (prog:=prog) λ o e=>hm.heap a o aw e
  show wpAny _ A.in1 (holding [Value.int (val i) t] (setAdd a (.int (val i) t)) >>= _) _ _ s'
  refine uab (ubk ?_)
  unfold setAdd
  refine ubk (uab ((intKind prog w).pyHash (k:=val i) (intKind_is _ _ _ _) ?_))
  refine zul (s:={ s' with toks:=s'.toks + 1 }) (intKind_is _ _ _ _) rfl x' (by have:=firstMet_length_le val i;left) λ h' sb x2=>?_
  have x3:SetT prog w h' a (λ y=>(firstMet val (i + 1)).any (· == y)) (firstMet val (i + 1)).length :=
   ⟨SetOf_congr x2.1 (λ y=>by rw[firstMet_succ,step_any]) (by rw[firstMet_succ,step_length]),x2.2⟩
  refine uah ⟨udo udm _,ih (i + 1) _ (by left) lt (W.frame _ s' _ _ st' (uc2 _) λ b hb o e=>?_) x3 λ s'' hm2 x4=>?_⟩
  ·rw[sb.2 b (λ h:b=a=>af (by rw[← h];exact hb))];exact e
  ·refine fin s'' (Moved.trans W.gtrans ((hm.mono up).then_heap (uc2 _) λ b o hb e=>?_) hm2) x4
   rw[sb.2 b (λ h:b=a=>hb (by rw[h];exact ual))];exact e
end
end Stb
namespace Stb
open PySem PyProof.Rows
section
variable {prog:Program} {w:World} {A:Around} {E:Value->Shared->Prop} {s:Shared}
abbrev emp (w:World):Obj:={ cls:=.type "set",dict:=none,data:=.set #[] 0 (.fresh 0 0 (ledOf w)) }
theorem zub (x:Value) {U:Value->Shared->Prop} (fin:U (.ref s.heap.objs.size) { s with heap:=s.heap.push (emp w) }) :
  codeAny (model prog w) A (.call (.builtin "set.__new__") ⟨[.type "set",x],[]⟩) (wants U E) s:=by
 refine codeAny_of_tree ?_
 show wpAny _ A.in1 (checkBuiltinCall "set.__new__" ⟨[.type "set",x],[]⟩ >>= λ _=>again (.builtin "set.__new__" ⟨[.type "set",x],[]⟩)) _ _ s
 refine uab (wpAny_of_eq (PySem.F.newCall_set_1 x) (uah ⟨udo uhe _,ucu PySem.F.entry_set_new ?_⟩))
 rw[Around.under_plainId uhe _]
 unfold Builtin.«set.__new__» Builtin.Frozenset.newClass
 have sub1:=PySem.sub_set_self
 obtain⟨hp,g,d,tk,os⟩:=s
 dsimp only
 wp_walk
 refine ued (uah ?_)
 simp only [newObj]
 exact uab (wpAny_alloc (uah (uah fin)))
theorem zug (h:Heap):SetT prog w (h.push (emp w)) h.objs.size (λ y=>(firstMet (λ i=>([]:List Int).getD i 0) 0).any (· == y)) 0 :=
 ⟨SetOf_congr ((setObjOf_fresh (knd:=intKind prog w) (ledOf w)).setOf (Heap.get?_push_size _ rfl) (by unfold scanBound;left)) (λ _=>rfl) rfl,_,_,_,_,Heap.get?_push_size _ rfl,rfl,zpo _⟩
end
end Stb
namespace Stb
open PySem PyProof.Rows
theorem sl_next:Slot "set_iterator" "__next__" "set_iterator.__next__":=.of (owner:="set_iterator") (n:="__next__") (by rw[typeLookup_type,builtinLookup_eq_fast];kernel_rfl) (by symm) (by symm) (by symm) (by first | exact .inl (by symm) | exact .inr (by symm)) (by rw[isSubtype_type];kernel_rfl)
theorem zhj:entryFor table "set_iterator.__next__"=some Builtin.«set_iterator.__next__»:=entryFor_of_tree (by kernel_rfl)
theorem znr:Manifest.owners.lookup (String.ofList ['r','o','t','a','r','e','t','i','_','t','e','s'].reverse)=some Manifest.sig_set_iterator:=by kernel_rfl
theorem zia (a:Value):argsOk "set_iterator.__next__" ⟨[a],[]⟩:=by
 unfold argsOk;rw[signature?_of (id:="set_iterator.__next__") (n:=['_','_','t','x','e','n','_','_']) (o:=['r','o','t','a','r','e','t','i','_','t','e','s']) (by kernel_rfl) znr];kernel_rfl
theorem zsx:entryFor table "set.__iter__"=some Builtin.«frozenset.__iter__»:=entryFor_alias (id':="frozenset.__iter__") (by kernel_rfl) rfl (by symm) (by kernel_rfl)
theorem zrb {α:Type} {l:List α} {i:Nat} (h:i < l.length):(l[i]::l.eraseIdx i).Perm l:=by
 rw[List.eraseIdx_eq_take_drop_succ]
 refine List.perm_middle.symm.trans ?_
 rw[← ufa h,uca]
theorem znm {α:Type} (next:Nat->Nat):∀ (f k:Nat) (left:List α) (out:Array α),left.length=f->(pickOrder.go next f k left out).toList.Perm (out.toList++left)
 | 0,k,left,out,h=>by
  have:left=[]:=uef.mp h
  subst this
  unfold pickOrder.go
  simp
 | f + 1,k,left,out,h=>by
  have lt:next k % left.length < left.length:=Nat.mod_lt _ (by left)
  unfold pickOrder.go
  rw[uad lt]
  dsimp only
  refine (znm next f (k + 1) _ _ (by rw[ug3 lt];left)).trans ?_
  rw[Array.toList_push,uce]
  refine ug4 _ ?_
  exact zrb lt
theorem znl {α:Type} (next:Nat->Nat) (xs:Array α):(pickOrder next xs).toList.Perm xs.toList:=by
 unfold pickOrder
 simpa using znm next xs.size 0 xs.toList #[] (by simp)
section
variable {prog:Program} {w:World} {A:Around} {E:Value->Shared->Prop} {s:Shared}
theorem zm0 {M:Model} {src:Source} {n:Nat} {Q:Nat->Shared->Prop} (hn:n≠0) (h:∀ i,i < n->Q i { s with drawn:=s.drawn.bump src }):wpAny M A (choose src n) Q E s:=λ Γ p hΓ=>by
 unfold choose
 rw[Sem.wp_choose]
 exact⟨hn,by exact h _ (Nat.mod_lt _ (Nat.pos_of_ne_zero hn))⟩
theorem zic {α:Type} {M:Model} (n:Nat):∀ (xs:List α) (s:Shared) (Q:List α->Shared->Prop),xs.length=n->(∀ ys d',ys.Perm xs->Q ys { s with drawn:=d' })->wpAny M A (drawOrder n xs) Q E s:=by
 induction n with
 | zero =>
  intro xs s Q h hQ
  have:xs=[]:=uef.mp h
  subst this
  unfold drawOrder
  exact uah (hQ [] s.drawn .nil)
 | succ n ih =>
  intro xs s Q h hQ
  cases xs with
  | nil=>cases h
  | cons x xs =>
   unfold drawOrder
   refine uab (zm0 (by simp) λ i hi=>?_)
   rw[uad hi]
   refine uab (ih _ _ _ (by rw[ug3 hi];simp at h ⊢;left) λ ys d' pm=>uah (hQ _ d' ?_))
   exact (List.Perm.cons _ pm).trans (zrb hi)
end
end Stb
namespace Stb
open PySem PyProof.Rows
inductive Knd where
 | text
 | drawn (p:Addr) (pl:List Nat)
 | places
def First (w:World) (a:Addr) (es:Array (Int × Value)) (ep:Nat) (t:SetTable) (ord:List (Int × Value)) (i:Nat) (h:Heap) (first:Value):Knd->Prop
 | .text=>ledOf w=false/\ord=(pickOrder (w.params.setOrder a ep) es).toList/\∃ z:Nat,first=.int z 0
 | .drawn p pl=>first=.ref p/\h.IsTuple p (pl.map λ i=>rawInt (i:Nat)).toArray/\ord.length=pl.length/\∀ j k:Nat,pl[j]?=some k->∃ e,es[k]?=some e/\ord[j]?=some e
 | .places=>ledOf w=true/\(t.plain=true\/es.size<=1)/\ord=es.toList/\∃ z:Nat,first=.int z 0/\SetTable.below t.place z=i
def IsSet (h:Heap) (a:Addr) (es:Array (Int × Value)) (ep:Nat) (t:SetTable):Prop:=∃ o,h.get? a=some o/\o.cls=.type "set"/\o.data=.set es ep t
def IsIt (h:Heap) (I a:Addr) (n ep i:Nat) (first:Value):Prop:=∃ o,h.get? I=some o/\o.cls=.type "set_iterator"/\o.data=.fields #[first,.int i 0,.ref a,.int n 0,.int ep 0]
section
variable {prog:Program} {w:World} {A:Around} {E:Value->Shared->Prop} {s:Shared} {a I:Addr} {es:Array (Int × Value)} {ep:Nat} {t:SetTable}
theorem ziz {Q:Option (Value × Nat)->Shared->Prop} {z i:Nat} (hs:IsSet s.heap a es ep t) (fit:t.fits es.size=true) (hl:ledOf w=false)
  (h:Q (((pickOrder (w.params.setOrder a ep) es)[i]?).map λ e=>(e.2,z)) s):wpAny (model prog w) A (setNext a z i ep) Q E s:=by
 obtain⟨o,ho,_,od⟩:=hs
 have ft:w.params.followText "set-order"=true:=by simpa [ledOf] using hl
 unfold setNext setsByText
 refine uab (ud5 ho od fit ?_)
 refine uab (uab (ued (uah ?_)))
 show wpAny _ _ (if w.params.followText "set-order"=true then _ else _) _ _ _
 rw[if_pos ft]
 dsimp only
 rw[if_neg (by simp)]
 refine uab ?_
 unfold setWalk setsByText
 refine uab (ud5 ho od fit ?_)
 refine uab (uab (ued (uah ?_)))
 show wpAny _ _ (if w.params.followText "set-order"=true then _ else _) _ _ _
 rw[if_pos ft]
 exact uab (ued (uah (uah h)))
theorem zfe {Q:Option (Value × Nat)->Shared->Prop} {z i:Nat} (hs:IsSet s.heap a es ep t) (fit:t.fits es.size=true) (ti:TI (ledOf w) t) (hl:ledOf w=true) (hp:t.plain=true\/es.size<=1)
  (h:Q (match es[SetTable.below t.place z]?,t.place[SetTable.below t.place z]? with | some (_,x),some j=>some (x,j + 1) | _,_=>none) s):wpAny (model prog w) A (setNext a z i ep) Q E s:=by
 obtain⟨o,ho,_,od⟩:=hs
 have ft:w.params.followText "set-order"=false:=by simpa [ledOf] using hl
 unfold setNext setsByText
 refine uab (ud5 ho od fit ?_)
 refine uab (uab (ued (uah ?_)))
 show wpAny _ _ (if w.params.followText "set-order"=true then _ else _) _ _ _
 rw[if_neg (by rw[ft];exact uas)]
 dsimp only
 show wpAny _ _ (if (!t.plain && decide (es.size > 1))=true then _ else _) _ _ _
 rw[if_neg (by rcases hp with z | z <;> simp [z])]
 show wpAny _ _ ((if (!t.led && !es.isEmpty)=true then unsupported "set:maker-not-led" else pure ()) >>= _) _ _ _
 rw[if_neg (by rw[ti.2,hl];simp)]
 exact uab (uah (uah h))
theorem IsIt.set0 {h:Heap} {n ep i:Nat} {first:Value} (x:IsIt h I a n ep i first) (v:Value):IsIt (h.update I (Obj.mapFields (·.setIfInBounds 0 v))) I a n ep i v:=by
 obtain⟨o,ho,hc,hd⟩:=x
 exact⟨_,Heap.get?_update_self _ ho (Obj.isFreed_of_fields (Obj.data_mapFields hd _)),(Obj.cls_mapFields ..).trans hc,by rw[Obj.data_mapFields hd];simp⟩
theorem IsIt.set1 {h:Heap} {n ep i:Nat} {first:Value} (x:IsIt h I a n ep i first):IsIt (h.update I (Obj.mapFields (·.setIfInBounds 1 (rawInt ((i:Int) + 1))))) I a n ep (i + 1) first:=by
 obtain⟨o,ho,hc,hd⟩:=x
 exact⟨_,Heap.get?_update_self _ ho (Obj.isFreed_of_fields (Obj.data_mapFields hd _)),(Obj.cls_mapFields ..).trans hc,by rw[Obj.data_mapFields hd];simp [rawInt]⟩
theorem zkz {Q:PySem.Fin->Shared->Prop} (hh:A.handled=none) (hE:∀ (e:Value) (h':Heap),(∀ b o,s.heap.get? b=some o->h'.get? b=some o)->Shared.TypeIs { s with heap:=h' } e "StopIteration"->E e { s with heap:=h' }) :
  wpAny (model prog w) A (newExc (.type "StopIteration") [] >>= λ e=>raiseNew e) Q E s:=by
 refine uab ?_
 simp only [newExc,newTuple]
 refine uab (ubx ?_ (by size_fits))
 refine uab (m:=firstArgMember _ _) (wpAny_of_eq (a:=Value.none) (by first | rfl | (simp only [firstArgMember];rfl)) (ubx ?_ (by size_fits)))
 simp only [raiseNew]
 refine uab (wpAny_handled ?_)
 rw[hh]
 refine uab (uah (wpAny_throw ?_))
 refine hE _ _ (λ b o e=>Heap.get?_push_of_some _ (Heap.get?_push_of_some _ e)) ?_
 exact⟨_,Heap.get?_push_size _ rfl,rfl⟩
section
variable {Q:Option Value->Shared->Prop} {i:Nat}
theorem zll {x:Value} {z nx:Nat} (hs:IsSet s.heap a es ep t) (fit:t.fits es.size=true) (hit:IsIt s.heap I a es.size ep i (.int z 0))
  (hn:∀ (A':Around) (Q':Option (Value × Nat)->Shared->Prop) (E':Value->Shared->Prop),Q' (some (x,nx)) s->wpAny (model prog w) A' (setNext a z i ep) Q' E' s)
  (hQ:∀ h',IsIt h' I a es.size ep (i + 1) (.int nx 0)->Heap.SameBut I s.heap h'->Q (some x) { s with heap:=h' }):wpAny (model prog w) A (pyNext (.ref I)) Q E s:=by
 obtain⟨oi,hi,ci,di⟩:=id hit
 obtain⟨o,ho,_,od⟩:=hs
 unfold pyNext
 refine uab (ud7 (ubl (name:=Str.ofString "__next__") ⟨oi,hi,ci⟩ sl_next (ubi sl_next ⟨oi,hi,ci⟩ zhj ?_ (zia _))))
 show wpAny _ _ (fieldsOf (.ref I) >>= _) _ _ s
 refine uab (ugd hi di ?_)
 show wpAny _ _ (setEntries a >>= _) _ _ s
 refine uab (ueh ho od fit ?_)
 dsimp only
 rw[if_neg (by simp)]
 show wpAny _ _ (setNext a z i ep >>= _) _ _ s
 refine uab (hn _ _ _ ?_)
 dsimp only
 refine uab (uds hi di (by simp) ?_)
 obtain⟨o1,hi1,ci1,di1⟩:=id (hit.set0 (rawInt nx))
 refine uab (uds hi1 di1 (by simp) (uah ⟨x,rfl,uah (hQ _ ?_ ((Heap.SameBut.update ..).trans (Heap.SameBut.update ..)))⟩))
 exact (hit.set0 (rawInt nx)).set1
theorem zoi {z:Nat} (hh:A.handled=none) (hs:IsSet s.heap a es ep t) (fit:t.fits es.size=true) (hit:IsIt s.heap I a es.size ep i (.int z 0))
  (hn:∀ (A':Around) (Q':Option (Value × Nat)->Shared->Prop) (E':Value->Shared->Prop),Q' none s->wpAny (model prog w) A' (setNext a z i ep) Q' E' s)
  (hQ:∀ h',(∀ b o,b≠I->s.heap.get? b=some o->h'.get? b=some o)->Q none { s with heap:=h' }):wpAny (model prog w) A (pyNext (.ref I)) Q E s:=by
 obtain⟨oi,hi,ci,di⟩:=id hit
 obtain⟨o,ho,_,od⟩:=hs
 unfold pyNext
 refine uab (ud7 (ubl (name:=Str.ofString "__next__") ⟨oi,hi,ci⟩ sl_next (ubi sl_next ⟨oi,hi,ci⟩ zhj ?_ (zia _))))
 show wpAny _ _ (fieldsOf (.ref I) >>= _) _ _ s
 refine uab (ugd hi di ?_)
 show wpAny _ _ (setEntries a >>= _) _ _ s
 refine uab (ueh ho od fit ?_)
 dsimp only
 rw[if_neg (by simp)]
 show wpAny _ _ (setNext a z i ep >>= _) _ _ s
 refine uab (hn _ _ _ ?_)
 dsimp only
 refine uab (uds hi di (by simp) (zkz hh λ e h' hk ty=>?_))
 refine uab (ue3 (T:="StopIteration") (b:=true) ty uge (uah (hQ _ λ b o hb e=>hk b o ?_)))
 exact (Heap.get?_update_other _ _ (Ne.symm hb)).trans e
theorem zps {x:Value} {p:Addr} {pl:List Nat} {k:Nat} {hx:Int} (hs:IsSet s.heap a es ep t) (fit:t.fits es.size=true) (hit:IsIt s.heap I a es.size ep i (.ref p)) (hp:s.heap.IsTuple p (pl.map λ i=>rawInt (i:Nat)).toArray)
  (hk:pl[i]?=some k) (he:es[k]?=some (hx,x)) (hQ:∀ h',IsIt h' I a es.size ep (i + 1) (.ref p)->Heap.SameBut I s.heap h'->Q (some x) { s with heap:=h' }):wpAny (model prog w) A (pyNext (.ref I)) Q E s:=by
 obtain⟨oi,hi,ci,di⟩:=id hit
 obtain⟨o,ho,_,od⟩:=hs
 obtain⟨ol,hol,_,nl,hdl⟩:=hp
 unfold pyNext
 refine uab (ud7 (ubl (name:=Str.ofString "__next__") ⟨oi,hi,ci⟩ sl_next (ubi sl_next ⟨oi,hi,ci⟩ zhj ?_ (zia _))))
 show wpAny _ _ (fieldsOf (.ref I) >>= _) _ _ s
 refine uab (ugd hi di ?_)
 show wpAny _ _ (setEntries a >>= _) _ _ s
 refine uab (ueh ho od fit ?_)
 dsimp only
 rw[if_neg (by simp)]
 show wpAny _ _ (seqItems? (.ref p) >>= _) _ _ s
 refine uab (ucn hol hdl ?_)
 have ek:(pl.map λ i=>rawInt (i:Nat)).toArray[i]?=some (.int k 0):=by rw[List.getElem?_toArray,uaq,hk];rfl
 simp only [ua1,ek]
 show wpAny _ _ (setNextDrawn a k ep >>= _) _ _ s
 refine uab ?_
 unfold setNextDrawn
 refine uab (ud5 ho od fit ?_)
 dsimp only
 rw[if_neg (by simp),he]
 refine uah (uab (uds hi di (by simp) (uah ⟨x,rfl,uah (hQ _ hit.set1 (Heap.SameBut.update ..))⟩)))
theorem zr4 {p:Addr} {pl:List Nat} (hh:A.handled=none) (hs:IsSet s.heap a es ep t) (fit:t.fits es.size=true) (hit:IsIt s.heap I a es.size ep i (.ref p)) (hp:s.heap.IsTuple p (pl.map λ i=>rawInt (i:Nat)).toArray)
  (hk:pl[i]?=none) (hQ:∀ h',(∀ b o,b≠I->s.heap.get? b=some o->h'.get? b=some o)->Q none { s with heap:=h' }):wpAny (model prog w) A (pyNext (.ref I)) Q E s:=by
 obtain⟨oi,hi,ci,di⟩:=id hit
 obtain⟨o,ho,_,od⟩:=hs
 obtain⟨ol,hol,_,nl,hdl⟩:=hp
 unfold pyNext
 refine uab (ud7 (ubl (name:=Str.ofString "__next__") ⟨oi,hi,ci⟩ sl_next (ubi sl_next ⟨oi,hi,ci⟩ zhj ?_ (zia _))))
 show wpAny _ _ (fieldsOf (.ref I) >>= _) _ _ s
 refine uab (ugd hi di ?_)
 show wpAny _ _ (setEntries a >>= _) _ _ s
 refine uab (ueh ho od fit ?_)
 dsimp only
 rw[if_neg (by simp)]
 show wpAny _ _ (seqItems? (.ref p) >>= _) _ _ s
 refine uab (ucn hol hdl ?_)
 have ek:(pl.map λ i=>rawInt (i:Nat)).toArray[i]?=none:=by rw[List.getElem?_toArray,uaq,hk];rfl
 simp only [ua1,ek]
 refine uab (uds hi di (by simp) ?_)
 obtain⟨o1,hi1,ci1,di1⟩:=id (hit.set0 (rawInt 0))
 refine uab (uds hi1 di1 (by simp) (zkz hh λ e h' hk ty=>?_))
 refine uab (ue3 (T:="StopIteration") (b:=true) ty uge (uah (hQ _ λ b o hb e=>hk b o ?_)))
 exact (Heap.get?_update_other _ _ (Ne.symm hb)).trans ((Heap.get?_update_other _ _ (Ne.symm hb)).trans e)
end
end
end Stb
namespace Stb
open PySem PyProof.Rows
theorem zna:Slot "set_iterator" "__iter__" "set_iterator.__iter__":=.of (owner:="set_iterator") (n:="__iter__") (by rw[typeLookup_type,builtinLookup_eq_fast];kernel_rfl) (by symm) (by symm) (by symm) (by first | exact .inl (by symm) | exact .inr (by symm)) (by rw[isSubtype_type];kernel_rfl)
theorem zqf:entryFor table "set_iterator.__iter__"=some Builtin.«dict_keyiterator.__iter__»:=entryFor_alias (id':="dict_keyiterator.__iter__") (by kernel_rfl) (by first | rfl | decide +kernel | (unfold String.splitOn;simp +decide [String.splitOnAux])) (by symm) (by kernel_rfl)
theorem zs4 (a:Value):argsOk "set_iterator.__iter__" ⟨[a],[]⟩:=by
 unfold argsOk;rw[signature?_of (id:="set_iterator.__iter__") (n:=['_','_','r','e','t','i','_','_']) (o:=['r','o','t','a','r','e','t','i','_','t','e','s']) (by kernel_rfl) znr];kernel_rfl
section
variable {prog:Program} {w:World} {A:Around} {E:Value->Shared->Prop} {s:Shared} {a I:Addr} {es:Array (Int × Value)} {ep:Nat} {t:SetTable}
theorem zof {Q:Value->Shared->Prop} {n i:Nat} {f:Value} (hit:IsIt s.heap I a n ep i f) (h:Q (.ref I) s):wpAny (model prog w) A (pyIter (.ref I)) Q E s:=by
 obtain⟨oi,hi,ci,di⟩:=id hit
 refine wpAny_pyIter_slot ⟨oi,hi,ci⟩ zna (ubi zna ⟨oi,hi,ci⟩ zqf ?_ (zs4 _))
 show wpAny _ _ (ret (.ref I)) _ _ s
 exact uah ⟨_,rfl,"set_iterator",_,⟨oi,hi,ci⟩,sl_next.lookup,h⟩
def fpK (I a:Addr):Knd->List Addr
 | .drawn p _=>[I,a,p]
 | _=>[I,a]
def StK (w:World) (a I:Addr) (es:Array (Int × Value)) (ep:Nat) (t:SetTable) (ord:List (Int × Value)) (kd:Knd) (i:Nat) (h:Heap):Prop :=
 IsSet h a es ep t/\∃ first,IsIt h I a es.size ep i first/\First w a es ep t ord i h first kd
theorem zue (I a:Addr):∀ kd,I ∈ fpK I a kd/\a ∈ fpK I a kd
 | .text=>by simp [fpK]
 | .drawn _ _=>by simp [fpK]
 | .places=>by simp [fpK]
theorem zpf {ord:List (Int × Value)} {kd:Knd} (hh:A.handled=none) (aI:a≠I) (fit:t.fits es.size=true) (ti:TI (ledOf w) t) (hpI:∀ p pl,kd=.drawn p pl->p≠I) (pm:ord.Perm es.toList) :
  Walks prog w A I (fpK I a kd) [I] ord.length (λ i v=>∃ e,ord[i]?=some e/\v=e.2) (StK w a I es ep t ord kd) where
 sub:=λ b hb=>by simp at hb;rw[hb];exact (zue I a kd).1
 frame:=λ i h h' st hk=>by
  obtain⟨⟨o,ho,r⟩,f,⟨oi,hi,ri⟩,fk⟩:=st
  refine⟨⟨o,hk a (zue I a kd).2 o ho,r⟩,f,⟨oi,hk I (zue I a kd).1 oi hi,ri⟩,?_⟩
  cases kd with
  | text=>exact fk
  | places=>exact fk
  | drawn p pl =>
   obtain⟨e,⟨op,hp,rp⟩,rest⟩:=fk
   exact⟨e,⟨op,hk p (by simp [fpK]) op hp,rp⟩,rest⟩
 self:=λ i s Q E st hQ=>by
  obtain⟨_,f,hit,_⟩:=st
  exact zof hit hQ
 item:=λ i s Q E hi st hQ=>by
  obtain⟨hs,f,hit,fk⟩:=st
  have hsK:∀ h',Heap.SameBut I s.heap h'->IsSet h' a es ep t:=λ h' sb=>by
   obtain⟨o,ho,r⟩:=hs
   exact⟨o,sb.extBut a o aI ho,r⟩
  have kp:∀ h',Heap.SameBut I s.heap h'->∀ b o,b ∉ [I]->s.heap.get? b=some o->h'.get? b=some o:=λ h' sb b o hb e=>sb.extBut b o (λ z=>hb (by simp [z])) e
  have oi:ord[i]?=some ord[i]:=uad hi
  cases kd with
  | text =>
   obtain⟨hl,eo,z,rfl⟩:=fk
   have ei:(pickOrder (w.params.setOrder a ep) es)[i]?=some ord[i]:=by rw[← uda,← eo];exact oi
   refine zll (x:=ord[i].2) (nx:=z) hs fit hit (λ A' Q' E' q=>ziz hs fit hl ?_) λ h' hit' sb=>hQ _ h' s.toks ⟨_,oi,rfl⟩ ⟨hsK h' sb,_,hit',hl,eo,z,rfl⟩ (kp h' sb)
   rw[ei];exact q
  | places =>
   obtain⟨hl,hp,eo,z,rfl,eb⟩:=fk
   have ei:es[i]?=some ord[i]:=by rw[← uda,← eo];exact oi
   have szp:t.place.size=es.size:=by
    simp only [SetTable.fits,ubv,beq_iff_eq] at fit
    exact fit.1
   have il:i < t.place.size:=by rw[szp];exact (ugx.mp ei).1
   have ep':t.place[i]?=some t.place[i]:=ub3 il
   refine zll (x:=ord[i].2) (nx:=t.place[i] + 1) hs fit hit (λ A' Q' E' q=>zfe hs fit ti hl hp ?_) λ h' hit' sb=>hQ _ h' s.toks ⟨_,oi,rfl⟩ ⟨hsK h' sb,_,hit',hl,hp,eo,_,rfl,zms _ ti.1 ep'⟩ (kp h' sb)
   rw[eb,ei,ep'];exact q
  | drawn p pl =>
   obtain⟨rfl,hp,el,hj⟩:=fk
   have il:i < pl.length:=el ▸ hi
   obtain⟨e,ek,eo⟩:=hj i _ (uad il)
   obtain⟨hx,x⟩:=e
   refine zps (x:=x) hs fit hit hp (uad il) ek λ h' hit' sb=>hQ _ h' s.toks ⟨_,eo,rfl⟩ ⟨hsK h' sb,_,hit',rfl,?_,el,hj⟩ (kp h' sb)
   obtain⟨op,hop,rp⟩:=hp
   exact⟨op,sb.extBut p op (hpI p pl rfl) hop,rp⟩
 done:=λ s Q E st hQ=>by
  obtain⟨hs,f,hit,fk⟩:=st
  have lo:ord.length=es.size:=by rw[pm.length_eq,ub0]
  have kp:∀ h':Heap,(∀ b o,b≠I->s.heap.get? b=some o->h'.get? b=some o)->∀ b o,b ∉ [I]->s.heap.get? b=some o->h'.get? b=some o:=λ h' k b o hb e=>k b o (λ z=>hb (by simp [z])) e
  cases kd with
  | text =>
   obtain⟨hl,eo,z,rfl⟩:=fk
   refine zoi hh hs fit hit (λ A' Q' E' q=>ziz hs fit hl ?_) λ h' k=>hQ h' s.toks (kp h' k)
   have:(pickOrder (w.params.setOrder a ep) es)[ord.length]?=none:=by rw[← uda,← eo,ubd (uai _)]
   rw[this];exact q
  | places =>
   obtain⟨hl,hp,eo,z,rfl,eb⟩:=fk
   refine zoi hh hs fit hit (λ A' Q' E' q=>zfe hs fit ti hl hp ?_) λ h' k=>hQ h' s.toks (kp h' k)
   have:es[ord.length]?=none:=by rw[lo];simp
   rw[eb,this];exact q
  | drawn p pl =>
   obtain⟨rfl,hp,el,hj⟩:=fk
   exact zr4 hh hs fit hit hp (by rw[el,ubd (uai _)]) λ h' k=>hQ h' s.toks (kp h' k)
end
end Stb
namespace Stb
open PySem PyProof.Rows
section
variable {prog:Program} {w:World} {A:Around} {E:Value->Shared->Prop} {s:Shared} {a:Addr} {es:Array (Int × Value)} {ep:Nat} {t:SetTable}
theorem zp4 {Q:Bool->Shared->Prop} (hs:IsSet s.heap a es ep t) (fit:t.fits es.size=true) (h:Q (ledOf w && (!t.plain && decide (es.size > 1))) s):wpAny (model prog w) A (setDrawn a) Q E s:=by
 obtain⟨o,ho,_,od⟩:=hs
 unfold setDrawn setsByText
 refine uab (ud5 ho od fit ?_)
 exact uab (uab (ued (uah (uah h))))
theorem zp3 {Q:Value->Shared->Prop} (hs:IsSet s.heap a es ep t) (fit:t.fits es.size=true) (ti:TI (ledOf w) t) (small:es.size<=4096)
  (h:∀ (I:Addr) (h':Heap) (d':Drawn) (ord:List (Int × Value)) (kd:Knd),(∀ b o,s.heap.get? b=some o->h'.get? b=some o)->s.heap.objs.size<=I->(∀ p pl,kd=.drawn p pl->p≠I/\s.heap.objs.size<=p)->ord.Perm es.toList->StK w a I es ep t ord kd 0 h' ->
   Q (.ref I) { s with heap:=h',drawn:=d' }):wpAny (model prog w) A (pyIter (.ref a)) Q E s:=by
 obtain⟨o,ho,oc,od⟩:=id hs
 refine wpAny_pyIter_slot ⟨o,ho,oc⟩ uhd (ubi uhd ⟨o,ho,oc⟩ zsx ?_ (PySem.F.args_set_iter_1 _))
 unfold Builtin.«frozenset.__iter__» Builtin.Frozenset.sizeOf
 show wpAny _ _ ((setEntries a >>= λ x=>pure x.size) >>= _) _ _ s
 refine uab (uab (ueh ho od fit (uah (uab (zp4 hs fit ?_)))))
 have lastT : ∀ (h1 : Heap) (first : Value) (d' : Drawn) (ord : List (Int × Value)) (kd : Knd), (∀ b o, s.heap.get? b = some o → h1.get? b = some o) → s.heap.objs.size <= h1.objs.size → (∀ p pl, kd = .drawn p pl → p < h1.objs.size /\ s.heap.objs.size <= p) → ord.Perm es.toList → (∀ h', (∀ b o, h1.get? b = some o → h'.get? b = some o) → First w a es ep t ord 0 h' first kd) →
     wpAny (model prog w) A.in1 (setEpoch a >>= λ e=>newFields "set_iterator" [first,rawInt 0,.ref a,rawInt es.size,rawInt e] >>= λ v=>ret v) (λ fin s'=>∃ v,fin=.done (.ret v)/\∃ T' r,s'.TypeIs v T'/\typeLookup (.type T') (Str.ofString "__next__")=pure (some r)/\Q v s') E { s with heap:=h1,drawn:=d' }:=λ h1 first d' ord kd hk sz hp pm hf=>by
  refine uab (wpAny_setEpoch_of (hk a o ho) od fit (uab (ubx (uah ⟨_,rfl,"set_iterator",_,⟨_,Heap.get?_push_size _ rfl,rfl⟩,sl_next.lookup,?_⟩))))
  exact h _ _ d' ord kd (λ b o e=>Heap.get?_push_of_some _ (hk b o e)) sz (λ p pl e=>⟨uaw (hp p pl e).1,(hp p pl e).2⟩) pm ⟨⟨o,Heap.get?_push_of_some _ (hk a o ho),oc,od⟩,first,⟨_,Heap.get?_push_size _ rfl,rfl,rfl⟩,hf _ λ b o e=>Heap.get?_push_of_some _ e⟩
 dsimp only
 have es0:s={ s with heap:=s.heap,drawn:=s.drawn }:=by cases s;rfl
 by_cases c:(ledOf w && (!t.plain && decide (es.size > 1)))=true
 ·rw[if_pos c]
  refine uab (zic _ _ _ _ (by simp) λ ys d' pm=>?_)
  have yl:ys.length=es.size:=by rw[pm.length_eq,uba]
  have line:es.size<=sizeLine:=by rw[ucf];left
  refine uab (ubx ?_ (by show (ys.map λ i=>rawInt (i:Nat)).toArray.size<=sizeLine;simpa [yl] using line))
  have ordE:∀ k ∈ ys,∃ e,es[k]?=some e:=λ k hk=>by
   have:k < es.size:=by simpa using pm.mem_iff.mp hk
   exact⟨_,ub3 this⟩
  have fm:∀ l:List Nat,(∀ k ∈ l,∃ e,es[k]?=some e)->(l.filterMap (es[·]?)).length=l.length/\∀ j k:Nat,l[j]?=some k->∃ e,es[k]?=some e/\(l.filterMap (es[·]?))[j]?=some e:=λ l=>by
   induction l with
   | nil=>exact λ _=>⟨rfl,λ j k e=>by simp at e⟩
   | cons x l ih =>
    intro hx
    obtain⟨e,he⟩:=hx x (by simp)
    obtain⟨h1,h2⟩:=ih λ k hk=>hx k (uap _ hk)
    rw[uhh (b:=e) he]
    refine⟨by simp [h1],λ j k ej=>?_⟩
    cases j with
    | zero=>simp at ej;subst ej;exact⟨e,he,rfl⟩
    | succ j=>simp only [List.getElem?_cons_succ] at ej ⊢;exact h2 j k ej
  obtain⟨f1,f2⟩:=fm ys ordE
  refine lastT _ (.ref s.heap.objs.size) d' (ys.filterMap (es[·]?)) (.drawn s.heap.objs.size ys) (λ b o e=>Heap.get?_push_of_some _ e) (by rw[Heap.size_push];exact uc2 _) (λ p pl e=>by cases e;rw[Heap.size_push];exact⟨ucj _,uai _⟩) ?_ λ h' k=>⟨rfl,⟨_,k _ _ (Heap.get?_push_size _ rfl),rfl,_,rfl⟩,f1,f2⟩
  exact (pm.filterMap _).trans (by rw[filterMap_getElem?_range])
 ·rw[if_neg c]
  refine uab (uah ?_)
  cases cl:ledOf w with
  | false =>
   rw[es0]
   exact lastT s.heap (rawInt 0) s.drawn _ .text (λ _ _ e=>e) (uai _) (λ p pl e=>nomatch e) (znl _ es) λ h' k=>⟨cl,rfl,0,rfl⟩
  | true =>
   rw[es0]
   refine lastT s.heap (rawInt 0) s.drawn es.toList .places (λ _ _ e=>e) (uai _) (λ p pl e=>nomatch e) (.refl _) λ h' k=>⟨cl,?_,rfl,0,rfl,zmr _ ti.1⟩
   rw[cl] at c
   cases pl:t.plain with
   | true=>exact .inl rfl
   | false=>rw[pl] at c;exact .inr (by simpa using c)
theorem zp7 {Q:Bool->Shared->Prop} (hT:s.TypeIs (.ref a) "set") (h:Q false s):wpAny (model prog w) A (Builtin.List.listLengthHint (.ref a)) Q E s:=by
 unfold Builtin.List.listLengthHint
 refine uab (wpAny_specialOf hT PySem.F.slot_set_len.lookup ?_)
 generalize hid:("set.__len__":String)=id0
 wp_delta
 rw[show splitId id0=some ("set","__len__") from by subst hid;decide +kernel]
 subst hid
 refine uab (ue3 (T:="set") (b:=true) hT (by rw[isSubtype_type];kernel_rfl) (wpAny_ite_split (λ z=>absurd z (by decide)) λ _=>?_))
 refine wpAny_ite_split (λ _=>uab (ufi hT (uah h))) (λ z=>absurd (by symm) z)
theorem zkc:∀ l:List (Int × Value),ElemsOf (intKind prog w) l->∃ ks,IntsAre (l.map (·.2)) ks/\ks.length=l.length/\∀ k,k ∈ ks↔∃ e ∈ l,(intKind prog w).is k e.2=true
 | [],_=>⟨[],.nil,rfl,λ k=>by simp⟩
 | e::l,h=>by
  obtain⟨ks,h1,h2,h3⟩:=zkc l h.tail
  obtain⟨⟨k,hk,_⟩,_⟩:=h.head
  obtain⟨hx,x⟩:=e
  obtain⟨u,rfl⟩:=Value.isInt_shape hk
  refine⟨k::ks,.cons k u h1,by simp [h2],λ y=>?_⟩
  rw[uar,h3 y]
  constructor
  ·rintro (rfl | ⟨e,he,q⟩)
   ·exact⟨_,ual,hk⟩
   ·exact⟨e,uap _ he,q⟩
  ·rintro ⟨e,he,q⟩
   rcases uar.mp he with rfl | he
   ·exact .inl ((intKind prog w).inj _ _ _ q hk)
   ·exact .inr ⟨e,he,q⟩
theorem zsq {ord:List (Int × Value)} {acc:Array Value} (h:ItemsOf (λ i v=>∃ e,ord[i]?=some e/\v=e.2) acc ord.length):acc.toList=ord.map (·.2):=by
 refine ues (by simp [h.1]) λ i h1 h2=>?_
 have hi:i < acc.size:=by simpa using h1
 obtain⟨e,e1,e2⟩:=h.2 i _ (ub3 hi)
 have hi2:i < ord.length:=by simpa using h2
 rw[uad hi2] at e1
 cases e1
 simpa using e2
theorem zkl {Q:List Value->Shared->Prop} {S:Int->Bool} {n:Nat} (hh:A.handled=none) (st:SetT prog w s.heap a S n)
  (hQ:∀ (h':Heap) (tk:Nat) (d':Drawn) (vs:List Value) (ks:List Int),(∀ b o,s.heap.get? b=some o->h'.get? b=some o)->IntsAre vs ks->ks.length=n->(∀ k,S k=true↔k ∈ ks)->Q vs { s with heap:=h',toks:=tk,drawn:=d' }) :
  wpAny (model prog w) A (collect (.ref a)) Q E s:=by
 obtain⟨⟨o,es,ep,t,ho,ox,od,el,me,small,fit,en⟩,o',es',ep',t',ho',od',ti⟩:=st
 rw[ho] at ho';cases ho'
 rw[od] at od';cases od'
 unfold collect
 refine uab (wpAny_runValue (ucu ugh ?_))
 rw[Around.under_plainId ugg _]
 show wpAny _ A.in1 (newList [] >>= λ l=>again (.builtin "list.__iadd__" ⟨[l,.ref a],[]⟩)) _ _ s
 refine uab (ubx ?_)
 refine uah ⟨udo ueb _,ucu ugz ?_⟩
 rw[Around.under_plainId ueb _]
 show wpAny _ A.in1 (Builtin.List.listExtendWith (.ref s.heap.objs.size) (.ref a) (.ref s.heap.objs.size)) _ _ _
 have alt:a < s.heap.objs.size:=Heap.lt_size ho
 have hS:(s.heap.push { cls:=.type "list",data:=.seq ([]:List Value).toArray }).get? s.heap.objs.size=some { cls:=.type "list",data:=.seq #[] }:=Heap.get?_push_size _ rfl
 have szL:(s.heap.push { cls:=.type "list",data:=.seq ([]:List Value).toArray }).objs.size=s.heap.objs.size + 1:=Heap.size_push ..
 unfold Builtin.List.listExtendWith
 have tS:Shared.TypeIs { s with heap:=s.heap.push { cls:=.type "list",data:=.seq ([]:List Value).toArray } } (.ref a) "set":=⟨o,Heap.get?_push_of_some _ ho,ox.1⟩
 refine uab (ufi (T:="set") tS ?_)
 have h1:Builtin.List.listSameRef (.ref s.heap.objs.size) (.ref a)=false:=by simp only [Builtin.List.listSameRef,beq_eq_false_iff_ne];exact udb alt
 have h2:(Value.type "set" == Value.type "list")=false:=by decide
 have h3:(Value.type "set" == Value.type "tuple")=false:=by decide
 simp only [h1,h2,h3,Bool.or_false,ub5,if_false]
 refine uab (zp3 (t:=t) ⟨o,Heap.get?_push_of_some _ ho,ox.1,od⟩ fit ti (ue9 small) λ I h1 d1 ord kd hk lI hp pm stk=>?_)
 refine uab (ubk (zp7 ⟨o,hk a o (Heap.get?_push_of_some _ ho),ox.1⟩ ?_))
 refine wpAny_ite_split (λ _=>?_) (λ z=>absurd (by decide) z)
 refine uab (udj ?_)
 refine uab ?_
 show wpAny _ _ (updateSeq s.heap.objs.size (·.push .none) >>= λ _=>updateSeq s.heap.objs.size (·.pop)) _ _ _
 have g1:=hk _ _ hS
 refine uab (uen g1 rfl ?_)
 have g2:=Heap.get?_update_self (Obj.mapSeq (·.push Value.none)) g1 rfl
 refine uen (hz:=by seq_fits) g2 rfl ?_
 have g3:=Heap.get?_update_self (Obj.mapSeq (·.pop)) g2 rfl
 have neI:s.heap.objs.size≠I:=uaw (ua2 (by rw[szL];exact ucj _) lI)
 have nfp:s.heap.objs.size ∉ fpK I a kd:=by
  cases kd with
  | text=>simp only [fpK,uar,ua4,or_false,not_or];exact⟨neI,udb alt⟩
  | places=>simp only [fpK,uar,ua4,or_false,not_or];exact⟨neI,udb alt⟩
  | drawn p pl =>
   simp only [fpK,uar,ua4,or_false,not_or]
   exact⟨neI,udb alt,uaw (ua2 (by rw[szL];exact ucj _) (hp p pl rfl).2)⟩
 have aI:a≠I:=uaw (ua2 (by rw[szL];exact ub4 alt) lI)
 have W:=zpf (prog:=prog) (w:=w) (A:=A.in1) (ep:=ep) (ord:=ord) (kd:=kd) hh aI fit ti (λ p pl e=>(hp p pl e).1) pm
 have kU:∀ b o,b≠s.heap.objs.size->h1.get? b=some o->((h1.update s.heap.objs.size (Obj.mapSeq (·.push Value.none))).update s.heap.objs.size (Obj.mapSeq (·.pop))).get? b=some o:=λ b o hb e =>
  (Heap.get?_update_other _ _ (Ne.symm hb)).trans ((Heap.get?_update_other _ _ (Ne.symm hb)).trans e)
 have st1:=W.frame 0 _ _ stk λ b hb o e=>kU b o (λ z=>nfp (z ▸ hb)) e
 have lo:ord.length=n:=by rw[pm.length_eq,ub0,en]
 refine uah ⟨udo PySem.F.plain_extend_loop _,codeAny_extend_loopS W.toS (by rw[lo,← en];exact ugy small) s.heap.objs.size nfp _ ord.length 0 _ #[] _ rfl (ubb _) st1 g3 (ItemsOf.nil _) λ s' acc' c' hm hS' hacc=>?_⟩
 rw[Moved.eq_with hm]
 refine uab (wpAny_load hS' (uah ?_))
 obtain⟨ks,i1,i2,i3⟩:=zkc (prog:=prog) (w:=w) ord (el.perm pm)
 rw[zsq hacc]
 refine hQ _ _ _ _ ks (λ b o e=>hm.heap b o ?_ (kU b o (uaw (Heap.lt_size e)) (hk b o (Heap.get?_push_of_some _ e)))) i1 (i2.trans lo) λ k=>(me k).trans ?_
 ·simp only [uar,ua4,or_false,not_or]
  have:=Heap.lt_size e
  exact⟨uaw this,uaw (ua2 (by rw[szL];exact ub4 this) lI)⟩
 ·rw[i3 k]
  exact⟨λ ⟨e,he,q⟩=>⟨e,pm.mem_iff.mpr he,q⟩,λ ⟨e,he,q⟩=>⟨e,pm.mem_iff.mp he,q⟩⟩
end
end Stb
namespace Srt
open PySem PySem.Spec PyProof.Rows PySem.W
section
variable {prog:Program} {w:World} {A:Around} {E:Value->Shared->Prop} {s:Shared}
theorem zjy {x:Value} {Q:Value->Shared->Prop} {Good:List Value->Shared->Prop}
  (hcol:∀ (A':Around) (E':Value->Shared->Prop) (Q':List Value->Shared->Prop),A'.handled=A.handled->(∀ vs s',Good vs s'->Q' vs s')->wpAny (model prog w) A' (collect x) Q' E' s)
  (hg:∀ vs s1,Good vs s1->∃ (r:Nat->Int) (κ:SortKind),vs.length < 64/\(2<=vs.length->∀ (A':Around) (s':Shared) (Q:SortKind->Shared->Prop),Q κ s'->wpAny (model prog w) A' (keyKind' vs.toArray) Q (λ _ _=>False) s') /\
   (∀ (A':Around) (s':Shared) (i j:Nat) (C:Bool->Shared->Prop),i < vs.length->j < vs.length->C (decide (r i < r j)) s'->kas_ask prog w A' κ vs i j C s') /\
   ∀ (p:Array Nat) (h':Heap) (c:Nat),Gd vs.length p->Up r p vs.length->(∀ b o,s1.heap.get? b=some o->h'.get? b=some o)->h'.get? s1.heap.objs.size=some (seqObj "list" (outOf vs p).toArray c)->Q (.ref s1.heap.objs.size) { s1 with heap:=h' }) :
  wpAny (model prog w) A (call (.builtin "sorted") [x]) Q E s:=by
 have line:(64:Nat)<=sizeLine:=by rw[ucf];decide
 refine Calls.call_function_entry kind_sorted plain_sorted entry_sorted (args_sorted1 _) ?_
 unfold Builtin.«sorted»
 refine uab (m:=checkCount "sorted" 1 1 _) (uah (uab (hcol _ _ _ rfl λ vs s1 g=>?_)))
 obtain⟨r,κ,h64,hk,hc,h⟩:=hg vs s1 g
 refine uab (ud6 ?_ (by left))
 have hoL:(s1.heap.push { cls:=.type "list",data:=.seq vs.toArray }).get? s1.heap.objs.size=some (seqObj "list" vs.toArray 0):=Heap.get?_push_size _ rfl
 have ne2:∀ b o,s1.heap.get? b=some o->b≠s1.heap.objs.size:=λ b o q=>uaw (Heap.lt_size q)
 show wpAny _ _ _ _ _ { s1 with heap:=s1.heap.push { cls:=.type "list",data:=.seq vs.toArray } }
 refine uab (ubk (ubi slot_list_sort ⟨_,hoL,rfl⟩ entry_list_sort ?_ (args_list_sort _)))
 refine lsort (s:={ s1 with heap:=s1.heap.push { cls:=.type "list",data:=.seq vs.toArray } }) (r:=r) (κ:=κ) hoL h64 (λ h2 s' Q' st q=>hk h2 _ s' Q' q) (λ s' i j C st hi hj q=>hc _ s' i j C hi hj q) λ p h' c g1 u1 st e=>⟨_,rfl,?_⟩
 exact uah ⟨_,rfl,h p h' c g1 u1 (λ b o q=>st b o (ne2 b o q) (Heap.get?_push_of_some _ q)) e⟩
end
end Srt
namespace L3
open PySem PySem.Spec PyProof.Rows L2
def SetO (P:Program) (w:World) (a:Addr) (S:Int->Bool) (n:Nat):HO:=.ext λ h=>Stb.SetT P w h a S n
section
variable {X:Cx}
theorem zd1 (hh:X.calm=true):CallR X (.builtin "sorted") (λ xs H Q=>∃ (p:Addr) (S:Int->Bool) (n:Nat),xs=[.ref p]/\H p=some (SetO X.prog X.w p S n)/\n < 64/\∀ ms:List Int,ms.length=n->(∀ k,S k=true↔k ∈ ms)->ms.Pairwise (·<=·)->∀ l H',Same H H'->H l=none->H' l=some (.lst (ms.map V.int))->Q (.ref l) H'):=by
 intro pins s σ H xs us Q I r h
 obtain⟨p,S,n,rfl,hp,h64,q⟩:=h
 obtain⟨u,rfl,rx⟩:=vals1 r
 cases rx
 have hS:Stb.SetT X.prog X.w s.heap p S n:=(show ObjOk X.prog X.w H s.heap p (SetO X.prog X.w p S n) from I.hok p _ hp).1
 refine Srt.zjy (Good:=λ vs s1=>∃ (h1:Heap) (tk:Nat) (d':Drawn) (ns:List Int),s1={ s with heap:=h1,toks:=tk,drawn:=d' }/\(∀ b o,s.heap.get? b=some o->h1.get? b=some o)/\IntsAre vs ns/\ns.length=n/\∀ k,S k=true↔k ∈ ns)
  (λ A' E' Q' eh hQ=>Stb.zkl (eh.trans (I.ok.hd hh)) hS λ h1 tk d' vs ns hk hI hl hm=>hQ vs _ ⟨h1,tk,d',ns,rfl,hk,hI,hl,hm⟩) λ its s1 g=>?_
 obtain⟨gg,tk,d',ns,rfl,kg,hI,hn,hm⟩:=g
 have hl:its.length=ns.length:=by
  clear hn hm
  induction hI with
  | nil=>rfl
  | cons n t _ ih=>simp [ih]
 refine⟨λ i=>ns.getD i 0,oneType',by left,λ h2 A' s' Q' q'=>Srt.zhe hI h2 q',λ A' s' i j C hi hj q'=>Srt.zkd hI hi hj q',λ pp h' c g u kp e=>?_⟩
 have g':Srt.Gd ns.length pp:=by rw[← hl];exact g
 have u':Srt.Up (λ i=>ns.getD i 0) pp ns.length:=by rw[← hl];exact u
 have pm:(pp.toList.map λ i=>ns.getD i 0).Perm ns:=by
  have:=zfo g' λ i=>ns.getD i 0
  rw[zbg] at this
  exact this
 have pw:(pp.toList.map λ i=>ns.getD i 0).Pairwise (·<=·):=by
  rw[ucc]
  exact zdk g' u' λ i j _ _ z=>z
 have I1:Inv X pins σ H { s with heap:=gg,toks:=tk,drawn:=d' }:=by
  have:=I.kept (t':=tk) kg
  exact⟨this.ok,this.os,this.bare,this.base,this.loc,this.cell,this.free,this.freeC,this.pin,this.hok,this.len⟩
 have fr:H gg.objs.size=none:=I1.hok.fresh (uai _)
 have ev:((pp.toList.map λ i=>ns.getD i 0).map V.int)=pp.toList.map λ i=>(ns.map V.int).getD i .non:=by
  rw[ubq]
  refine uby λ i hi=>?_
  have:=zdg g' i hi
  simp [udc,this]
 have rv:Vals (ns.map V.int) its:=by
  clear hn hm g' u' pm pw ev hl g u e kp
  induction hI with
  | nil=>exact .nil
  | cons n t _ ih=>exact .cons ⟨t,rfl⟩ ih
 refine⟨.ref gg.objs.size,_,I1.laid (a:=gg.objs.size) (o:=.lst ((pp.toList.map λ i=>ns.getD i 0).map V.int)) (t':=tk) kp (uai _) ⟨?_,Srt.outOf its pp,c,?_,e⟩,rfl,q _ (pm.length_eq.trans hn) (λ k=>(hm k).trans pm.mem_iff.symm) pw _ _ (zal fr) fr zai⟩
 ·have:=pm.length_eq
  have line:(64:Nat)<=sizeLine:=by rw[ucf];decide
  rw[uae,this];left
 ·rw[ev]
  exact zcy rv pp.toList λ i hi=>by rw[uae];exact zdg g' i hi
end
theorem zbu (val:Nat->Int):∀ i,(firstMet val i).Nodup/\∀ k,k ∈ firstMet val i↔k ∈ (uag i).map val
 | 0=>⟨by rw[firstMet_zero];exact ud3,λ k=>by rw[firstMet_zero];simp⟩
 | i + 1=>by
  obtain⟨h1,h2⟩:=zbu val i
  rw[firstMet_succ,uee,ua3]
  unfold step_dedup
  by_cases c:(firstMet val i).any (λ y=>y == val i)=true
  ·rw[if_pos c]
   obtain⟨y,hy,e⟩:=uft.mp c
   have e':y=val i:=by simpa using e
   refine⟨h1,λ k=>?_⟩
   rw[h2 k,uaz]
   refine⟨.inl,λ z=>z.elim id λ z=>?_⟩
   have:k=val i:=by simpa using z
   rw[this,← e',← h2 y];exact hy
  ·rw[if_neg c]
   refine⟨ucd.mpr ⟨h1,by simp,λ a ha b hb e=>c (uft.mpr ⟨a,ha,?_⟩)⟩,λ k=>by rw[uaz,uaz,h2 k];simp⟩
   have:b=val i:=by simpa using hb
   simp [e,this]
theorem ze1:∀ {l m:List Int},l.Nodup->(∀ x ∈ l,x ∈ m)->m.length<=l.length->m.Perm l
 | [],m,_,_,h=>by
  have:m=[]:=uef.mp (by simpa using h)
  rw[this]
 | x::l,m,nd,sub,h=>by
  have hx:=sub x ual
  obtain⟨nx,nl⟩:=uch.mp nd
  have pe:=udz hx
  refine pe.trans (List.Perm.cons x (ze1 nl (λ y hy=>?_) ?_))
  ·exact (uf2 λ e=>nx (by rw[← e];exact hy)).mpr (sub y (uap _ hy))
  ·rw[uhg hx];simp at h;left
theorem zk2 (ns:List Int) (k:Int):HT.setS ns ns.length k=true↔k ∈ ns:=by
 have:=(zbu (λ i=>ns.getD i 0) ns.length).2 k
 rw[zbg] at this
 rw[← this]
 unfold HT.setS
 rw[uft]
 exact⟨λ ⟨y,hy,e⟩=>by rw[← show y=k by simpa using e];exact hy,λ h=>⟨k,h,by simp⟩⟩
theorem zma {l m:List Int} (p:l.Perm m) (hl:l.Pairwise (·<=·)) (hm:m.Pairwise (·<=·)):l=m :=
 p.eq_of_pairwise (λ a b _ _ h1 h2=>Int.le_antisymm h1 h2) hl hm
theorem zpq {ns ms:List Int} (hl:ms.length=HT.setN ns ns.length) (hm:∀ k,HT.setS ns ns.length k=true↔k ∈ ms):ms.Nodup/\∀ k,k ∈ ms↔k ∈ ns:=by
 obtain⟨n1,n2⟩:=zbu (λ i=>ns.getD i 0) ns.length
 rw[zbg] at n2
 have pm:=ze1 (m:=ms) n1 (λ x hx=>(hm x).mp ((zk2 ns x).mpr ((n2 x).mp hx))) (uer hl)
 exact⟨pm.nodup_iff.mpr n1,λ k=>(hm k).symm.trans (zk2 ns k)⟩
theorem zq1 {n:Int} {ts:List Tie} (ok:WebOk n ts) {u v j k:Nat} (hj:j < ts.length) (hk:k < ts.length) (h1:isTB ts u v j=true) (h2:isTB ts u v k=true):j=k:=by
 unfold isTB at h1 h2
 obtain⟨a1,b1⟩:=(ubv _ _).mp h1
 obtain⟨a2,b2⟩:=(ubv _ _).mp h2
 have ea:(tieAt ts j).1=(tieAt ts k).1:=(of_decide_eq_true a1).trans (of_decide_eq_true a2).symm
 have eb:(tieAt ts j).2.1=(tieAt ts k).2.1:=(of_decide_eq_true b1).trans (of_decide_eq_true b2).symm
 clear a1 a2 b1 b2 h1 h2
 have pw:=ubh.mp ok.rise
 have g:∀ {i:Nat} (hi:i < ts.length),ts[i]=tieAt ts i:=λ {i} hi=>by
  have:=(zav hi).1
  rw[uad hi] at this
  exact uau this
 rcases ueo j k with z | z | z
 ·have q:=pw j k hj hk z
  rw[g hj,g hk] at q
  unfold endLt at q
  left
 ·exact z
 ·have q:=pw k j hk hj z
  rw[g hj,g hk] at q
  unfold endLt at q
  left
section
variable {g:TG} {tt:TT} {te:TE} {own:List Str} {js:List Nat} {σ:L2.St} {H1:Hp} {Q:VK}
end
def RowV (lo hi:Nat) (J:Hp) (v:V):Prop:=∃ (p:Addr) (ns:List Int),v=.ref p/\J p=some (.tup (ns.map V.int))/\lo<=ns.length/\ns.length<=hi
mutual
theorem Is.tk {K:uac} {H H':Hp} (e:TupKeep H H'):∀ (d:PyData) {v:V},tupD d=true->Is K H d v->Is K H' d v
 | .none,_,_,h=>h
 | .bool _,_,_,h=>h
 | .int _,_,_,h=>h
 | .str _,_,_,h=>h
 | .tuple ds,_,t,h=>let ⟨q,vs,q1,q2,q3⟩:=h;⟨q,vs,q1,e _ _ q2,IsAll.tk e ds t q3⟩
 | .list ds,_,t,h=>by cases t
 | .dict _,_,t,h=>by cases t
theorem IsAll.tk {K:uac} {H H':Hp} (e:TupKeep H H'):∀ (ds:List PyData) {vs:List V},tupAll ds=true->IsAll K H ds vs->IsAll K H' ds vs
 | [],_,_,h=>h
 | d::ds,_,t,h=>by
  have t':(tupD d && tupAll ds)=true:=t
  rw[ubv] at t'
  obtain⟨v,r,q1,q2,q3⟩:=h
  exact⟨v,r,q1,Is.tk e d t'.1 q2,IsAll.tk e ds t'.2 q3⟩
end
inductive op_eqSq_i (K:uac) (uu:Nat) (x:V) (y:V) (H:Hp) (Q:VK):Prop
 | mk:∀ (a b:Addr) (ns:List Int),(x=.ref a)->(y=.ref b)->(SqL K H a (ns.map V.int))->(H b=some (.lst []))->(uu + 1 < cLine)->(Q (.bl (decide (ns=[]))) H)->op_eqSq_i K uu x y H Q
theorem zse {X:Cx}:OpR X (compareOp .Eq) (op_eqSq_i X.K X.A.units):=by
 intro pins s σ H x y v u Q I rx ry h
 obtain⟨a,b,ns,rfl,rfl,ha,hb,hu,q⟩:=h
 cases rx
 obtain⟨its,rv,⟨o,n,e1,e2,_,e3⟩,_⟩:=I.list ha
 obtain⟨as,ra⟩:=zcf I (ns.map .int) (IsAll.ints ns) rv
 obtain⟨bs,rb⟩:=zc0 I (.list []) ⟨b,[],rfl,hb,rfl⟩ ry
 have l1:PyData.canLay0 (.list (ns.map .int))=true:=by
  show PyData.canLayAll0 (ns.map .int)=true
  exact zbt ns
 have e:PyData.eqv (.list (ns.map .int)) (.list [])=decide (ns=[]):=by
  cases ns with
  | nil=>rfl
  | cons x r=>rfl
 rw[← e] at q
 exact SeqAt.compareEq_reads (.list e1 e2 e3 (by simpa using ra)) rb l1 rfl (ubf (udn (uai _) (ua9 (ud9 _ _) (by decide))) hu) (za1 I q rfl)
end L3
namespace Peel
abbrev T2:=Nat × Nat
def hit (gone:List Nat) (p:Nat) (t:T2):Bool:=(t.1 == p && !gone.contains t.2) || (t.2 == p && !gone.contains t.1)
def deg (ts:List T2) (gone:List Nat) (p:Nat):Nat:=ts.countP (hit gone p)
def may (ts:List T2) (d:Int) (gone:List Nat) (p:Nat):Bool:=!gone.contains p && decide ((deg ts gone p:Int)<=d)
def next (n:Nat) (ts:List T2) (d:Int) (gone:List Nat):Option Nat:=(uag n).find? (may ts d gone)
def run (n:Nat) (ts:List T2) (d:Int):Nat->List Nat->List Nat
 | 0,g=>g
 | f + 1,g=>match next n ts d g with
  | none=>g
  | some p=>run n ts d f (g++[p])
section
variable {n:Nat} {ts:List T2} {d:Int} {g:List Nat} {p:Nat}
def Good (n:Nat) (g:List Nat):Prop:=g.Nodup/\∀ p ∈ g,p < n
theorem zfj:∀ (n:Nat) (g:List Nat),g.Nodup->(∀ p ∈ g,p < n)->g.length<=n
 | 0,[],_,_=>uai _
 | 0,p::_,_,h=>absurd (h p ual) (udw _)
 | n + 1,g,nd,h=>by
  have h1:=zfj n (g.filter λ p=>p != n) (nd.filter _) λ p hp=>by
   have:=ubr.mp hp
   have a:=h p this.1
   have b:p≠n:=by simpa using this.2
   left
  have e:g.length=(g.filter λ p=>p != n).length + g.countP (λ p=>p == n):=by
   rw[← List.countP_eq_length_filter]
   have:=List.length_eq_countP_add_countP (λ p=>p == n) (l:=g)
   have e2:g.countP (λ p=>decide ¬(p == n)=true)=g.countP λ p=>p != n:=List.countP_congr λ x _=>by simp
   rw[e2] at this
   left
  have c:g.countP (λ p=>p == n)<=1:=by
   have:=List.nodup_iff_count.mp nd n
   exact this
  left
def gone (n:Nat) (ts:List T2) (d:Int):List Nat:=run n ts d n []
end
end Peel
namespace L3
open PySem PySem.Spec PyProof.Rows L2
def nb1 (ts:List Tie) (p:Int) (k:Nat):Option Nat:=if (tieAt ts k).1=p then some (tieAt ts k).2.1.toNat else none
def nb2 (ts:List Tie) (p:Int) (k:Nat):Option Nat:=if (tieAt ts k).2.1=p then some (tieAt ts k).1.toNat else none
def nbN (ts:List Tie) (ks:List Nat) (p:Int):List Nat:=ks.filterMap (nb1 ts p)++ks.filterMap (nb2 ts p)
inductive spNeigh_i (K:uac) (vs:List V) (H:Hp) (Q:VK):Prop
 | mk:∀ n ts ks wv kv p,(vs=[wv,kv,.int p])->(WK K H n ts ks wv kv)->(∀ l H',Same H H'->H l=none->H' l=some (.lst (natV (nbN ts ks p)))->Q (.ref l) H')->spNeigh_i K vs H Q
def spNeigh (K:uac):Sp:=λ vs H Q _=>spNeigh_i K vs H Q
def t2s (ts:List Tie) (ks:List Nat):List Peel.T2:=ks.map λ k=>((tieAt ts k).1.toNat,(tieAt ts k).2.1.toNat)
section
variable {g:TG} {tt:TT} {te:TE} {own:List Str} {js:List Nat} {σ:L2.St} {H1:Hp} {Q:VK}
theorem zcw {K:uac} {a:Addr} {xs:List V} (hx:H1 a=some (.lst xs)) (Sg:L2.St->Prop) (sel:Nat->Option V) (hn:xs.length<=1000) (h0:Sg (start3 own js σ))
  (step:∀ i x σ' H',xs[i]?=some x->Same H1 H'->Sg σ'->∀ (C:L2.St->V->Hp->Prop) (L:L2.St->Hp->Prop),(∀ σ3 v H5,Sg σ3->Same H' H5->sel i=some v->C σ3 v H5)->(∀ σ3 H5,Sg σ3->Same H' H5->sel i=none->L σ3 H5) ->
   g x σ' H' λ σ3 H3=>tt σ3 H3 λ b H4=>if b=true then te σ3 H4 λ v H5=>C σ3 v H5 else L σ3 H4)
  (fin:∀ D H',H1 D=none->Same H1 H'->H' D=some (.lst ((uag xs.length).filterMap sel))->Q (.ref D) H'):CompGo own js g tt te σ Q (Itl K a) H1:=by
 refine zho xs.length Sg sel hn h0 (λ i H' hi s=>⟨xs,xs[i],SqL.of (s _ _ hx),by simp [hi]⟩) (λ H' s=>⟨xs,SqL.of (s _ _ hx),uai _⟩) (λ i x σ' H' H2 hi s hy sg C L hC hL=>?_) fin
 obtain⟨rfl,hy⟩:=hy
 exact step i x σ' _ (hy xs (SqL.of (s _ _ hx))) s sg C L hC hL
end
theorem zil {α β:Type} (f:α->Option β) (d:α):∀ ks:List α,(uag ks.length).filterMap (λ i=>f (ks.getD i d))=ks.filterMap f:=λ ks=>by
 have e:=congrArg (ug9 f) (zbg ks d)
 rw[ue8] at e
 exact e
end L3
namespace Lr
open Far (chn zcm zcc zfs zjb RingOf)
section
variable {R:Nat->Nat->Prop}
structure Rg (R:Nat->Nat->Prop) (h:Nat) (tl:List Nat):Prop where
 len:2<=tl.length
 nd:(h::tl).Nodup
 ch:chn R (h::tl++[h])
def Cano (h:Nat) (tl:List Nat):Prop:=(∀ v ∈ tl,h < v)/\∃ x m y,tl=x::(m++[y])/\x < y
def stepW (rows:Nat->List Nat) (w:List Nat):List (List Nat):=((rows (w.getLast?.getD 0)).filter λ o=>decide (w.headD 0 < o) && !decide (o ∈ w)).map λ o=>w++[o]
def ways (rows:Nat->List Nat) (n:Nat):Nat->List (List Nat)
 | 0=>(uag n).map λ v=>[v]
 | s + 1=>(ways rows n s).flatMap (stepW rows)
structure PW (R:Nat->Nat->Prop) (n:Nat) (w:List Nat):Prop where
 ne:w≠[]
 nd:w.Nodup
 ch:chn R w
 lt:∀ v ∈ w,v < n
 up:∀ h t,w=h::t->∀ v ∈ t,h < v
section
variable {rows:Nat->List Nat} {n:Nat}
end
end
end Lr
namespace Lr
open Far (chn zcm zcc zfs zjb RingOf)
def lle:List Nat->List Nat->Prop
 | [],_=>True
 | _::_,[]=>False
 | a::l,b::m=>a < b\/(a=b/\lle l m)
section
variable {R:Nat->Nat->Prop}
structure Sh (R:Nat->Nat->Prop) (z v:Nat) (l:List Nat):Prop where
 ch:chn R (v::l)
 last:(v::l).getLast?=some z
 min:∀ l',chn R (v::l')->(v::l').getLast?=some z->l.length<=l'.length
def Ds (R:Nat->Nat->Prop) (z:Nat) (D:Nat->Option Nat):Prop:=∀ v,(∀ m,D v=some m->∃ l,chn R (v::l)/\(v::l).getLast?=some z/\l.length=m)/\∀ l,chn R (v::l)->(v::l).getLast?=some z->∃ m,D v=some m/\m<=l.length
def Rm (R:Nat->Nat->Prop) (a b u v:Nat):Prop:=R u v/\¬ (u=a/\v=b)/\¬ (u=b/\v=a)
end
end Lr
namespace Lr
open Far (chn zcm zcc zfs zjb RingOf)
structure Ties (R:Nat->Nat->Prop) (ks:List Nat) (ends:Nat->Nat × Nat):Prop where
 sy:∀ u v,R u v->R v u
 of:∀ k ∈ ks,(ends k).1 < (ends k).2/\R (ends k).1 (ends k).2
 to:∀ u v,R u v->u < v->∃ k ∈ ks,ends k=(u,v)
 up:∀ k ∈ ks,∀ j ∈ ks,k<=j->(ends k).1 < (ends j).1\/((ends k).1=(ends j).1/\(ends k).2<=(ends j).2)
section
variable {R:Nat->Nat->Prop} {ks:List Nat} {ends:Nat->Nat × Nat}
end
section
variable {R:Nat->Nat->Prop} {rows:Nat->List Nat} {n:Nat}
end
end Lr
namespace L3
open PySem PySem.Spec PyProof.Rows L2
section
variable {own:List Str} {js:List Nat} {g:TG} {te:TE} {σ:L2.St} {Q:VK} {H1:Hp}
theorem zkk {lo:Int} {n:Nat} (Sg:L2.St->Prop) (hn:n<=1000) (h0:Sg (start3 own js σ))
  (step:∀ i σ' H',i < n->Same H1 H'->Sg σ'->∀ C:L2.St->V->Hp->Prop,(∀ σ3 l H5,Sg σ3->Same H' H5->H' l=none->H5 l=some (.lst [])->C σ3 (.ref l) H5)->g (.int (lo + i)) σ' H' λ σ3 H3=>te σ3 H3 λ v H5=>C σ3 v H5)
  (fin:∀ D (as:List Addr) H',H1 D=none->Same H1 H'->H' D=some (.lst (as.map V.ref))->as.length=n->as.Nodup->D ∉ as->(∀ a ∈ as,H1 a=none/\H' a=some (.lst []))->Q (.ref D) H'):CompGo own js g tTrue te σ Q (Itr lo n) H1:=by
 intro D hD
 refine⟨λ i m ys σ' H'=>m=n - i/\i<=n/\Sg σ'/\Same H1 H'/\∃ as:List Addr,ys=as.map V.ref/\as.length=i/\as.Nodup/\D ∉ as/\∀ a ∈ as,H1 a=none/\H' a=some (.lst []),⟨n,rfl,ubb _,h0,zal hD,[],rfl,rfl,ud3,(by simp),λ a h=>by cases h⟩,?_⟩
 rintro i m ys σ' H' ⟨rfl,hi,sg,sm,as,rfl,hl,nd,nD,hr⟩ hd
 have lys:(as.map V.ref).length=as.length:=uae _
 by_cases hlt:i < n
 ·refine .inr ⟨hlt,λ x H2 hy=>?_⟩
  obtain⟨rfl,rfl⟩:=hy
  refine step i σ' _ hlt sm sg (λ σ3 v H5=>H5 D=some (.lst (as.map V.ref))/\(as.map V.ref).length < sizeLine/\∃ m',m' < n - i/\(m'=n - (i + 1)/\i + 1<=n/\Sg σ3/\Same H1 (upd H5 D (.lst (as.map V.ref++[v])))/\∃ bs:List Addr,as.map V.ref++[v]=bs.map V.ref/\bs.length=i + 1/\bs.Nodup/\D ∉ bs/\∀ a ∈ bs,H1 a=none/\upd H5 D (.lst (as.map V.ref++[v])) a=some (.lst []))) λ σ3 l H5 sg3 s5 fl hL=>?_
  have hd5:=s5 _ _ hd
  have nlD:l≠D:=λ z=>by rw[z,hd] at fl;cases fl
  have nla:l ∉ as:=λ z=>by rw[(hr l z).2] at fl;cases fl
  refine⟨hd5,ubf (by left:(as.map V.ref).length<=1000) (by decide),n - (i + 1),by left,rfl,hlt,sg3,λ b o e=>?_,as++[l],by rw[ua3];rfl,by rw[uaj,hl];rfl,?_,?_,λ a ha=>?_⟩
  ·rw[zap (zaf e hD)];exact s5 _ _ (sm _ _ e)
  ·exact ucd.mpr ⟨nd,(by simp),λ a ha b hb e=>by
    have:b=l:=by simpa using hb
    subst this;subst e;exact nla ha⟩
  ·intro z
   rcases uaz.mp z with z | z
   ·exact nD z
   ·exact nlD (uam.mp z).symm
  ·rcases uaz.mp ha with z | z
   ·have ne:a≠D:=λ x=>nD (x ▸ z)
    exact⟨(hr a z).1,by rw[zap ne];exact s5 _ _ (hr a z).2⟩
   ·have:a=l:=uam.mp z
    subst this
    exact⟨sm.free fl,by rw[zap nlD];exact hL⟩
 ·have e:i=n:=by left
  subst e
  exact .inl ⟨uai _,fin D as H' hD sm hd hl nd nD hr⟩
end
structure Bes (H:Hp) (l:Addr) (as:List Addr) (rows:Nat->List V):Prop where
 top:H l=some (.lst (as.map V.ref))
 nd:as.Nodup
 own:l ∉ as
 row:∀ i a,as[i]?=some a->H a=some (.lst (rows i))
theorem Bes.new {H:Hp} {l:Addr} {as:List Addr} (h:H l=some (.lst (as.map V.ref))) (nd:as.Nodup) (no:l ∉ as) (r:∀ a ∈ as,H a=some (.lst [])):Bes H l as λ _=>[]:=⟨h,nd,no,λ _ a e=>r a (uao e)⟩
theorem Bes.same {H H':Hp} {l:Addr} {as:List Addr} {rows:Nat->List V} (b:Bes H l as rows) (S:Same H H'):Bes H' l as rows:=⟨S _ _ b.top,b.nd,b.own,λ i a e=>S _ _ (b.row i a e)⟩
theorem Bes.ix {H:Hp} {l:Addr} {as:List Addr} {rows:Nat->List V} (b:Bes H l as rows) {i:Nat} (h:i < as.length):∃ a,as[i]?=some a/\(as.map V.ref)[i]?=some (.ref a)/\H a=some (.lst (rows i)):=by
 refine⟨as[i],uad h,by rw[uaq,uad h];rfl,b.row i _ (uad h)⟩
theorem Bes.put {H H':Hp} {l:Addr} {as:List Addr} {rows:Nat->List V} (b:Bes H l as rows) {i:Nat} {a:Addr} {xs:List V} (ha:as[i]?=some a) (B:But a H H') (e:H' a=some (.lst xs)):Bes H' l as λ j=>if j=i then xs else rows j:=by
 have nl:l≠a:=λ z=>b.own (z ▸ uao ha)
 refine⟨B _ _ nl b.top,b.nd,b.own,λ j c hc=>?_⟩
 by_cases z:j=i
 ·subst z
  rw[hc] at ha;cases ha
  rw[if_pos rfl];exact e
 ·rw[if_neg z]
  refine B _ _ (λ x=>z ?_) (b.row j c hc)
  subst x
  obtain⟨h1,e1⟩:=uan.mp hc
  obtain⟨h2,e2⟩:=uan.mp ha
  have pw:=ubh.mp b.nd
  rcases ueo j i with z | z | z
  ·exact absurd (e1.trans e2.symm) (pw j i h1 h2 z)
  ·exact z
  ·exact absurd (e2.trans e1.symm) (pw i j h2 h1 z)
theorem zgs {n:Int} {ts:List Tie} (ok:WebOk n ts) {k k' a b:Nat} {l l':Int} (hk:k < ts.length) (hk':k' < ts.length) (h:(a,b,l) ∈ arcs2 (tieAt ts k)) (h':(a,b,l') ∈ arcs2 (tieAt ts k')):k=k':=by
 have t1:=ok.tie _ (zav hk).2
 have t2:=ok.tie _ (zav hk').2
 have E:=λ z=>zsw t1.1 t1.2.1 t2.1 t2.2.1 z
 have e:(tieAt ts k).1=(tieAt ts k').1/\(tieAt ts k).2.1=(tieAt ts k').2.1:=by
  rcases arcs2_mem.mp h with e | e <;> rcases arcs2_mem.mp h' with e' | e' <;> injection e with e1 e2 <;> injection e2 with e2 _ <;> injection e' with e3 e4 <;> injection e4 with e4 _
  ·exact E (.inl ⟨e1.symm.trans e3,e2.symm.trans e4⟩)
  ·exact E (.inr ⟨e1.symm.trans e3,e2.symm.trans e4⟩)
  ·exact E (.inr ⟨e2.symm.trans e4,e1.symm.trans e3⟩)
  ·exact E (.inl ⟨e2.symm.trans e4,e1.symm.trans e3⟩)
 exact zkx ok hk hk' e.1 e.2
def Uniq (ts:List Tie) (ks:List Nat) (j m:Nat):Prop:=∃ cs:List Nat,cs.Nodup/\cs.length=m/\∀ c ∈ cs,∃ k ∈ ks,∃ l,(j,c,l) ∈ arcs2 (tieAt ts k)
section
variable {X:Cx}
inductive rAppendB_i  (x:V) (vs:List V) (H:Hp) (Q:VK):Prop
 | mk:∀ l xs y,(x=.ref l)->(vs=[y])->(H l=some (.lst xs))->(xs.length < 10 ^ 7)->(∀ H',But l H H'->H' l=some (.lst (xs++[y]))->Q .non H')->rAppendB_i x vs H Q
def rAppendB :V->List V->Hp->VK->Prop:=λ x vs H Q=>rAppendB_i x vs H Q
theorem zbm:MtM X "list.append" rAppendB:=by
 intro pins s σ H x vs v us Q I rx rv h
 obtain⟨l,xs,y,rfl,rfl,hH,hz,q⟩:=h
 exact zct (X:=X) pins s σ H _ _ v us Q I rx rv ⟨l,xs,y,rfl,rfl,hH,ua2 hz (by decide),q _ But.upd zai⟩
inductive rExtendB_i  (x:V) (vs:List V) (H:Hp) (Q:VK):Prop
 | mk:∀ l b xs zs,(x=.ref l)->(vs=[.ref b])->(H l=some (.lst xs))->(H b=some (.lst zs))->(xs.length + zs.length<=10 ^ 7)->(∀ H',But l H H'->H' l=some (.lst (xs++zs))->Q .non H')->rExtendB_i x vs H Q
def rExtendB :V->List V->Hp->VK->Prop:=λ x vs H Q=>rExtendB_i x vs H Q
theorem zgk:MtM X "list.extend" rExtendB:=by
 intro pins s σ H x vs v us Q I rx rv h
 obtain⟨l,b,xs,zs,rfl,rfl,hH,hB,hz,q⟩:=h
 exact zi1 (X:=X) pins s σ H _ _ v us Q I rx rv ⟨l,b,xs,zs,rfl,rfl,hH,hB,ua9 hz (by decide),q _ But.upd zai⟩
end
section
variable {own:List Str} {js:List Nat} {g:TG} {te:TE} {σ:L2.St} {Q:VK} {H1:Hp}
theorem zd0 {lo:Int} {n:Nat} (f:Nat->List V) (Sg:L2.St->Prop) (hn:n<=1000) (h0:Sg (start3 own js σ))
  (step:∀ i σ' H',i < n->Same H1 H'->Sg σ'->∀ C:L2.St->V->Hp->Prop,(∀ σ3 l H5,Sg σ3->Same H' H5->H' l=none->H5 l=some (.lst (f i))->C σ3 (.ref l) H5)->g (.int (lo + i)) σ' H' λ σ3 H3=>te σ3 H3 λ v H5=>C σ3 v H5)
  (fin:∀ D (as:List Addr) H',H1 D=none->Same H1 H'->H' D=some (.lst (as.map V.ref))->as.length=n->as.Nodup->D ∉ as->(∀ i a,as[i]?=some a->H1 a=none/\H' a=some (.lst (f i)))->Q (.ref D) H'):CompGo own js g tTrue te σ Q (Itr lo n) H1:=by
 intro D hD
 refine⟨λ i m ys σ' H'=>m=n - i/\i<=n/\Sg σ'/\Same H1 H'/\∃ as:List Addr,ys=as.map V.ref/\as.length=i/\as.Nodup/\D ∉ as/\∀ i a,as[i]?=some a->H1 a=none/\H' a=some (.lst (f i)),⟨n,rfl,ubb _,h0,zal hD,[],rfl,rfl,ud3,(by simp),λ i a h=>by cases h⟩,?_⟩
 rintro i m ys σ' H' ⟨rfl,hi,sg,sm,as,rfl,hl,nd,nD,hr⟩ hd
 have lys:(as.map V.ref).length=as.length:=uae _
 by_cases hlt:i < n
 ·refine .inr ⟨hlt,λ x H2 hy=>?_⟩
  obtain⟨rfl,rfl⟩:=hy
  refine step i σ' _ hlt sm sg (λ σ3 v H5=>H5 D=some (.lst (as.map V.ref))/\(as.map V.ref).length < sizeLine/\∃ m',m' < n - i/\(m'=n - (i + 1)/\i + 1<=n/\Sg σ3/\Same H1 (upd H5 D (.lst (as.map V.ref++[v])))/\∃ bs:List Addr,as.map V.ref++[v]=bs.map V.ref/\bs.length=i + 1/\bs.Nodup/\D ∉ bs/\∀ i a,bs[i]?=some a->H1 a=none/\upd H5 D (.lst (as.map V.ref++[v])) a=some (.lst (f i)))) λ σ3 l H5 sg3 s5 fl hL=>?_
  have hd5:=s5 _ _ hd
  have nlD:l≠D:=λ z=>by rw[z,hd] at fl;cases fl
  have nla:l ∉ as:=λ z=>by obtain⟨k,hk⟩:=uf3 z;rw[(hr k l hk).2] at fl;cases fl
  refine⟨hd5,ubf (by left:(as.map V.ref).length<=1000) (by decide),n - (i + 1),by left,rfl,hlt,sg3,λ b o e=>?_,as++[l],by rw[ua3];rfl,by rw[uaj,hl];rfl,?_,?_,λ k a ha=>?_⟩
  ·rw[zap (zaf e hD)];exact s5 _ _ (sm _ _ e)
  ·exact ucd.mpr ⟨nd,(by simp),λ a ha b hb e=>by
    have:b=l:=by simpa using hb
    subst this;subst e;exact nla ha⟩
  ·intro z
   rcases uaz.mp z with z | z
   ·exact nD z
   ·exact nlD (uam.mp z).symm
  ·by_cases hk:k < as.length
   ·rw[uci hk] at ha
    have ne:a≠D:=λ x=>nD (x ▸ uao ha)
    exact⟨(hr k a ha).1,by rw[zap ne];exact s5 _ _ (hr k a ha).2⟩
   ·rw[ucg (by left)] at ha
    have ek:k=i:=by
     have:=(uan.mp ha).1
     rw[ubs] at this
     left
    subst ek
    rw[hl,Nat.sub_self] at ha
    have:l=a:=by simpa using ha
    subst this
    exact⟨sm.free fl,by rw[zap nlD];exact hL⟩
 ·have e:i=n:=by left
  subst e
  exact .inl ⟨uai _,fin D as H' hD sm hd hl nd nD hr⟩
end
theorem Bes.newF {H:Hp} {l:Addr} {as:List Addr} {f:Nat->List V} (h:H l=some (.lst (as.map V.ref))) (nd:as.Nodup) (no:l ∉ as) (r:∀ i a,as[i]?=some a->H a=some (.lst (f i))):Bes H l as f:=⟨h,nd,no,r⟩
def Adj (ts:List Tie) (ks:List Nat) (u v:Nat):Prop:=∃ k ∈ ks,(u,v,(tieAt ts k).2.2) ∈ arcs2 (tieAt ts k)
def en (ts:List Tie) (k:Nat):Nat × Nat:=((tieAt ts k).1.toNat,(tieAt ts k).2.1.toNat)
def ones (ts:List Tie):List Tie:=ts.map λ t=>(t.1,t.2.1,1)
section
variable {n:Int} {ts:List Tie} {ks:List Nat} {u v k:Nat}
theorem a2_iff {t:Tie}:(u,v,t.2.2) ∈ arcs2 t↔(u=t.1.toNat/\v=t.2.1.toNat)\/(u=t.2.1.toNat/\v=t.1.toNat):=by
 rw[arcs2_mem]
 refine or_congr ⟨λ e=>?_,λ e=>by rw[e.1,e.2]⟩ ⟨λ e=>?_,λ e=>by rw[e.1,e.2]⟩ <;> (injection e with e1 e2;injection e2 with e2 _;exact⟨e1,e2⟩)
theorem zl5 (ok:WebOk n ts) (ko:KeepOk ts.length ks) (u v:Nat) (h:Adj ts ks u v):v < n.toNat:=by
 obtain⟨k,hk,m⟩:=h
 exact (zo9 ok ko _ _ _ (arcs_mem.mpr ⟨k,hk,m⟩)).2
theorem ztz (ok:WebOk n ts) (hk:k < ts.length):(en ts k).1 < (en ts k).2/\(en ts k).2 < n.toNat/\(((en ts k).1:Nat):Int)=(tieAt ts k).1/\(((en ts k).2:Nat):Int)=(tieAt ts k).2.1:=by
 have tk:=ok.tie _ (zav hk).2
 unfold en
 simp only
 left
theorem zax:(ones ts).length=ts.length:=uae _
theorem znw (h:k < ts.length):tieAt (ones ts) k=((tieAt ts k).1,(tieAt ts k).2.1,1):=by
 have h1:=(zav h).1
 have h2:=(zav (ts:=ones ts) (k:=k) (by rw[zax];exact h)).1
 unfold ones at h2 ⊢
 rw[uaq,h1] at h2
 exact (uau h2).symm
theorem zdo (ok:WebOk n ts):WebOk n (ones ts):=by
 refine⟨ok.n1,ok.n24,?_,by rw[zax];exact ok.few,λ t ht=>?_⟩
 ·unfold ones
  exact uey _ (λ _ _ h=>h) ok.rise
 ·obtain⟨t0,h0,rfl⟩:=ubj.mp ht
  have:=ok.tie _ h0
  exact⟨this.1,this.2.1,this.2.2.1,by show (1:Int)<=1;decide,by show (1:Int)<=10 ^ 18;decide⟩
theorem zcx (ko:KeepOk ts.length ks) {l:Int}:(u,v,l) ∈ arcs (ones ts) ks↔l=1/\Adj ts ks u v:=by
 rw[arcs_mem]
 constructor
 ·rintro ⟨k,hk,m⟩
  rw[znw (ko.2 k hk)] at m
  have el:l=1:=by rcases arcs2_mem.mp m with e | e <;> (injection e with _ e;injection e)
  subst el
  have:=(a2_iff (t:=((tieAt ts k).1,(tieAt ts k).2.1,1))).mp m
  exact⟨rfl,k,hk,a2_iff.mpr this⟩
 ·rintro ⟨rfl,k,hk,m⟩
  refine⟨k,hk,?_⟩
  rw[znw (ko.2 k hk)]
  have:=(a2_iff (t:=tieAt ts k)).mp m
  exact (a2_iff (t:=((tieAt ts k).1,(tieAt ts k).2.1,1))).mpr this
theorem zn2 (ok:WebOk n ts) (ko:KeepOk ts.length ks) (p q:Nat):q ∈ nbN ts ks (p:Int)↔Adj ts ks p q:=by
 unfold nbN
 rw[uaz,ucy,ucy]
 have e1:∀ k ∈ ks,(nb1 ts (p:Int) k=some q↔p=(tieAt ts k).1.toNat/\q=(tieAt ts k).2.1.toNat):=λ k hk=>by
  have tk:=ok.tie _ (zav (ko.2 k hk)).2
  unfold nb1
  by_cases c:(tieAt ts k).1=(p:Int)
  ·rw[if_pos c]
   exact⟨λ z=>⟨by left,(uau z).symm⟩,λ z=>by rw[z.2]⟩
  ·rw[if_neg c]
   exact⟨λ z=>(by cases z),λ z=>absurd (by left) c⟩
 have e2:∀ k ∈ ks,(nb2 ts (p:Int) k=some q↔p=(tieAt ts k).2.1.toNat/\q=(tieAt ts k).1.toNat):=λ k hk=>by
  have tk:=ok.tie _ (zav (ko.2 k hk)).2
  unfold nb2
  by_cases c:(tieAt ts k).2.1=(p:Int)
  ·rw[if_pos c]
   exact⟨λ z=>⟨by left,(uau z).symm⟩,λ z=>by rw[z.2]⟩
  ·rw[if_neg c]
   exact⟨λ z=>(by cases z),λ z=>absurd (by left) c⟩
 constructor
 ·rintro (⟨k,hk,h⟩ | ⟨k,hk,h⟩)
  ·exact⟨k,hk,a2_iff.mpr (.inl ((e1 k hk).mp h))⟩
  ·exact⟨k,hk,a2_iff.mpr (.inr ((e2 k hk).mp h))⟩
 ·rintro ⟨k,hk,h⟩
  rcases a2_iff.mp h with z | z
  ·exact .inl ⟨k,hk,(e1 k hk).mpr z⟩
  ·exact .inr ⟨k,hk,(e2 k hk).mpr z⟩
end
theorem zcb {K:uac} {H:Hp} {p:Addr} {ks:List Nat} (h:H p=some (.tup (natV ks))):Is K H (keepD ks) (.ref p):=⟨p,_,rfl,h,by rw[zbb];exact IsAll.ints _⟩
def IsLR (ts:List Tie) (ks:List Nat) (h:Nat) (tl:List Nat):Prop:=Lr.Rg (Adj ts ks) h tl/\Lr.Cano h tl/\(∀ h' tl',Lr.Rg (Adj ts ks) h' tl'->tl.length<=tl'.length)/\∀ h' tl',Lr.Rg (Adj ts ks) h' tl'->Lr.Cano h' tl'->tl'.length=tl.length->Lr.lle (h::tl) (h'::tl')
section
variable {J:It} {g:TG} {tt:TT} {te:TE} {own:List Str} {js:List Nat} {σ:L2.St} {H1:Hp} {Q:VK}
end
end L3
namespace Stb
open PySem PyProof.Rows
section
variable {prog:Program} {w:World} {A:Around} {E:Value->Shared->Prop} {s:Shared}
theorem zto {t:Addr} {xs:Array Value} {ns:List Int} {Q:Value->Shared->Prop} (hh:A.handled=none) (ht:s.heap.IsList t xs) (hi:IntsAre xs.toList ns) (hb:xs.size + 1 < scanBound)
  (fin:∀ (h':Heap) (tk:Nat),SetT prog w h' s.heap.objs.size (HT.setS ns xs.size) (HT.setN ns xs.size)->(∀ b o,b < s.heap.objs.size->s.heap.get? b=some o->h'.get? b=some o)->Q (.ref s.heap.objs.size) { s with heap:=h',toks:=tk }) :
  wpAny (model prog w) A (call (.type "set") [.ref t]) Q E s:=by
 obtain⟨c,tl,hmro⟩:=ucw.mro
 have hmade:=ucw.made;have hsub:=ucw.sub
 refine wpAny_call (codeAny_of_tree ?_);show wpAny _ _ (callAny (.type "set") _) _ _ _
 refine uah ⟨Code.quiet_builtin _ (by symm),ucu PySem.F.entry_type_call ?_⟩
 rw[Around.under_plain (PySem.weight_type_call_type "set" [.ref t] []) rfl]
 have h1:=ucw.notType;have h2:=ucw.canCreate;have hct:=PySem.F.typeCall_set_1 (.ref t)
 repeat (any_goals (first | assumption | wp_step))
 refine ufk (zub (.ref t) (E:=E) (U:=λ obj s₁=>obj=.ref s.heap.objs.size/\s₁={ s with heap:=s.heap.push (emp w) }) ⟨rfl,rfl⟩) λ r s₁ hr=>?_
 match r,hr with
 | .error e,hr=>exact hr
 | .ok .next,hr=>exact hr.elim
 | .ok .brk,hr=>exact hr.elim
 | .ok .cont,hr=>exact hr.elim
 | .ok (.ret obj),hr =>
  obtain⟨rfl,rfl⟩:=hr
  have gS:(s.heap.push (emp w)).get? s.heap.objs.size=some (emp w):=Heap.get?_push_size _ rfl
  have hT:Shared.TypeIs { s with heap:=s.heap.push (emp w) } (.ref s.heap.objs.size) "set":=⟨_,gS,rfl⟩
  have hli:=ucw.init.lookup;have hbi:=ucw.init.bind (.ref s.heap.objs.size)
  repeat (any_goals (first | assumption | wp_step))
  refine ufk (codeAny_call_builtin (R:=wants (λ r s₂=>r=.none/\∃ h' tk,s₂={ s with heap:=h',toks:=tk }/\SetT prog w h' s.heap.objs.size (HT.setS ns xs.size) (HT.setN ns xs.size)/\(∀ b o,b < s.heap.objs.size->s.heap.get? b=some o->h'.get? b=some o)) E) ucw.init.plain PySem.F.entry_set_init (PySem.check_set_init_1 hT ?_)) λ r₂ s₂ hr₂=>?_
  ·obtain⟨ot,ho,hc,m,hd⟩:=id ht
   obtain⟨ocls,odict,odata,oslots⟩:=ot
   simp only at hc hd;subst hc hd
   have ho':(s.heap.push (emp w)).get? t=some { cls:=.type "list",dict:=odict,data:=.seq xs m,slots:=oslots }:=Heap.get?_push_of_some _ ho
   have f1:=PySem.F.sub_list_set;have f2:=PySem.F.sub_list_frozenset
   have f3:(Value.type "list" == Value.type "dict")=false:=by decide
   have it1:(s.heap.push (emp w)).IsList t xs:=⟨_,ho',rfl,m,rfl⟩
   unfold Builtin.«set.__init__» noKeywords Builtin.Frozenset.updateFrom
   generalize hPI:pyIter=PI
   wp_walk;subst hPI
   refine uc7 it1 (uab (wpAny_runValue ?_))
   have lt:t < s.heap.objs.size:=Heap.lt_size ho
   have hh3:A.in1.in1.in1.handled=none:=by simp [hh]
   have sz1:(s.heap.push (emp w)).objs.size=s.heap.objs.size + 1:=Heap.size_push ..
   have tI:t≠(s.heap.push (emp w)).objs.size:=by rw[sz1];exact uaw (ub4 lt)
   have Sfp:s.heap.objs.size ∉ [(s.heap.push (emp w)).objs.size,t]:=by
    rw[sz1];simp only [uar,ua4,or_false,not_or];exact⟨uaw (ucj _),(uaw lt).symm⟩
   have vals:∀ (i:Nat) (v:Value),xs[i]?=some v->∃ u,v=.int ((λ i=>ns.getD i 0) i) u:=λ i v hv=>IntsAre.int_at hi i v (by rw[uda];exact hv)
   refine ztx ((Walks.list hh3 _ t tI xs).toS) s.heap.objs.size Sfp (λ i=>ns.getD i 0) vals hb (xs.size - 0) 0 _ (by left) (ubb _) ?st ?s0 ?fin
   case st=>exact⟨⟨_,Heap.get?_push_size _ rfl,rfl,rfl⟩,it1.push _⟩
   case s0=>exact (zug s.heap).keep λ o e=>Heap.get?_push_of_some _ e
   case fin =>
    rintro ⟨h',g',d',tk',os'⟩ hm hS'
    obtain rfl:g'=s.gens:=hm.gens
    obtain rfl:d'=s.drawn:=hm.drawn
    obtain rfl:os'=s.os:=hm.os
    refine uah (uah ⟨rfl,h',tk',rfl,hS',λ b o hlt e=>hm.heap b o ?_ (Heap.get?_push_of_some _ (Heap.get?_push_of_some _ e))⟩)
    rw[sz1];simp only [uar,ua4,or_false,not_or]
    exact⟨uaw hlt,uaw (ub4 hlt)⟩
  ·match r₂,hr₂ with
   | .error e,hr₂=>exact hr₂
   | .ok .next,hr₂=>exact hr₂.elim
   | .ok .brk,hr₂=>exact hr₂.elim
   | .ok .cont,hr₂=>exact hr₂.elim
   | .ok (.ret v),hr₂ =>
    obtain⟨rfl,h',tk,rfl,hS',hk⟩:=hr₂
    repeat (any_goals (first | assumption | wp_step))
    exact fin h' tk hS' hk
end
end Stb
namespace L3
open PySem PySem.Spec PyProof.Rows L2
section
variable {X:Cx}
theorem zgo (hh:X.calm=true):CallR X (.type "set") (λ xs H Q=>∃ (p:Addr) (ns:List Int),xs=[.ref p]/\H p=some (.lst (ns.map V.int))/\ns.length<=1000/\∀ q H',Same H H'->H q=none->H' q=some (SetO X.prog X.w q (HT.setS ns ns.length) (HT.setN ns ns.length))->Q (.ref q) H'):=by
 intro pins s σ H xs us Q I r h
 obtain⟨p,ns,rfl,hp,hl,q⟩:=h
 obtain⟨u,rfl,rx⟩:=vals1 r
 cases rx
 obtain⟨its,rv,pt,hz⟩:=I.list (SqL.of hp)
 have hlen:=rv.length
 rw[uae] at hlen
 have fr:H s.heap.objs.size=none:=I.hok.fresh (uai _)
 have esz:its.toArray.size=ns.length:=by rw[uak,← hlen]
 refine Stb.zto (ns:=ns) (I.ok.hd hh) (show s.heap.IsList p its.toArray from pt.isList) (by simpa using zbh rv) (by rw[esz];unfold scanBound;left) λ h' tk hS hk=>?_
 rw[esz] at hS
 refine⟨.ref s.heap.objs.size,_,I.laid (a:=s.heap.objs.size) (o:=SetO X.prog X.w s.heap.objs.size (HT.setS ns ns.length) (HT.setN ns ns.length)) (t':=tk) (λ b o e=>hk b o (Heap.lt_size e) e) (uai _) ⟨hS,?_,λ h1 h2 x k=>x.keep k⟩,rfl,q _ _ (zal fr) fr zai⟩
 obtain⟨⟨o,_,_,_,ho,_⟩,_⟩:=hS
 exact⟨o,ho⟩
end
end L3
namespace Far
variable {A:List (Nat × Nat × Int)} {s:Nat}
def Unit1 (A:List (Nat × Nat × Int)):Prop:=∀ u v l,(u,v,l) ∈ A->l=1
def AtK (A:List (Nat × Nat × Int)) (s k v:Nat):Prop:=Walk A s v (k:Int)/\∀ x,Walk A s v x->(k:Int)<=x
theorem Unit1.pos (U:Unit1 A):Pos A:=λ u v l h=>by rw[U u v l h];exact ubm 1
theorem Walk.last (U:Unit1 A) {v:Nat} {x:Int} (h:Walk A s v x):(v=s/\x=0)\/∃ u,Walk A s u (x - 1)/\(u,v,1) ∈ A:=by
 cases h with
 | nil=>exact .inl ⟨rfl,rfl⟩
 | @snoc u v l x h m =>
  have e:=U _ _ _ m
  subst e
  exact .inr ⟨u,by rw[Int.add_sub_cancel];exact h,m⟩
structure Bfs (A:List (Nat × Nat × Int)) (s i:Nat) (D:Nat->Option Nat) (ring:List Nat):Prop where
 found:∀ v d,D v=some d↔AtK A s d v/\d < i
 ring:∀ v,v ∈ ring↔AtK A s i v
end Far
namespace L3
open PySem PySem.Spec PyProof.Rows L2
theorem zk3 {ns:List Int} {m:Nat} (h:∀ x ∈ ns,0<=x/\x < m):HT.setN ns ns.length<=m:=by
 obtain⟨h1,h2⟩:=zbu (λ i=>ns.getD i 0) ns.length
 rw[L3.zbg ns 0] at h2
 have e:(firstMet (λ i=>ns.getD i 0) ns.length).length=((firstMet (λ i=>ns.getD i 0) ns.length).map Int.toNat).length:=(uae _).symm
 show (firstMet (λ i=>ns.getD i 0) ns.length).length<=m
 rw[e]
 refine Peel.zfj m _ ?_ λ p hp=>?_
 ·rw[ubt,ucc]
  refine udv ?_ h1
  intro a b ha hb ne z
  have:=h a ((h2 a).mp ha)
  have:=h b ((h2 b).mp hb)
  exact ne (by left)
 ·obtain⟨x,hx,rfl⟩:=ubj.mp hp
  have:=h x ((h2 x).mp hx)
  left
theorem Bes.but {H H':Hp} {l c:Addr} {as:List Addr} {rows:Nat->List V} (b:Bes H l as rows) (nl:l≠c) (na:c ∉ as) (B:But c H H'):Bes H' l as rows:=⟨B _ _ nl b.top,b.nd,b.own,λ i a e=>B _ _ (λ z=>na (z ▸ uao e)) (b.row i a e)⟩
theorem zlk:∀ {ms:List Int},(∀ x ∈ ms,0<=x)->ms.map V.int=natV (ms.map Int.toNat)
 | [],_=>rfl
 | x::ms,h=>by
  have e:((x.toNat:Nat):Int)=x:=ubg (h x ual)
  have ih:=zlk (ms:=ms) λ y hy=>h y (uap _ hy)
  show V.int x::ms.map V.int=V.int ((x.toNat:Nat):Int)::natV (ms.map Int.toNat)
  rw[e,ih]
theorem zes {ts:List Tie} {ks:List Nat} (ko:KeepOk ts.length ks):Far.Unit1 (arcs (ones ts) ks):=λ u v l h=>((zcx ko).mp h).1
theorem zjv {n:Int} {ts:List Tie} {ks:List Nat} {s v:Nat} {x:Int} (ok:WebOk n ts) (ko:KeepOk ts.length ks) (hs:s < n.toNat) (h:Far.Walk (arcs (ones ts) ks) s v x):v < n.toNat:=by
 rcases h.last (zes ko) with ⟨e,_⟩ | ⟨u,_,m⟩
 ·rw[e];exact hs
 ·exact zl5 ok ko u v ((zcx ko).mp m).2
theorem zcj (a b:List Nat):natV (a++b)=natV a++natV b:=by unfold natV;rw[ua3]
theorem zah (a:List Nat):(natV a).length=a.length:=by unfold natV;rw[uae]
theorem za6 (E:List (Option Nat)) {i v:Nat} (x:Nat) (h:i < E.length):Far.get (E.set i (some x)) v=if v=i then some x else Far.get E v:=by
 unfold Far.get
 rw[uaf,uaf]
 by_cases z:v=i
 ·subst z
  rw[if_pos rfl,uek h];rfl
 ·rw[if_neg z,uew (Ne.symm z)]
theorem zqb {K:uac} {t1 t2:Bool} {l1 l2:Addr} {xs zs:List V} {g:TG} {tb:TS} {D:Ends} {σ:L2.St} {H:Hp} (Pv:Nat->L2.St->Hp->Prop) (h0:Pv 0 σ H) (hl:∀ i σ H,Pv i σ H->SqX t1 K H l1 xs/\SqX t2 K H l2 zs)
  (hs:∀ i x z T σ H,xs[i]?=some x->zs[i]?=some z->H T=none->Pv i σ H->g (.ref T) σ (upd H T (.tup [x,z])) λ σ2 H2=>tb { D with nx:=Pv (i + 1),ct:=Pv (i + 1),bk:=D.nx } σ2 H2) (hd:∀ σ H,Pv (min xs.length zs.length) σ H->D.nx σ H) :
  ∃ W:Nat->Nat->L2.St->Hp->Prop,(∃ m,W 0 m σ H)/\∀ i m σ H,W i m σ H ->
   ((Itz t1 t2 K l1 l2).stop i H/\D.nx σ H)\/((Itz t1 t2 K l1 l2).go i H/\∃ N:L2.St->Hp->Prop,(∀ σ' H',N σ' H'->∃ m',m' < m/\W (i + 1) m' σ' H')/\∀ x H',(Itz t1 t2 K l1 l2).yld i H x H'->g x σ H' λ σ2 H2=>tb { D with nx:=N,ct:=N,bk:=D.nx } σ2 H2):=by
 refine⟨λ i m σ H=>m=xs.length - i/\i<=min xs.length zs.length/\Pv i σ H,⟨xs.length,by simp,ubb _,h0⟩,?_⟩
 rintro i m σ H ⟨rfl,hi,p⟩
 obtain⟨q1,q2⟩:=hl i σ H p
 by_cases hlt:i < xs.length/\i < zs.length
 ·have e1:xs[i]?=some xs[i]:=uad hlt.1
  have e2:zs[i]?=some zs[i]:=uad hlt.2
  refine .inr ⟨⟨xs,zs,_,_,q1,q2,e1,e2⟩,Pv (i + 1),λ σ' H' p'=>⟨xs.length - (i + 1),by left,rfl,by left,p'⟩,λ x H' y=>?_⟩
  obtain⟨T,x',y',hT,rfl,rfl,a1,a2⟩:=y
  have b1:=a1 _ q1
  have b2:=a2 _ q2
  exact hs i x' y' T σ H b1 b2 hT p
 ·have e:i=min xs.length zs.length:=by left
  exact .inl ⟨⟨xs,zs,q1,q2,by left⟩,hd σ H (e ▸ p)⟩
section
variable {n g:Int} {ts:List Tie} {ks:List Nat} {k:Nat}
end
def tupH (hs:List Int):PyData:=.tuple (hs.map .int)
def peB (n:Int) (ts:List Tie) (ks:List Nat) (k:Nat) (g:Int) (hs:List Int):Bool:=holdB n (ones ts) (but ks k) hs && decide (g - 1<=acrossI (ones ts) hs k)
def frB (n:Int) (ts:List Tie) (ks:List Nat) (g:Int) (pp:List (List Int)):Bool:=decide (pp.length=ks.length) && (uag ks.length).all λ i=>peB n ts ks (ks.getD i 0) g (pp.getD i [])
end L3
namespace Srt
open PySem PySem.W PyProof.Rows
section
variable {prog:Program} {w:World} {A:Around} {E:Value->Shared->Prop} {s:Shared} {κ:SortKind} {it:Array Keyed}
theorem zi2:∀ (f n r:Nat),r<=1->minRun' f n r<=n + r
 | 0,n,r,_=>uer rfl
 | f + 1,n,r,h=>by
  rw[minRun'_succ]
  split
  ·exact uai _
  ·have:=zi2 f (n / 2) (max r (n % 2)) (by left)
   left
theorem runsA {n:Nat} {Q:Unit->SortSt->Shared->Prop} {G:Array Nat->Shared->Prop} (h2:2<=n)
  (hG:∀ p' st' s',p'.size=n->arrOf st'=p'.map (kas_item it)->failedOf st'=none->G p' s'->Q () st' s')
  (h:(kas_count n (ub9 (uag n))).kasWp (kas_cmp prog w A κ it) (λ x s'=>x.1=n/\G x.2 s') s) :
  kasC (model prog w) A E sortRuns' Q (kas_st κ it (ub9 (uag n))) s:=by
 obtain⟨r,rfl⟩:∃ r,n=r + 2:=⟨n - 2,by left⟩
 have zr:(ub9 (uag (r + 2))).size=r + 2:=by simp
 have za:(arrOf (kas_st κ it (ub9 (uag (r + 2))))).size=r + 2:=by show (Array.map _ _).size=_;rw[Array.size_map,zr]
 rw[sortRuns'_eq];refine kasC_bind (kasC_get ?_);dsimp only;simp only [za]
 have hmr:minRun' (r + 2) (r + 2) 0<=r + 2:=zi2 _ _ _ (by decide)
 generalize minRun' (r + 2) (r + 2) 0=mr at hmr
 refine kasC_bind (kasC_range (show kasC _ _ _ (forIn (0::1::uea 2 r) _ _) _ _ _ from kasC_cons ?_));dsimp only;rw[if_neg (by left)]
 simp only [Nat.sub_zero,Nat.zero_add]
 refine kasC_bind (kas_count_ (by left) (by rw[zr];exact uai _) (λ m p' s' m1 m2 hp hg=>?_) h)
 obtain⟨em,hg⟩:=hg
 have em:m=r + 2:=em
 subst em
 have zp:p'.size=r + 2:=hp.trans zr
 dsimp only;rw[if_neg (show ¬ r + 2 < mr by left)]
 refine kasC_bind (kasC_get ?_);rw[show (pendingOf (kas_st κ it p')).back?=none from rfl];dsimp only
 refine kasC_bind (kasC_modify (kasC_pure (show kasC _ _ _ (forIn (1::uea 2 r) _ _) _ _ _ from kasC_cons ?_)));dsimp only
 rw[if_pos (uai _)];refine kasC_pure ?_;dsimp only
 refine kasC_bind (kasC_range (show kasC _ _ _ (forIn (0::1::uea 2 r) _ _) _ _ _ from kasC_cons (kasC_bind (kasC_get ?_))))
 rw[if_pos (show (pendingOf (setPending (kas_st κ it p') ((pendingOf (kas_st κ it p')).push (0,r + 2,0)))).size<=1 by exact uai 1)]
 refine kasC_pure ?_;dsimp only
 exact kasC_pure (hG p' _ _ zp rfl rfl hg)
theorem countA {N:Nat} {r:Nat->Int} {cmp:Nat->Nat->(Bool->Shared->Prop)->Shared->Prop} (h:Ask N r cmp s) (hN:0 < N) (up:Up r (ub9 (uag N)) N) {Q:Nat × Array Nat->Shared->Prop} (z:Q (N,ub9 (uag N)) s):(kas_count N (ub9 (uag N))).kasWp cmp Q s:=by
 unfold kas_count
 rw[KasT.kasWp_bind]
 refine zl3 h hN (ueq _) _ 1 (uai _) (λ i j hij hj=>?_) (λ m a b u d=>?_)
 ·have:i=j:=by left
  subst this;exact ubm _
 have hm:m=N:=by
  refine Classical.byContradiction λ c=>?_
  have d1:=d (by left)
  have d2:=up (m - 1) m (by left) (by left)
  left
 subst hm
 show KasT.kasWp cmp (if (m == m)=true then .ret (m,ub9 (uag m)) else _) Q s
 rw[if_pos (by simp)]
 exact z
theorem runA {ks vs:List Value} {Q:SortSt->Shared->Prop} {G:Array Nat->Shared->Prop} (hl:ks.length=vs.length) (h2:2<=vs.length)
  (hG:∀ p st' s',p.size=vs.length->arrOf st'=p.map (kas_item (ks.toArray.zip vs.toArray))->failedOf st'=none->G p s'->Q st' s')
  (h:(kas_count vs.length (ub9 (uag vs.length))).kasWp (kas_ask prog w A κ ks) (λ x s'=>x.1=vs.length/\G x.2 s') s) :
  wpAny (model prog w) A ((sortRuns').run (SortSt.mk' κ (ks.toArray.zip vs.toArray) #[] 7 none)) (λ r s'=>Q r.2 s') E s:=by
 rw[kat_ask_eq hl] at h
 have go:=runsA (E:=E) (Q:=λ _ st' s'=>Q st' s') h2 hG h
 have e:=kas_range (ks.toArray.zip vs.toArray)
 rw[show (ks.toArray.zip vs.toArray).size=vs.length by simp [hl]] at e
 have e2:SortSt.mk' κ (ks.toArray.zip vs.toArray) #[] 7 none=kas_st κ (ks.toArray.zip vs.toArray) (ub9 (uag vs.length)):=by
  show _=SortSt.mk' κ (Array.map _ _) #[] 7 none
  rw[e]
 rw[e2];exact go
theorem lsortA {a:Addr} {vs:List Value} {n:Nat} {P:PySem.Fin->Shared->Prop} {r:Nat->Int} {κ:SortKind} (ho:s.heap.get? a=some (seqObj "list" vs.toArray n)) (hz:vs.length<=1000) (up:∀ i j,i<=j->j < vs.length->r i<=r j)
  (hk:2<=vs.length->∀ (s':Shared) (Q:SortKind->Shared->Prop),Stay a s.heap s'.heap->Q κ s'->wpAny (model prog w) A (keyKind' vs.toArray) Q (λ _ _=>False) s')
  (hc:∀ (s':Shared) (i j:Nat) (C:Bool->Shared->Prop),Stay a s.heap s'.heap->i < vs.length->j < vs.length->C (decide (r i < r j)) s'->kas_ask prog w A κ vs i j C s')
  (h:∀ (p:Array Nat) (h':Heap) (c:Nat),Gd vs.length p->Up r p vs.length->Stay a s.heap h'->h'.get? a=some (seqObj "list" (outOf vs p).toArray c)->P (.done (.ret .none)) { s with heap:=h' }) :
  wpAny (model prog w) A (Builtin.«list.sort» ⟨[.ref a],[]⟩) P E s:=by
 rw[list_sort_plain]
 have ha:a < s.heap.objs.size:=Heap.lt_size ho
 have line:(1000:Nat)<=sizeLine:=by rw[ucf];decide
 refine uab (listItems_at ho rfl (uab (listUpdate_at ho rfl ?_ (by rw[uak];left) (ubb _))))
 have e1:=get?_update_seq ho λ _=>(#[]:Array Value)
 generalize (if ((λ _=>(#[]:Array Value)) vs.toArray).size == vs.toArray.size then n else n + 1)=n1 at e1
 have k1:Stay a s.heap (s.heap.update a (Obj.mapSeq λ _=>(#[]:Array Value))):=λ b o hb q=>(Heap.get?_update_other s.heap _ (Ne.symm hb)).trans q
 refine uab (seqEpoch_at e1 rfl (uab (ugc ?_ (by show vs.length<=_;left))))
 refine uab (ud6 ?_ (ubb _))
 refine ubk ?_
 show wpAny (model prog w) A _ P E { s with heap:=(((s.heap.update a (Obj.mapSeq λ _=>(#[]:Array Value))).push (seqObj "tuple" vs.toArray 0)).push (seqObj "list" #[] 0):Heap) }
 generalize hg:((s.heap.update a (Obj.mapSeq λ _=>(#[]:Array Value))).push (seqObj "tuple" vs.toArray 0)).push (seqObj "list" #[] 0)=g
 have e2:g.get? a=some (seqObj "list" #[] n1):=by rw[← hg];exact Heap.get?_push_of_some _ (Heap.get?_push_of_some _ e1)
 have k2:Stay a s.heap g:=λ b o hb q=>by rw[← hg];exact Heap.get?_push_of_some _ (Heap.get?_push_of_some _ (k1 b o hb q))
 have fin:∀ (p:Array Nat),Gd vs.length p->Up r p vs.length->P (.done (.ret .none)) { s with heap:=g.update a (Obj.mapSeq λ _=>(outOf vs p).toArray) }:=λ p g1 u1 =>
  h p _ _ g1 u1 (λ b o hb q=>(Heap.get?_update_other g _ (Ne.symm hb)).trans (k2 b o hb q)) (get?_update_seq e2 λ _=>(outOf vs p).toArray)
 have up0:Up r (ub9 (uag vs.length)) vs.length:=λ i j hij hj=>by
  have e:∀ k,k < vs.length->(ub9 (uag vs.length)).getD k 0=k:=λ k hk=>by simp [ugb,hk]
  unfold ky
  rw[e i (by left),e j hj]
  exact up i j hij hj
 by_cases h2:vs.length < 2
 ·have h2':vs.toArray.size < 2:=by rw[uak];exact h2
  simp only [if_pos h2']
  refine uab (uah ?_)
  rw[StateT.run_pure]
  refine uab (uah ?_)
  have eo:((arrOf (SortSt.mk' general' (vs.toArray.zip vs.toArray) #[] 7 none)).map (·.2))=vs.toArray:=by
   apply Array.toList_inj.mp
   show ((vs.toArray.zip vs.toArray).map (·.2)).toList=_
   rw[Array.toList_map]
   simp only [Array.toList_zip,List.toList_toArray]
   exact ufr (uai _)
  dsimp only
  refine uab (seqEpoch_at e2 rfl ?_)
  rw[eo]
  refine uab (listUpdate_at e2 rfl ?_ (ubb _) (by rw[uak];left))
  simp only [bne_self_eq_false,ub5,if_false]
  have f:=fin (ub9 (uag vs.length)) (ueq _) (λ i j hij hj=>by
   have:i=j:=by left
   subst this;exact ubm _)
  rw[ze3] at f
  exact uah f
 ·have h2':¬ vs.toArray.size < 2:=by rw[uak];exact h2
  simp only [if_neg h2']
  refine uab (ucv (hk (by left) { s with heap:=g } (λ κ' s'=>κ'=κ/\s'={ s with heap:=g }) k2 ⟨rfl,rfl⟩) (λ κ' s' hq=>?_) λ _ _ x=>x.elim)
  obtain⟨rfl,rfl⟩:=hq
  refine uab (ucv (runA (ks:=vs) (Q:=λ st' s'=>∃ p:Array Nat,arrOf st'=p.map (kas_item (vs.toArray.zip vs.toArray))/\failedOf st'=none/\s'={ s with heap:=g }/\Gd vs.length p/\Up r p vs.length)
   (G:=λ p s'=>s'={ s with heap:=g }/\Gd vs.length p/\Up r p vs.length) rfl (by left) (λ p st' s' _ b2 b3 b4=>⟨p,b2,b3,b4.1,b4.2.1,b4.2.2⟩)
   (countA (r:=r) (λ i j C hi hj q=>hc _ i j C k2 hi hj q) (by left) up0 ⟨rfl,rfl,ueq _,up0⟩)) ?_ λ _ _ e=>e)
  rintro ⟨⟨⟩,st'⟩ s' ⟨p,har,hf,rfl,g1,u1⟩
  have hout:=kat_snds (ks:=vs) (vs:=vs) rfl har
  have ol:(outOf vs p).length=vs.length:=zri g1
  dsimp only
  rw[hout]
  refine uab (seqEpoch_at e2 rfl ?_)
  refine uab (listUpdate_at e2 rfl ?_ (ubb _) (by show (outOf vs p).toArray.size<=_;rw[uak];left))
  rw[hf]
  simp only [bne_self_eq_false,ub5,if_false]
  exact uah (fin p g1 u1)
theorem zmb {l:Addr} {vs:List Value} {Q:Value->Shared->Prop} {r:Nat->Int} {κ:SortKind} (hl:s.heap.IsList l vs.toArray) (hz:vs.length<=1000) (up:∀ i j,i<=j->j < vs.length->r i<=r j)
  (hk:2<=vs.length->∀ (A':Around) (s':Shared) (Q:SortKind->Shared->Prop),(∀ b o,s.heap.get? b=some o->s'.heap.get? b=some o)->Q κ s'->wpAny (model prog w) A' (keyKind' vs.toArray) Q (λ _ _=>False) s')
  (hc:∀ (A':Around) (s':Shared) (i j:Nat) (C:Bool->Shared->Prop),(∀ b o,s.heap.get? b=some o->s'.heap.get? b=some o)->i < vs.length->j < vs.length->C (decide (r i < r j)) s'->kas_ask prog w A' κ vs i j C s')
  (h:∀ (p:Array Nat) (h':Heap) (c:Nat),Gd vs.length p->Up r p vs.length->(∀ b o,s.heap.get? b=some o->h'.get? b=some o)->h'.get? (s.heap.objs.size + 1)=some (seqObj "list" (outOf vs p).toArray c)->Q (.ref (s.heap.objs.size + 1)) { s with heap:=h' }) :
  wpAny (model prog w) A (call (.builtin "sorted") [.ref l]) Q E s:=by
 have line:(1000:Nat)<=sizeLine:=by rw[ucf];decide
 refine Calls.call_function_entry kind_sorted plain_sorted entry_sorted (args_sorted1 _) ?_
 unfold Builtin.«sorted»
 refine uab (m:=checkCount "sorted" 1 1 _) (uah (uab (collect_list hl (uab (ud6 ?_ (by left))) (by left))))
 generalize hg:(s.heap.push (seqObj "list" #[] 0)).update s.heap.objs.size (Obj.mapSeq (·++vs.toArray))=g
 have sz:g.objs.size=s.heap.objs.size + 1:=by rw[← hg,Heap.size_update,size_push']
 have k1:∀ b o,s.heap.get? b=some o->g.get? b=some o:=λ b o q=>by
  rw[← hg]
  exact (Heap.get?_update_other _ _ (Ne.symm (uaw (Heap.lt_size q)))).trans (Heap.get?_push_of_some _ q)
 have hoL:(g.push { cls:=.type "list",data:=.seq vs.toArray }).get? (s.heap.objs.size + 1)=some (seqObj "list" vs.toArray 0):=by rw[← sz];exact Heap.get?_push_size _ rfl
 have k2:∀ b o,s.heap.get? b=some o->(g.push { cls:=.type "list",data:=.seq vs.toArray }).get? b=some o:=λ b o q=>Heap.get?_push_of_some _ (k1 b o q)
 have ne:∀ b o,s.heap.get? b=some o->b≠s.heap.objs.size + 1:=λ b o q=>uaw (ub4 (Heap.lt_size q))
 show wpAny _ _ _ _ _ { s with heap:=g.push { cls:=.type "list",data:=.seq vs.toArray } }
 rw[sz]
 refine uab (ubk (ubi slot_list_sort ⟨_,hoL,rfl⟩ entry_list_sort ?_ (args_list_sort _)))
 refine lsortA (s:={ s with heap:=g.push { cls:=.type "list",data:=.seq vs.toArray } }) (r:=r) (κ:=κ) hoL hz up (λ h2 s' Q' st q=>hk h2 _ s' Q' (λ b o e=>st b o (ne b o e) (k2 b o e)) q)
  (λ s' i j C st hi hj q=>hc _ s' i j C (λ b o e=>st b o (ne b o e) (k2 b o e)) hi hj q) λ p h' c g1 u1 st e=>⟨_,rfl,?_⟩
 exact uah ⟨_,rfl,h p h' c g1 u1 (λ b o e=>st b o (ne b o e) (k2 b o e)) e⟩
end
end Srt
namespace L3
open PySem PySem.Spec PyProof.Rows L2
inductive call_sortedTA_i (K:uac) (xs:List V) (H:Hp) (Q:VK):Prop
 | mk:∀ p ys ks,(xs=[.ref p])->(SqL K H p ys)->(ys.length<=1000)->((∀ i j,i<=j->j < ys.length->Srt.lexI (ks.getD j []) (ks.getD i [])=false))->(Paired (λ (y:V) (k:List Int)=>∃ a,y=.ref a/\SqT K H a (k.map V.int)) ys ks)->((∀ k ∈ ks,k≠[]))->(∀ qs:List (V × List Int),qs.Perm (ys.zip ks)->qs.Pairwise (λ a b=>Srt.lexI b.2 a.2=false)->∀ l,H l=none->Q (.ref l) (upd H l (.lst (qs.map (·.1)))))->call_sortedTA_i K xs H Q
theorem zhr {X:Cx}:CallR X (.builtin "sorted") (call_sortedTA_i X.K):=by
 intro pins s σ H xs us Q I r h
 obtain⟨p,ys,ks,rfl,hq,h64,asc,hp,hne,q⟩:=h
 obtain⟨u,rfl,rx⟩:=vals1 r
 cases rx
 obtain⟨its,rv,pl,hz⟩:=I.list hq
 have hl:=rv.length
 have hlk:ys.length=ks.length:=Paired.length hp
 have line:(1000:Nat)<=sizeLine:=by rw[ucf];decide
 have hT:∀ {ys:List V} {ks:List (List Int)} {its:List Value},Paired (λ (y:V) (k:List Int)=>∃ a,y=.ref a/\SqT X.K H a (k.map V.int)) ys ks->Vals ys its->Paired (Srt.TupI s.heap) its ks:=by
  intro ys ks its hp
  induction hp generalizing its with
  | nil=>intro rv;cases rv;exact .nil
  | cons r t ih =>
   intro rv
   cases rv with
   | cons r1 r2 =>
    refine .cons ?_ (ih r2)
    obtain⟨a,rfl,qa⟩:=r
    cases r1
    obtain⟨its',rv',⟨o,e1,e2,n,e3⟩,_⟩:=I.tuple qa
    exact⟨a,o,its'.toArray,n,rfl,e1,e2,e3,by simpa using zbh rv'⟩
 have tp:=hT hp rv
 have mono:∀ {h':Heap},(∀ b o,s.heap.get? b=some o->h'.get? b=some o)->Paired (Srt.TupI h') its ks:=λ k=>Paired.mapP tp λ v k' z=>z.to k
 refine Srt.zmb (r:=Srt.rank its.length λ i j=>Srt.lexI (ks.getD i []) (ks.getD j [])) (κ:=tuples' true) pl.isList (by left) (λ i j hij hj=>?asc) (λ h2 A' s' Q' k q'=>Srt.zkv (mono k) hne h2 q')
  (λ A' s' i j C k hi hj q'=>Srt.zm4 (mono k) hi hj (by rw[Srt.zeu (lt:=λ i j=>Srt.lexI (ks.getD i []) (ks.getD j [])) (λ i=>Srt.zb4 _) (λ _ _ _ _ _ _=>Srt.zbs _ _ _) (λ _ _ _ _ _ _=>Srt.zc3 _ _ _) hi hj] at q';exact q')) λ pp h' c g u kp e=>?fin
 case asc =>
  have w:=Srt.zeu (n:=its.length) (lt:=λ i j=>Srt.lexI (ks.getD i []) (ks.getD j [])) (λ i=>Srt.zb4 _) (λ _ _ _ _ _ _=>Srt.zbs _ _ _) (λ _ _ _ _ _ _=>Srt.zc3 _ _ _) (i:=j) (j:=i) hj (by left)
  rw[asc i j hij (by left)] at w
  have:=of_decide_eq_false w
  left
 have fr:H (s.heap.objs.size + 1)=none:=I.hok.fresh (uc2 _)
 have pm:(pp.toList.map λ i=>(ys.getD i .non,ks.getD i [])).Perm (ys.zip ks):=by
  have h1:=zfo g λ i=>(ys.getD i V.non,ks.getD i [])
  have e1:(uag its.length).map (λ i=>(ys.getD i V.non,ks.getD i []))=ys.zip ks:=by
   refine ues (by simp;left) λ i h1 h2=>?_
   have hi:i < its.length:=by simpa using h1
   have a1:i < ys.length:=by left
   have a2:i < ks.length:=by left
   simp [udc,a1,a2]
  rw[e1] at h1
  exact h1
 have pw:(pp.toList.map λ i=>(ys.getD i V.non,ks.getD i [])).Pairwise (λ a b=>Srt.lexI b.2 a.2=false):=by
  rw[ucc]
  refine zdk g u λ i j hi hj z=>?_
  have w:=Srt.zeu (n:=its.length) (lt:=λ i j=>Srt.lexI (ks.getD i []) (ks.getD j [])) (λ i=>Srt.zb4 _) (λ _ _ _ _ _ _=>Srt.zbs _ _ _) (λ _ _ _ _ _ _=>Srt.zc3 _ _ _) hj hi
  rw[decide_eq_false (by left)] at w
  exact w.symm
 have ev:(pp.toList.map λ i=>(ys.getD i V.non,ks.getD i [])).map (·.1)=pp.toList.map λ i=>ys.getD i V.non:=by
  rw[ubq];rfl
 refine⟨.ref (s.heap.objs.size + 1),_,I.laid (a:=s.heap.objs.size + 1) (o:=.lst ((pp.toList.map λ i=>(ys.getD i V.non,ks.getD i [])).map (·.1))) (t':=s.toks) kp (uc2 _) ⟨?_,Srt.outOf its pp,c,?_,e⟩,rfl,q _ pm pw _ fr⟩
 ·have:=pm.length_eq
  rw[uae,this,List.length_zip];left
 ·rw[ev]
  exact zcy rv pp.toList λ i hi=>by have:=zdg g i hi;left
inductive call_sortedTH_i  (xs:List V) (H:Hp) (Q:VK):Prop
 | mk:∀ p ys ks,(xs=[.ref p])->(H p=some (.lst ys))->(ys.length<=1000)->((∀ i j,i<=j->j < ys.length->Srt.lexI (ks.getD j []) (ks.getD i [])=false))->(Paired (λ (y:V) (k:List Int)=>∃ a,y=.ref a/\H a=some (.tup (k.map V.int))) ys ks)->((∀ k ∈ ks,k≠[]))->(∀ qs:List (V × List Int),qs.Perm (ys.zip ks)->qs.Pairwise (λ a b=>Srt.lexI b.2 a.2=false)->∀ l H',Same H H'->H l=none->H' l=some (.lst (qs.map (·.1)))->Q (.ref l) H')->call_sortedTH_i xs H Q
theorem zhq {X:Cx}:CallR X (.builtin "sorted") (call_sortedTH_i):=by
 intro pins s σ H xs us Q I r h
 obtain⟨p,ys,ks,rfl,hp,hz,asc,pr,ne,q⟩:=h
 exact zhr (X:=X) pins s σ H _ us Q I r ⟨p,ys,ks,rfl,SqL.of hp,hz,asc,Paired.mapP pr λ y k ⟨a,e1,e2⟩=>⟨a,e1,SqT.of e2⟩,ne,λ qs pq wq l hl=>q qs pq wq l _ (zal hl) hl zai⟩
end L3
namespace Srt
open PySem PySem.W PyProof.Rows
section
variable {prog:Program} {w:World} {A:Around} {E:Value->Shared->Prop} {s:Shared}
def TupP (h:Heap) (v:Value) (k:Int):Prop:=∃ a o n tk b,v=.ref a/\h.get? a=some o/\o.cls=.type "tuple"/\o.data=.seq #[.int k tk,.ref b] n
theorem TupP.to {h h':Heap} {v:Value} {k:Int} (t:TupP h v k) (e:∀ b o,h.get? b=some o->h'.get? b=some o):TupP h' v k :=
 let ⟨a,o,n,tk,b,q1,q2,q3⟩:=t
 ⟨a,o,n,tk,b,q1,e _ _ q2,q3⟩
theorem zsv {a:Addr} {Q:Bool->Shared->Prop} (h:Q true s):wpAny (model prog w) A (eqBool (.ref a) (.ref a)) Q E s:=by
 unfold eqBool
 refine ubk ?_
 have e:((Value.ref a) == Value.ref a)=true:=by simp
 rw[if_pos e]
 exact uab (udj (uah h))
theorem zla {vs:List Value} {ks:List Int} (i:Nat) (p:Paired (TupP s.heap) vs ks):i < vs.length->TupP s.heap (vs.getD i Value.none) (ks.getD i 0):=by
 induction p generalizing i with
 | nil=>intro h;exact absurd h (by simp)
 | cons r t ih =>
  intro h
  cases i with
  | zero=>exact r
  | succ i=>exact ih i (by simpa using h)
theorem zpx {vs:List Value} {ks:List Int} (hk:Paired (TupP s.heap) vs ks) {i j:Nat} {C:Bool->Shared->Prop} (hi:i < vs.length) (hj:j < vs.length) (ne:i≠j->ks.getD i 0≠ks.getD j 0) (h:C (decide (ks.getD i 0 < ks.getD j 0)) s):kas_ask prog w A (tuples' true) vs i j C s:=by
 obtain⟨a,o,n,tk,b,e1,q1,q2,q3⟩:=zla i hk hi
 obtain⟨a',o',n',tk',b',e1',q1',q2',q3'⟩:=zla j hk hj
 unfold kas_ask
 by_cases z:i=j
 ·subst z
  rw[e1]
  refine kat_lt q1 q3 q1 q3 ?_
  rw[decide_eq_false (Int.lt_irrefl _)] at h
  show KatLex _ _ _ _ _ _ [(Value.int (ks.getD i 0) tk,Value.int (ks.getD i 0) tk),(Value.ref b,Value.ref b)] 0 s
  refine kat_cons (uf1 ?_)
  rw[show (ks.getD i 0 == ks.getD i 0)=true by simp]
  exact kat_yes (kat_cons (zsv (kat_yes (kat_nil h))))
 ·rw[e1,e1']
  refine kat_lt q1 q3 q1' q3' ?_
  show KatLex _ _ _ _ _ _ [(Value.int (ks.getD i 0) tk,Value.int (ks.getD j 0) tk'),(Value.ref b,Value.ref b')] 0 s
  refine kat_cons (uf1 ?_)
  rw[show (ks.getD i 0 == ks.getD j 0)=false by simpa using ne z]
  exact kat_no (oneLt_int h)
theorem znq {vs:List Value} {ks:List Int} (hk:Paired (TupP s.heap) vs ks) (h2:2<=vs.length) {Q:SortKind->Shared->Prop} (h:Q (tuples' true) s):wpAny (model prog w) A (keyKind' vs.toArray) Q E s:=by
 have mk:∀ {vs:List Value} {ks:List Int},Paired (TupP s.heap) vs ks->∃ fs:List Value,KatTups s.heap vs fs/\fs.length=vs.length/\∀ f ∈ fs,∃ n t,f=.int n t:=by
  intro vs ks p
  induction p with
  | nil=>exact⟨[],.nil,rfl,λ f hf=>nomatch hf⟩
  | cons r t ih =>
   obtain⟨fs,g1,g2,g3⟩:=ih
   obtain⟨a,o,n,tk,b,e1,q1,q2,q3⟩:=r
   subst e1
   refine⟨_::fs,.cons q1 q2 q3 rfl g1,by simp [g2],λ f hf=>?_⟩
   rcases uar.mp hf with e | hf
   ·exact⟨_,_,e⟩
   ·exact g3 f hf
 obtain⟨fs,g1,g2,g3⟩:=mk hk
 refine kat_kind (T:=.type "int") g1 (by left) (λ v hv=>?_) (by symm) h
 obtain⟨m,tk,rfl⟩:=g3 v hv
 exact Looks.of_pure rfl
end
end Srt
namespace L3
open PySem PySem.Spec PyProof.Rows L2
inductive call_sortedP_i  (xs:List V) (H:Hp) (Q:VK):Prop
 | mk:∀ p ys ks,(xs=[.ref p])->(H p=some (.tup ys))->(ys.length < 64)->(ks.Pairwise (· < ·))->(Paired (λ (y:V) (k:Int)=>∃ a b,y=.ref a/\H a=some (.tup [.int k,.ref b])) ys ks)->(∀ l H',Same H H'->H l=none->H' l=some (.lst ys)->Q (.ref l) H')->call_sortedP_i xs H Q
theorem zd3 {X:Cx}:CallR X (.builtin "sorted") (call_sortedP_i):=by
 intro pins s σ H xs us Q I r h
 obtain⟨p,ys,ks,rfl,hq,h64,up,hp,q⟩:=h
 obtain⟨u,rfl,rx⟩:=vals1 r
 cases rx
 obtain⟨its,rv,pl,hz⟩:=I.tuple (SqT.of hq)
 have hl:=rv.length
 have hlk:ys.length=ks.length:=Paired.length hp
 have line:(64:Nat)<=sizeLine:=by rw[ucf];decide
 have hT:∀ {ys:List V} {ks:List Int} {its:List Value},Paired (λ (y:V) (k:Int)=>∃ a b,y=.ref a/\H a=some (.tup [.int k,.ref b])) ys ks->Vals ys its->Paired (Srt.TupP s.heap) its ks:=by
  intro ys ks its hp
  induction hp generalizing its with
  | nil=>intro rv;cases rv;exact .nil
  | cons r t ih =>
   intro rv
   cases rv with
   | cons r1 r2 =>
    refine .cons ?_ (ih r2)
    obtain⟨a,b,rfl,qa⟩:=r
    cases r1
    obtain⟨its',rv',⟨o,e1,e2,n,e3⟩,_⟩:=I.tuple (SqT.of qa)
    cases rv' with
    | cons x1 x2 =>
     obtain⟨tk,rfl⟩:=x1
     cases x2 with
     | cons y1 y2 =>
      cases y1
      cases y2
      exact⟨a,o,n,tk,b,rfl,e1,e2,e3⟩
 have tp:=hT hp rv
 have mono:∀ {h':Heap},(∀ b o,s.heap.get? b=some o->h'.get? b=some o)->Paired (Srt.TupP h') its ks:=λ k=>Paired.mapP tp λ v k' z=>z.to k
 have upk:∀ i j,i < j->j < its.length->ks.getD i 0 < ks.getD j 0:=λ i j hij hj=>by
  have a1:i < ks.length:=by left
  have a2:j < ks.length:=by left
  rw[uaf,uaf,uad a1,uad a2]
  exact ubh.mp up i j a1 a2 hij
 obtain⟨o,ho,hc,n,hd⟩:=id pl
 refine Srt.zge (vs:=its) (r:=λ i=>ks.getD i 0) (κ:=tuples' true) (by left) (λ A' E' Q' hQ=>?_) (λ h2 A' s' Q' k q'=>Srt.znq (mono k) h2 q') (λ A' s' i j C k hi hj q'=>Srt.zpx (mono k) hi hj (λ z=>?_) q') λ pp h' c gg g u kg kp e=>?_
 ·refine wpAny_collect_seq p (.inr rfl) ho hc hd (λ h' hk=>?_) (by rw[uak];left)
  exact hQ h' hk
 ·rcases Nat.lt_or_gt_of_ne z with y | y
  ·have:=upk i j y hj;left
  ·have:=upk j i y hi;left
 have er:pp.toList=uag its.length:=by
  have g':pp.toList.Perm (uag its.length):=by
   have:=g.toList
   simpa using this
  refine g'.eq_of_pairwise (le:=(·<=·)) (λ a b _ _ h1 h2=>Nat.le_antisymm h1 h2) ?_ (ubz.imp λ h=>ue9 h)
  refine zdk g u λ i j hi hj z=>?_
  rcases ufz j i with y | y
  ·have:=upk j i y hi
   have z':ks.getD i 0<=ks.getD j 0:=z
   left
  ·exact y
 have eo:Srt.outOf its pp=its:=by
  have:=Srt.ze3 its
  unfold Srt.outOf at this ⊢
  rw[er];simpa using this
 rw[eo] at e
 have I1:Inv X pins σ H { s with heap:=gg,toks:=s.toks }:=I.kept (t':=s.toks) kg
 have fr:H gg.objs.size=none:=I1.hok.fresh (uai _)
 exact⟨.ref gg.objs.size,_,I1.laid (a:=gg.objs.size) (o:=.lst ys) (t':=s.toks) kp (uai _) ⟨by left,its,c,rv,e⟩,rfl,q _ _ (zal fr) fr zai⟩
end L3
namespace Far
variable {A:List (Nat × Nat × Int)} {s:Nat}
structure Bq (A:List (Nat × Nat × Int)) (s:Nat) (f:Nat->Option Nat) (q:List Nat):Prop where
 walk:∀ v k,f v=some k->Walk A s v (k:Int)
 zero:f s=some 0
 lev:∃ (k:Nat) (xs ys:List Nat),q=xs++ys/\(∀ x ∈ xs,f x=some k)/\(∀ y ∈ ys,f y=some (k + 1))/\∀ v j,f v=some j->j<=k + 1
 done:∀ v k,f v=some k->v ∉ q->∀ w,(v,w,1) ∈ A->∃ j,f w=some j/\j<=k + 1
structure Bqm (A:List (Nat × Nat × Int)) (s p k:Nat) (N:List Nat) (f:Nat->Option Nat) (q:List Nat):Prop where
 walk:∀ v k,f v=some k->Walk A s v (k:Int)
 zero:f s=some 0
 own:f p=some k
 lev:∃ (xs ys:List Nat),q=xs++ys/\(∀ x ∈ xs,f x=some k)/\(∀ y ∈ ys,f y=some (k + 1))/\∀ v j,f v=some j->j<=k + 1
 done:∀ v k,f v=some k->v ∉ q->v≠p->∀ w,(v,w,1) ∈ A->∃ j,f w=some j/\j<=k + 1
 mine:∀ w ∈ N,∃ j,f w=some j/\j<=k + 1
theorem Bq.start:Bq A s (λ v=>if v=s then some 0 else none) [s]:=by
 refine⟨λ v k h=>?_,if_pos rfl,⟨0,[s],[],rfl,λ x hx=>by rw[uam.mp hx];exact if_pos rfl,λ y hy=>(by cases hy),λ v j h=>?_⟩,λ v k h hn=>?_⟩
 ·split at h
  ·rename_i e;subst e;cases h;exact Walk.nil
  ·cases h
 ·split at h
  ·cases h;exact ubb _
  ·cases h
 ·split at h
  ·rename_i e;exact absurd (uam.mpr e) hn
  ·cases h
theorem Bq.pop {f:Nat->Option Nat} {p:Nat} {q:List Nat} (b:Bq A s f (p::q)):∃ k,f p=some k/\Bqm A s p k [] f q:=by
 obtain⟨k,xs,ys,e,hx,hy,hm⟩:=b.lev
 have nd:∀ v,v ∉ q->v≠p->v ∉ p::q:=λ v h1 h2 h3=>(uar.mp h3).elim h2 h1
 cases xs with
 | nil =>
  cases ys with
  | nil=>cases e
  | cons y ys =>
   have e':p::q=y::ys:=e
   cases e'
   exact⟨k + 1,hy _ ual,b.walk,b.zero,hy _ ual,⟨q,[],(ub1 _).symm,λ x h=>hy x (uap _ h),λ y h=>(by cases h),λ v j h=>by have:=hm v j h;left⟩,λ v k h h1 h2=>b.done v k h (nd v h1 h2),λ w h=>by cases h⟩
 | cons x xs =>
  have e':p::q=x::(xs++ys):=e
  cases e'
  exact⟨k,hx _ ual,b.walk,b.zero,hx _ ual,⟨xs,ys,rfl,λ x h=>hx x (uap _ h),hy,hm⟩,λ v k h h1 h2=>b.done v k h (nd v h1 h2),λ w h=>by cases h⟩
theorem Bqm.old {f:Nat->Option Nat} {p k w j:Nat} {N q:List Nat} (b:Bqm A s p k N f q) (h:f w=some j):Bqm A s p k (N++[w]) f q:=by
 refine⟨b.walk,b.zero,b.own,b.lev,b.done,λ v hv=>?_⟩
 rcases uaz.mp hv with z | z
 ·exact b.mine v z
 ·rw[uam.mp z]
  obtain⟨_,_,_,_,_,hm⟩:=b.lev
  exact⟨j,h,hm _ _ h⟩
theorem Bqm.new {f g:Nat->Option Nat} {p k w:Nat} {N q:List Nat} (b:Bqm A s p k N f q) (h:f w=none) (m:(p,w,1) ∈ A) (hg:∀ v,g v=if v=w then some (k + 1) else f v):Bqm A s p k (N++[w]) g (q++[w]):=by
 have gw:g w=some (k + 1):=by rw[hg,if_pos rfl]
 have go:∀ v j,f v=some j->g v=some j:=λ v j e=>by
  rw[hg,if_neg (λ z=>by rw[z,h] at e;cases e)];exact e
 have gi:∀ v j,g v=some j->(v=w/\j=k + 1)\/f v=some j:=λ v j e=>by
  rw[hg] at e
  split at e
  ·rename_i z;exact .inl ⟨z,(uau e).symm⟩
  ·exact .inr e
 obtain⟨xs,ys,eq,hx,hy,hm⟩:=b.lev
 refine⟨λ v j e=>?_,go _ _ b.zero,go _ _ b.own,⟨xs,ys++[w],by rw[eq,uce],λ x hx'=>go _ _ (hx x hx'),λ y hy'=>?_,λ v j e=>?_⟩,λ v j e h1 h2 u mu=>?_,λ u hu=>?_⟩
 ·rcases gi v j e with ⟨rfl,rfl⟩ | e
  ·have:=(b.walk _ _ b.own).snoc m
   rw[show ((k + 1:Nat):Int)=(k:Int) + 1 by left];exact this
  ·exact b.walk _ _ e
 ·rcases uaz.mp hy' with z | z
  ·exact go _ _ (hy y z)
  ·rw[uam.mp z];exact gw
 ·rcases gi v j e with ⟨_,rfl⟩ | e
  ·exact uai _
  ·exact hm _ _ e
 ·rcases gi v j e with ⟨rfl,_⟩ | e
  ·exact absurd (ubc _ (uam.mpr rfl)) h1
  ·obtain⟨i,hi,le⟩:=b.done v j e (λ z=>h1 (ucr _ z)) h2 u mu
   exact⟨i,go _ _ hi,le⟩
 ·rcases uaz.mp hu with z | z
  ·obtain⟨i,hi,le⟩:=b.mine u z
   exact⟨i,go _ _ hi,le⟩
  ·rw[uam.mp z];exact⟨_,gw,uai _⟩
theorem Bqm.fin {f:Nat->Option Nat} {p k:Nat} {N q:List Nat} (b:Bqm A s p k N f q) (h:∀ w,(p,w,1) ∈ A->w ∈ N):Bq A s f q:=by
 obtain⟨xs,ys,eq,hx,hy,hm⟩:=b.lev
 refine⟨b.walk,b.zero,⟨k,xs,ys,eq,hx,hy,hm⟩,λ v j e h1 w m=>?_⟩
 by_cases z:v=p
 ·subst z
  rw[b.own] at e
  cases e
  exact b.mine w (h w m)
 ·exact b.done v j e h1 z w m
theorem Bq.dst (U:Unit1 A) {f:Nat->Option Nat} (b:Bq A s f []) (v:Nat):Dst A s v ((f v).map λ d:Nat=>(d:Int)):=by
 have low:∀ {u:Nat} {x:Int},Walk A s u x->∃ j,f u=some j/\(j:Int)<=x:=λ h=>by
  induction h with
  | nil=>exact⟨0,b.zero,ubm _⟩
  | @snoc u w l x _ m ih =>
   obtain⟨j,e,le⟩:=ih
   have el:=U _ _ _ m
   subst el
   obtain⟨i,ei,li⟩:=b.done u j e (by simp) w m
   exact⟨i,ei,by left⟩
 refine⟨λ y e=>?_,λ L h=>?_⟩
 ·cases ef:f v with
  | none=>rw[ef] at e;cases e
  | some k =>
   rw[ef] at e
   cases e
   exact b.walk v k ef
 ·obtain⟨j,e,le⟩:=low h
  exact⟨j,by rw[e];rfl,le⟩
end Far
namespace HT
open PySem PyProof.Rows
open Sem (wp)
section
variable {prog:Program} {w:World} {A:Around} {E:Value->Shared->Prop} {s:Shared}
end
end HT
namespace L3
open PySem PySem.Spec PyProof.Rows L2
def PapV (H:Hp) (lo hi m:Nat) (v:V):Prop:=∃ p xs,v=.ref p/\H p=some (.tup xs)/\xs.length<=m/\∀ u ∈ xs,RowV lo hi H u
theorem brT2 {α β:Sort _} {A T:α->β->Prop} {B:Prop} (main:(∀ x y,A x y->T x y)->B) (tail:∀ x y,A x y->T x y):B:=main tail
end L3
namespace Far
end Far
namespace L3
open PySem PySem.Spec PyProof.Rows L2
section
variable {n:Int} {ts:List Tie}
theorem za8 (ts:List Tie):KeepOk ts.length (uag ts.length):=⟨ubz,λ k hk=>uav.mp hk⟩
theorem zgz:∀ {a b:List Nat},a.Pairwise (· < ·)->b.Pairwise (· < ·)->(∀ k,k ∈ a↔k ∈ b)->a=b
 | [],[],_,_,_=>rfl
 | [],y::b,_,_,h=>by have:=(h y).mpr ual;cases this
 | x::a,[],_,_,h=>by have:=(h x).mp ual;cases this
 | x::a,y::b,pa,pb,h=>by
  obtain⟨p1,p2⟩:=ucx.mp pa
  obtain⟨q1,q2⟩:=ucx.mp pb
  have e:x=y:=by
   rcases uar.mp ((h x).mp ual) with z | z
   ·exact z
   ·rcases uar.mp ((h y).mpr ual) with y' | y'
    ·exact y'.symm
    ·have:=q1 x z;have:=p1 y y';left
  subst e
  rw[zgz p2 q2 λ k=>?_]
  constructor
  ·intro hk
   rcases uar.mp ((h k).mp (uap _ hk)) with z | z
   ·have:=p1 k hk;left
   ·exact z
  ·intro hk
   rcases uar.mp ((h k).mpr (uap _ hk)) with z | z
   ·have:=q1 k hk;left
   ·exact z
theorem zet {ms:List Int} {xs ks:List Nat} (hl:ms.length=HT.setN (keepI xs) (keepI xs).length) (hm:∀ k,HT.setS (keepI xs) (keepI xs).length k=true↔k ∈ ms) (pw:ms.Pairwise (·<=·)) (rk:ks.Pairwise (· < ·)) (h:∀ k,k ∈ ks↔k ∈ xs):ms.map V.int=natV ks:=by
 obtain⟨nd,mem⟩:=zpq hl hm
 have nn:∀ x ∈ ms,0<=x:=λ x hx=>by
  obtain⟨c,_,rfl⟩:=ubj.mp ((mem x).mp hx)
  exact ua0 c
 rw[zlk nn]
 congr 1
 have lt:ms.Pairwise (· < ·):=(pw.and nd).imp λ ⟨a,b⟩=>by left
 refine zgz ?_ rk λ k=>?_
 ·rw[ucc]
  refine udv ?_ lt
  intro a b ha hb ab
  have:=nn a ha
  left
 ·rw[h k,ubj]
  constructor
  ·rintro ⟨x,hx,rfl⟩
   obtain⟨c,hc,rfl⟩:=ubj.mp ((mem x).mp hx)
   rw[ua1];exact hc
  ·intro hk
   exact⟨(k:Int),(mem _).mpr (ubj.mpr ⟨k,hk,rfl⟩),ua1 k⟩
theorem zej:∀ {a b:List Nat},a.Nodup->(∀ x ∈ a,x ∈ b)->a.length<=b.length
 | [],_,_,_=>ubb _
 | x::a,b,nd,h=>by
  obtain⟨n1,n2⟩:=uch.mp nd
  have hx:=h x ual
  have ih:=zej (a:=a) (b:=b.erase x) n2 λ y hy=>(uf2 (λ e=>n1 (by rw[← e];exact hy))).mpr (h y (uap _ hy))
  have le:=uhg hx
  have pos:=List.length_pos_of_mem hx
  rw[ubu]
  left
end
theorem zhh {K:uac} {t:Bool} {l:Addr} {xs:List V} {g:TG} {tb:TS} {D:Ends} {σ:L2.St} {H:Hp} (Pv:Nat->L2.St->Hp->Prop) (h0:Pv 0 σ H) (hl:∀ i σ H,Pv i σ H->SqX t K H l xs)
  (hs:∀ i x T σ H,xs[i]?=some x->H T=none->Pv i σ H->g (.ref T) σ (upd H T (.tup [.int (i:Nat),x])) λ σ2 H2=>tb { D with nx:=Pv (i + 1),ct:=Pv (i + 1),bk:=D.nx } σ2 H2) (hd:∀ σ H,Pv xs.length σ H->D.nx σ H) :
  ∃ W:Nat->Nat->L2.St->Hp->Prop,(∃ m,W 0 m σ H)/\∀ i m σ H,W i m σ H ->
   ((Itn t K l).stop i H/\D.nx σ H)\/((Itn t K l).go i H/\∃ N:L2.St->Hp->Prop,(∀ σ' H',N σ' H'->∃ m',m' < m/\W (i + 1) m' σ' H')/\∀ x H',(Itn t K l).yld i H x H'->g x σ H' λ σ2 H2=>tb { D with nx:=N,ct:=N,bk:=D.nx } σ2 H2):=by
 refine⟨λ i m σ H=>m=xs.length - i/\i<=xs.length/\Pv i σ H,⟨xs.length,by simp,ubb _,h0⟩,?_⟩
 rintro i m σ H ⟨rfl,hi,p⟩
 have q1:=hl i σ H p
 by_cases hlt:i < xs.length
 ·have e1:xs[i]?=some xs[i]:=uad hlt
  refine .inr ⟨⟨xs,_,q1,e1⟩,Pv (i + 1),λ σ' H' p'=>⟨xs.length - (i + 1),by left,rfl,hlt,p'⟩,λ x H' y=>?_⟩
  obtain⟨T,y',hT,rfl,rfl,a1⟩:=y
  exact hs i y' T σ H (a1 _ q1) hT p
 ·have e:i=xs.length:=by left
  subst e
  exact .inl ⟨⟨xs,q1,uai _⟩,hd σ H p⟩
section
variable {near kept:Nat->Nat->Option Int} {u v:Nat} {r:List (Nat × Nat)} {m:Int × Int × Int} {x y:Int}
end
noncomputable def dstF (ts:List Tie) (ks:List Nat) (u v:Nat):Option Int:=Classical.epsilon λ o=>Far.Dst (arcs (ones ts) ks) u v o
theorem zds {ts:List Tie} {ks:List Nat} (ko:KeepOk ts.length ks) {u v:Nat} {o:Option Int} (d:Far.Dst (arcs (ones ts) ks) u v o):o=dstF ts ks u v :=
 d.unique (Classical.epsilon_spec (p:=λ o=>Far.Dst (arcs (ones ts) ks) u v o) ⟨o,d⟩)
theorem ze7 (ts:List Tie):ones (ones ts)=ones ts:=by unfold ones;rw[ubq];rfl
theorem zmf (ts:List Tie):((ones ts).all λ t=>decide (t.2.2=1))=true:=by
 unfold ones
 rw[List.all_map,uc9]
 intro t _
 show decide ((1:Int)=1)=true
 rfl
def WKE (K:uac) (H:Hp) (n:Int) (ts:List Tie) (ks:List Nat) (wv:V) (kp:Addr) (tp:Bool):Prop:=Is K H (webD n ts) wv/\WebOk n ts/\H kp=some (if tp=true then .tup (natV ks) else .lst (natV ks))/\KeepOk ts.length ks
section
variable {g:TG} {tt:TT} {te:TE} {own:List Str} {js:List Nat} {σ:L2.St} {H1:Hp} {Q:VK}
end
section
variable {n:Int} {ts:List Tie} {ks:List Nat}
theorem zeo (ko:KeepOk ts.length ks) (u v:Nat):Far.Dst (arcs (ones ts) ks) u v (dstF ts ks u v) :=
 Classical.epsilon_spec (p:=λ o=>Far.Dst (arcs (ones ts) ks) u v o) (Far.zmn (zes ko).pos u v)
noncomputable def dstL (n:Int) (ts:List Tie) (ks:List Nat) (u:Nat):List (Option Int):=(uag n.toNat).map (dstF ts ks u)
theorem zhk (n:Int) (ts:List Tie) (ks:List Nat) (u:Nat):(dstL n ts ks u).length=n.toNat:=by unfold dstL;rw[uae,uba]
theorem zor {u v:Nat} (hv:v < n.toNat):(dstL n ts ks u)[v]?=some (dstF ts ks u v):=by unfold dstL;rw[uaq,uc5 hv];rfl
theorem zlq {u v:Nat} (hv:v < n.toNat):Far.get (dstL n ts ks u) v=dstF ts ks u v:=by unfold Far.get;rw[uaf,zor hv];rfl
theorem zkh (ko:KeepOk ts.length ks) {u:Nat} {DD:List (Option Int)} (lD:DD.length=n.toNat) (hD:∀ v,v < n.toNat->Far.Dst (arcs (ones ts) ks) u v (Far.get DD v)):DD=dstL n ts ks u:=by
 refine udd λ v=>?_
 by_cases hv:v < n.toNat
 ·have e:=zds ko (hD v hv)
  unfold Far.get at e
  rw[uaf,uad (by left)] at e
  rw[uad (by left),zor hv,← e];rfl
 ·rw[ubd (by left),ubd (by rw[zhk];left)]
def pairD (hs:List Int) (as:List (Option Nat)):PyData:=.tuple [tupH hs,.tuple (as.map oaD)]
end
section
variable {own:List Str} {js:List Nat} {g:TG} {te:TE} {σ:L2.St} {Q:VK} {H1:Hp}
end
end L3
namespace Far
section
variable {A B:List (Nat × Nat × Int)} {s u v:Nat} {x y:Int}
end
end Far
namespace Far
section
variable {G:Nat->Option Int} {len:Nat->Int}
end
end Far
namespace Far
section
variable {A:List (Nat × Nat × Int)} {s:Nat}
end
end Far
namespace L2
open PySem PySem.Spec PyProof.Rows
section
variable {X:Cx} {k v:Expr} {pos:Pos} {tk tv:TE}
end
end L2
namespace L3
open PySem PySem.Spec PyProof.Rows L2
section
variable {n:Int} {ts:List Tie}
def hN (hs:List Int) (v:Nat):Int:=hs.getD v 0
end
theorem iteTe {b:Bool} {A B:Prop} (e:b=true) (h:A):if b=true then A else B:=by rw[if_pos e];exact h
theorem iteFe {b:Bool} {A B:Prop} (e:b=false) (h:B):if b=true then A else B:=by rw[e];exact h
end L3
namespace Srt
open PySem PyProof.Rows
section
variable {prog:Program} {w:World} {A:Around} {E:Value->Shared->Prop} {s:Shared} {a:Addr}
end
end Srt
namespace L3
open PySem PySem.Spec PyProof.Rows L2
section
variable {X:Cx}
end
section
variable {n:Int} {ts:List Tie}
noncomputable def wyN (ts:List Tie) (a b:Nat):Option (List Nat):=@dite _ (∃ ws,Far.MinW (arcsB ts (uag ts.length)) a b ws) (Classical.propDecidable _) (λ h=>some (Classical.choose h)) (λ _=>none)
theorem zkr (ok:WebOk n ts) {a b:Nat} {ws:List Nat} (h:Far.MinW (arcsB ts (uag ts.length)) a b ws):wyN ts a b=some ws:=by
 have ex:∃ ws,Far.MinW (arcsB ts (uag ts.length)) a b ws:=⟨ws,h⟩
 unfold wyN
 rw[dif_pos ex]
 exact congrArg some (h.unique (zc6 ok (za8 ts)) (Classical.choose_spec ex))
def WyV (H:Hp) (ts:List Tie) (o:Option (List Nat)) (v:V):Prop:=(o=none/\v=.non)\/∃ t ws,o=some ws/\v=.ref t/\H t=some (.tup (natV ws))/\ws.length<=24/\linked ts ws
def wyD:Option (List Nat)->PyData
 | none=>.none
 | some ws=>tupH (keepI ws)
end
theorem zi6 {n:Int} {ts:List Tie} (ok:WebOk n ts) {k:Nat} (hk:k < ts.length):isTB ts (tieAt ts k).1.toNat (tieAt ts k).2.1.toNat k=true:=by
 have tk:=ok.tie _ (zav hk).2
 unfold isTB
 rw[decide_eq_true (show (tieAt ts k).1=min (((tieAt ts k).1.toNat:Nat):Int) ((tieAt ts k).2.1.toNat:Nat) by left),decide_eq_true (show (tieAt ts k).2.1=max (((tieAt ts k).1.toNat:Nat):Int) ((tieAt ts k).2.1.toNat:Nat) by left)]
 rfl
theorem zqe {n:Int} {ts:List Tie} (ok:WebOk n ts) {j k:Nat} (hj:j < ts.length) (hk:k < ts.length) (h1:(tieAt ts j).1=(tieAt ts k).1) (h2:(tieAt ts j).2.1=(tieAt ts k).2.1):j=k:=by
 refine zq1 ok hj hk (zi6 ok hj) ?_
 have:=zi6 ok hk
 rw[h1,h2];exact this
theorem zgt {ts:List Tie} {u v k:Nat} (h:tbN ts u v=some k):(tieAt ts k).1=min (u:Int) v/\(tieAt ts k).2.1=max (u:Int) v:=by
 have b:=udu h
 unfold isTB at b
 rw[ubv] at b
 exact⟨of_decide_eq_true b.1,of_decide_eq_true b.2⟩
theorem zb1 (ts:List Tie) (ws:List Nat):(alongN ts ws).length=ws.length - 1:=by unfold alongN;rw[uae,uba]
theorem zib {ts:List Tie} {ws:List Nat} {i u v k:Nat} (hu:ws[i]?=some u) (hv:ws[i + 1]?=some v) (e:tbN ts u v=some k):(alongN ts ws)[i]?=some k:=by
 have hi:=(uan.mp hv).1
 unfold alongN
 rw[uaq,uc5 (by left)]
 show some ((tbN ts (ws.getD i 0) (ws.getD (i + 1) 0)).getD 0)=some k
 rw[uaf,hu,uaf,hv]
 show some ((tbN ts u v).getD 0)=some k
 rw[e];rfl
theorem zqm (ws:List Nat):cutV (natV ws) (some 1) none=natV (ws.drop 1):=by
 unfold cutV
 have h1:HT.sIx (natV ws).length (natV ws).length none=(natV ws).length:=rfl
 rw[h1]
 by_cases z:ws=[]
 ·subst z;rfl
 ·have pos:=uf4.mpr z
  have lenW:(natV ws).length=ws.length:=by unfold natV;rw[uae]
  have h0:HT.sIx (natV ws).length 0 (some 1)=1:=by
   unfold HT.sIx
   simp
   left
  rw[h0,ufu (by rw[udl];exact uai _)]
  unfold natV
  rw[uhj]
def allIn (ts:List Tie) (ks:List Nat) (t:Int):Prop:=∀ k,k ∈ outs ts.length ks->withinB t (tieAt ts k).2.2 (gO ts ks k)=true
section
variable {n:Int} {ts:List Tie} {ks:List Nat} {prs:List (Option Int × Int)}
end
end L3
namespace Z3
open PySem
section
variable {prog:Program} {w:World} {A:Around} {E:Value->Shared->Prop} {s:Shared}
end
end Z3
namespace L3
open PySem PySem.Spec PyProof.Rows L2
section
variable {n:Int} {ts:List Tie} {ks:List Nat}
noncomputable def wyK (ts:List Tie) (ks:List Nat) (a b:Nat):Option (List Nat):=@dite _ (∃ ws,Far.MinW (arcsB ts ks) a b ws) (Classical.propDecidable _) (λ h=>some (Classical.choose h)) (λ _=>none)
noncomputable def dK (ts:List Tie) (ks:List Nat) (u v:Nat):Option Int:=Classical.epsilon λ o=>Far.Dst (arcs ts ks) u v o
noncomputable def dKL (n:Int) (ts:List Tie) (ks:List Nat) (u:Nat):List (Option Int):=(uag n.toNat).map λ v=>dK ts ks u v
noncomputable def htK (n:Int) (ts:List Tie) (ks:List Nat) (t:Int) (k:Nat):List Int:=(dKL n ts ks (tieAt ts k).1.toNat).map (capO (t * (tieAt ts k).2.2 + 1))
end
def winK (ts:List Tie) (ks:List Nat) (t:Int) (k:Nat):Prop:=withinB t (tieAt ts k).2.2 (gO ts ks k)=true
noncomputable def wyT (ts:List Tie) (ks:List Nat) (k:Nat):Option (List Nat):=wyK ts ks (tieAt ts k).1.toNat (tieAt ts k).2.1.toNat
def FirstOut (ts:List Tie) (ks:List Nat) (t:Int) (i k:Nat):Prop:=(outs ts.length ks)[i]?=some k/\¬ winK ts ks t k/\∀ j k',j < i->(outs ts.length ks)[j]?=some k'->winK ts ks t k'
inductive TdD (n:Int) (ts:List Tie) (ks:List Nat) (t:Int):PyData->Prop
 | keeps:allIn ts ks t->TdD n ts ks t (.tuple [.str "keeps",.tuple ((outs ts.length ks).map λ k=>wyD (wyT ts ks k))])
 | far {i k:Nat}:FirstOut ts ks t i k->TdD n ts ks t (.tuple [.str "far",.int (k:Int),tupH (htK n ts ks t k)])
end L3
namespace Shr
def geo (d:Nat):Nat->Nat
 | 0=>0
 | k + 1=>geo d k * d + 1
def spr (d k:Nat):Nat:=1 + (d + 1) * geo d k
def Share (n k d:Nat):Prop:=n < spr d k/\∀ e,e < d->spr e k<=n
end Shr
namespace Lr
open Far (chn zcm zcc zfs zjb RingOf)
section
variable {R:Nat->Nat->Prop} {nb:Nat->List Nat}
structure PC (R:Nat->Nat->Prop) (C:Nat->Prop) (x:Nat) (w:List Nat):Prop where
 hd:∃ t,w=x::t
 nd:w.Nodup
 ch:chn R w
 co:∀ v ∈ w,C v
end
end Lr
namespace Peel
section
variable {n:Nat} {ts:List T2} {d:Int}
end
end Peel
namespace L3
open PySem PySem.Spec PyProof.Rows L2
theorem zn4 {n:Int} {ts:List Tie} {ks:List Nat} (ok:WebOk n ts) (ko:KeepOk ts.length ks) (p:Nat):(nbN ts ks (p:Int)).Nodup:=by
 unfold nbN
 have arc1:∀ {k c},k ∈ ks->nb1 ts (p:Int) k=some c->(p,c,(tieAt ts k).2.2) ∈ arcs2 (tieAt ts k):=λ {k c} hk e=>by
  refine a2_iff.mpr (.inl ?_)
  unfold nb1 at e
  by_cases z:(tieAt ts k).1=(p:Int)
  ·rw[if_pos z] at e;exact⟨by left,(uau e).symm⟩
  ·rw[if_neg z] at e;cases e
 have arc2:∀ {k c},k ∈ ks->nb2 ts (p:Int) k=some c->(p,c,(tieAt ts k).2.2) ∈ arcs2 (tieAt ts k):=λ {k c} hk e=>by
  refine a2_iff.mpr (.inr ?_)
  unfold nb2 at e
  by_cases z:(tieAt ts k).2.1=(p:Int)
  ·rw[if_pos z] at e;exact⟨by left,(uau e).symm⟩
  ·rw[if_neg z] at e;cases e
 refine ucd.mpr ⟨?_,?_,λ a ha b hb z=>?_⟩
 ·rw[ubt,uhi]
  refine udv ?_ ko.1
  intro k k' hk hk' lt c hc c' hc' e
  subst e
  exact uaw lt (zgs ok (ko.2 k hk) (ko.2 k' hk') (arc1 hk hc) (arc1 hk' hc'))
 ·rw[ubt,uhi]
  refine udv ?_ ko.1
  intro k k' hk hk' lt c hc c' hc' e
  subst e
  exact uaw lt (zgs ok (ko.2 k hk) (ko.2 k' hk') (arc2 hk hc) (arc2 hk' hc'))
 ·subst z
  obtain⟨k,hk,e⟩:=ucy.mp ha
  obtain⟨k',hk',e'⟩:=ucy.mp hb
  have ee:=zgs ok (ko.2 k hk) (ko.2 k' hk') (arc1 hk e) (arc2 hk' e')
  subst ee
  have tk:=ok.tie _ (zav (ko.2 k hk)).2
  unfold nb1 at e
  unfold nb2 at e'
  by_cases z1:(tieAt ts k).1=(p:Int)
  ·rw[if_neg (by left)] at e';cases e'
  ·rw[if_neg z1] at e;cases e
section
variable {g:TG} {te:TE} {own:List Str} {js:List Nat} {σ:L2.St} {H1:Hp} {Q:VK}
end
def RgP (ts:List Tie) (ks w:List Nat) (size:Nat) (r:List Nat):Prop:=∃ h tl,r=h::tl/\Lr.Rg (Adj ts ks) h tl/\Lr.Cano h tl/\r.length=size/\w <+: r
def RowS (ts:List Tie) (ks:List Nat) (j:Nat) (rs:List Nat):Prop:=rs.Pairwise (· < ·)/\∀ c,c ∈ rs↔Adj ts ks j c
def BesS (H:Hp) (l:Addr) (n:Nat) (ts:List Tie) (ks:List Nat):Prop:=∃ vs:List V,H l=some (.lst vs)/\vs.length=n/\∀ j,j < n->∃ a rs,vs[j]?=some (.ref a)/\H a=some (.lst (natV rs))/\RowS ts ks j rs
theorem brT {A T B:Prop} (main:(A->T)->B) (tail:A->T):B:=main tail
def FewD (n:Int) (ts:List Tie) (ks:List Nat) (k:Nat) (x:Str) (ns:List Nat):Prop:=∃ d,Shr.Share n.toNat k d/\((x="few"/\ns=Peel.gone n.toNat (t2s ts ks) (d:Int)/\∀ q,q < n.toNat->q ∈ Peel.gone n.toNat (t2s ts ks) (d:Int))\/(x="ring"/\(∃ q,q < n.toNat/\q ∉ Peel.gone n.toNat (t2s ts ks) (d:Int))/\∃ h tl,ns=h::tl/\IsLR ts ks h tl/\(h::tl).length<=2 * k))
abbrev GS:Type:=List (Nat × List Nat) × List Nat
def bareG (N:Nat->List Nat) (g:List Nat) (p:Nat):List Nat:=(N p).filter λ q=>!g.contains q
def stepG (N:Nat->List Nat) (d:Int) (s:GS) (p:Nat):GS:=if d<=((bareG N s.2 p).length:Int) then (s.1++[(p,bareG N s.2 p)],s.2++bareG N s.2 p) else s
def swG (N:Nat->List Nat) (d:Int):Nat->GS
 | 0=>([],[])
 | p + 1=>stepG N d (swG N d p) p
section
variable {N:Nat->List Nat} {d:Int}
structure Grd (N:Nat->List Nat) (d:Int) (p:Nat) (s:GS):Prop where
 all:s.1.flatMap (·.2)=s.2
 nd:s.2.Nodup
 low:∀ e ∈ s.1,e.1 < p
 up:(s.1.map (·.1)).Nodup
 big:∀ e ∈ s.1,d<=(e.2.length:Int)
 sub:∀ e ∈ s.1,e.2.Sublist (N e.1)
theorem zii (hN:∀ p,(N p).Nodup):∀ p,Grd N d p (swG N d p)
 | 0=>⟨rfl,ud3,λ _ h=>absurd h ua4,ud3,λ _ h=>absurd h ua4,λ _ h=>absurd h ua4⟩
 | p + 1=>by
  obtain⟨all,nd,low,up,big,sub⟩:=zii hN p
  rw[swG,stepG]
  split
  ·rename_i h
   refine⟨?_,?_,λ e he=>?_,?_,λ e he=>?_,λ e he=>?_⟩
   ·show (List.flatMap (·.2) ((swG N d p).1++[(p,bareG N (swG N d p).2 p)]))=_
    rw[ubp,all];simp
   ·refine ucd.mpr ⟨nd,(hN p).sublist udi,λ a ha b hb z=>?_⟩
    have:=(ubr.mp hb).2
    rw[← z] at this
    simp [ha] at this
   ·rcases uaz.mp he with he | he
    ·exact ub4 (low e he)
    ·rw[uam.mp he];exact ucj _
   ·show ((((swG N d p).1++[(p,bareG N (swG N d p).2 p)]).map (·.1)).Nodup)
    rw[ua3]
    refine ucd.mpr ⟨up,by simp,λ a ha b hb z=>?_⟩
    obtain⟨e,he,rfl⟩:=ubj.mp ha
    have h1:=low e he
    rw[z,uam.mp hb] at h1
    exact uck _ h1
   ·rcases uaz.mp he with he | he
    ·exact big e he
    ·rw[uam.mp he];exact h
   ·rcases uaz.mp he with he | he
    ·exact sub e he
    ·rw[uam.mp he];exact udi
  ·exact⟨all,nd,λ e he=>ub4 (low e he),up,big,sub⟩
end
def nbS (n:Int) (ts:List Tie) (ks:List Nat) (p:Nat):List Nat:=(uag n.toNat).filter λ q=>(nbN ts ks (p:Int)).contains q
theorem zfg {n:Int} {ts:List Tie} {ks:List Nat} (p:Nat):(nbS n ts ks p).Nodup:=List.nodup_range.sublist udi
theorem ztq {n:Int} {ts:List Tie} {ks:List Nat} (p:Nat):(nbS n ts ks p).Pairwise (· < ·):=List.Pairwise.sublist udi ubz
theorem zn3 {n:Int} {ts:List Tie} {ks:List Nat} (ok:WebOk n ts) (ko:KeepOk ts.length ks) {p q:Nat}:q ∈ nbS n ts ks p↔Adj ts ks p q:=by
 unfold nbS
 rw[ubr,List.contains_iff_mem,zn2 ok ko,uav]
 exact⟨λ h=>h.2,λ h=>⟨zl5 ok ko p q h,h⟩⟩
theorem ztr {n:Int} {ts:List Tie} {ks:List Nat} (ok:WebOk n ts) (ko:KeepOk ts.length ks) {p:Nat} {l:List Nat} (hl:l.Nodup) (hm:∀ q,q ∈ l↔Adj ts ks p q) {ms:List Int} (pm:ms.Perm (keepI l)) (pw:ms.Pairwise (·<=·)):ms=keepI (nbS n ts ks p):=by
 refine zma (pm.trans (List.Perm.map _ ((ug2 hl (zfg p)).mpr λ q=>by rw[hm,zn3 ok ko]))) pw ?_
 unfold keepI
 rw[ucc]
 exact (ztq p).imp λ h=>by left
theorem zj6 {n:Int} {ts:List Tie} {ks:List Nat} (p:Nat):(nbS n ts ks p).length<=n.toNat:=by
 have:=udt (λ q=>(nbN ts ks (p:Int)).contains q) (uag n.toNat)
 rw[uba] at this
 exact this
section
variable {X:Cx}
end
section
variable {X:Cx}
open AutoSeq1 in
theorem zsu (l:Addr) (items:Array Value) (n:Nat) (b:Addr) (items2:Array Value) (n2:Nat) (dd:Option Addr) (sl:Array (Option Value)) (hs0:¬(!items.isEmpty && Builtin.List.listTooLong (items.size + items2.size))=true) (hs1:items.size<=sizeLine) (hs2:items.size + items2.size<=sizeLine + 1) :
  Meets (Builtin.«list.extend» ⟨[.ref l,.ref b],[]⟩) (λ _ R s=>s.heap.get? l=some { cls:=.type "list",dict:=none,data:=.seq items n,slots:=#[] }/\s.heap.get? b=some { cls:=.type "tuple",dict:=dd,data:=.seq items2 n2,slots:=sl }/\R (.ok (.ret Value.none)) { s with heap:=s.heap.update l (Obj.mapSeq λ x=>x++items2),toks:=s.toks }) :=
 .of_wp λ prog w A R s h=>by
  obtain⟨hp,g,d,tk,os⟩:=s;obtain⟨hl,hb,h⟩:=h;have f2:=F.sub_tuple_tuple;have f3:=F.sub_list_list;have f4:=F.sub_tuple_list;have f5:=F.sub_list_tuple;
  have hz':(items++items2).size<=sizeLine + 1:=by rw[Array.size_append];exact hs2
  wp_walk using (uen hl rfl (hz:=hs1) (_hz':=hz')),udk hl,udk hb;exact⟨_,rfl,h⟩
inductive rExtendT_i  (x:V) (vs:List V) (H:Hp) (Q:VK):Prop
 | mk:∀ l b xs zs,(x=.ref l)->(vs=[.ref b])->(H l=some (.lst xs))->(H b=some (.tup zs))->(xs.length + zs.length<=1000)->(∀ H',But l H H'->H' l=some (.lst (xs++zs))->Q .non H')->rExtendT_i x vs H Q
def rExtendT :V->List V->Hp->VK->Prop:=λ x vs H Q=>rExtendT_i x vs H Q
theorem zmh:MtM X "list.extend" rExtendT:=by
 intro pins s σ H x vs v us Q I rx rv h
 obtain⟨l,b,xs,zs,rfl,rfl,hH,hB,hz,q⟩:=h
 cases rx
 obtain⟨u,rfl,ru⟩:=rv.one
 cases ru
 obtain⟨z,its,n,r,hl,e⟩:=I.lstM hH
 obtain⟨its2,r2,⟨o2,e2,c2,n2,d2⟩,z2⟩:=I.tuple (SqT.of hB)
 have hl2:=r2.length
 have hb:(1000:Nat)<=sizeLine:=by decide
 have hsz:its.toArray.size + its2.toArray.size<=sizeLine:=by rw[uak,uak];left
 have hlong:¬ (!its.toArray.isEmpty && Builtin.List.listTooLong (its.toArray.size + its2.toArray.size))=true:=by
  rw[notLongL hsz,uhb]
  exact uas
 obtain⟨oc,od,oda,os⟩:=o2
 simp only at c2 d2
 subst c2 d2
 refine ufv F.slot_list_extend ⟨_,e,rfl⟩ F.entry_list_extend (F.args_list_extend_2 _ _)
  (zsu l its.toArray n b its2.toArray n2 od os hlong (by rw[uak];left) (by left)) ⟨e,?_,?_⟩
 ·exact e2
 refine⟨.non,_,I.lset (its':=its++its2) hH e (by simp) (r.append r2) ?_,rfl,q _ But.upd zai⟩
 rw[uaj]
 left
end
end L3
namespace L3
open PySem PySem.Spec PyProof.Rows L2
inductive call_intB_i  (xs:List V) (H:Hp) (Q:VK):Prop
 | mk:∀ b,(xs=[.bl b])->(Q (.int (if b then 1 else 0)) H)->call_intB_i xs H Q
theorem zo3 {X:Cx}:CallR X (.type "int") (call_intB_i):=by
 intro pins s σ H xs us Q I r h
 obtain⟨b,rfl,q⟩:=h
 obtain⟨u,rfl,rx⟩:=vals1 r
 cases rx
 exact PySem.call_int_bool ⟨.int _,H,I.tok _,⟨_,rfl⟩,q⟩
section
variable {X:Cx}
theorem zep {cv:Const} {c:Nat} {p:Pos} {es:List Expr} {te:TE} {t:TA} (a:BE X (.Constant cv c p) te) (b:BA X es t):BA X (.Constant cv c p::es) (tCons te t):=⟨zaa a.h b.h (by rfl)⟩
theorem zeq {l r:Expr} {op:Operator} {p:Pos} {es:List Expr} {te:TE} {t:TA} (a:BE X (.BinOp l op r p) te) (b:BA X es t):BA X (.BinOp l op r p::es) (tCons te t):=⟨zaa a.h b.h (by rfl)⟩
theorem zt3 {e:Expr} {te:TE} {pos:Pos} (he:BE X e te):BS X (.Return (some e) pos) (tRet te):=⟨zaq he.h⟩
theorem zuj {a b:Expr} {ta tb:TE} {pos:Pos} {r:R2} (hr:IxR X r) (ha:BE X a ta) (hb:BE X b tb) (hs:PlainIx b):BE X (.Subscript a b pos) (tOp r ta tb):=⟨zar hr ha.h hb.h hs⟩
end
end L3
namespace Hx
open PySem PySem.W
structure Ch where
 i:Nat
 a:Nat
 t:Nat
 j:Nat
 u:Nat
 b:Nat:=0
def stt (p:Program) (i:Nat):Stmt:=p.main.body.getD i (.Pass ⟨0,0,0,0⟩)
def fileS:Str:=Str.ofString "/claim/cut.py"
def mdV (p:Program) (c:Ch):Value:=match stt p c.j with
 | .Assign _ (.Constant (.str x) _ _) _=>.str x c.u
 | _=>.str (Str.ofString "__main__") c.u
def sT (xs:List Value):Obj:=⟨.type "tuple",none,.seq xs.toArray 0,#[]⟩
def fE (xs:List Value):Obj:=⟨.none,none,.fields xs.toArray,#[]⟩
def tks:List Str->Nat->List Value
 | [],_=>[]
 | v::r,t=>.str v t::tks r (t + 1)
def z:Value:=.int 0 0
def cdO (nm q:Str) (t:Nat) (l:Int) (na fl:Int) (k:Value) (fn:Bool) (tb vs cs tp:Value) (u:Nat):Obj :=
 ⟨.type "code",none,.fields #[.str nm t,.str q (t + 1),.str fileS (t + 2),.int l 0,.int na 0,z,z,.int fl 0,k,.bool fn,.int 181 0,tb,.none,vs,cs,tp,.int u 0,.int l 0,.str fileS (u + 1)],#[]⟩
def ent (P:Params) (s:Str) (t:Nat) (v:Value):DictEntry:=⟨PyData.keyHash P s,.str s t,v⟩
def dO (es:List DictEntry) (n:Nat):Obj:=⟨.type "dict",none,.dict es.toArray n,#[]⟩
structure Got where
 os:List Obj
 en:List DictEntry
 tb:List Value
def fO (P:Params) (md:Value) (a t:Nat) (name:Str) (args:Arguments) (body:List Stmt) (scope:Scope) (bind:Str) (pos:Pos):Got :=
 let fd:FuncData:=⟨name,bind,args,.stmts body,scope,0,[],.none,.none,.none,.none,none,.none,.none,0⟩
 let k (vs cs:Value) (b u:Nat) (h:List Obj):Got :=
  ⟨h++[⟨.none,none,.func fd,#[]⟩,cdO name bind t pos.line args.args.length 3 (.ref a) true (.ref (a + 1)) vs cs (.ref b) u,
   ⟨.type "function",none,.func ⟨name,bind,args,.stmts body,scope,3,[],.none,.none,.none,md,none,.ref (b + 1),.none,0⟩,#[]⟩],
   [ent P name (u + 2) (.ref (b + 2))],[.int pos.line 0,.int pos.col 0,.ref (b + 1)]⟩
 match localNames args scope (.stmts body) with
 | none=>k .none .none (a + 2) (t + 3) [sT [],fE []]
 | some (vs,cs)=>k (.ref (a + 2)) (.ref (a + 3)) (a + 4) (t + 3 + vs.length + cs.length) [sT [],fE [],sT (tks vs (t + 3)),sT (tks cs (t + 3 + vs.length))]
def mro0:List Value:=[.type "ValueError",.type "Exception",.type "BaseException",.type "object"]
def clO (P:Params) (md:Value) (a t:Nat) (base:Option Nat) (sub:List Value) (name bind:Str) (pos:Pos):Got :=
 let l:Int:=pos.line
 let w:=base.isNone
 let C:=a + 9 - (if w then 0 else 0)
 let bs:Value:=match base with | none=>.type "ValueError" | some b=>.ref b
 let e1:=ent P (Str.ofString "__module__") (t + 7) md
 let e2:=ent P (Str.ofString "__firstlineno__") (t + 11) (.int l (t + 10))
 let e3:=ent P (Str.ofString "__static_attributes__") (t + 12) (.ref (a + 7))
 ⟨[sT [bs],⟨.type "builtin_function_or_method",none,.fields #[.builtin "type.__prepare__",.type "type"],#[]⟩,
  dO [e1,ent P (Str.ofString "__qualname__") (t + 9) (.str bind (t + 8)),e2,e3] 4,sT [],fE [],
  cdO name bind (t + 2) l 0 0 (.ref (a + 3)) false (.ref (a + 4)) .none .none .none (t + 5),
  ⟨.type "frame",none,.plain,#[some (.ref (a + 5)),some (.ref 3),some (.ref (a + 2)),none,some md,none,some (.ref 0)]⟩,sT [],
  dO (e1::e2::e3::(if w then [ent P (Str.ofString "__weakref__") (t + 14) (.ref (a + 10)),ent P (Str.ofString "__doc__") (t + 15) .none] else [ent P (Str.ofString "__doc__") (t + 13) .none])) (if w then 3 else 2),
  ⟨.type "type",none,.cls ⟨name,[bs],.ref C::(match base with | none=>mro0 | some b=>.ref b::mro0),a + 8,bind,true,[],sub,false,none,false⟩,
   #[some (.ref a),none,some (.str name t),some (.str bind (t + 8)),some (.builtin "ValueError.__new__"),some (.bool true)]⟩] ++
  (if w then [⟨.type "getset_descriptor",none,.fields #[.str (Str.ofString "__weakref__") (t + 13),.ref C,.builtin "ExceptionGroup.__weakref__",.none],#[]⟩] else []) ++
  [⟨.type "super",none,.fields #[.ref C,.ref C,.ref C],#[]⟩,⟨.type "builtin_function_or_method",none,.fields #[.builtin "object.__init_subclass__",.ref C],#[]⟩],
  [ent P name (t + (if w then 17 else 15)) (.ref C)],[.int l 0,.int pos.col 0,.ref (a + 5)]⟩
def got (p:Program) (P:Params) (cs:List Ch) (c:Ch):Got:=match stt p c.i with
 | .FunctionDef name args body _ _ _ scope _ bind pos=>fO P (mdV p c) c.a c.t name args body scope bind pos
 | .ClassDef name _ _ _ _ _ _ _ bind _ pos=>clO P (mdV p c) c.a c.t (if c.b == 0 then none else some c.b) (cs.filterMap λ d=>if d.b == c.a + 9 then some (.ref (d.a + 9)) else none) name bind pos
 | _=>⟨[],[],[]⟩
def nameNow (p:Program) (cs:List Ch):Option Value:=match cs.getLast? with
 | some c=>some (mdV p { c with j:=c.j,u:=c.u })
 | none=>none
def setName (P:Params) (v:Option Value):List DictEntry->List DictEntry
 | e::r=>(match v with | some v=>{ e with val:=v } | none=>e)::r
 | []=>[]
def globO (p:Program) (P:Params) (cs:List Ch) (en:List DictEntry):Obj->Obj
 | ⟨c,d,.dict es n,s⟩=>⟨c,d,.dict (setName P (nameNow p cs) es.toList++en).toArray (n + en.length),s⟩
 | o=>o
def objs (p:Program) (P:Params) (B:List Obj) (cs:List Ch):List Obj :=
 let gs:=cs.map (got p P cs)
 match B with
 | b0::b1::b2::b3::r=>b0::b1::b2::globO p P cs (gs.flatMap (·.en)) b3::(r++(sT []::fE (gs.flatMap (·.tb)) ::
  cdO (Str.ofString "<module>") (Str.ofString "<module>") 182 1 0 0 (.ref 11) false (.ref 12) .none .none .none 185 ::
  ⟨.type "frame",none,.plain,#[some (.ref 13),some (.ref 3),some (.ref 3),none,some (.str (Str.ofString "__main__") 164),none,some (.ref 0)]⟩::gs.flatMap (·.os)))
 | _=>[]
def spl:List Obj->List Obj × List Obj
 | []=>([],[])
 | x::r=>(x::(spl r).2,(spl r).1)
def braun:Nat->List Obj->BT
 | 0,_=>.nil
 | _ + 1,[]=>.nil
 | f + 1,o::r=>.node o (braun f (spl r).1) (braun f (spl r).2)
structure Cut where
 k:Nat
 n:Nat
 t:Nat
def hpT (p:Program) (B:Params->List Obj) (cs:List Ch) (c:Cut) (P:Params):Heap:=absHeap (braun 12 (objs p P (B P) (cs.take c.k))) c.n {}
def stT (p:Program) (B:Params->List Obj) (D:Drawn) (cs:List Ch) (c:Cut) (w:World) (os:OsState):SharedT :=
 ⟨braun 12 (objs p w.params (B w.params) (cs.take c.k)),c.n,{},ufh [],D,c.t,os⟩
def env (p:Program):Env:={ scope:=p.main.scope,locals:=mainNs,globals:=mainNs,cells:=[],code:=.ref 13,frame:=some 14 }
def cE (p:Program):Code:=.body p.main.body (env p)
def pos0:Pos:=⟨0,0,0,0⟩
def posOf (p:Program):Nat->Pos
 | 0=>pos0
 | k + 1=>match stt p k with
  | .Assign [.Name _ q] _ _=>q
  | .FunctionDef _ _ _ _ _ _ _ _ _ q=>q
  | .ClassDef _ _ _ _ _ _ _ _ _ _ q=>q
  | _=>pos0
def ann0:Option Value:=some (.ref 6)
def PieceT (p:Program) (B:Params->List Obj) (D:Drawn) (cs:List Ch) (a b:Cut) (N:Nat):Prop:=∀ w:World,
 (λ os=>segRunT treeTable p w 11 ann0 1 N (stT p B D cs a w os) (piecesOf ((p.main.body.drop a.k).take (b.k - a.k)) (env p) (cE p) (posOf p a.k) [topFrame pos0]))=λ os=>some (Flow.next,stT p B D cs b w os,cE p,posOf p b.k)
def PreT (p:Program) (B:Params->List Obj) (D:Drawn) (h:Params->Heap) (t:Nat) (cs:List Ch) (a:Cut):Prop:=∀ w:World,
 (λ os=>topGo treeTable p w 11 ann0 12 ⟨h w.params,ufh [],D,t,os⟩ (topStub p))=λ os=>some ((stT p B D cs a w os).abs,⟨denote treeTable (cE p),cE p,pos0,[topFrame pos0]⟩)
def BlockT (p:Program):Prop:=∀ (w:World) (s:Shared),segRun treeTable p w 11 ann0 1 1 s (blockOf p.main.body (env p) (cE p) pos0 [topFrame pos0])=some (.next,s,cE p,pos0)
noncomputable def boots (P:Params):List Obj:=[boot_o_0 P,boot_o_1 P,boot_o_2 P,boot_o_3 P,boot_o_4 P,boot_o_5 P,boot_o_6 P,boot_o_7 P,boot_o_8 P,boot_o_9 P,boot_o_10 P]
def qv (p:Program) (is:List Nat):Program:={ p with main:={ p.main with body:=is.map (stt p) } }
def nmO:Stmt->Option Str
 | .FunctionDef n ..=>some n
 | .ClassDef n ..=>some n
 | _=>none
def lz (p:Program) (is:List Nat) (n:Nat):List Str:=(uag n).filterMap λ i=>if is.contains i then none else nmO (stt p i)
def kk (a:Nat) (g:Got):List (Nat × Obj):=match g.os with
 | [_,_,_,c,f]=>[(a + 3,c),(a + 4,f)]
 | [_,_,_,_,_,c,f]=>[(a + 5,c),(a + 6,f)]
 | _::_::_::_::_::_::_::_::d::C::_=>[(a + 8,d),(a + 9,C)]
 | _=>[]
def Kf (p:Program) (B:Params->List Obj) (cs:List Ch) (P:Params):Frag :=
 let gs:=cs.map (got p P cs)
 (3,globO p P cs (gs.flatMap (·.en)) ((B P).getD 3 (sT [])))::(cs.zip gs).flatMap λ c=>kk c.1.a c.2
def LookA (p:Program) (B:Params->List Obj) (D:Drawn) (h:Params->Heap) (cs:List Ch) (c:Cut):Prop:=∀ w:World,(λ os =>
  (staticsOk (importedModules p.main.body) (h w.params) (hpT p B cs c w.params) && namesBound p (hpT p B cs c w.params) && gensDone ⟨hpT p B cs c w.params,ufh [],D,c.t,os⟩ && laidKept (h w.params) (hpT p B cs c w.params)))=λ _:OsState=>true
def LookB (p:Program) (B:Params->List Obj) (D:Drawn) (cs:List Ch) (c:Cut) (is:List Nat) (rc:WRecords):Prop:=∀ w:World,(λ os =>
  openSeen (qv p is) (lz p is c.k) (importedModules p.main.body) (λ s=>xlAt (qv p is) [] s && recOk rc s) true ⟨hpT p B cs c w.params,ufh [],D,c.t,os⟩)=λ _:OsState=>openGood (qv p is) (lz p is c.k)
def LookC (p:Program) (B:Params->List Obj) (cs:List Ch) (c:Cut) (as:List Nat):Prop:=∀ w:World,as.map (hpT p B cs c w.params).get?=(Kf p B cs w.params).map λ p=>some p.2
section
variable {p:Program} {D:Drawn} {cs:List Ch}
theorem zst {w:World} {s:Shared} {c:Code} {q:Pos}:topRun treeTable p w 11 ann0 2 s ⟨doneF .next,c,q,[topFrame pos0]⟩=some s:=rfl
theorem zo1 {w:World} {os:OsState} {c:Cut} (h:p.main.body.drop c.k=[]) :
  topRun treeTable p w 11 ann0 2 (stT p boots boot_drawn cs c w os).abs (restOf (p.main.body.drop c.k) (env p) (cE p) (posOf p c.k) [topFrame pos0])=some (stT p boots boot_drawn cs c w os).abs:=by
 rw[h];exact piece_nil zst
theorem chain {w:World} {os:OsState} {a b:Cut} {N M:Nat} {r:Shared} (h:PieceT p boots boot_drawn cs a b N) (le:a.k<=b.k)
  (k:topRun treeTable p w 11 ann0 M (stT p boots boot_drawn cs b w os).abs (restOf (p.main.body.drop b.k) (env p) (cE p) (posOf p b.k) [topFrame pos0])=some r) :
  topRun treeTable p w 11 ann0 (N + M) (stT p boots boot_drawn cs a w os).abs (restOf (p.main.body.drop a.k) (env p) (cE p) (posOf p a.k) [topFrame pos0])=some r:=by
 have e:p.main.body.drop a.k=(p.main.body.drop a.k).take (b.k - a.k)++p.main.body.drop b.k:=by
  have x:=(uca (b.k - a.k) (p.main.body.drop a.k)).symm
  rw[List.drop_drop,Nat.add_sub_cancel' le] at x;exact x
 rw[e];exact piece_app (segRun_of (congrFun (h w) os)) k
theorem zr1 {w:World} {os:OsState} {M:Nat} {r:Shared} (pre:PreT p boots boot_drawn boot_heap boot_toks cs ⟨0,15,187⟩) (bl:BlockT p)
  (k:topRun treeTable p w 11 ann0 M (stT p boots boot_drawn cs ⟨0,15,187⟩ w os).abs (restOf (p.main.body.drop 0) (env p) (cE p) (posOf p 0) [topFrame pos0])=some r) :
  topRun treeTable p w 11 ann0 (12 + (1 + M)) ⟨boot_heap w.params,ufh [],boot_drawn,boot_toks,os⟩ (topStub p)=some r :=
 go_top (congrFun (pre w) os) (piece_block (bl w _) k)
theorem zsl {is as:List Nat} {rc:WRecords} {c:Cut} {M N:Nat} {e:∀ P,as=(Kf p boots cs P).map (·.1)}
  (op:opening p=plainProg p.main.scope.names) (hN:Nat.ble 600 N=true) (fe:∀ s,fenceModules? p s=some s)
  (size:∀ w:World,((boot_heap w.params).isNs mainGlobals && (ufh []:Array GenState).size == 0,(boot_heap w.params).objs.size,(boot_heap w.params).nsMap mainGlobals "__annotations__")=(true,11,ann0))
  (run:∀ (w:World) (os:OsState),topRun treeTable p w 11 ann0 M ⟨boot_heap w.params,ufh [],boot_drawn,boot_toks,os⟩ (topStub p)=some (stT p boots boot_drawn cs c w os).abs) (le:Nat.ble M N=true)
  (hA:LookA p boots boot_drawn boot_heap cs c) (hB:LookB p boots boot_drawn cs c is rc) (hC:LookC p boots cs c as) :
  LeftO p (qv p is) (lz p is c.k) (λ s=>xlAt (qv p is) [] s && recOk rc s) (Hook.obs (kHook (Kf p boots cs) as e)) (Hook.val (kHook (Kf p boots cs) as e)) N :=
 LeftO.of_pieces (H₀:=boot_heap) (H₁:=hpT p boots cs c) (boot_open op hN fe) size run le λ w=>funext λ os=>by
  have a:=congrFun (hA w) os
  have b:=congrFun (hB w) os
  have c:=hC w
  exact looks_pair a (looks_pair b c)
end
end Hx
namespace Me
open PySem PySem.Spec PyProof.Rows L2 L3
def top (i:Nat):Stmt:=uaa.main.body.getD i (.Pass ⟨0,0,0,0⟩)
abbrev s_is_whole:Stmt:=top 5
theorem sc_is_whole:FnScope ["thing"] ["thing"] (defScope s_is_whole):=by right
abbrev s_is_plain:Stmt:=top 7
theorem sc_is_plain:FnScope ["web"] ["web"] (defScope s_is_plain):=by right
abbrev s_whole:Stmt:=top 8
theorem sc_whole:FnScope ["web"] ["web"] (defScope s_whole):=by right
abbrev s_tie_between:Stmt:=top 9
theorem sc_tie_between:FnScope ["web","a","b","ends","number","tie"] ["web","a","b"] (defScope s_tie_between):=by right
abbrev s_ties_along:Stmt:=top 11
theorem sc_ties_along:FnScope ["web","places"] ["web","places"] (defScope s_ties_along):=by right
abbrev s_tie_weights:Stmt:=top 12
theorem sc_tie_weights:FnScope ["web","weights","weight","tie"] ["web"] (defScope s_tie_weights):=by right
abbrev s_cost_with:Stmt:=top 13
theorem sc_cost_with:FnScope ["cost","length","weight"] ["cost","length","weight"] (defScope s_cost_with):=by right
abbrev s_reached_from:Stmt:=top 14
theorem sc_reached_from:FnScope ["web","keep","root","weights","costs","ahead","again","tie","a","b","length","one","other","cost"] ["web","keep","root"] (defScope s_reached_from):=by right
abbrev s_fars_from:Stmt:=top 15
theorem sc_fars_from:FnScope ["web","keep","root","costs","ahead"] ["web","keep","root"] (defScope s_fars_from):=by right
abbrev s_tree_from:Stmt:=top 16
theorem sc_tree_from:FnScope ["web","keep","root","costs","ahead"] ["web","keep","root"] (defScope s_tree_from):=by right
abbrev s_the_way:Stmt:=top 17
theorem sc_the_way:FnScope ["web","keep","a","b","tree","way"] ["web","keep","a","b"] (defScope s_the_way):=by right
abbrev s_need_plain:Stmt:=top 19
theorem sc_need_plain:FnScope ["web"] ["web"] (defScope s_need_plain):=by right
abbrev s_neighbours:Stmt:=top 21
theorem sc_neighbours:FnScope ["web","keep","place","ties"] ["web","keep","place"] (defScope s_neighbours):=by right
abbrev s_need_share:Stmt:=top 23
theorem sc_need_share:FnScope ["d"] ["d"] (defScope s_need_share):=by right
abbrev s_bare_neighbours:Stmt:=top 24
theorem sc_bare_neighbours:FnScope ["web","place","guarded"] ["web","place","guarded"] (defScope s_bare_neighbours):=by right
abbrev s_guards_by:Stmt:=top 25
theorem sc_guards_by:FnScope ["web","d","told","guarded","place","bare"] ["web","d"] (defScope s_guards_by):=by right
abbrev s_all_guarded:Stmt:=top 26
theorem sc_all_guarded:FnScope ["told","guarded","guard","places"] ["told"] (defScope s_all_guarded):=by right
abbrev s_bare_ties:Stmt:=top 27
theorem sc_bare_ties:FnScope ["web","told","guarded"] ["web","told"] (defScope s_bare_ties):=by right
abbrev s_kept_at_first:Stmt:=top 29
theorem sc_kept_at_first:FnScope ["web","guards","ties","guard","places"] ["web","guards"] (defScope s_kept_at_first):=by right
abbrev s_is_wanted:Stmt:=top 30
theorem sc_is_wanted:FnScope ["near","kept"] ["near","kept"] (defScope s_is_wanted):=by right
abbrev s_first_wanted:Stmt:=top 31
theorem sc_first_wanted:FnScope ["web","keep","u","near","kept","v"] ["web","keep","u"] (defScope s_first_wanted):=by right
abbrev s_fars_along:Stmt:=top 32
theorem sc_fars_along:FnScope ["web","way","rows","i","one","j","other"] ["web","way"] (defScope s_fars_along):=by right
abbrev s_nearest:Stmt:=top 33
theorem sc_nearest:FnScope ["fars","heap","other","lengths","place"] ["fars","heap","other"] (defScope s_nearest):=by right
abbrev s_gained_by:Stmt:=top 34
theorem sc_gained_by:FnScope ["web","keep","guards","way","along","ahead","gained","guard","heap","other","places","now","before"] ["web","keep","guards","way"] (defScope s_gained_by):=by right
abbrev s_six_told:Stmt:=top 35
theorem sc_six_told:FnScope ["web","d","guards","keep","ledger","u","v","way","bought"] ["web","d"] (defScope s_six_told):=by right
abbrev s__law_pot:Stmt:=top 37
theorem sc__law_pot:FnScope ["script","k","cell","prime"] ["script","k"] (defScope s__law_pot):=by right
abbrev s__law_take:Stmt:=top 38
theorem sc__law_take:FnScope ["pot","many","found"] ["pot","many"] (defScope s__law_take):=by right
abbrev s__law_order:Stmt:=top 39
theorem sc__law_order:FnScope ["pot","many","left","found","turn"] ["pot","many"] (defScope s__law_order):=by right
abbrev s__law_beside:Stmt:=top 40
theorem sc__law_beside:FnScope ["pot","style","n","a","b","step","ring"] ["pot","style","n","a","b"] (defScope s__law_beside):=by right
abbrev s__law_long:Stmt:=top 41
theorem sc__law_long:FnScope ["pot","most","n","style","names","ties","b","a","one","other"] ["pot","most"] (defScope s__law_long):=by right
abbrev s__law_share:Stmt:=top 42
theorem sc__law_share:FnScope ["pot","some"] ["pot"] (defScope s__law_share):=by right
abbrev s__law_whole:Stmt:=top 43
theorem sc__law_whole:FnScope ["thing"] ["thing"] (defScope s__law_whole):=by right
abbrev s__law_same:Stmt:=top 44
theorem sc__law_same:FnScope ["found","due"] ["found","due"] (defScope s__law_same):=by right
abbrev s__law_steps:Stmt:=top 45
theorem sc__law_steps:FnScope ["web","kept","beside","number","a","b","length","table","start","found","waiting","place","other"] ["web","kept"] (defScope s__law_steps):=by right
abbrev s__law_heaps:Stmt:=top 46
theorem sc__law_heaps:FnScope ["guards","found","guard","places","place"] ["guards"] (defScope s__law_heaps):=by right
abbrev s__law_gained:Stmt:=top 47
theorem sc__law_gained:FnScope ["way","guards","table","found","guard","places","other","rest","along","kept","one","two"] ["way","guards","table"] (defScope s__law_gained):=by right
abbrev s__law_first:Stmt:=top 48
theorem sc__law_first:FnScope ["web","heaps","found","number","tie","a","b","length"] ["web","heaps"] (defScope s__law_first):=by right
abbrev s__law_bought:Stmt:=top 49
theorem sc__law_bought:FnScope ["web","way","kept","numbers","one","other"] ["web","way","kept"] (defScope s__law_bought):=by right
abbrev s__law_borne_out:Stmt:=top 50
theorem sc__law_borne_out:FnScope ["web","guards","ledger","kept","every","dues","table","left","u","v","due","own","way","numbers","cost","row"] ["web","guards","ledger"] (defScope s__law_borne_out):=by right
abbrev s_law:Stmt:=top 51
theorem sc_law:FnScope ["script","cells","k","pot","most","web","d","found","kept"] ["script"] (defScope s_law):=by right
section
variable {P:Program} {w:World} {K:uac} {mg:Str->Option Value} {base:Heap}
theorem ziy (T:Bi mg) (D:DefOk K mg "_law_take" s__law_take ["pot","many"]):Ok P w K mg base 1 "_law_take" ["pot","many"] spTake:=by
 refine zbd (k:=0) D sc__law_take (λ vs H Q E h=>?_) (λ f cdv A outer s H vs Q E hr h=>?_)
 ·obtain⟨p,m,rfl,_⟩:=h
  rfl
 obtain⟨p,m,rfl,⟨a,b,hp,ha,hb,hb2⟩,hm,hm2,q⟩:=h
 have nd:=sc__law_take.nd
 refine⟨_,(zab (zbf (zam zme (zar zau (pv 0) zae (λ _ _=>rfl)) zae (nomark _)) (zab (zan (i:=2) nd rfl (uat rfl) (zaz zcs (zar zau (pv 0) zae (λ _ _=>rfl)) (pv 1))) (zab (zbz (zaz zj0 (zar zau (pv 0) zae (λ _ _=>rfl)) (pv 1)) (zdw (pv 0) zae zb3)) (zad (zaq (pv 2))))) zat) (zab (zbz (zaz zcs (zaz zb7 (zaz znu (zar zau (pv 0) zae (λ _ _=>rfl)) zae) zae) zae) (zdw (pv 0) zae zb3)) (zad (zaq (zaz zcs (zaz zj0 (zaz zcs (zaz ze5 (zar zau (pv 0) zae (λ _ _=>rfl)) zae) zae) zae) (pv 1)))))),?_⟩
 refine⟨_,rfl,p,_,_,_,rfl,rfl,SqL.of hp,rfl,_,_,rfl,rfl,_,rfl,?_⟩
 refine ite2 (λ c=>?_) (λ c=>?_)
 ·refine⟨_,rfl,p,_,_,_,rfl,rfl,SqL.of hp,rfl,_,rfl,_,_,rfl,rfl,hm,?_⟩
  refine⟨_,rfl,p,_,_,_,rfl,rfl,SqL.of hp,rfl,_,rfl,_,_,rfl,rfl,⟨hm,hm2⟩,?_⟩
  refine⟨_,rfl,p,_,0,0,rfl,rfl,hp,rfl,_,rfl,?_⟩
  refine q _ _ (udy _ (by left)) (udr _ hm) But.upd ⟨a / m,b,zai,Int.ediv_nonneg ha (by left),hb,hb2⟩
 ·refine⟨_,rfl,p,_,_,_,rfl,rfl,SqL.of hp,rfl,_,_,rfl,rfl,.inr ⟨by decide,by decide⟩,_,_,rfl,rfl,_,_,rfl,rfl,(by show (0:Int) < 2147483647;decide),?_⟩
  refine⟨_,rfl,p,_,1,1,rfl,rfl,hp,rfl,?_⟩
  have n1:0<=(b * 48271 + 12820163) % 2147483647:=udy _ (by decide)
  have n2:(b * 48271 + 12820163) % 2147483647 < 2147483647:=udr _ (by decide)
  refine⟨_,rfl,p,_,_,_,rfl,rfl,SqL.of zai,rfl,_,_,rfl,rfl,⟨by decide,by decide,by left⟩,_,_,rfl,rfl,(by show (0:Int) < 2147483629;decide),_,_,rfl,rfl,⟨by decide,by decide⟩,_,rfl,_,_,rfl,rfl,hm,?_⟩
  exact q _ _ (udy _ (by left)) (udr _ hm) But.upd ⟨a,_,zai,ha,n1,n2⟩
theorem zj5 (T:Bi mg) (D:DefOk K mg "_law_pot" s__law_pot ["script","k"]):Ok P w K mg base 1 "_law_pot" ["script","k"] (spPot K):=by
 refine zbd (k:=0) D sc__law_pot (λ vs H Q E h=>?_) (λ f cdv A outer s H vs Q E hr h=>?_)
 ·obtain⟨a,k,ns,rfl,_⟩:=h
  rfl
 obtain⟨a,k,ns,rfl,hS,hk0,hk1,q⟩:=h
 have nd:=sc__law_pot.nd
 have hl:(ns.map V.int).length=ns.length:=uae _
 refine⟨_,(zab (zan (i:=2) nd rfl (uat rfl) zae) (zab (zbf (zam zjz (pv 1) (zao zay rfl T.z_len (by symm) (zaa (pv 0) zac)) (nomark _)) (zad (zan (i:=2) nd rfl (uat rfl) (zaz zcs (zar zau (pv 0) (pv 1) (λ _ _=>rfl)) (zaz znt (zaz znt (zaz ze5 zae zae) (zaz ze5 zae zae)) (zaz ze5 zae zae))))) zat) (zab (zan (i:=3) nd rfl (uat rfl) (zar zau (zim (zaa zae (zaa zae (zaa zae (zaa zae (zaa zae zac)))))) (zaz zcs (pv 1) zae) (λ _ _=>rfl))) (zad (zaq (zim (zaa (zao (zfu rfl) rfl T.z_max (by symm) (zaa zae (zaa (zaz zdy (pv 2) (zaz ze5 zae zae)) zac))) (zaa (zaz zcs (zaz ze5 (zaz zb7 (zaz zb7 (zaz zcs (pv 2) (pv 3)) (zaz znu zae (pv 1))) zae) zae) zae) zac)))))))),?_⟩
  -- behind the test: cell is some number that is not below nought
 have rest : ∀ (cell : Int), 0 <= cell → ∀ (σ : L2.St), σ = [some (.ref a), some (.int k), some (.int cell), none] →
     (tSeq (tAsg (tOp (rIxL K) (tLst (tCons (tC (.int 2147483629)) (tCons (tC (.int 2147483587)) (tCons (tC (.int 2147483579)) (tCons (tC (.int 2147483563)) (tCons (tC (.int 2147483549)) tNil)))))) (tOp (rI (λ _ j=>0 < j) λ i j=>.int (i % j)) (tVar 1) (tC (.int 5)))) (gName 3))
       (tRet (tLst (tCons (tCB (λ xs H Q=>∃ i j,xs=[.int i,.int j]/\Q (.int (if j > i then j else i)) H) (tCons (tC (.int 0)) (tCons (tOp (rI0 λ i j=>.int (i - j)) (tVar 2) (tOp (rI CPow λ i j=>.int (i ^ j.toNat)) (tC (.int 10)) (tC (.int 18)))) tNil)))
         (tCons (tOp (rI (λ _ j=>0 < j) λ i j=>.int (i % j)) (tOp (rI CPow λ i j=>.int (i ^ j.toNat)) (tOp (rI0 λ i j=>.int (i + j)) (tOp (rI0 λ i j=>.int (i + j)) (tOp (rI (λ _ j=>0 < j) λ i j=>.int (i % j)) (tVar 2) (tVar 3)) (tOp (rI CMul λ i j=>.int (i * j)) (tC (.int 7919)) (tVar 1))) (tC (.int 11))) (tC (.int 3))) (tC (.int 2147483647))) tNil)))))
       { nx:=λ _ H'=>Q .non H',rt:=Q } σ H:=by
  intro cell hc σ hσ
  subst hσ
  refine⟨(by show 5<=sizeLine;decide),λ l hl=>?_⟩
  refine⟨_,rfl,_,_,rfl,rfl,(by show (0:Int) < 5;decide),?_⟩
  have m0:0<=k % 5:=udy _ (by decide)
  have m1:k % 5 < 5:=udr _ (by decide)
  have pr:∃ v:Int,atI [V.int 2147483629,V.int 2147483587,V.int 2147483579,V.int 2147483563,V.int 2147483549] (k % 5)=some (.int v)/\2147483549<=v/\v<=2147483629:=by
   have:k % 5=0\/k % 5=1\/k % 5=2\/k % 5=3\/k % 5=4:=by left
   rcases this with e | e | e | e | e <;> rw[e] <;> exact⟨_,rfl,by decide,by decide⟩
  obtain⟨v,hv,v1,v2⟩:=pr
  refine⟨l,_,_,_,rfl,rfl,SqL.of zai,hv,?_⟩
  have S1:Same H (upd H l (.lst [V.int 2147483629,V.int 2147483587,V.int 2147483579,V.int 2147483563,V.int 2147483549])):=zal hl
  refine⟨_,rfl,_,_,rfl,rfl,⟨by decide,by decide,by decide⟩,_,_,rfl,rfl,_,_,rfl,?_⟩
  refine⟨_,rfl,_,rfl,_,_,rfl,rfl,(by show (0:Int) < v;left),_,rfl,_,_,rfl,rfl,.inl ⟨by decide,by decide⟩,_,_,rfl,rfl,_,_,rfl,rfl,_,_,rfl,rfl,⟨by decide,by decide,?_⟩,_,_,rfl,rfl,(by show (0:Int) < 2147483647;decide),?_⟩
  ·have c0:0<=cell % v:=udy _ (by left)
   have c1:cell % v < v:=udr _ (by left)
   left
  refine⟨(by show 2<=sizeLine;decide),λ l2 hl2=>?_⟩
  refine q l2 _ (S1.trans (zal hl2)) (S1.free hl2) ⟨_,_,zai,?_,udy _ (by decide),udr _ (by decide)⟩
  split <;> left
 refine⟨_,rfl,_,rfl,a,_,rfl,.inl hS,_,_,rfl,rfl,_,rfl,?_⟩
 refine ite2 (λ c=>?_) (λ c=>?_)
 ·have c':k < (((ns.map V.int).length:Nat):Int):=of_decide_eq_true c
  rw[hl] at c'
  obtain⟨v,hv⟩:∃ v:Int,atI (ns.map V.int) k=some (.int v):=by
   have hk:k.toNat < ns.length:=by left
   have ek:k=((k.toNat:Nat):Int):=by left
   have z:atI (ns.map V.int) ((k.toNat:Nat):Int)=some (.int ns[k.toNat]):=zo6 (by rw[uaq,uad hk] <;> rfl)
   rw[← ek] at z
   exact⟨_,z⟩
  refine⟨_,rfl,_,rfl,a,_,_,_,rfl,rfl,hS,hv,?_⟩
  refine⟨_,_,rfl,rfl,⟨by decide,by decide,by decide⟩,_,_,rfl,rfl,⟨by decide,by decide,by decide⟩,_,_,rfl,rfl,mulB,_,_,rfl,rfl,⟨by decide,by decide,by decide⟩,_,_,rfl,rfl,mulB2,_,_,rfl,rfl,posB,?_⟩
  exact rest _ (udy _ (by have:=posB;left)) _ rfl
 ·exact rest 5 (by decide) _ rfl
theorem zha (T:Bi mg) (D:DefOk K mg "_law_order" s__law_order ["pot","many"]) (O__law_take:Ok P w K mg base 1 "_law_take" ["pot","many"] spTake):Ok P w K mg base 2 "_law_order" ["pot","many"] spOrder:=by
 refine zbd (k:=1) D sc__law_order (λ vs H Q E h=>?_) (λ f cdv A outer s H vs Q E hr h=>?_)
 ·obtain⟨p,m,rfl,_⟩:=h
  rfl
 obtain⟨p,m,rfl,hp,hm0,hm1,q⟩:=h
 have nd:=sc__law_order.nd
 refine⟨_,(zab (zan (i:=2) nd rfl (uat rfl) (zas (zdi rfl) rfl T.z_list (by symm) (zaa (zas zc4 rfl T.z_range (by symm) (zaa (pv 1) zac)) zac))) (zab (zan (i:=3) nd rfl (uat rfl) (zim zac)) (zab (za4 PassesOwn.never rfl (zbi rfl T.z_range (zaa (pv 1) zac)) (zag (i:=4) nd rfl (uat rfl)) (zad (za9 (zb2 uax ua8 ua7 zct (pv 3) (zaa (zb2 uax ufp ufo zhb (pv 2) (zaa (zaj O__law_take hr rfl (zaa (pv 0) (zaa (zao zay rfl T.z_len (by symm) (zaa (pv 2) zac)) zac))) zac)) zac))))) (zad (zaq (pv 3)))))),?_⟩
 refine⟨_,rfl,m,rfl,λ g hg=>?_⟩
 refine⟨g,m,rfl,zai,hm0,hm1,λ l hl=>?_⟩
 refine⟨(by show 0<=sizeLine;decide),λ l2 hl2=>?_⟩
 obtain⟨H0,eH0⟩:∃ H0,H0=upd (upd (upd H g (.rng 0 m)) l (.lst ((uag m.toNat).map λ i:Nat=>V.int (i:Int)))) l2 (.lst []):=⟨_,rfl⟩
 rw[← eH0]
 have S1:Same H (upd H g (.rng 0 m)):=zal hg
 have S2:=S1.trans (zal (o:=.lst ((uag m.toNat).map λ i:Nat=>V.int (i:Int))) hl)
 have S3:Same H H0:=by rw[eH0];exact S2.trans (zal hl2)
 have fl:H l=none:=S1.free hl
 have fl2:H l2=none:=S2.free hl2
 have ll2:l≠l2:=λ e=>by rw[← e,zai] at hl2;cases hl2
 have el:H0 l=some (.lst ((uag m.toNat).map λ i:Nat=>V.int (i:Int))):=by rw[eH0,zap ll2,zai]
 have el2:H0 l2=some (.lst []):=by rw[eH0,zai]
 have hp0:Pot H0 p:=by
  obtain⟨a,b,e,z⟩:=hp
  exact⟨a,b,S3 _ _ e,z⟩
 have nlp:l≠p:=by
  obtain⟨a,b,e,z⟩:=hp
  exact λ x=>by rw[x,e] at fl;cases fl
 have nl2p:l2≠p:=by
  obtain⟨a,b,e,z⟩:=hp
  exact λ x=>by rw[x,e] at fl2;cases fl2
 refine⟨_,rfl,m,rfl,by left,by left,?_⟩
 refine zbj (n:=m.toNat) (λ i σ H'=>∃ (t:Option V) (ls ms:List Int),σ=[some (.ref p),some (.int m),some (.ref l),some (.ref l2),t]/\H' l=some (.lst (ls.map V.int))/\H' l2=some (.lst (ms.map V.int))/\Pot H' p /\
  (∀ b o,b≠p->H b=some o->H' b=some o)/\(ms++ls).Perm ((uag m.toNat).map λ i:Nat=>(i:Int))/\ms.length=i) ?start ?turn ?fin
 case start=>exact⟨none,(uag m.toNat).map λ i:Nat=>(i:Int),[],rfl,by rw[el,ubq];rfl,el2,hp0,λ b o _ e=>S3 b o e,ugi _,rfl⟩
 case turn =>
  rintro i σ H' hi ⟨t,ls,ms,rfl,e1,e2,hp',kp,pm,hl'⟩
  have hlen:ls.length=m.toNat - i:=by
   have:=pm.length_eq
   rw[uaj,uae,uba] at this
   left
  refine⟨_,rfl,.inl ⟨rfl,_,SqL.of e2⟩,_,rfl,.inl ⟨rfl,_,SqL.of e1⟩,_,rfl,_,rfl,l,_,rfl,.inl (SqL.of e1),?_⟩
  refine⟨p,_,rfl,hp',(by rw[uae];left),(by rw[uae];left),λ r H1 r0 r1 b1 p1=>?_⟩
  rw[uae] at r1
  have hr1:r.toNat < ls.length:=by left
  have er:r=((r.toNat:Nat):Int):=by left
  have six:seqIndex? r (ls.map V.int).length=some r.toNat:=(zfl (by unfold ixN;rw[if_pos r0,if_pos (by rw[uae];left)])).1
  refine⟨l,_,r,r.toNat,.int ls[r.toNat],rfl,rfl,b1 _ _ nlp e1,by left,by left,six,by rw[uaq,uad hr1];rfl,?_⟩
  refine⟨l2,_,_,rfl,rfl,by rw[zap ll2.symm];exact b1 _ _ nl2p e2,?_,?_⟩
  ·rw[uae]
   exact ubf (by left:ms.length<=1000) (by decide)
  ·refine⟨_,ls.eraseIdx r.toNat,ms++[ls[r.toNat]],rfl,?_,?_,?_,?_,?_,by rw[uaj,ubs];left⟩
   ·rw[zap ll2,zai,zi3]
   ·rw[zai,ua3];rfl
   ·obtain⟨a,b,e,z⟩:=p1
    exact⟨a,b,by rw[zap nl2p.symm,zap nlp.symm];exact e,z⟩
   ·intro b o hb e
    have n1:b≠l:=λ x=>by rw[x,fl] at e;cases e
    have n2:b≠l2:=λ x=>by rw[x,fl2] at e;cases e
    rw[zap n2,zap n1]
    exact b1 _ _ hb (kp _ _ hb e)
   ·refine List.Perm.trans ?_ pm
    rw[uce]
    refine ug4 _ ?_
    show (ls[r.toNat]::ls.eraseIdx r.toNat).Perm ls
    exact zgn ls r.toNat hr1
 case fin =>
  rintro σ H' ⟨t,ls,ms,rfl,e1,e2,hp',kp,pm,hl'⟩
  have hlen:ls=[]:=by
   have:=pm.length_eq
   rw[uaj,uae,uba] at this
   exact List.eq_nil_of_length_eq_zero (by left)
  subst hlen
  rw[ub1] at pm
  exact⟨_,rfl,q l2 H' ms kp hp' fl2 nl2p e2 pm⟩
theorem zj3 (T:Bi mg) (D:DefOk K mg "is_whole" s_is_whole ["thing"]):Ok P w K mg base 1 "is_whole" ["thing"] (spD1 K (λ _=>True) wholeB):=by
 refine zbd (k:=0) D sc_is_whole (λ vs H Q E h=>?_) (λ f cdv A outer s H vs Q E hr h=>?_)
 ·obtain⟨d,v,rfl,_⟩:=h
  rfl
 obtain⟨d,v,rfl,hd,_,q⟩:=h
 have nd:=sc_is_whole.nd
 have q0:=q H (Same.refl H)
 have ty:=zs6 hd
 refine⟨_,(zad (zaq (zdx (zao (zbx (n:="int")) rfl T.z_isinstance (by symm) (zaa (pv 0) (zaa (zci (v:=.ty "int") rfl T.z_int (by symm) rfl) zac))) (zcq (zq9 (zao (zbx (n:="bool")) rfl T.z_isinstance (by symm) (zaa (pv 0) (zaa (zci (v:=.ty "bool") rfl T.z_bool (by symm) rfl) zac)))))))),?_⟩
 cases d with
 | int i=>exact⟨_,rfl,_,_,_,rfl,ty,rfl,_,rfl,iteT ⟨_,rfl,_,_,_,rfl,ty,rfl,_,rfl,q0⟩⟩
 | bool b=>exact⟨_,rfl,_,_,_,rfl,ty,rfl,_,rfl,iteT ⟨_,rfl,_,_,_,rfl,ty,rfl,_,rfl,q0⟩⟩
 | none=>exact⟨_,rfl,_,_,_,rfl,ty,rfl,_,rfl,iteF q0⟩
 | str x=>exact⟨_,rfl,_,_,_,rfl,ty,rfl,_,rfl,iteF q0⟩
 | tuple ds=>exact⟨_,rfl,_,_,_,rfl,ty,rfl,_,rfl,iteF q0⟩
 | list ds=>exact⟨_,rfl,_,_,_,rfl,ty,rfl,_,rfl,iteF q0⟩
 | dict ds=>exact⟨_,rfl,_,_,_,rfl,ty,rfl,_,rfl,iteF q0⟩
theorem zfz (T:Bi mg) (D:DefOk K mg "tie_weights" s_tie_weights ["web"]):Ok P w K mg base 1 "tie_weights" ["web"] (spWeights K):=by
 refine zbd (k:=0) D sc_tie_weights (λ vs H Q E h=>?_) (λ f cdv A outer s H vs Q E hr h=>?_)
 ·obtain⟨n,ts,v,rfl,_⟩:=h
  rfl
 obtain⟨n,ts,v,rfl,hw,few60,q⟩:=h
 have nd:=sc_tie_weights.nd
 obtain⟨g0,g,ws,rfl,hg0,hg,hall,hlw⟩:=za3 hw
 refine⟨_,(zab (zan (i:=1) nd rfl (uat rfl) (za0 zac)) (zab (zan (i:=2) nd rfl (uat rfl) zae) (zab (za4 PassesOwn.never rfl (zbv (zar za5 (pv 0) zae (λ _ _=>rfl))) (zag (i:=3) nd rfl (uat rfl)) (zab (za9 (zb2 uax ua8 ua7 zb8 (pv 1) (zaa (pv 2) zac))) (zad (zan (i:=2) nd rfl (uat rfl) (zaz znu zae (pv 2)))))) (zad (zaq (pv 1)))))),?_⟩
 refine⟨(by show 0<=1000;decide),λ l J0 S0 f0 e0=>?_⟩
 refine⟨_,rfl,g0,_,_,_,rfl,rfl,SqT.of (S0 _ _ hg0),rfl,g,rfl,⟨_,SqT.of (S0 _ _ hg)⟩,?_⟩
 refine zck (xs:=ws) (λ i σ J=>∃ y3:Option V,σ=[some (.ref g0),some (.ref l),some (.int (2 ^ i)),y3]/\Same H J/\J l=some (.lst (pows i))) ⟨none,rfl,S0,e0⟩ (λ i σ J _ h=>by obtain⟨_,_,s,_⟩:=h;exact SqT.of (s _ _ hg)) (λ i x σ J hx h=>?_) (λ σ J h=>?_)
 ·obtain⟨y3,rfl,s1,e1⟩:=h
  have hi:i < ws.length:=(uan.mp hx).1
  refine⟨_,rfl,.inl ⟨rfl,_,SqL.of e1⟩,_,rfl,l,_,_,rfl,rfl,e1,(by unfold pows;rw[uae,uba];left),λ J1 b1 e2=>?_⟩
  refine⟨_,rfl,_,_,rfl,rfl,.inl ⟨by decide,by decide⟩,?_⟩
  refine⟨some x,?_,λ b o e=>b1 _ _ (zaf e f0) (s1 _ _ e),by rw[e2,zni]⟩
  have ep:(2:Int) * 2 ^ i=2 ^ (i + 1):=by rw[Int.pow_succ,Int.mul_comm]
  show [some (V.ref g0),some (V.ref l),some (V.int (2 * 2 ^ i)),some x]=_
  rw[ep]
 ·obtain⟨y3,rfl,s1,e1⟩:=h
  exact⟨_,rfl,q l J s1 f0 (by rw[e1,hlw])⟩
theorem ziw (T:Bi mg) (D:DefOk K mg "cost_with" s_cost_with ["cost","length","weight"]):Ok P w K mg base 1 "cost_with" ["cost","length","weight"] (spCost K):=by
 refine zbd (k:=0) D sc_cost_with (λ vs H Q E h=>?_) (λ f cdv A outer s H vs Q E hr h=>?_)
 ·obtain⟨c,x,y,l,ww,rfl,_⟩:=h
  rfl
 obtain⟨c,x,y,l,ww,rfl,hc,q⟩:=h
 have nd:=sc_cost_with.nd
 refine⟨_,(zad (zaq (zbk (zaa (zaz zb7 (zar za5 (pv 0) zae (λ _ _=>rfl)) (pv 1)) (zaa (zaz zb7 (zar za5 (pv 0) zae (λ _ _=>rfl)) (pv 2)) zac))))),?_⟩
 exact⟨_,rfl,c,_,_,_,rfl,rfl,SqT.of hc,rfl,_,rfl,_,_,rfl,rfl,_,rfl,c,_,_,_,rfl,rfl,SqT.of hc,rfl,_,rfl,_,_,rfl,rfl,(by show 2<=1000;decide),λ t J S f e=>q t J S e⟩
def rWB (H:Hp) (wv kv:V) (n r:Int) (ts:List Tie) (ks:List Nat) (lw lc la:Addr) (m:Nat) (σ:L2.St) (J:Hp):Prop:=∃ (cs:List (Option (Int × Int))) (as:List (Option Nat)) (ag:Bool) (y7 y8 y9 y10 y11 y12 y13:Option V),σ=[some wv,some kv,some (.int r),some (.ref lw),some (.ref lc),some (.ref la),some (.bl ag),y7,y8,y9,y10,y11,y12,y13] /\
 RA H J lw lc la (pows ts.length) cs as/\Far.Good (arcs ts ks) n.toNat r.toNat cs/\Far.Run (arcsB ts ks) r.toNat cs as/\(ag=false->Far.Stab2 (arcsB ts ks) cs)/\m=Far.mu cs + (if ag=true then 1 else 0)
theorem zd6 (T:Bi mg) (D:DefOk K mg "reached_from" s_reached_from ["web","keep","root"]) (O_tie_weights:Ok P w K mg base 1 "tie_weights" ["web"] (spWeights K)) (O_cost_with:Ok P w K mg base 1 "cost_with" ["cost","length","weight"] (spCost K)):Ok P w K mg base 2 "reached_from" ["web","keep","root"] (spReachedC K):=by
 refine zbd (k:=1) D sc_reached_from (λ vs H Q E h=>?_) (λ f cdv A outer s H vs Q E hr h=>?_)
 ·obtain⟨n,ts,ks,wv,kv,r,rfl,_⟩:=h
  rfl
 obtain⟨n,ts,ks,wv,kv,r,rfl,⟨isw,ok,isk,ko⟩,r0,r1,q⟩:=h
 have nd:=sc_reached_from.nd
 have few60:=ok.few
 have n1:=ok.n1
 have n24:=ok.n24
 obtain⟨g0,g,ws,rfl,hg0,hg,hall,hlw⟩:=za3 isw
 obtain⟨kp,rfl,hkp⟩:=zgl isk
 have P:=zqw ok ko
 refine⟨_,(zab (zan (i:=3) nd rfl (uat rfl) (zaj O_tie_weights hr rfl (zaa (pv 0) zac))) (zab (zan (i:=4) nd rfl (uat rfl) (zaz ze4 (za0 (zaa zbc zac)) (zar za5 (pv 0) zae (λ _ _=>rfl)))) (zab (zan (i:=5) nd rfl (uat rfl) (zaz ze4 (za0 (zaa zbc zac)) (zar za5 (pv 0) zae (λ _ _=>rfl)))) (zab (zbz (zbk (zaa zae (zaa zae zac))) (zdw (pv 4) (pv 2) zb3)) (zab (zan (i:=6) nd rfl (uat rfl) zin) (zab (zeh PassesOwn.never (zcp (pv 6)) (zab (zan (i:=6) nd rfl (uat rfl) zin) (zad (za4 PassesOwn.never rfl (zbv (pv 1)) (zag (i:=7) nd rfl (uat rfl)) (zab (zbz (zar za5 (zar za5 (pv 0) zae (λ _ _=>rfl)) (pv 7) (λ _ _=>rfl)) (zbl (n:=3) rfl (zak (zag (i:=8) nd rfl (uat rfl)) (zak (zag (i:=9) nd rfl (uat rfl)) (zak (zag (i:=10) nd rfl (uat rfl)) za2))))) (zad (za4 PassesOwn.never rfl (zbv (zbk (zaa (zbk (zaa (pv 8) (zaa (pv 9) zac))) (zaa (zbk (zaa (pv 9) (zaa (pv 8) zac))) zac)))) (zbl (n:=2) rfl (zak (zag (i:=11) nd rfl (uat rfl)) (zak (zag (i:=12) nd rfl (uat rfl)) za2))) (zab (zbf (zam zc8 (zar zau (pv 4) (pv 11) (λ _ _=>rfl)) zbc (nomark _)) (zad zex) zat) (zab (zan (i:=13) nd rfl (uat rfl) (zaj O_cost_with hr rfl (zaa (zar zau (pv 4) (pv 11) (λ _ _=>rfl)) (zaa (pv 10) (zaa (zar zau (pv 3) (pv 7) (λ _ _=>rfl)) zac))))) (zad (zbf (PW.pt (zc7 (zam zc8 (zar zau (pv 4) (pv 12) (λ _ _=>rfl)) zbc (nomark _)) (zb5 (zam (ztl hr.units0) (pv 13) (zar zau (pv 4) (pv 12) (λ _ _=>rfl)) (nomark _))))) (zab (zbz (pv 13) (zdw (pv 4) (pv 12) zb3)) (zab (zbz (pv 11) (zdw (pv 5) (pv 12) zb3)) (zad (zan (i:=6) nd rfl (uat rfl) zin)))) zat))))))))))) (zad (zaq (zbk (zaa (pv 4) (zaa (pv 5) zac))))))))))),?_⟩
 refine⟨_,rfl,n,ts,_,rfl,isw,few60,λ lw J1 S1 f1 e1=>?_⟩
 refine⟨(by show 1<=1000;decide),λ t0 J2 S2 f2 e2=>⟨_,rfl,g0,_,_,_,rfl,rfl,SqT.of (S2 _ _ (S1 _ _ hg0)),rfl,t0,n,_,rfl,rfl,e2,by left,by left,λ lc J3 S3 f3 e3=>?_⟩⟩
 have S13:=S1.trans (S2.trans S3)
 refine⟨(by show 1<=1000;decide),λ t1 J4 S4 f4 e4=>⟨_,rfl,g0,_,_,_,rfl,rfl,SqT.of (S4 _ _ (S13 _ _ hg0)),rfl,t1,n,_,rfl,rfl,e4,by left,by left,λ la J5 S5 f5 e5=>?_⟩⟩
 refine⟨(by show 2<=1000;decide),λ t2 J6 S6 f6 e6=>?_⟩
 have S36:=S4.trans (S5.trans S6)
 have elc:=S36 _ _ e3
 refine⟨_,rfl,_,rfl,lc,_,r,r.toNat,rfl,rfl,elc,zcu r0 (by rw[ube];left),?_⟩
 have Sall:Same H J6:=S13.trans S36
 have fc:H lc=none:=(S1.trans S2).free f3
 have fa:H la=none:=(S13.trans S4).free f5
 have nwc:lw≠lc:=λ z=>by rw[← z,S2 _ _ e1] at f3;cases f3
 have nwa:lw≠la:=λ z=>by rw[← z,S4 _ _ (S3 _ _ (S2 _ _ e1))] at f5;cases f5
 have nca:lc≠la:=λ z=>by rw[← z,S4 _ _ e3] at f5;cases f5
 have R0:RA H J6 lw lc la (pows ts.length) (uay n.toNat none) (uay n.toNat none):=⟨Sall,fc,fa,nwc,nwa,nca,S36 _ _ (S3 _ _ (S2 _ _ e1)),⟨_,elc,CostL.first _⟩,by rw[S6 _ _ e5,List.map_replicate];rfl⟩
 have R1:=R0.put (k:=r.toNat) elc (by rw[ube];left) e6
  -- the passes
 refine⟨rWB H (.ref g0) (.ref kp) n r ts ks lw lc la,⟨_,_,_,true,none,none,none,none,none,none,none,rfl,R1,Far.Good.first (by left),Far.Run.first (by left),λ z=>(by cases z),rfl⟩,?_⟩
 rintro m σ J ⟨c0,as0,ag,y7,y8,y9,y10,y11,y12,y13,rfl,R,G,AH,St,rfl⟩
 refine⟨_,rfl,ag,rfl,?_⟩
 cases ag with
 | false =>
  refine iteF ?_
  obtain⟨cvs,hc,cl⟩:=R.co
  exact⟨_,rfl,_,rfl,(by show 2<=1000;decide),λ p J' S' f' e'=>q p lc la cvs as0 c0 J' (R.same.trans S') e' (S' _ _ hc) (S' _ _ R.ah) (cl.keep (zm7 S')) (AH.best P G (St rfl)) G (zrz (St rfl))⟩
 | true =>
  refine iteT ⟨λ σ' J'=>∃ m',m' < Far.mu c0 + 1/\rWB H (.ref g0) (.ref kp) n r ts ks lw lc la m' σ' J',λ _ _ h=>h,?_⟩
  refine⟨_,rfl,kp,rfl,⟨_,SqT.of (R.same _ _ hkp)⟩,?_⟩
  refine zck (xs:=(keepI ks).map V.int) (λ i σ J=>∃ (cs:List (Option (Int × Int))) (as:List (Option Nat)) (ag:Bool) (y7 y8 y9 y10 y11 y12 y13:Option V),σ=[some (.ref g0),some (.ref kp),some (.int r),some (.ref lw),some (.ref lc),some (.ref la),some (.bl ag),y7,y8,y9,y10,y11,y12,y13] /\
   RA H J lw lc la (pows ts.length) cs as/\Far.Good (arcs ts ks) n.toNat r.toNat cs/\Far.Run (arcsB ts ks) r.toNat cs as/\Far.PS2 c0 (λ z=>z ∈ arcsB ts (ks.take i)) cs ag) ⟨c0,as0,false,_,_,_,_,_,_,_,rfl,R,G,AH,.inl ⟨rfl,rfl,λ u v l k c z=>by cases z⟩⟩ (λ i σ J _ h=>?_) (λ i x σ J hx h=>?_) (λ σ J h=>?_)
  ·obtain⟨cs,as,ag,y7,y8,y9,y10,y11,y12,y13,rfl,R,_⟩:=h
   exact SqT.of (R.same _ _ hkp)
  ·obtain⟨cs,as,ag,y7,y8,y9,y10,y11,y12,y13,rfl,R,G,AH,Pt⟩:=h
   obtain⟨k,hk,rfl⟩:=zkb hx
   have hkl:k < ts.length:=ko.2 k (uao hk)
   obtain⟨ta,hta,htie⟩:=zcd hall hkl
   obtain⟨t,et⟩:∃ t,t=tieAt ts k:=⟨_,rfl⟩
   rw[← et] at htie
   have tk:=ok.tie _ (zav hkl).2
   rw[← et] at tk
   refine⟨_,rfl,g0,_,_,_,rfl,rfl,SqT.of (R.same _ _ hg0),rfl,_,rfl,g,_,_,_,rfl,rfl,SqT.of (R.same _ _ hg),zaw (ua0 _) hta,ta,_,rfl,SqT.of (R.same _ _ htie),rfl,_,_,rfl,_,_,rfl,_,_,rfl,rfl,?_⟩
   refine⟨_,rfl,_,rfl,(by show 2<=1000;decide),λ t1 K1 T1 u1 v1=>⟨_,rfl,_,rfl,(by show 2<=1000;decide),λ t2 K2 T2 u2 v2=>⟨(by show 2<=1000;decide),λ t3 K3 T3 u3 v3=>⟨t3,rfl,⟨_,SqT.of v3⟩,?_⟩⟩⟩⟩
   have R3:=R.step (T1.trans (T2.trans T3))
   have v1':=T3 _ _ (T2 _ _ v1)
   have v2':=T3 _ _ v2
   refine zck (xs:=[V.ref t1,.ref t2]) (λ j σ J=>∃ (cs:List (Option (Int × Int))) (as:List (Option Nat)) (ag:Bool) (y11 y12 y13:Option V),σ=[some (.ref g0),some (.ref kp),some (.int r),some (.ref lw),some (.ref lc),some (.ref la),some (.bl ag),some (.int (k:Int)),some (.int t.1),some (.int t.2.1),some (.int t.2.2),y11,y12,y13] /\
    RA H J lw lc la (pows ts.length) cs as/\Far.Good (arcs ts ks) n.toNat r.toNat cs/\Far.Run (arcsB ts ks) r.toNat cs as/\Far.PS2 c0 (λ z=>z ∈ arcsB ts (ks.take i)\/z ∈ (arcs2B t k).take j) cs ag/\TupKeep K3 J) ⟨cs,as,ag,_,_,_,rfl,R3,G,AH,Pt.less λ a z=>z.elim id λ z=>(by cases z),λ _ _ e=>e⟩ (λ j σ J _ h=>?_) (λ j x σ J hx h=>?_) (λ σ J h=>?_)
   ·obtain⟨cs,as,ag,y11,y12,y13,rfl,R,G,AH,Pt,tk⟩:=h
    exact SqT.of (tk _ _ v3)
   ·obtain⟨cs,as,ag,y11,y12,y13,rfl,R,G,AH,Pt,tkp⟩:=h
    obtain⟨p,u,v,rfl,hp,u0,un,v0,vn,arc,arcB,more⟩:∃ p u v,x=.ref p/\J p=some (.tup [.int u,.int v])/\0<=u/\u < n/\0<=v/\v < n/\(u.toNat,v.toNat,t.2.2) ∈ arcs ts ks/\(u.toNat,v.toNat,t.2.2,k) ∈ arcsB ts ks/\∀ z,z ∈ (arcs2B t k).take (j + 1)->z ∈ (arcs2B t k).take j\/z=(u.toNat,v.toNat,t.2.2,k):=by
     have memB:∀ z,z ∈ arcs2B t k->z ∈ arcsB ts ks:=λ z hz=>arcsB_mem.mpr ⟨k,uao hk,by rw[← et];exact hz⟩
     have mem:∀ z,z ∈ arcs2 t->z ∈ arcs ts ks:=λ z hz=>arcs_mem.mpr ⟨k,uao hk,by rw[← et];exact hz⟩
     match j,hx with
     | 0,hx=>cases hx;exact⟨t1,t.1,t.2.1,rfl,tkp _ _ v1',by left,by left,by left,by left,mem _ (arcs2_mem.mpr (.inl rfl)),memB _ (arcs2B_mem.mpr (.inl rfl)),λ z hz=>by unfold arcs2B at *;simpa using hz⟩
     | 1,hx=>cases hx;exact⟨t2,t.2.1,t.1,rfl,tkp _ _ v2',by left,by left,by left,by left,mem _ (arcs2_mem.mpr (.inr rfl)),memB _ (arcs2B_mem.mpr (.inr rfl)),λ z hz=>by unfold arcs2B at *;simpa using hz⟩
    refine⟨p,_,rfl,SqT.of hp,rfl,_,_,rfl,_,_,rfl,rfl,?_⟩
    obtain⟨cvs,hc,cl⟩:=R.co
    have lenC:cvs.length=n.toNat:=by rw[cl.1];exact G.len
    obtain⟨x1,at1,cv1⟩:=zoy cl u0 (by rw[G.len];left)
    obtain⟨x2,at2,cv2⟩:=zoy cl v0 (by rw[G.len];left)
    have next:∀ {cs':List (Option (Int × Int))} {ag':Bool},Far.PS2 c0 (Far.plusA (λ z=>z ∈ arcsB ts (ks.take i)\/z ∈ (arcs2B t k).take j) (u.toNat,v.toNat,t.2.2,k)) cs' ag'->Far.PS2 c0 (λ z=>z ∈ arcsB ts (ks.take i)\/z ∈ (arcs2B t k).take (j + 1)) cs' ag':=λ h=>h.less λ z hz=>by
     rcases hz with hz | hz
     ·exact .inl (.inl hz)
     ·exact (more z hz).elim (λ y=>.inl (.inr y)) .inr
    refine⟨_,rfl,_,rfl,lc,_,_,_,rfl,rfl,SqL.of hc,at1,rfl,_,rfl,ite2 (λ c1=>?_) (λ c1=>?_)⟩
    ·-- not reached
     have gu:Far.get cs u.toNat=none:=by
      cases e:Far.get cs u.toNat with
      | none=>rfl
      | some d =>
       rw[e] at cv1
       obtain⟨tt,rfl,_⟩:=cv1
       cases of_decide_eq_true c1
     exact⟨cs,as,ag,_,_,_,rfl,R,G,AH,next (Pt.no gu),tkp⟩
    ·obtain⟨d,gu⟩:∃ d,Far.get cs u.toNat=some d:=by
      cases e:Far.get cs u.toNat with
      | none=>rw[e] at cv1;exact absurd (decide_eq_true (show x1=V.non from cv1)) c1
      | some d=>exact⟨d,rfl⟩
     rw[gu] at cv1
     obtain⟨td,rfl,htd⟩:=cv1
     have pw:=ztf (i:=k) (by left)
     refine⟨_,rfl,_,rfl,lc,_,_,_,rfl,rfl,SqL.of hc,at1,_,rfl,_,rfl,_,rfl,lw,_,_,_,rfl,rfl,SqL.of R.wl,zaw (ua0 _) (zr7 hkl),td,_,_,_,_,rfl,htd,λ tn L1 Z1 en=>?_⟩
     have R':=R.step Z1
     have hc':=Z1 _ _ hc
     have tkp':TupKeep K3 L1:=λ a xs e=>Z1 _ _ (tkp a xs e)
     have done : ∀ (hlt : Far.get cs v.toNat = none \/ ∃ c', Far.get cs v.toNat = some c' /\ Far.lt2 (d.1 + t.2.2, d.2 + 2 ^ k) c') , ∀ L, L = upd (upd L1 lc (.lst (cvs.set v.toNat (.ref tn)))) la (.lst ((as.map oa).set v.toNat (.int u))) →
         RA H L lw lc la (pows ts.length) (cs.set v.toNat (some (d.1 + t.2.2,d.2 + 2 ^ k))) (as.set v.toNat (some u.toNat))/\Far.Good (arcs ts ks) n.toNat r.toNat (cs.set v.toNat (some (d.1 + t.2.2,d.2 + 2 ^ k)))/\Far.Run (arcsB ts ks) r.toNat (cs.set v.toNat (some (d.1 + t.2.2,d.2 + 2 ^ k))) (as.set v.toNat (some u.toNat))/\Far.PS2 c0 (λ z=>z ∈ arcsB ts (ks.take i)\/z ∈ (arcs2B t k).take (j + 1)) (cs.set v.toNat (some (d.1 + t.2.2,d.2 + 2 ^ k))) true/\TupKeep K3 L:=λ hlt L eL=>by
      subst eL
      obtain⟨G',mm⟩:=G.step P (by left) arc (by left) pw.1 pw.2 (by left) gu hlt
      have Rp:=R'.put hc' (k:=v.toNat) (by left) en
      have Rm:=Rp.mark (k:=v.toNat) (u:=u.toNat)
      rw[ubg u0] at Rm
      exact⟨Rm,G',Far.Run.step P G AH arc arcB (by left) gu hlt,next (Pt.put mm),λ a xs e=>zih Rp.ah _ _ (zih hc' _ _ (tkp' a xs e))⟩
     have ha:=R'.ah
     have hal:(as.map oa).length=n.toNat:=by rw[uae,AH.len];exact G.len
     refine⟨_,rfl,_,rfl,lc,_,_,_,rfl,rfl,SqL.of hc',at2,rfl,_,rfl,ite2 (λ c2=>iteT ?_) (λ c2=>?_)⟩
     ·have gv:Far.get cs v.toNat=none:=by
       cases e:Far.get cs v.toNat with
       | none=>rfl
       | some d =>
        rw[e] at cv2
        obtain⟨tt,rfl,_⟩:=cv2
        cases of_decide_eq_true c2
      obtain⟨R2,G2,A2,P2,k2⟩:=done (.inl gv) _ rfl
      exact⟨_,rfl,_,rfl,_,rfl,lc,_,_,_,rfl,rfl,hc',zcu v0 (by left),_,rfl,_,rfl,_,rfl,la,_,_,_,rfl,rfl,(by rw[zap R.nca.symm];exact ha),zcu v0 (by left),_,_,true,_,_,_,rfl,R2,G2,A2,P2,k2⟩
     ·obtain⟨d2,gv⟩:∃ d,Far.get cs v.toNat=some d:=by
       cases e:Far.get cs v.toNat with
       | none=>rw[e] at cv2;exact absurd (decide_eq_true (show x2=V.non from cv2)) c2
       | some d=>exact⟨d,rfl⟩
      rw[gv] at cv2
      obtain⟨te,rfl,hte⟩:=cv2
      refine⟨_,rfl,_,rfl,_,rfl,lc,_,_,_,rfl,rfl,SqL.of hc',at2,tn,te,L3.e2 (d.1 + t.2.2,d.2 + 2 ^ k),L3.e2 d2,rfl,rfl,SqT.of en,SqT.of (Z1 _ _ hte),_,rfl,ite2 (λ c3=>?_) (λ c3=>?_)⟩
      ·have hl:=(zlg _ _).mp c3
       obtain⟨R2,G2,A2,P2,k2⟩:=done (.inr ⟨d2,gv,hl⟩) _ rfl
       exact⟨_,rfl,_,rfl,_,rfl,lc,_,_,_,rfl,rfl,hc',zcu v0 (by left),_,rfl,_,rfl,_,rfl,la,_,_,_,rfl,rfl,(by rw[zap R.nca.symm];exact ha),zcu v0 (by left),_,_,true,_,_,_,rfl,R2,G2,A2,P2,k2⟩
      ·have hn:¬ Far.lt2 (d.1 + t.2.2,d.2 + 2 ^ k) d2:=λ z=>c3 ((zlg _ _).mpr z)
       exact⟨cs,as,ag,_,_,_,rfl,R',G,AH,next (Pt.old gu gv hn),tkp'⟩
   ·obtain⟨cs,as,ag,y11,y12,y13,rfl,R,G,AH,Pt,tkp⟩:=h
    refine⟨cs,as,ag,_,_,_,_,_,_,_,rfl,R,G,AH,Pt.less λ z hz=>?_⟩
    exact (zmw hk hz).elim .inl λ y=>.inr (by rw[← et] at y;exact y)
  ·obtain⟨cs,as,ag,y7,y8,y9,y10,y11,y12,y13,rfl,R2,G2,A2,Pt⟩:=h
   have lk:((keepI ks).map V.int).length=ks.length:=by unfold keepI;rw[uae,uae]
   rw[lk,ubw] at Pt
   rcases Pt with ⟨ea,ec,st⟩ | ⟨ea,lt⟩
   ·subst ea
    rw[← ec] at st
    exact⟨Far.mu cs + 0,by rw[ec];left,cs,as,false,_,_,_,_,_,_,_,rfl,R2,G2,A2,λ _=>st,rfl⟩
   ·subst ea
    exact⟨Far.mu cs + 1,by left,cs,as,true,_,_,_,_,_,_,_,rfl,R2,G2,A2,λ z=>(by cases z),rfl⟩
theorem ziv (T:Bi mg) (D:DefOk K mg "fars_from" s_fars_from ["web","keep","root"]) (O_reached_from:Ok P w K mg base 2 "reached_from" ["web","keep","root"] (spReached K)):Ok P w K mg base 3 "fars_from" ["web","keep","root"] (spFars K):=by
 refine zbd (k:=2) D sc_fars_from (λ vs H Q E h=>?_) (λ f cdv A outer s H vs Q E hr h=>?_)
 ·obtain⟨n,ts,ks,wv,kv,r,rfl,_⟩:=h
  rfl
 obtain⟨n,ts,ks,wv,kv,r,rfl,wk,r0,r1,q⟩:=h
 have nd:=sc_fars_from.nd
 have n24:=wk.2.1.n24
 refine⟨_,(zab (zbz (zaj O_reached_from hr rfl (zaa (pv 0) (zaa (pv 1) (zaa (pv 2) zac)))) (zbl (n:=2) rfl (zak (zag (i:=3) nd rfl (uat rfl)) (zak (zag (i:=4) nd rfl (uat rfl)) za2)))) (zad (zaq (zbw (N:=["web","keep","root","costs","ahead"]) (sc0:=defScope s_fars_from) (own:=["cost"]) (fr:=[]) (js:=[]) rfl (zch (pv 3)) (λ _ _ _ _=>(zag (i:=0) (by show ubt [("cost":Str)];decide +kernel) rfl (uat rfl))) (λ _ _ _ _=>zcg) (λ _ _ _ _=>(zpv (zam zc8 (pv 0) zbc (nomark _)) zbc (zar zb0 (pv 0) zae (λ _ _=>rfl)))))))),?_⟩
 refine⟨_,rfl,_,rfl,_,rfl,n,ts,ks,wv,kv,r,rfl,wk,r0,r1,λ p lc la cvs avs cs J S ep ec ea cl G St=>?_⟩
 refine⟨p,_,rfl,SqT.of ep,rfl,_,_,rfl,_,_,rfl,rfl,?_⟩
 have lenC:cvs.length=n.toNat:=by rw[cl.1];exact G.len
 refine⟨_,rfl,lc,rfl,⟨_,SqL.of ec⟩,?_⟩
 refine zqq ec (λ σ'=>σ'.length=1) (λ i v _=>v=ov ((Far.get cs i).map (·.1))) (by left) (by rfl) (λ _ _ _ _ _ h=>h) (λ i x σ' H' hx s2 sg C hC=>?_) (λ L ys H2 hL s2 hH hly hys=>?_)
 ·match σ',sg with
  | [o],_ =>
   have cv:=cl.2 i x hx
   refine⟨_,rfl,rfl,_,rfl,ite2 (λ c=>?_) (λ c=>?_)⟩
   ·have e:Far.get cs i=none:=by
     cases e:Far.get cs i with
     | none=>rfl
     | some d =>
      rw[e] at cv
      obtain⟨tt,rfl,_⟩:=cv
      cases of_decide_eq_true c
    exact hC _ _ _ rfl (Same.refl _) (by rw[e];rfl)
   ·obtain⟨d,gu⟩:∃ d,Far.get cs i=some d:=by
     cases e:Far.get cs i with
     | none=>rw[e] at cv;exact absurd (decide_eq_true (show x=V.non from cv)) c
     | some d=>exact⟨d,rfl⟩
    rw[gu] at cv
    obtain⟨td,rfl,htd⟩:=cv
    exact⟨_,rfl,td,_,_,_,rfl,rfl,SqT.of (s2 _ _ htd),rfl,hC _ _ _ rfl (Same.refl _) (by rw[gu];rfl)⟩
 ·obtain⟨DD,eD⟩:∃ DD,DD=cs.map λ o=>o.map (·.1):=⟨_,rfl⟩
  have gD:∀ v,Far.get DD v=(Far.get cs v).map (·.1):=λ v=>by
   rw[eD];unfold Far.get
   rw[uaf,uaq,uaf]
   cases cs[v]? <;> rfl
  refine q L DD H2 (S.trans s2) (S.free hL) ?_ (by rw[eD,uae];exact G.len) λ v hv=>by rw[gD];exact G.dst St v
  rw[hH]
  refine congrArg (λ z=>some (HO.lst z)) (udd λ i=>?_)
  have lD:DD.length=n.toNat:=by rw[eD,uae];exact G.len
  by_cases hi:i < n.toNat
  ·rw[zsc (by left),gD]
   have e:ys[i]?=some ys[i]:=uad (by left)
   rw[e,hys i _ e]
  ·rw[ubd (by left),ubd (by rw[uae];left)]
theorem zg4 (T:Bi mg) (D:DefOk K mg "tree_from" s_tree_from ["web","keep","root"]) (O_reached_from:Ok P w K mg base 2 "reached_from" ["web","keep","root"] (spReachedB K)):Ok P w K mg base 3 "tree_from" ["web","keep","root"] (spTreeB K):=by
 refine zbd (k:=2) D sc_tree_from (λ vs H Q E h=>?_) (λ f cdv A outer s H vs Q E hr h=>?_)
 ·obtain⟨n,ts,ks,wv,kv,r,rfl,_⟩:=h
  rfl
 obtain⟨n,ts,ks,wv,kv,r,rfl,wk,r0,r1,q⟩:=h
 have nd:=sc_tree_from.nd
 refine⟨_,(zab (zbz (zaj O_reached_from hr rfl (zaa (pv 0) (zaa (pv 1) (zaa (pv 2) zac)))) (zbl (n:=2) rfl (zak (zag (i:=3) nd rfl (uat rfl)) (zak (zag (i:=4) nd rfl (uat rfl)) za2)))) (zad (zaq (zas za7 rfl T.z_tuple (by symm) (zaa (pv 4) zac))))),?_⟩
 refine⟨_,rfl,_,rfl,_,rfl,n,ts,ks,wv,kv,r,rfl,wk,r0,r1,λ p lc la cvs as cs J S ep ec ea cl G=>?_⟩
 refine⟨p,_,rfl,SqT.of ep,rfl,_,_,rfl,_,_,rfl,rfl,?_⟩
 exact⟨_,rfl,la,_,rfl,ea,λ t J2 S2 f2 e2=>q t as cs J2 (S.trans S2) e2 G⟩
theorem zl2 {ws:List V} {x:V}:atI (ws++[x]) (-1)=some x:=by
 unfold atI ixN
 rw[if_neg (by decide),if_pos (by rw[uaj,ubs];left)]
 show (ws++[x])[(-1 + ((ws++[x]).length:Int)).toNat]?=some x
 rw[uaj,ubs,show (-1 + ((ws.length + 1:Nat):Int)).toNat=ws.length by left]
 simp
theorem zj1 (T:Bi mg) (D:DefOk K mg "the_way" s_the_way ["web","keep","a","b"]) (O_tree_from:Ok P w K mg base 3 "tree_from" ["web","keep","root"] (spTreeB K)):Ok P w K mg base 4 "the_way" ["web","keep","a","b"] (spWayB K):=by
 refine zbd (k:=3) D sc_the_way (λ vs H Q E h=>?_) (λ f cdv A outer s H vs Q E hr h=>?_)
 ·obtain⟨n,ts,ks,wv,kv,a,b,rfl,_⟩:=h
  rfl
 obtain⟨n,ts,ks,wv,kv,a,b,rfl,wk,a0,a1,b0,b1,q⟩:=h
 have nd:=sc_the_way.nd
 have n24:=wk.2.1.n24
 have KB:=zc6 wk.2.1 wk.2.2.2
 refine⟨_,(zab (zan (i:=4) nd rfl (uat rfl) (zaj O_tree_from hr rfl (zaa (pv 0) (zaa (pv 1) (zaa (pv 3) zac))))) (zab (zan (i:=5) nd rfl (uat rfl) (za0 (zaa (pv 2) zac))) (zab (zeh PassesOwn.never (zam zsd (zar zau (pv 5) (zr9 zm2 zae) (λ _ _=>rfl)) (pv 3) (nomark _)) (zab (zbf (zam zc8 (zar za5 (pv 4) (zar zau (pv 5) (zr9 zm2 zae) (λ _ _=>rfl)) (λ _ _=>rfl)) zbc (nomark _)) (zad (zaq zbc)) zat) (zad (za9 (zb2 uax ua8 ua7 zb8 (pv 5) (zaa (zar za5 (pv 4) (zar zau (pv 5) (zr9 zm2 zae) (λ _ _=>rfl)) (λ _ _=>rfl)) zac)))))) (zad (zaq (zas za7 rfl T.z_tuple (by symm) (zaa (pv 5) zac))))))),?_⟩
 refine⟨_,rfl,_,rfl,_,rfl,n,ts,ks,wv,kv,b,rfl,wk,b0,b1,λ p as cs J S ep G=>?_⟩
 refine⟨_,rfl,(by show 1<=1000;decide),λ lw J1 S1 f1 e1=>?_⟩
 have lA:=G.alen
 have ep1:=S1 _ _ ep
 have fw:H lw=none:=S.free f1
 have nlp:p≠lw:=λ z=>by rw[z,f1] at ep;cases ep
 refine⟨λ m σ J2=>∃ (pre:List Nat) (c:Nat),σ=[some wv,some kv,some (.int a),some (.int b),some (.ref p),some (.ref lw)]/\Same H J2/\J2 p=some (.tup (as.map oa))/\J2 lw=some (.lst (natV (pre++[c])))/\c < n.toNat /\
  ((pre=[]/\c=a.toNat/\Far.get cs c=none/\m=0)\/∃ ca cc,Far.get cs a.toNat=some ca/\Far.get cs c=some cc/\(∀ P,Far.TPw as b.toNat P c->Far.TPw as b.toNat (P++pre.reverse) a.toNat)/\pre.length + 1<=Far.beyond n.toNat cs cc.1/\m=cc.1.toNat),?_,?_⟩
 ·have e1':J1 lw=some (.lst (natV ([]++[a.toNat]))):=by rw[e1];show some (HO.lst [V.int a])=some (HO.lst [V.int ((a.toNat:Nat):Int)]);rw[ubg a0]
  cases e:Far.get cs a.toNat with
  | none=>exact⟨0,[],a.toNat,rfl,S.trans S1,ep1,e1',by left,.inl ⟨rfl,rfl,e,rfl⟩⟩
  | some ca=>exact⟨_,[],a.toNat,rfl,S.trans S1,ep1,e1',by left,.inr ⟨ca,ca,rfl,e,λ P t=>by rw[List.reverse_nil,ub1];exact t,Far.zmq (by left) e,rfl⟩⟩
 rintro m σ J2 ⟨pre,c,rfl,sm,hp,hw,hc,inv⟩
 have lastV:atI (natV (pre++[c])) (-1)=some (.int (c:Int)):=by
  unfold natV;rw[ua3];exact zl2
 have hat:atI (as.map oa) (c:Int)=some (oa (Far.get as c)):=zaw (ua0 _) (by rw[ua1];exact zsj (by left))
 refine⟨_,rfl,_,rfl,lw,_,_,_,rfl,rfl,SqL.of hw,lastV,_,rfl,rfl,_,rfl,?_⟩
 by_cases cb:c=b.toNat
 ·refine iteNS (by rw[cb,ubg b0]) ?_
  refine⟨_,rfl,lw,_,rfl,hw,λ t J3 S3 f3 e3=>q _ J3 (sm.trans S3) ⟨cs,as,G,.inr ?_⟩⟩
  rcases inv with ⟨_,_,ec,_⟩ | ⟨ca,cc,e1',e2',tp,hl,_⟩
  ·rw[cb,G.start] at ec;cases ec
  ·have:=Far.zji n.toNat cs cc.1
   refine⟨t,pre++[c],ca,rfl,e3,by rw[uaj,ubs];left,e1',?_⟩
   rw[ue2]
   have:=tp [b.toNat] (by rw[cb];exact .root)
   rw[cb];exact this
 ·have ne:decide (V.int (c:Int)=V.int b)=false:=decide_eq_false λ z=>cb (by injection z with z;left)
  rw[ne]
  refine iteT ⟨λ σ' J'=>∃ m',m' < m/\∃ (pre:List Nat) (c:Nat),σ'=[some wv,some kv,some (.int a),some (.int b),some (.ref p),some (.ref lw)]/\Same H J'/\J' p=some (.tup (as.map oa))/\J' lw=some (.lst (natV (pre++[c])))/\c < n.toNat /\
   ((pre=[]/\c=a.toNat/\Far.get cs c=none/\m'=0)\/∃ ca cc,Far.get cs a.toNat=some ca/\Far.get cs c=some cc/\(∀ P,Far.TPw as b.toNat P c->Far.TPw as b.toNat (P++pre.reverse) a.toNat)/\pre.length + 1<=Far.beyond n.toNat cs cc.1/\m'=cc.1.toNat),λ _ _ h=>h,?_⟩
  refine⟨_,rfl,_,rfl,_,rfl,lw,_,_,_,rfl,rfl,SqL.of hw,lastV,p,_,_,_,rfl,rfl,SqT.of hp,hat,rfl,_,rfl,?_⟩
  cases ea:Far.get as c with
  | none =>
   refine iteT (q _ _ sm ⟨cs,as,G,.inl ⟨rfl,?_⟩⟩)
   rcases inv with ⟨_,ec,e2',_⟩ | ⟨ca,cc,_,e2',_⟩
   ·rw[← ec];exact e2'
   ·exact absurd ea (G.has c cc e2' cb)
  | some u =>
   obtain⟨l,k,cu,mm,e1',e2'⟩:=G.arc _ _ ea
   rw[ea] at hat
   rcases inv with ⟨_,_,ec,_⟩ | ⟨ca,cc,e3',e4',tp,hl,rfl⟩
   ·rw[ec] at e2';cases e2'
   ·have ecc:cc=(cu.1 + l,cu.2 + 2 ^ k):=uau (e4'.symm.trans e2')
    have l1:=KB.pos _ _ _ _ mm
    have cu0:=G.nn _ _ e1'
    have hu:=(zqx wk.2.1 wk.2.2.2 mm).1
    have c1:cc.1=cu.1 + l:=by rw[ecc]
    have bl:=Far.zo5 hu e1' (show cu.1 < cc.1 by left)
    have ble:=Far.zji n.toNat cs cu.1
    have lenW:(natV (pre++[c])).length=pre.length + 1:=by unfold natV;rw[uae,uaj,ubs]
    refine iteF ⟨_,rfl,.inl ⟨rfl,_,SqL.of hw⟩,_,rfl,_,rfl,_,rfl,lw,_,_,_,rfl,rfl,SqL.of hw,lastV,p,_,_,_,rfl,rfl,SqT.of hp,hat,lw,_,_,rfl,rfl,hw,by left,λ J3 b3 e3=>?_⟩
    refine⟨cu.1.toNat,by left,pre++[c],u,rfl,λ c o z=>b3 _ _ (zaf z fw) (sm _ _ z),b3 _ _ nlp hp,?_,hu,.inr ⟨ca,cu,e3',e1',λ P t=>?_,by rw[uaj,ubs];left,rfl⟩⟩
    ·rw[e3];unfold natV;rw[ua3 (l₂:=[u])];rfl
    ·have:=tp (P++[c]) (.step ea t)
     rw[ue2]
     rw[uce] at this
     exact this
theorem zpy (T:Bi mg) (D:DefOk K mg "whole" s_whole ["web"]):Ok P w K mg base 1 "whole" ["web"] (spWhole K):=by
 refine zbd (k:=0) D sc_whole (λ vs H Q E h=>?_) (λ f cdv A outer s H vs Q E hr h=>?_)
 ·obtain⟨n,ts,v,rfl,_⟩:=h
  rfl
 obtain⟨n,ts,v,rfl,hw,few60,q⟩:=h
 have nd:=sc_whole.nd
 obtain⟨g0,g,ws,rfl,hg0,hg,hall,hlw⟩:=za3 hw
 refine⟨_,(zad (zaq (zas (zc9 rfl) rfl T.z_tuple (by symm) (zaa (zas zc4 rfl T.z_range (by symm) (zaa (zao zay rfl T.z_len (by symm) (zaa (zar za5 (pv 0) zae (λ _ _=>rfl)) zac)) zac)) zac)))),?_⟩
 refine⟨_,rfl,g0,_,_,_,rfl,rfl,SqT.of hg0,rfl,g,_,rfl,.inr (SqT.of hg),_,rfl,λ r hr'=>?_⟩
 refine⟨r,_,rfl,zai,by left,by left,λ l H' S f e=>q l H' ((zal hr').trans S) ((zal (o:=.rng 0 _) hr').free f) ?_⟩
 rw[e,show ((ws.length:Nat):Int).toNat=ts.length by left]
def nbr (ts:List Tie) (j k:Nat):Option Nat:=if (en ts k).1=j then some (en ts k).2 else if (en ts k).2=j then some (en ts k).1 else none
def rowsN (ts:List Tie) (ks:List Nat) (j:Nat):List Nat:=ks.filterMap (nbr ts j)
theorem zk4 {n:Int} {ts:List Tie} {ks:List Nat} (ok:WebOk n ts) (ko:KeepOk ts.length ks) (j c:Nat):c ∈ rowsN ts ks j↔Adj ts ks j c:=by
 unfold rowsN
 rw[ucy]
 constructor
 ·rintro ⟨k,hk,e⟩
  refine⟨k,hk,a2_iff.mpr ?_⟩
  unfold nbr at e
  by_cases z:(en ts k).1=j
  ·rw[if_pos z] at e
   exact .inl ⟨z.symm,(uau e).symm⟩
  ·rw[if_neg z] at e
   by_cases y:(en ts k).2=j
   ·rw[if_pos y] at e
    exact .inr ⟨y.symm,(uau e).symm⟩
   ·rw[if_neg y] at e;cases e
 ·rintro ⟨k,hk,m⟩
  have lt:=(ztz ok (ko.2 k hk)).1
  refine⟨k,hk,?_⟩
  unfold nbr
  rcases a2_iff.mp m with ⟨z1,z2⟩ | ⟨z1,z2⟩
  ·rw[if_pos (show (en ts k).1=j from z1.symm),z2];rfl
  ·have z1':(en ts k).2=j:=z1.symm
   rw[if_neg (by left),if_pos z1',z2];rfl
theorem znd {ts:List Tie} {ks:List Nat} {k j:Nat}:rowsN ts (ks++[k]) j=rowsN ts ks j++(nbr ts j k).toList:=by
 unfold rowsN
 rw[uco]
 cases e:nbr ts j k <;> simp [e]
inductive spPlainW_i (K:uac) (vs:List V) (H:Hp) (Q:VK):Prop
 | mk:∀ n ts v,(vs=[v])->(Is K H (webD n ts) v)->(ts.length<=60)->(∀ H',Same H H'->Q (.bl (ts.all λ t=>decide (t.2.2=1))) H')->spPlainW_i K vs H Q
def spPlainW (K:uac):Sp:=λ vs H Q _=>spPlainW_i K vs H Q
theorem zl9 {ts:List Tie} {i:Nat} (h:i < ts.length):ts[i]?=some (tieAt ts i):=by
 obtain⟨h1,h2⟩:=zav h
 exact h1
theorem zj4 (T:Bi mg) (D:DefOk K mg "is_plain" s_is_plain ["web"]):Ok P w K mg base 1 "is_plain" ["web"] (spPlainW K):=by
 refine zbd (k:=0) D sc_is_plain (λ vs H Q E h=>?_) (λ f cdv A outer s H vs Q E hr h=>?_)
 ·obtain⟨n,ts,v,rfl,_⟩:=h
  rfl
 obtain⟨n,ts,v,rfl,hw,few60,q⟩:=h
 have nd:=sc_is_plain.nd
 obtain⟨g0,g,ws,rfl,hg0,hg,hall,hlw⟩:=za3 hw
 refine⟨_,(zad (zaq (zao (zlz rfl) rfl T.z_all (by symm) (zaa (zbw (N:=["web"]) (sc0:=defScope s_is_plain) (own:=["tie"]) (fr:=[]) (js:=[]) rfl (zbv (zar za5 (pv 0) zae (λ _ _=>rfl))) (λ _ _ _ _=>(zag (i:=0) (by show ubt [("tie":Str)];decide +kernel) rfl (uat rfl))) (λ _ _ _ _=>zcg) (λ _ _ _ _=>(zba zbq (zar zb0 (pv 0) zae (λ _ _=>rfl)) zae (nomark _)))) zac)))),?_⟩
 refine⟨_,rfl,g0,_,_,_,rfl,rfl,SqT.of hg0,rfl,g,rfl,⟨_,SqT.of hg⟩,?_⟩
 refine zhn hg (λ σ'=>σ'.length=1) (λ i v _=>v=.bl (decide ((tieAt ts i).2.2=1))) (by left) (by rfl) (λ _ _ _ _ _ h=>h) (λ i x σ' H' hx s2 sg C hC=>?_) (λ L ys H' hL s2 hH hly hys=>?_)
 ·match σ',sg with
  | [o],_ =>
   have hi:i < ts.length:=by have:=(uan.mp hx).1;left
   obtain⟨ta,hta,htie⟩:=zcd hall hi
   rw[hta] at hx
   cases hx
   refine⟨_,rfl,ta,_,_,_,rfl,rfl,SqT.of (s2 _ _ htie),rfl,rfl,hC _ _ _ rfl (Same.refl _) ?_⟩
   by_cases z:(tieAt ts i).2.2=1
   ·rw[decide_eq_true z,decide_eq_true (congrArg V.int z)]
   ·rw[decide_eq_false z,decide_eq_false λ h=>z (by injection h)]
 ·refine⟨L,_,rfl,SqL.of (by rw[hH,zl1 hly hys]),?_⟩
  have e:((uag ws.length).map λ i=>decide ((tieAt ts i).2.2=1)).all id=ts.all λ t=>decide (t.2.2=1):=by
   rw[List.all_map,udf,uc9,uc9]
   constructor
   ·intro h t ht
    obtain⟨j,hj,rfl⟩:=ucl ht
    have:=h j (uav.mpr (by left))
    have e2:=zl9 hj
    rw[uad hj] at e2
    rw[uau e2]
    exact this
   ·intro h j hj
    have hj':j < ts.length:=by have:=uav.mp hj;left
    exact h _ (zav hj').2
  rw[e]
  exact q H' s2
inductive spNeedP_i (K:uac) (vs:List V) (H:Hp) (Q:VK):Prop
 | mk:∀ (n:Int) (ts:List Tie) (wv:V),(vs=[wv])->(Is K H (webD n (ones ts)) wv)->(ts.length<=60)->(∀ H',Same H H'->Q .non H')->spNeedP_i K vs H Q
def spNeedP (K:uac):Sp:=λ vs H Q _=>spNeedP_i K vs H Q
theorem zg7 (T:Bi mg) (D:DefOk K mg "need_plain" s_need_plain ["web"]) (O_is_plain:Ok P w K mg base 1 "is_plain" ["web"] (spPlainW K)):Ok P w K mg base 2 "need_plain" ["web"] (spNeedP K):=by
 refine zbd (k:=1) D sc_need_plain (λ vs H Q E h=>?_) (λ f cdv A outer s H vs Q E hr h=>?_)
 ·obtain⟨n,ts,wv,rfl,_⟩:=h
  rfl
 obtain⟨n,ts,wv,rfl,isw,few,q⟩:=h
 have nd:=sc_need_plain.nd
 refine⟨_,(zad (zbf (zew (zcp (zaj O_is_plain hr rfl (zaa (pv 0) zac)))) (zad zk6) zat)),?_⟩
 refine⟨_,rfl,n,ones ts,wv,rfl,isw,by rw[zax];exact few,λ H1 s1=>?_⟩
 rw[zmf]
 exact⟨_,rfl,iteF (q H1 s1)⟩
theorem zn1 (f:Nat->Option Nat):∀ ks:List Nat,ks.filterMap (λ k=>(f k).map λ v:Nat=>V.int (v:Int))=natV (ks.filterMap f)
 | []=>rfl
 | k::r=>by
  rw[ucm,ucm,zn1 f r]
  cases f k <;> rfl
theorem zg5 (T:Bi mg) (D:DefOk K mg "neighbours" s_neighbours ["web","keep","place"]):Ok P w K mg base 1 "neighbours" ["web","keep","place"] (spNeigh K):=by
 refine zbd (k:=0) D sc_neighbours (λ vs H Q E h=>?_) (λ f cdv A outer s H vs Q E hr h=>?_)
 ·obtain⟨n,ts,ks,wv,kv,p,rfl,_⟩:=h
  rfl
 obtain⟨n,ts,ks,wv,kv,p,rfl,wk,q⟩:=h
 have nd:=sc_neighbours.nd
 have ok:=wk.2.1
 have ko:=wk.2.2.2
 have few60:=ok.few
 have lks:=ko.len
 obtain⟨g0,g,ws,rfl,hg0,hg,hall,hlw⟩:=za3 wk.1
 obtain⟨kp,rfl,hkp⟩:=zgl wk.2.2.1
 have len:((keepI ks).map V.int).length=ks.length:=by unfold keepI;rw[uae,uae]
 refine⟨_,(zab (zb6 (i:=3) (N:=["web","keep","place","ties"]) (sc0:=defScope s_neighbours) (own:=["tie"]) (fr:=["web"]) (js:=[0]) rfl (zbv (pv 1)) (λ _ _ _ _=>(zag (i:=0) (by show ubt [("tie":Str),("web":Str)];decide +kernel) rfl (uat rfl))) (λ _ _ _ _=>zcg) (λ _ _ _ _=>(zar zb0 (zar zb0 (pv 1) zae (λ _ _=>rfl)) (pv 0) (λ _ _=>rfl))) nd rfl (uat rfl)) (zad (zaq (zaz zg3 (zbw (N:=["web","keep","place","ties"]) (sc0:=defScope s_neighbours) (own:=["a","b","length"]) (fr:=["place"]) (js:=[2]) rfl (zch (pv 3)) (λ _ _ _ _=>(ze0 (n:=3) rfl (zak (zag (i:=0) (by show ubt [("a":Str),("b":Str),("length":Str),("place":Str)];decide +kernel) rfl (uat rfl)) (zak (zag (i:=1) (by show ubt [("a":Str),("b":Str),("length":Str),("place":Str)];decide +kernel) rfl (uat rfl)) (zak (zag (i:=2) (by show ubt [("a":Str),("b":Str),("length":Str),("place":Str)];decide +kernel) rfl (uat rfl)) za2))))) (λ _ _ _ _=>(zcr (zam zbq (pv 0) (pv 3) (nomark _)))) (λ _ _ _ _=>(pv 1))) (zbw (N:=["web","keep","place","ties"]) (sc0:=defScope s_neighbours) (own:=["a","b","length"]) (fr:=["place"]) (js:=[2]) rfl (zch (pv 3)) (λ _ _ _ _=>(ze0 (n:=3) rfl (zak (zag (i:=0) (by show ubt [("a":Str),("b":Str),("length":Str),("place":Str)];decide +kernel) rfl (uat rfl)) (zak (zag (i:=1) (by show ubt [("a":Str),("b":Str),("length":Str),("place":Str)];decide +kernel) rfl (uat rfl)) (zak (zag (i:=2) (by show ubt [("a":Str),("b":Str),("length":Str),("place":Str)];decide +kernel) rfl (uat rfl)) za2))))) (λ _ _ _ _=>(zcr (zam zbq (pv 1) (pv 3) (nomark _)))) (λ _ _ _ _=>(pv 0))))))),?_⟩
 refine⟨_,rfl,kp,rfl,⟨_,SqT.of hkp⟩,?_⟩
 refine zhn hkp (λ σ'=>∃ o,σ'=[o,some (.ref g0)]) (λ i v J=>∃ t k,ks[i]?=some k/\v=.ref t/\J t=some (.tup [.int (tieAt ts k).1,.int (tieAt ts k).2.1,.int (tieAt ts k).2.2])) (by left) (by exact⟨none,rfl⟩) (λ i v H H' tk ⟨t,k,h0,h1,h2⟩=>⟨t,k,h0,h1,tk _ _ h2⟩) (λ i x σ' H' hx s2 sg C hC=>?_) (λ L ys H2 hL s2 hH hly hys=>?_)
 ·obtain⟨o,rfl⟩:=sg
  obtain⟨k,hk,rfl⟩:=zkb hx
  have hkl:k < ts.length:=ko.2 k (uao hk)
  obtain⟨ta,hta,htie⟩:=zcd hall hkl
  exact⟨_,rfl,g0,_,_,_,rfl,rfl,SqT.of (s2 _ _ hg0),rfl,_,rfl,g,_,_,_,rfl,rfl,SqT.of (s2 _ _ hg),zaw (ua0 _) hta,hC _ _ _ ⟨_,rfl⟩ (Same.refl _) ⟨ta,k,hk,rfl,s2 _ _ htie⟩⟩
 have half:∀ (J:Hp) (i:Nat) (x:V),Same H2 J->ys[i]?=some x->∃ t k,ks.getD i 0=k/\k < ts.length/\x=.ref t/\J t=some (.tup [.int (tieAt ts k).1,.int (tieAt ts k).2.1,.int (tieAt ts k).2.2]):=λ J i x S hx=>by
  obtain⟨t,k,h0,h1,h2⟩:=hys i x hx
  exact⟨t,k,by rw[uaf,h0];rfl,ko.2 k (uao h0),h1,S _ _ h2⟩
 refine⟨_,rfl,L,rfl,⟨_,SqL.of hH⟩,?_⟩
 refine zcw hH (λ σ'=>∃ o1 o2 o3,σ'=[o1,o2,o3,some (.int p)]) (λ i=>(nb1 ts p (ks.getD i 0)).map λ v:Nat=>V.int (v:Int)) (by left) (by exact⟨none,none,none,rfl⟩) (λ i x σ' H' hx s3 sg C M hC hM=>?_) (λ L3 H3 hL3 s3 hH3=>?_)
 ·obtain⟨o1,o2,o3,rfl⟩:=sg
  obtain⟨t,k,ek,hkl,rfl,ht⟩:=half H' i x s3 hx
  have tk:=ok.tie _ (zav hkl).2
  refine⟨t,_,rfl,SqT.of ht,rfl,_,_,rfl,_,_,rfl,_,_,rfl,rfl,?_⟩
  refine⟨_,rfl,_,rfl,rfl,_,rfl,?_⟩
  rw[ek] at hC hM
  by_cases z:(tieAt ts k).1=p
  ·rw[decide_eq_true (by rw[z])]
   refine iteT ⟨_,rfl,hC _ _ _ ⟨_,_,_,rfl⟩ (Same.refl _) ?_⟩
   unfold nb1;rw[if_pos z]
   show some (V.int _)=some (V.int _)
   rw[ubg (by left)]
  ·rw[decide_eq_false λ e=>z (by injection e)]
   refine iteF (hM _ _ ⟨_,_,_,rfl⟩ (Same.refl _) ?_)
   unfold nb1;rw[if_neg z];rfl
 refine⟨_,rfl,L,rfl,⟨_,SqL.of (s3 _ _ hH)⟩,?_⟩
 refine zcw (s3 _ _ hH) (λ σ'=>∃ o1 o2 o3,σ'=[o1,o2,o3,some (.int p)]) (λ i=>(nb2 ts p (ks.getD i 0)).map λ v:Nat=>V.int (v:Int)) (by left) (by exact⟨none,none,none,rfl⟩) (λ i x σ' H' hx s4 sg C M hC hM=>?_) (λ L4 H4 hL4 s4 hH4=>?_)
 ·obtain⟨o1,o2,o3,rfl⟩:=sg
  obtain⟨t,k,ek,hkl,rfl,ht⟩:=half H' i x (s3.trans s4) hx
  have tk:=ok.tie _ (zav hkl).2
  refine⟨t,_,rfl,SqT.of ht,rfl,_,_,rfl,_,_,rfl,_,_,rfl,rfl,?_⟩
  refine⟨_,rfl,_,rfl,rfl,_,rfl,?_⟩
  rw[ek] at hC hM
  by_cases z:(tieAt ts k).2.1=p
  ·rw[decide_eq_true (by rw[z])]
   refine iteT ⟨_,rfl,hC _ _ _ ⟨_,_,_,rfl⟩ (Same.refl _) ?_⟩
   unfold nb2;rw[if_pos z]
   show some (V.int _)=some (V.int _)
   rw[ubg (by left)]
  ·rw[decide_eq_false λ e=>z (by injection e)]
   refine iteF (hM _ _ ⟨_,_,_,rfl⟩ (Same.refl _) ?_)
   unfold nb2;rw[if_neg z];rfl
 have ly:ys.length=ks.length:=by rw[hly,len]
 rw[ly,zil (λ k=>(nb1 ts p k).map λ v:Nat=>V.int (v:Int)) 0,zn1] at hH3
 rw[ly,zil (λ k=>(nb2 ts p k).map λ v:Nat=>V.int (v:Int)) 0,zn1] at hH4
 have l1:(natV (ks.filterMap (nb1 ts p))).length<=ks.length:=by unfold natV;rw[uae];exact ub7 _ _
 have l2:(natV (ks.filterMap (nb2 ts p))).length<=ks.length:=by unfold natV;rw[uae];exact ub7 _ _
 refine⟨L3,L4,_,_,rfl,rfl,s4 _ _ hH3,hH4,by left,λ pp J S fr e=>q pp J (s2.trans (s3.trans (s4.trans S))) ((s2.trans (s3.trans s4)).free fr) ?_⟩
 rw[e];unfold nbN natV;rw[ua3]
theorem zf0 (T:Bi mg) (D:DefOk K mg "tie_between" s_tie_between ["web","a","b"]):Ok P w K mg base 1 "tie_between" ["web","a","b"] (spTB K):=by
 refine zbd (k:=0) D sc_tie_between (λ vs H Q E h=>?_) (λ f cdv A outer s H vs Q E hr h=>?_)
 ·obtain⟨n,ts,wv,u,v,rfl,_⟩:=h
  rfl
 obtain⟨n,ts,wv,u,v,rfl,isw,few60,q⟩:=h
 have nd:=sc_tie_between.nd
 have units:∀ {x:Nat},x<=3->(A.deeper (envOfC "tie_between" (defScope s_tie_between) s.heap.objs.size f cdv)).units + x < cLine:=λ {x} hu=>by have:=hr.units;left
 obtain⟨g0,g,ws,rfl,hg0,hg,hall,hlw⟩:=za3 isw
 refine⟨_,(zab (zan (i:=3) nd rfl (uat rfl) (zbk (zaa (zao (zft rfl) rfl T.z_min (by symm) (zaa (pv 1) (zaa (pv 2) zac))) (zaa (zao (zfu rfl) rfl T.z_max (by symm) (zaa (pv 1) (zaa (pv 2) zac))) zac)))) (zab (za4 PassesOwn.never rfl (zez true rfl T.z_enumerate (zaa (zar za5 (pv 0) zae (λ _ _=>rfl)) zac)) (zbl (n:=2) rfl (zak (zag (i:=4) nd rfl (uat rfl)) (zak (zag (i:=5) nd rfl (uat rfl)) za2))) (zad (zbf (zam zlc (zei zgw (pv 5) zg1 (zg0 zae)) (pv 3) (nomark _)) (zad (zaq (pv 4))) zat))) (zad (zaq zbc)))),?_⟩
 refine⟨_,rfl,_,rfl,_,_,rfl,_,rfl,_,rfl,_,_,rfl,(by show 2<=1000;decide),λ te J1 S1 f1 e1=>?_⟩
 have eMin:(if (v:Int) < (u:Int) then (v:Int) else u)=min (u:Int) v:=by split <;> left
 have eMax:(if (v:Int) > (u:Int) then (v:Int) else u)=max (u:Int) v:=by split <;> left
 rw[eMin,eMax] at e1
 refine⟨_,rfl,g0,_,_,_,rfl,rfl,SqT.of (S1 _ _ hg0),rfl,g,rfl,⟨ws,SqX.of (S1 _ _ hg)⟩,?_⟩
 refine⟨λ i m σ J=>m=ts.length - i/\i<=ts.length/\(∃ y4 y5:Option V,σ=[some (.ref g0),some (.int (u:Int)),some (.int (v:Int)),some (.ref te),y4,y5])/\Same J1 J/\∀ k,k < i->isTB ts u v k=false,⟨_,rfl,ubb _,⟨none,none,rfl⟩,Same.refl _,λ k hk=>(by left)⟩,?_⟩
 rintro i m σ J ⟨rfl,hi,⟨y4,y5,rfl⟩,sm,pre⟩
 have sH:=S1.trans sm
 have sq:SqX true K J g ws:=SqX.of (sH _ _ hg)
 by_cases hlt:i < ts.length
 ·refine .inr ⟨⟨ws,ws[i]'(by left),sq,by simp [show i < ws.length by left]⟩,λ σ' J'=>∃ m',m' < ts.length - i/\(m'=ts.length - (i + 1)/\i + 1<=ts.length/\(∃ y4 y5:Option V,σ'=[some (.ref g0),some (.int (u:Int)),some (.int (v:Int)),some (.ref te),y4,y5])/\Same J1 J'/\∀ k,k < i + 1->isTB ts u v k=false),λ _ _ h=>h,λ x J' hy=>?_⟩
  obtain⟨T',y,hT,rfl,rfl,ey⟩:=hy
  have hyi:=ey ws sq
  obtain⟨ta,hta,htie⟩:=zcd hall hlt
  rw[hta] at hyi
  cases hyi
  have S2:=zal (o:=.tup [.int (i:Nat),.ref ta]) hT
  have htie':=S2 _ _ (sH _ _ htie)
  refine⟨T',_,rfl,SqT.of zai,rfl,_,_,rfl,_,_,rfl,rfl,?_⟩
  refine⟨_,rfl,_,rfl,ta,_,rfl,htie',λ tc J3 S3 e3=>?_⟩
  have e3':J3 tc=some (.tup (([(tieAt ts i).1,(tieAt ts i).2.1]:List Int).map V.int)):=e3
  have e1':J3 te=some (.tup (([min (u:Int) v,max (u:Int) v]:List Int).map V.int)):=S3 _ _ (S2 _ _ (sm _ _ e1))
  refine⟨_,rfl,.tuple (([(tieAt ts i).1,(tieAt ts i).2.1]:List Int).map .int),.tuple (([min (u:Int) v,max (u:Int) v]:List Int).map .int),⟨tc,_,rfl,e3',IsAll.ints _⟩,⟨te,_,rfl,e1',IsAll.ints _⟩,zbt _,zbt _,?_,_,rfl,?_⟩
  ·have d1:=zfr [(tieAt ts i).1,(tieAt ts i).2.1]
   have d2:PyData.depth (.tuple (([(tieAt ts i).1,(tieAt ts i).2.1]:List Int).map .int))=PyData.depthAll (([(tieAt ts i).1,(tieAt ts i).2.1]:List Int).map .int) + 1:=rfl
   exact units (ua9 (ug1 _ _) (by rw[d2];left))
  have eq:PyData.eqv (.tuple (([(tieAt ts i).1,(tieAt ts i).2.1]:List Int).map .int)) (.tuple (([min (u:Int) v,max (u:Int) v]:List Int).map .int))=isTB ts u v i:=zk9 _ _ _ _
  rw[eq]
  have SS:=S2.trans S3
  refine ite2 (λ c=>?_) (λ c=>?_)
  ·have et:tbN ts u v=some i:=by
    unfold tbN
    refine List.find?_range_eq_some.mpr ⟨c,uav.mpr hlt,λ j hj=>?_⟩
    rw[pre j hj];rfl
   have q1:=q J3 (sH.trans SS)
   rw[et] at q1
   exact⟨_,rfl,q1⟩
  ·refine⟨ts.length - (i + 1),by left,rfl,hlt,⟨_,_,rfl⟩,sm.trans SS,λ k hk=>?_⟩
   by_cases z:k=i
   ·rw[z];exact Bool.eq_false_iff.mpr c
   ·exact pre k (by left)
 ·have e:i=ts.length:=by left
  subst e
  refine .inl ⟨⟨ws,sq,by left⟩,?_⟩
  have et:tbN ts u v=none:=by
   unfold tbN
   refine udq.mpr λ k hk=>?_
   rw[pre k (uav.mp hk)];exact uas
  have q1:=q J sH
  rw[et] at q1
  exact q1
theorem zfy (T:Bi mg) (D:DefOk K mg "ties_along" s_ties_along ["web","places"]) (O_tie_between:Ok P w K mg base 1 "tie_between" ["web","a","b"] (spTB K)):Ok P w K mg base 2 "ties_along" ["web","places"] (spAlongW K):=by
 refine zbd (k:=1) D sc_ties_along (λ vs H Q E h=>?_) (λ f cdv A outer s H vs Q E hr h=>?_)
 ·obtain⟨n,ts,wv,t,ws,rfl,_⟩:=h
  rfl
 obtain⟨n,ts,wv,t,ws,rfl,isw,few60,ht,l24,lk,q⟩:=h
 have nd:=sc_ties_along.nd
 have lenW:(natV ws).length=ws.length:=by unfold natV;rw[uae]
 have ecut:cutV (natV ws) (some 1) none=natV (ws.drop 1):=by
  unfold cutV
  have h1:HT.sIx (natV ws).length (natV ws).length none=(natV ws).length:=rfl
  rw[h1]
  by_cases z:ws=[]
  ·subst z;rfl
  ·have pos:=uf4.mpr z
   have h0:HT.sIx (natV ws).length 0 (some 1)=1:=by
    unfold HT.sIx
    simp
    left
   rw[h0,ufu (by rw[udl];exact uai _)]
   unfold natV
   rw[uhj]
 refine⟨_,(zad (zaq (zbw (N:=["web","places"]) (sc0:=defScope s_ties_along) (own:=["one","other"]) (fr:=["web"]) (js:=[0]) rfl (znn true true rfl T.z_zip (zaa (pv 1) (zaa (zei zgw (pv 1) (zg0 zae) zg1) zac))) (λ _ _ _ _=>(ze0 (n:=2) rfl (zak (zag (i:=0) (by show ubt [("one":Str),("other":Str),("web":Str)];decide +kernel) rfl (uat rfl)) (zak (zag (i:=1) (by show ubt [("one":Str),("other":Str),("web":Str)];decide +kernel) rfl (uat rfl)) za2)))) (λ _ _ _ _=>zcg) (λ _ _ _ _=>(zaj O_tie_between hr rfl (zaa (pv 2) (zaa (pv 0) (zaa (pv 1) zac)))))))),?_⟩
 refine⟨_,rfl,_,rfl,_,rfl,t,_,rfl,ht,λ t2 J1 S1 e1=>?_⟩
 rw[ecut] at e1
 refine⟨t,t2,rfl,⟨_,SqX.of (t:=true) (S1 _ _ ht)⟩,⟨_,SqX.of (t:=true) e1⟩,?_⟩
 have lenD:(natV (ws.drop 1)).length=ws.length - 1:=by unfold natV;rw[uae,udl]
 refine zlv (t1:=true) (t2:=true) (xs:=natV ws) (zs:=natV (ws.drop 1)) (S1 _ _ ht) e1 (λ σ'=>∃ o1 o2,σ'=[o1,o2,some wv]) (λ i x _=>x=V.int (((tbN ts (ws.getD i 0) (ws.getD (i + 1) 0)).getD 0:Nat):Int)) (by left) (by exact⟨none,none,rfl⟩) (λ _ _ _ _ _ h=>h) (λ i x z U σ' H' hxi hzi s2 hU sg C hC=>?_) (λ L ys H2 hL s2 hH hly hys=>?_)
 ·obtain⟨o1,o2,rfl⟩:=sg
  obtain⟨u,hu,rfl⟩:=zbr hxi
  obtain⟨v,hv,rfl⟩:=zbr hzi
  rw[List.getElem?_drop,Nat.add_comm] at hv
  obtain⟨k,ek,hk⟩:=zca lk hu hv
  have eu:ws.getD i 0=u:=by rw[uaf,hu];rfl
  have ev:ws.getD (i + 1) 0=v:=by rw[uaf,hv];rfl
  refine⟨U,_,rfl,SqT.of zai,rfl,_,_,rfl,_,_,rfl,rfl,?_⟩
  have SU:=zal (o:=.tup [V.int (u:Int),.int (v:Int)]) hU
  refine⟨_,rfl,_,rfl,_,rfl,n,ts,wv,u,v,rfl,Is.same (S1.trans (s2.trans SU)) _ isw,few60,λ H5 s5=>hC _ _ _ ⟨_,_,rfl⟩ (SU.trans s5) ?_⟩
  rw[eu,ev,ek];rfl
 ·refine q L H2 (S1.trans s2) ?_
  rw[hH]
  refine congrArg (λ z=>some (HO.lst z)) (udd λ i=>?_)
  have hl2:ys.length=ws.length - 1:=by rw[hly,lenW,lenD];left
  unfold alongN natV
  rw[ubq,uaq]
  by_cases hi:i < ws.length - 1
  ·have e:ys[i]?=some ys[i]:=uad (by left)
   rw[e,hys i _ e,uc5 hi];rfl
  ·rw[ubd (by left),ubd (by rw[uba];left)];rfl
def nbW (n:Int) (ts:List Tie):Nat->List Nat:=nbS n (ones ts) (uag (ones ts).length)
inductive spShare_i  (vs:List V) (H:Hp) (Q:VK):Prop
 | mk:∀ (d:Int),(vs=[.int d])->(1<=d)->(∀ H',Same H H'->Q .non H')->spShare_i vs H Q
def spShare :Sp:=λ vs H Q _=>spShare_i vs H Q
theorem zg6 (T:Bi mg) (D:DefOk K mg "need_share" s_need_share ["d"]) (O_is_whole:Ok P w K mg base 1 "is_whole" ["thing"] (spD1 K (λ _=>True) wholeB)):Ok P w K mg base 2 "need_share" ["d"] spShare:=by
 refine zbd (k:=1) D sc_need_share (λ vs H Q E h=>?_) (λ f cdv A outer s H vs Q E hr h=>?_)
 ·obtain⟨d,rfl,_⟩:=h
  rfl
 obtain⟨d,rfl,d1,q⟩:=h
 have nd:=sc_need_share.nd
 refine⟨_,(zad (zbf (PW.pt (zc7 (zew (zcp (zaj O_is_whole hr rfl (zaa (pv 0) zac)))) (zb5 (zam zjz (pv 0) zae (nomark _))))) (zad zk6) zat)),?_⟩
 refine⟨_,rfl,.int d,.int d,rfl,rfl,trivial,λ H1 s1=>⟨_,rfl,iteF ⟨_,rfl,_,_,rfl,rfl,_,rfl,?_⟩⟩⟩
 rw[decide_eq_false (by left)]
 exact iteF (q H1 s1)
inductive spBare_i (K:uac) (vs:List V) (H:Hp) (Q:VK):Prop
 | mk:∀ (n:Int) (ts:List Tie) (wv:V) (p:Nat) (g:Addr) (gs:List Nat),(vs=[wv,.int (p:Int),.ref g])->(Is K H (webD n (ones ts)) wv)->(WebOk n ts)->(H g=some (.lst (natV gs)))->(∀ l H',Same H H'->H l=none->H' l=some (.lst (natV (bareG (nbW n ts) gs p)))->Q (.ref l) H')->spBare_i K vs H Q
def spBare (K:uac):Sp:=λ vs H Q _=>spBare_i K vs H Q
theorem zqv (l gs:List Nat):(uag l.length).filterMap (λ i=>if (!gs.contains (l.getD i 0))=true then some (V.int ((l.getD i 0:Nat):Int)) else none)=natV (l.filter λ q=>!gs.contains q):=zef (λ q=>!gs.contains q) l
theorem ztp {n:Int} {ts:List Tie} {ks:List Nat} (ok:WebOk n ts) (ko:KeepOk ts.length ks) {l:List Nat} {p:Nat} (hl:l.Nodup) (hm:∀ q,q ∈ l↔Adj ts ks p q):l.length < 64:=by
 have:=zej (b:=uag n.toNat) hl λ q hq=>uav.mpr (zl5 ok ko p q ((hm q).mp hq))
 rw[uba] at this
 have:=ok.n24
 left
theorem zmc (m:Nat):KeepOk m (uag m):=⟨ubz,λ k hk=>uav.mp hk⟩
theorem zde (T:Bi mg) (D:DefOk K mg "bare_neighbours" s_bare_neighbours ["web","place","guarded"]) (O_neighbours:Ok P w K mg base 1 "neighbours" ["web","keep","place"] (spNeigh K)) (O_whole:Ok P w K mg base 1 "whole" ["web"] (spWhole K)):Ok P w K mg base 2 "bare_neighbours" ["web","place","guarded"] (spBare K):=by
 refine zbd (k:=1) D sc_bare_neighbours (λ vs H Q E h=>?_) (λ f cdv A outer s H vs Q E hr h=>?_)
 ·obtain⟨n,ts,wv,p,g,gs,rfl,_⟩:=h
  rfl
 obtain⟨n,ts,wv,p,g,gs,rfl,isw,ok,hg,q⟩:=h
 have nd:=sc_bare_neighbours.nd
 have ok1:=zdo ok
 have few1:=ok1.few
 have ko1:=zmc (ones ts).length
 refine⟨_,(zad (zaq (zbw (N:=["web","place","guarded"]) (sc0:=defScope s_bare_neighbours) (own:=["other"]) (fr:=["guarded"]) (js:=[2]) rfl (zch (zao zd4 rfl T.z_sorted (by symm) (zaa (zaj O_neighbours hr rfl (zaa (pv 0) (zaa (zaj O_whole hr rfl (zaa (pv 0) zac)) (zaa (pv 1) zac)))) zac))) (λ _ _ _ _=>(zag (i:=0) (by show ubt [("other":Str),("guarded":Str)];decide +kernel) rfl (uat rfl))) (λ _ _ _ _=>(zcr (zam zbp (pv 0) (pv 1) (by with_unfolding_all rfl)))) (λ _ _ _ _=>(pv 0))))),?_⟩
 refine⟨_,rfl,_,rfl,n,ones ts,wv,rfl,isw,few1,λ kp J1 S1 f1 e1=>?_⟩
 have isk:Is K J1 (keepD (uag (ones ts).length)) (.ref kp):=⟨kp,_,rfl,e1,by rw[zbb];exact IsAll.ints _⟩
 refine⟨_,rfl,n,ones ts,uag (ones ts).length,wv,.ref kp,(p:Int),rfl,⟨Is.same S1 _ isw,ok1,isk,ko1⟩,λ l J2 S2 f2 e2=>?_⟩
 have ndl:=zn4 ok1 ko1 p
 rw[zbb] at e2
 have lk:(keepI (nbN (ones ts) (uag (ones ts).length) (p:Int))).length=(nbN (ones ts) (uag (ones ts).length) (p:Int)).length:=uae _
 refine⟨l,_,rfl,SqL.of e2,by rw[lk];exact ztp ok1 ko1 ndl (zn2 ok1 ko1 p),λ ms pm pw l3 f3=>?_⟩
 have em:=ztr ok1 ko1 ndl (zn2 ok1 ko1 p) pm pw
 have lb:=zj6 (n:=n) (ts:=ones ts) (ks:=uag (ones ts).length) p
 have n24:=ok.n24
 have e3:(upd J2 l3 (.lst (ms.map V.int))) l3=some (.lst (natV (nbW n ts p))):=by
  rw[zai,em,zbb];rfl
 have lw:(natV (nbW n ts p)).length=(nbW n ts p).length:=zah _
 have lb':(nbW n ts p).length<=n.toNat:=lb
 have S12:=S1.trans (S2.trans (zal (o:=.lst (ms.map V.int)) f3))
 refine⟨l3,rfl,⟨_,SqL.of e3⟩,?_⟩
 refine zcw e3 (λ σ'=>∃ u,σ'=[u,some (.ref g)]) (λ i=>if (!gs.contains ((nbW n ts p).getD i 0))=true then some (V.int (((nbW n ts p).getD i 0:Nat):Int)) else none) (by left) (by exact⟨none,rfl⟩) (λ i x σ' H' hx s3 sg C M hC hM=>?_) (λ L3 H3 hL3 s3 hH3=>?_)
 ·obtain⟨u,rfl⟩:=sg
  obtain⟨k,hk,rfl⟩:=zbr hx
  have ek:(nbW n ts p).getD i 0=k:=by rw[uaf,hk];rfl
  rw[ek] at hC hM
  refine⟨_,rfl,_,rfl,g,_,rfl,.inl (SqL.of (s3 _ _ (S12 _ _ hg))),rfl,zcl gs,_,rfl,?_⟩
  show if (!inV (V.int (k:Int)) (natV gs))=true then _ else _
  rw[zdp (ua0 _),ua1]
  have ec:decide (k ∈ gs)=gs.contains k:=by rw[List.contains_eq_mem]
  rw[ec]
  exact ite2 (λ c=>⟨_,rfl,hC _ _ _ ⟨_,rfl⟩ (Same.refl _) (by rw[if_pos c])⟩) (λ c=>hM _ _ ⟨_,rfl⟩ (Same.refl _) (by rw[if_neg c]))
 ·rw[lw,zqv] at hH3
  exact q L3 H3 (S12.trans s3) (S12.free hL3) hH3
def pairD (e:Nat × List Nat):PyData:=.tuple [.int (e.1:Int),keepD e.2]
def grdD (l:List (Nat × List Nat)):PyData:=.tuple (l.map pairD)
theorem zig (l:List (Nat × List Nat)):tupAll (l.map pairD)=true:=by
 induction l with
 | nil=>rfl
 | cons e l ih =>
  show (tupD (pairD e) && tupAll (l.map pairD))=true
  rw[ih,ue1]
  show (true && (tupD (keepD e.2) && true))=true
  rw[zpj];rfl
theorem zrc {n:Int} {ts:List Tie} (p q:Nat) (h:q ∈ nbW n ts p):q < n.toNat:=uav.mp (ubr.mp h).1
theorem zom {n:Int} {ts:List Tie} {d:Int} {p:Nat} {s:GS} (g:Grd (nbW n ts) d p s):s.1.length<=p/\s.2.length<=n.toNat:=by
 constructor
 ·have:=zej (b:=uag p) g.up λ u hu=>by
   obtain⟨e,he,rfl⟩:=ubj.mp hu
   exact uav.mpr (g.low e he)
  rw[uae,uba] at this
  exact this
 ·have:=zej (b:=uag n.toNat) g.nd λ u hu=>by
   rw[← g.all] at hu
   obtain⟨e,he,hu⟩:=uc0.mp hu
   exact uav.mpr (zrc _ _ ((g.sub e he).subset hu))
  rw[uba] at this
  exact this
inductive spGuards_i (K:uac) (vs:List V) (H:Hp) (Q:VK):Prop
 | mk:∀ (n:Int) (ts:List Tie) (wv:V) (d:Int),(vs=[wv,.int d])->(Is K H (webD n (ones ts)) wv)->(WebOk n ts)->(1<=d)->(∀ v H',Same H H'->Is K H' (grdD (swG (nbW n ts) d n.toNat).1) v->Q v H')->spGuards_i K vs H Q
def spGuards (K:uac):Sp:=λ vs H Q _=>spGuards_i K vs H Q
theorem zit (T:Bi mg) (D:DefOk K mg "guards_by" s_guards_by ["web","d"]) (O_need_plain:Ok P w K mg base 2 "need_plain" ["web"] (spNeedP K)) (O_need_share:Ok P w K mg base 2 "need_share" ["d"] spShare) (O_bare_neighbours:Ok P w K mg base 2 "bare_neighbours" ["web","place","guarded"] (spBare K)):Ok P w K mg base 3 "guards_by" ["web","d"] (spGuards K):=by
 refine zbd (k:=2) D sc_guards_by (λ vs H Q E h=>?_) (λ f cdv A outer s H vs Q E hr h=>?_)
 ·obtain⟨n,ts,wv,d,rfl,_⟩:=h
  rfl
 obtain⟨n,ts,wv,d,rfl,isw,ok,d1,q⟩:=h
 have nd:=sc_guards_by.nd
 have few60:=ok.few
 have n24:=ok.n24
 have n1:=ok.n1
 refine⟨_,(zab (za9 (zaj O_need_plain hr rfl (zaa (pv 0) zac))) (zab (za9 (zaj O_need_share hr rfl (zaa (pv 1) zac))) (zab (zan (i:=2) nd rfl (uat rfl) (za0 zac)) (zab (zan (i:=3) nd rfl (uat rfl) (za0 zac)) (zab (za4 PassesOwn.never rfl (zbi rfl T.z_range (zaa (zar za5 (pv 0) zae (λ _ _=>rfl)) zac)) (zag (i:=4) nd rfl (uat rfl)) (zab (zan (i:=5) nd rfl (uat rfl) (zaj O_bare_neighbours hr rfl (zaa (pv 0) (zaa (pv 4) (zaa (pv 3) zac))))) (zad (zbf (zam ztm (zao zay rfl T.z_len (by symm) (zaa (pv 5) zac)) (pv 1) (nomark _)) (zab (za9 (zb2 uax ua8 ua7 zb8 (pv 2) (zaa (zbk (zaa (pv 4) (zaa (zas za7 rfl T.z_tuple (by symm) (zaa (pv 5) zac)) zac))) zac))) (zad (za9 (zb2 uax ud2 ud1 zmi (pv 3) (zaa (pv 5) zac))))) zat)))) (zad (zaq (zas za7 rfl T.z_tuple (by symm) (zaa (pv 2) zac))))))))),?_⟩
 refine⟨_,rfl,n,ts,wv,rfl,isw,few60,λ H1 s1=>?_⟩
 refine⟨_,rfl,d,rfl,d1,λ H2 s2=>?_⟩
 refine⟨(by show 0<=1000;decide),λ lt J1 S1 f1 e1=>⟨(by show 0<=1000;decide),λ lg J2 S2 f2 e2=>?_⟩⟩
 have S02:Same H J2:=s1.trans (s2.trans (S1.trans S2))
 have flt:H lt=none:=(s1.trans s2).free f1
 have flg:H lg=none:=(s1.trans (s2.trans S1)).free f2
 have ntg:lt≠lg:=λ z=>by rw[← z,e1] at f2;cases f2
 obtain⟨g0,g,ws,rfl,hg0,hg,hall,hlw⟩:=za3 isw
 refine⟨_,rfl,g0,_,_,_,rfl,rfl,SqT.of (S02 _ _ hg0),rfl,n,rfl,by left,by left,?_⟩
 refine zbj (n:=n.toNat) (λ i σ J=>∃ (y4 y5:Option V) (vs:List V),σ=[some (.ref g0),some (.int d),some (.ref lt),some (.ref lg),y4,y5]/\Same H J/\J lt=some (.lst vs)/\IsAll K J ((swG (nbW n ts) d i).1.map pairD) vs/\J lg=some (.lst (natV (swG (nbW n ts) d i).2))) ⟨none,none,[],rfl,S02,S2 _ _ e1,rfl,e2⟩ (λ i σ J hi h=>?_) (λ σ J h=>?_)
 ·obtain⟨y4,y5,vs,rfl,sm,hlt,hvs,hlg⟩:=h
  have gr:=zii (N:=nbW n ts) (d:=d) (λ p=>zfg p) i
  obtain⟨c1,c2⟩:=zom gr
  have lv:vs.length=(swG (nbW n ts) d i).1.length:=by rw[hvs.length,uae]
  rw[show (0 + (i:Int))=(i:Int) by left]
  refine⟨_,rfl,_,rfl,_,rfl,n,ts,_,i,lg,_,rfl,Is.same sm _ isw,ok,hlg,λ b J3 S3 f3 e3=>?_⟩
  refine⟨_,rfl,b,_,rfl,.inl (SqL.of e3),_,rfl,_,_,rfl,rfl,_,rfl,?_⟩
  have lb:(bareG (nbW n ts) (swG (nbW n ts) d i).2 i).length<=n.toNat:=ua9 (udt _ _) (zj6 i)
  rw[zah]
  refine ite2 (λ c=>?_) (λ c=>?_)
  ·have cc:d<=((bareG (nbW n ts) (swG (nbW n ts) d i).2 i).length:Int):=of_decide_eq_true c
   have es:swG (nbW n ts) d (i + 1)=((swG (nbW n ts) d i).1++[(i,bareG (nbW n ts) (swG (nbW n ts) d i).2 i)],(swG (nbW n ts) d i).2++bareG (nbW n ts) (swG (nbW n ts) d i).2 i):=by
    rw[swG,stepG,if_pos cc]
   refine⟨_,rfl,.inl ⟨rfl,_,SqL.of (S3 _ _ hlt)⟩,_,rfl,_,rfl,b,_,rfl,e3,λ tp J4 S4 f4 e4=>⟨(by show 2<=1000;decide),λ tq J5 S5 f5 e5=>?_⟩⟩
   have S35:=S3.trans (S4.trans S5)
   refine⟨lt,_,_,rfl,rfl,S35 _ _ hlt,by left,λ J6 b6 e6=>?_⟩
   have e3':=S5 _ _ (S4 _ _ e3)
   have bne:b≠lt:=λ z=>by rw[z,hlt] at f3;cases f3
   refine⟨_,rfl,.inl ⟨rfl,_,SqL.of (b6 _ _ (Ne.symm ntg) (S35 _ _ hlg))⟩,_,rfl,lg,b,_,_,rfl,rfl,b6 _ _ (Ne.symm ntg) (S35 _ _ hlg),b6 _ _ bne e3',by rw[zah,zah];left,λ J7 b7 e7=>?_⟩
   rw[es]
   have hnew:Is K J5 (pairD (i,bareG (nbW n ts) (swG (nbW n ts) d i).2 i)) (.ref tq):=by
    refine⟨tq,_,rfl,e5,_,_,rfl,rfl,_,_,rfl,⟨tp,_,rfl,S5 _ _ e4,?_⟩,rfl⟩
    rw[zbb];exact IsAll.ints _
   have hvs5:=IsAll.snoc hnew (IsAll.same S35 _ hvs)
   have tu:tupAll ((swG (nbW n ts) d i).1.map pairD++[pairD (i,bareG (nbW n ts) (swG (nbW n ts) d i).2 i)])=true:=by
    have:=zig ((swG (nbW n ts) d i).1++[(i,bareG (nbW n ts) (swG (nbW n ts) d i).2 i)])
    rw[ua3] at this;exact this
   have hvs6:=IsAll.but b6 (S35 _ _ hlt) _ tu hvs5
   have hvs7:=IsAll.but b7 (b6 _ _ (Ne.symm ntg) (S35 _ _ hlg)) _ tu hvs6
   refine⟨_,_,vs++[.ref tq],rfl,λ a o e=>b7 _ _ (zaf e flg) (b6 _ _ (zaf e flt) (S35 _ _ (sm _ _ e))),b7 _ _ ntg e6,?_,?_⟩
   ·show IsAll K J7 (((swG (nbW n ts) d i).1++[(i,bareG (nbW n ts) (swG (nbW n ts) d i).2 i)]).map pairD) _
    rw[ua3];exact hvs7
   ·rw[e7];unfold natV;rw[ua3]
  ·have cc:¬ d<=((bareG (nbW n ts) (swG (nbW n ts) d i).2 i).length:Int):=λ z=>c (decide_eq_true z)
   have es:swG (nbW n ts) d (i + 1)=swG (nbW n ts) d i:=by rw[swG,stepG,if_neg cc]
   rw[es]
   exact⟨_,_,vs,rfl,sm.trans S3,S3 _ _ hlt,IsAll.same S3 _ hvs,S3 _ _ hlg⟩
 ·obtain⟨y4,y5,vs,rfl,sm,hlt,hvs,hlg⟩:=h
  exact⟨_,rfl,lt,_,rfl,hlt,λ tt J8 S8 f8 e8=>q _ J8 (sm.trans S8) ⟨tt,_,rfl,e8,IsAll.same S8 _ hvs⟩⟩
inductive spAllG_i (K:uac) (vs:List V) (H:Hp) (Q:VK):Prop
 | mk:∀ (v:V) (l:List (Nat × List Nat)),(vs=[v])->(Is K H (grdD l) v)->((l.flatMap (·.2)).length<=1000)->(∀ b H',Same H H'->H b=none->H' b=some (.lst (natV (l.flatMap (·.2))))->Q (.ref b) H')->spAllG_i K vs H Q
def spAllG (K:uac):Sp:=λ vs H Q _=>spAllG_i K vs H Q
theorem zby {K:uac} {H:Hp} {e:Nat × List Nat} {v:V} (h:Is K H (pairD e) v):∃ t tp:Addr,v=.ref t/\H t=some (.tup [.int (e.1:Int),.ref tp])/\H tp=some (.tup (natV e.2)):=by
 obtain⟨t,vs,rfl,ht,v1,r1,rfl,h1,v2,r2,rfl,⟨tp,zs,rfl,htp,hzs⟩,h3⟩:=h
 obtain rfl:v1=.int (e.1:Int):=h1
 obtain rfl:r2=[]:=h3
 rw[IsAll.of_ints hzs,← zbb] at htp
 exact⟨t,tp,rfl,ht,htp⟩
theorem zf1 (T:Bi mg) (D:DefOk K mg "all_guarded" s_all_guarded ["told"]):Ok P w K mg base 1 "all_guarded" ["told"] (spAllG K):=by
 refine zbd (k:=0) D sc_all_guarded (λ vs H Q E h=>?_) (λ f cdv A outer s H vs Q E hr h=>?_)
 ·obtain⟨v,l,rfl,_⟩:=h
  rfl
 obtain⟨v,l,rfl,isv,few,q⟩:=h
 have nd:=sc_all_guarded.nd
 obtain⟨t,xs,rfl,ht,hxs⟩:=isv
 have lx:xs.length=l.length:=by rw[hxs.length,uae]
 refine⟨_,(zab (zan (i:=1) nd rfl (uat rfl) (za0 zac)) (zab (za4 PassesOwn.never rfl (zbv (pv 0)) (zbl (n:=2) rfl (zak (zag (i:=2) nd rfl (uat rfl)) (zak (zag (i:=3) nd rfl (uat rfl)) za2))) (zad (za9 (zb2 uax ud2 ud1 zmh (pv 1) (zaa (pv 3) zac))))) (zad (zaq (pv 1))))),?_⟩
 refine⟨(by show 0<=1000;decide),λ b J1 S1 f1 e1=>?_⟩
 refine⟨_,rfl,t,rfl,⟨_,SqT.of (S1 _ _ ht)⟩,?_⟩
 refine zfp (t:=true) (xs:=xs) (λ i σ J=>∃ (y2 y3:Option V),σ=[some (.ref t),some (.ref b),y2,y3]/\Same H J/\J b=some (.lst (natV ((l.take i).flatMap (·.2))))) ⟨none,none,rfl,S1,e1⟩ (λ i σ J _ h=>?_) (λ i x σ J hx h=>?_) (λ σ J h=>?_)
 ·obtain⟨y2,y3,rfl,sm,_⟩:=h
  exact SqX.of (t:=true) (sm _ _ ht)
 ·obtain⟨y2,y3,rfl,sm,hb⟩:=h
  have hi:i < l.length:=by have:=(uan.mp hx).1;left
  have el:l[i]?=some l[i]:=uad hi
  obtain⟨x',ex,ix⟩:=hxs.at_ (show (l.map pairD)[i]?=some (pairD l[i]) by rw[uaq,el];rfl)
  rw[hx] at ex
  cases ex
  obtain⟨tt,tp,rfl,htt,htp⟩:=zby ix
  refine⟨tt,_,rfl,SqT.of (sm _ _ htt),rfl,_,_,rfl,_,_,rfl,rfl,?_⟩
  have tn:(l.take (i + 1)).flatMap (·.2)=(l.take i).flatMap (·.2)++l[i].2:=by
   rw[ubo,el,ubp];simp
  have le:((l.take (i + 1)).flatMap (·.2)).length<=(l.flatMap (·.2)).length:=by
   conv=>rhs;rw[← uca (i + 1) l,ubp,uaj]
   left
  rw[tn,uaj] at le
  refine⟨_,rfl,.inl ⟨rfl,_,SqL.of hb⟩,_,rfl,b,tp,_,_,rfl,rfl,hb,sm _ _ htp,by rw[zah,zah];left,λ J2 b2 e2=>?_⟩
  refine⟨_,_,rfl,λ a o e=>b2 _ _ (zaf e f1) (sm _ _ e),?_⟩
  rw[e2,tn];unfold natV;rw[ua3]
 ·obtain⟨y2,y3,rfl,sm,hb⟩:=h
  rw[lx,ubw] at hb
  exact⟨_,rfl,q b J sm f1 hb⟩
theorem zg9 (T:Bi mg) (D:DefOk K mg "_law_whole" s__law_whole ["thing"]):Ok P w K mg base 1 "_law_whole" ["thing"] (spD1 K (λ _=>True) wholeB):=by
 refine zbd (k:=0) D sc__law_whole (λ vs H Q E h=>?_) (λ f cdv A outer s H vs Q E hr h=>?_)
 ·obtain⟨d,v,rfl,_⟩:=h
  rfl
 obtain⟨d,v,rfl,hd,_,q⟩:=h
 have nd:=sc__law_whole.nd
 have q0:=q H (Same.refl H)
 have ty:=zs6 hd
 refine⟨_,(zad (zaq (zdx (zao (zbx (n:="int")) rfl T.z_isinstance (by symm) (zaa (pv 0) (zaa (zci (v:=.ty "int") rfl T.z_int (by symm) rfl) zac))) (zcq (zq9 (zao (zbx (n:="bool")) rfl T.z_isinstance (by symm) (zaa (pv 0) (zaa (zci (v:=.ty "bool") rfl T.z_bool (by symm) rfl) zac)))))))),?_⟩
 cases d with
 | int i=>exact⟨_,rfl,_,_,_,rfl,ty,rfl,_,rfl,iteT ⟨_,rfl,_,_,_,rfl,ty,rfl,_,rfl,q0⟩⟩
 | bool b=>exact⟨_,rfl,_,_,_,rfl,ty,rfl,_,rfl,iteT ⟨_,rfl,_,_,_,rfl,ty,rfl,_,rfl,q0⟩⟩
 | none=>exact⟨_,rfl,_,_,_,rfl,ty,rfl,_,rfl,iteF q0⟩
 | str x=>exact⟨_,rfl,_,_,_,rfl,ty,rfl,_,rfl,iteF q0⟩
 | tuple ds=>exact⟨_,rfl,_,_,_,rfl,ty,rfl,_,rfl,iteF q0⟩
 | list ds=>exact⟨_,rfl,_,_,_,rfl,ty,rfl,_,rfl,iteF q0⟩
 | dict ds=>exact⟨_,rfl,_,_,_,rfl,ty,rfl,_,rfl,iteF q0⟩
def okD:Nat->PyData->Prop
 | 0,_=>False
 | m + 1,d=>(∃ i,d=.int i)\/(∃ x,d=.str x)\/∃ ds,d=.tuple ds/\ds.length<=1000/\∀ x ∈ ds,okD m x
inductive spSameD_i (K:uac) (m:Nat) (vs:List V) (H:Hp) (Q:VK):Prop
 | mk:∀ v u d,(vs=[v,u])->(Is K H d v)->(Is K H d u)->(okD m d)->(∀ H',Same H H'->Q (.bl true) H')->spSameD_i K m vs H Q
def spSameD (K:uac) (m:Nat):Sp:=λ vs H Q _=>spSameD_i K m vs H Q
theorem zpr (D:DefOk K mg "_law_same" s__law_same ["found","due"]):Ok P w K mg base 1 "_law_same" ["found","due"] (spSameD K 0):=by
 obtain⟨f,fd,F,b,m⟩:=D
 have no:∀ vs H Q E,¬ spSameD K 0 vs H Q E:=λ vs H Q E h=>by
  obtain⟨v,u,d,_,_,_,z,_⟩:=h
  exact z
 exact⟨f,fd,⟨λ vs H Q E h=>absurd h (no vs H Q E),λ A outer s H args us vs Q E _ _ _ _ h=>absurd h (no vs H Q E)⟩,b,F.kp,m⟩
theorem zce (k m:Nat) (T:Bi mg) (D:DefOk K mg "_law_same" s__law_same ["found","due"]) (O__law_same:Ok P w K mg base k "_law_same" ["found","due"] (spSameD K m)) (O__law_whole:Ok P w K mg base k "_law_whole" ["thing"] (spD1 K (λ _=>True) wholeB)):Ok P w K mg base (k + 1) "_law_same" ["found","due"] (spSameD K (m + 1)):=by
 refine zbd (k:=k) D sc__law_same (λ vs H Q E h=>?_) (λ f cdv A outer s H vs Q E hr h=>?_)
 ·obtain⟨v,u,d,rfl,_⟩:=h
  rfl
 obtain⟨v,u,d,rfl,h1,h2,hd,q⟩:=h
 have nd:=sc__law_same.nd
 refine⟨_,(zab (zbf (zcp (zao (zbx (n:="tuple")) rfl T.z_isinstance (by symm) (zaa (pv 1) (zaa (zci (v:=.ty "tuple") rfl T.z_tuple (by symm) rfl) zac)))) (zab (zbf (PW.pt (zc7 (zew (zcp (zao (zbx (n:="tuple")) rfl T.z_isinstance (by symm) (zaa (pv 0) (zaa (zci (v:=.ty "tuple") rfl T.z_tuple (by symm) rfl) zac))))) (zb5 (zam zsd (zao zay rfl T.z_len (by symm) (zaa (pv 0) zac)) (zao zay rfl T.z_len (by symm) (zaa (pv 1) zac)) (nomark _))))) (zad (zaq zin)) zat) (zad (zaq (zao (zlz rfl) rfl T.z_all (by symm) (zaa (zbw (N:=["found","due"]) (sc0:=defScope s__law_same) (own:=["one","other"]) (fr:=[]) (js:=[]) rfl (znn true true rfl T.z_zip (zaa (pv 0) (zaa (pv 1) zac))) (λ _ _ _ _=>(ze0 (n:=2) rfl (zak (zag (i:=0) (by show ubt [("one":Str),("other":Str)];decide +kernel) rfl (uat rfl)) (zak (zag (i:=1) (by show ubt [("one":Str),("other":Str)];decide +kernel) rfl (uat rfl)) za2)))) (λ _ _ _ _=>zcg) (λ _ _ _ _=>(zaj O__law_same hr rfl (zaa (pv 0) (zaa (pv 1) zac))))) zac))))) zat) (zab (zbf (zcp (zao (zbx (n:="int")) rfl T.z_isinstance (by symm) (zaa (pv 1) (zaa (zci (v:=.ty "int") rfl T.z_int (by symm) rfl) zac)))) (zad (zaq (zdx (zaj O__law_whole hr rfl (zaa (pv 0) zac)) (zcq (zba zbq (pv 0) (pv 1) (nomark _)))))) zat) (zad (zaq (zba zbq (pv 0) (pv 1) (nomark _)))))),?_⟩
 rcases hd with ⟨i,rfl⟩ | ⟨x,rfl⟩ | ⟨ds,rfl,l1000,hds⟩
 ·obtain rfl:v=.int i:=h1
  obtain rfl:u=.int i:=h2
  refine⟨_,rfl,_,_,_,rfl,.int _,rfl,_,rfl,iteF ?_⟩
  refine⟨_,rfl,_,_,_,rfl,.int _,rfl,_,rfl,iteT ?_⟩
  refine⟨_,rfl,.int i,.int i,rfl,rfl,trivial,λ H1 s1=>⟨_,rfl,iteT ?_⟩⟩
  refine⟨_,rfl,_,rfl,rfl,?_⟩
  have e:decide (V.int i=V.int i)=true:=decide_eq_true rfl
  rw[e]
  exact q H1 s1
 ·obtain rfl:v=.str x:=h1
  obtain rfl:u=.str x:=h2
  refine⟨_,rfl,_,_,_,rfl,.str _,rfl,_,rfl,iteF ?_⟩
  refine⟨_,rfl,_,_,_,rfl,.str _,rfl,_,rfl,iteF ?_⟩
  refine⟨_,rfl,_,rfl,rfl,?_⟩
  have e:decide (V.str x=V.str x)=true:=decide_eq_true rfl
  rw[e]
  exact q H (Same.refl H)
 ·obtain⟨p,xs,rfl,hp,hx⟩:=h1
  obtain⟨g,ys,rfl,hg,hy⟩:=h2
  have lx:=hx.length
  have ly:=hy.length
  refine⟨_,rfl,_,_,_,rfl,TyOf.tup hg,rfl,_,rfl,iteT ?_⟩
  refine⟨_,rfl,_,_,_,rfl,TyOf.tup hp,rfl,_,rfl,iteF ⟨_,rfl,p,_,rfl,.inr (SqT.of hp),_,rfl,g,_,rfl,.inr (SqT.of hg),rfl,_,rfl,iteNS (by rw[lx,ly]) ?_⟩⟩
  refine⟨_,rfl,_,rfl,p,g,rfl,⟨_,SqT.of hp⟩,⟨_,SqT.of hg⟩,?_⟩
  refine zlv (t1:=true) (t2:=true) (xs:=xs) (zs:=ys) hp hg (λ σ'=>σ'.length=2) (λ i v _=>v=.bl true) (by left) (by rfl) (λ _ _ _ _ _ h=>h) (λ i x z U σ' H' hxi hzi s hU sg C hC=>?_) (λ L zs H' hL s hH hly hys=>?_)
  ·match σ',sg with
   | [o1,o2],_ =>
    obtain⟨d,hd,h1⟩:=IsAll.from_ hx hxi
    obtain⟨d',hd',h2⟩:=IsAll.from_ hy hzi
    rw[hd] at hd'
    cases hd'
    have S:=s.trans (zal (o:=.tup [x,z]) hU)
    refine⟨U,_,rfl,SqT.of zai,rfl,_,_,rfl,_,_,rfl,rfl,?_⟩
    exact⟨_,rfl,_,rfl,_,_,d,rfl,Is.same S _ h1,Is.same S _ h2,hds d (uao hd),λ H5 s5=>hC _ _ _ rfl ((zal hU).trans s5) rfl⟩
  ·refine⟨L,_,rfl,SqL.of (by rw[hH,zl1 (f:=λ _=>true) rfl hys]),?_⟩
   have e:((uag zs.length).map λ _=>true).all id=true:=by simp
   rw[e]
   exact q H' s
def bareB (ts:List Tie) (G:List Nat) (k:Nat):Bool:=!decide ((tieAt ts k).1.toNat ∈ G) || !decide ((tieAt ts k).2.1.toNat ∈ G)
def btK (ts:List Tie) (G:List Nat):List Nat:=(uag ts.length).filter (bareB ts G)
inductive spBT_i (K:uac) (vs:List V) (H:Hp) (Q:VK):Prop
 | mk:∀ (n:Int) (ts:List Tie) (wv gv:V) (l:List (Nat × List Nat)),(vs=[wv,gv])->(Is K H (webD n ts) wv)->(WebOk n ts)->(Is K H (grdD l) gv)->((l.flatMap (·.2)).length<=1000)->(∀ b H',Same H H'->H b=none->H' b=some (.lst (natV (btK ts (l.flatMap (·.2)))))->Q (.ref b) H')->spBT_i K vs H Q
def spBT (K:uac):Sp:=λ vs H Q _=>spBT_i K vs H Q
theorem zix (T:Bi mg) (D:DefOk K mg "bare_ties" s_bare_ties ["web","told"]) (O_all_guarded:Ok P w K mg base 1 "all_guarded" ["told"] (spAllG K)) (O_whole:Ok P w K mg base 1 "whole" ["web"] (spWhole K)):Ok P w K mg base 2 "bare_ties" ["web","told"] (spBT K):=by
 refine zbd (k:=1) D sc_bare_ties (λ vs H Q E h=>?_) (λ f cdv A outer s H vs Q E hr h=>?_)
 ·obtain⟨n,ts,wv,gv,l,rfl,_⟩:=h
  rfl
 obtain⟨n,ts,wv,gv,l,rfl,isw,ok,isg,few,q⟩:=h
 have nd:=sc_bare_ties.nd
 have few60:=ok.few
 refine⟨_,(zab (zan (i:=2) nd rfl (uf7 rfl) (zaj O_all_guarded hr rfl (zaa (pv 1) zac))) (zad (zaq (zbw (N:=["web","told","guarded"]) (sc0:=defScope s_bare_ties) (own:=["tie"]) (fr:=["web","guarded"]) (js:=[0,2]) rfl (zbv (zaj O_whole hr rfl (zaa (pv 0) zac))) (λ _ _ _ _=>(zag (i:=0) (by show ubt [("tie":Str),("web":Str),("guarded":Str)];decide +kernel) rfl (uat rfl))) (λ _ _ _ _=>(zcr (PW.pt (zc7 (zam zbp (zar zb0 (zar zb0 (zar zb0 (pv 1) zae (λ _ _=>rfl)) (pv 0) (λ _ _=>rfl)) zae (λ _ _=>rfl)) (pv 2) (by with_unfolding_all rfl)) (zb5 (zam zbp (zar zb0 (zar zb0 (zar zb0 (pv 1) zae (λ _ _=>rfl)) (pv 0) (λ _ _=>rfl)) zae (λ _ _=>rfl)) (pv 2) (by with_unfolding_all rfl))))))) (λ _ _ _ _=>(pv 0)))))),?_⟩
 refine⟨_,rfl,gv,l,rfl,isg,few,λ lg J1 S1 f1 e1=>?_⟩
 obtain⟨G,eG⟩:∃ G,G=l.flatMap (·.2):=⟨_,rfl⟩
 rw[← eG] at e1 q
 refine⟨_,rfl,n,ts,wv,rfl,Is.same S1 _ isw,few60,λ lk J2 S2 f2 e2=>?_⟩
 obtain⟨g0,gg,ws,rfl,hg0,hg,hall,hlw⟩:=za3 isw
 have S12:=S1.trans S2
 refine⟨lk,rfl,⟨_,SqT.of e2⟩,?_⟩
 refine zi9 e2 (λ σ'=>∃ o,σ'=[o,some (.ref g0),some (.ref lg)]) (λ i=>if bareB ts G ((uag ts.length).getD i 0)=true then some (V.int (((uag ts.length).getD i 0:Nat):Int)) else none) (by rw[zah,uba];left) (by exact⟨none,rfl⟩) (λ i x σ' H' hx s2 sg C L hC hL=>?_) (λ L J4 hL S4 hH=>?_)
 ·obtain⟨o,rfl⟩:=sg
  obtain⟨k,hk,rfl⟩:=zbr hx
  have ek:(uag ts.length).getD i 0=k:=by rw[uaf,hk];rfl
  have hkl:k < ts.length:=uav.mp (uao hk)
  rw[ek] at hC hL
  obtain⟨ta,hta,htie⟩:=zcd hall hkl
  have tk:=ok.tie _ (zav hkl).2
  have s3:=S12.trans s2
  have hlg:=s2 _ _ (S2 _ _ e1)
  refine⟨_,rfl,g0,_,_,_,rfl,rfl,SqT.of (s3 _ _ hg0),rfl,_,rfl,gg,_,_,_,rfl,rfl,SqT.of (s3 _ _ hg),zaw (ua0 _) hta,ta,_,_,_,rfl,rfl,SqT.of (s3 _ _ htie),rfl,_,rfl,lg,_,rfl,.inl (SqL.of hlg),rfl,zcl _,_,rfl,?_⟩
  show if (!inV (V.int (tieAt ts k).1) (natV G))=true then _ else _
  rw[zdp tk.1]
  cases d1:decide ((tieAt ts k).1.toNat ∈ G) with
  | false=>exact iteT ⟨_,rfl,hC _ _ _ ⟨_,rfl⟩ (Same.refl _) (by rw[if_pos (by unfold bareB;rw[d1];rfl)])⟩
  | true =>
   refine iteF ⟨_,rfl,g0,_,_,_,rfl,rfl,SqT.of (s3 _ _ hg0),rfl,_,rfl,gg,_,_,_,rfl,rfl,SqT.of (s3 _ _ hg),zaw (ua0 _) hta,ta,_,_,_,rfl,rfl,SqT.of (s3 _ _ htie),rfl,_,rfl,lg,_,rfl,.inl (SqL.of hlg),rfl,zcl _,_,rfl,?_⟩
   show if (!inV (V.int (tieAt ts k).2.1) (natV G))=true then _ else _
   rw[zdp (show 0<=(tieAt ts k).2.1 by left)]
   cases d2:decide ((tieAt ts k).2.1.toNat ∈ G) with
   | false=>exact iteT ⟨_,rfl,hC _ _ _ ⟨_,rfl⟩ (Same.refl _) (by rw[if_pos (by unfold bareB;rw[d1,d2];rfl)])⟩
   | true=>exact iteF (hL _ _ ⟨_,rfl⟩ (Same.refl _) (by rw[if_neg (by unfold bareB;rw[d1,d2];decide)]))
 rw[zah,zef (bareB ts G) (uag ts.length)] at hH
 exact q L J4 (S12.trans S4) (S12.free hL) hH
def tbL (ts:List Tie) (e:Nat × List Nat):List Nat:=e.2.map λ p=>(tbN ts e.1 p).getD 0
def kfL (ts:List Tie) (l:List (Nat × List Nat)):List Nat:=btK ts (l.flatMap (·.2))++l.flatMap (tbL ts)
def kfK (ts:List Tie) (l:List (Nat × List Nat)):List Nat:=(uag ts.length).filter λ k=>decide (k ∈ kfL ts l)
theorem zob (ts:List Tie) (l:List (Nat × List Nat)):KeepOk ts.length (kfK ts l):=⟨ufd _ ubz,λ k hk=>uav.mp (ubr.mp hk).1⟩
def GdsW (n:Int) (ts:List Tie) (l:List (Nat × List Nat)):Prop:=l.length<=24/\(l.flatMap (·.2)).length<=24/\∀ e ∈ l,e.1 < n.toNat/\∀ p ∈ e.2,p < n.toNat/\∃ k,tbN ts e.1 p=some k/\k < ts.length
inductive spKF_i (K:uac) (vs:List V) (H:Hp) (Q:VK):Prop
 | mk:∀ (n:Int) (ts:List Tie) (wv gv:V) (l:List (Nat × List Nat)),(vs=[wv,gv])->(Is K H (webD n ts) wv)->(WebOk n ts)->(Is K H (grdD l) gv)->(GdsW n ts l)->(∀ t H',Same H H'->H' t=some (.tup (natV (kfK ts l)))->Q (.ref t) H')->spKF_i K vs H Q
def spKF (K:uac):Sp:=λ vs H Q _=>spKF_i K vs H Q
theorem zd7 (T:Bi mg) (D:DefOk K mg "kept_at_first" s_kept_at_first ["web","guards"]) (O_bare_ties:Ok P w K mg base 2 "bare_ties" ["web","told"] (spBT K)) (O_tie_between:Ok P w K mg base 2 "tie_between" ["web","a","b"] (spTB K)):Ok P w K mg base 3 "kept_at_first" ["web","guards"] (spKF K):=by
 refine zbd (k:=2) D sc_kept_at_first (λ vs H Q E h=>?_) (λ f cdv A outer s H vs Q E hr h=>?_)
 ·obtain⟨n,ts,wv,gv,l,rfl,_⟩:=h
  rfl
 obtain⟨n,ts,wv,gv,l,rfl,isw,ok,isg,gd,q⟩:=h
 have nd:=sc_kept_at_first.nd
 have few60:=ok.few
 obtain⟨gl,gf,ge⟩:=gd
 refine⟨_,(zab (zan (i:=2) nd rfl (uat rfl) (zaj O_bare_ties hr rfl (zaa (pv 0) (zaa (pv 1) zac)))) (zab (za4 PassesOwn.never rfl (zbv (pv 1)) (zbl (n:=2) rfl (zak (zag (i:=3) nd rfl (uf7 rfl)) (zak (zag (i:=4) nd rfl (uat rfl)) za2))) (zad (za9 (zb2 uax ud2 ud1 zgk (pv 2) (zaa (zbw (N:=["web","guards","ties","guard","places"]) (sc0:=defScope s_kept_at_first) (own:=["place"]) (fr:=["web","guard"]) (js:=[0,3]) rfl (zbv (pv 4)) (λ _ _ _ _=>(zag (i:=0) (by show ubt [("place":Str),("web":Str),("guard":Str)];decide +kernel) rfl (uat rfl))) (λ _ _ _ _=>zcg) (λ _ _ _ _=>(zaj O_tie_between hr rfl (zaa (pv 1) (zaa (pv 2) (zaa (pv 0) zac)))))) zac))))) (zad (zaq (zas za7 rfl T.z_tuple (by symm) (zaa (zao (zd1 rfl) rfl T.z_sorted (by symm) (zaa (zas (zgo rfl) rfl T.z_set (by symm) (zaa (pv 2) zac)) zac)) zac)))))),?_⟩
 refine⟨_,rfl,_,rfl,n,ts,wv,gv,l,rfl,isw,ok,isg,by left,λ b J1 S1 f1 e1=>?_⟩
 obtain⟨t,xs,rfl,ht,hxs⟩:=isg
 have lx:xs.length=l.length:=by rw[hxs.length,uae]
 obtain⟨B0,eB0⟩:∃ B0,B0=btK ts (l.flatMap (·.2)):=⟨_,rfl⟩
 rw[← eB0] at e1
 have lB0:B0.length<=60:=by
  rw[eB0];unfold btK
  have:=udt (bareB ts (l.flatMap (·.2))) (uag ts.length)
  rw[uba] at this;left
 have ltb:∀ m:List (Nat × List Nat),(m.flatMap (tbL ts)).length=(m.flatMap (·.2)).length:=λ m=>by
  rw[List.length_flatMap,List.length_flatMap]
  congr 1
  exact uby λ e _=>by unfold tbL;rw[uae]
 refine⟨_,rfl,t,rfl,⟨_,SqT.of (S1 _ _ ht)⟩,?_⟩
 refine zfp (t:=true) (xs:=xs) (λ i σ J=>∃ (y3 y4:Option V),σ=[some wv,some (.ref t),some (.ref b),y3,y4]/\But b J1 J/\J b=some (.lst (natV (B0++(l.take i).flatMap (tbL ts))))) ⟨none,none,rfl,But.refl,by rw[e1,ug8];simp⟩ (λ i σ J _ h=>?_) (λ i x σ J hx h=>?_) (λ σ J h=>?_)
 ·obtain⟨y3,y4,rfl,bt,_⟩:=h
  exact SqX.of (t:=true) (bt _ _ (zaf ht f1) (S1 _ _ ht))
 ·obtain⟨y3,y4,rfl,bt,hb⟩:=h
  have sm:Same H J:=λ c o e=>bt _ _ (zaf e f1) (S1 _ _ e)
  have hi:i < l.length:=by have:=(uan.mp hx).1;left
  have el:l[i]?=some l[i]:=uad hi
  obtain⟨x',ex,ix⟩:=hxs.at_ (show (l.map pairD)[i]?=some (pairD l[i]) by rw[uaq,el];rfl)
  rw[hx] at ex
  cases ex
  obtain⟨tt,tp,rfl,htt,htp⟩:=zby ix
  obtain⟨e,ee⟩:∃ e,e=l[i]:=⟨_,rfl⟩
  rw[← ee] at htt htp el
  obtain⟨g1,gp⟩:=ge e (uao el)
  have tn:(l.take (i + 1)).flatMap (tbL ts)=(l.take i).flatMap (tbL ts)++tbL ts e:=by
   rw[ubo,el,ubp];simp
  have tn2:(l.take (i + 1)).flatMap (·.2)=(l.take i).flatMap (·.2)++e.2:=by
   rw[ubo,el,ubp];simp
  have le:((l.take (i + 1)).flatMap (·.2)).length<=(l.flatMap (·.2)).length:=by
   conv=>rhs;rw[← uca (i + 1) l,ubp,uaj]
   left
  rw[tn2,uaj] at le
  have le2:e.2.length<=24:=by left
  have le3:((l.take i).flatMap (tbL ts)).length<=24:=by rw[ltb];left
  refine⟨tt,_,rfl,SqT.of (sm _ _ htt),rfl,_,_,rfl,_,_,rfl,rfl,?_⟩
  refine⟨_,rfl,.inl ⟨rfl,_,SqL.of hb⟩,_,rfl,tp,rfl,⟨_,SqT.of (sm _ _ htp)⟩,?_⟩
  refine zhn (sm _ _ htp) (λ σ'=>∃ o,σ'=[o,some wv,some (.int (e.1:Int))]) (λ j v _=>v=.int (((tbL ts e).getD j 0:Nat):Int)) (by rw[zah];left) (by exact⟨none,rfl⟩) (λ _ _ _ _ _ h=>h) (λ j x σ' H' hx s2 sg C hC=>?_) (λ L ys J2 hL S2 hH hly hys=>?_)
  ·obtain⟨o,rfl⟩:=sg
   obtain⟨p,hp,rfl⟩:=zbr hx
   obtain⟨pn,k,ek,hk⟩:=gp p (uao hp)
   refine⟨_,rfl,_,rfl,_,rfl,n,ts,wv,e.1,p,rfl,Is.same (sm.trans s2) _ isw,few60,λ H5 S5=>?_⟩
   rw[ek]
   refine hC _ _ _ ⟨_,rfl⟩ S5 ?_
   unfold tbL
   rw[uaf,uaq,hp]
   show V.int (k:Int)=V.int (((tbN ts e.1 p).getD 0:Nat):Int)
   rw[ek];rfl
  rw[zah] at hly
  have lt:(tbL ts e).length=e.2.length:=by unfold tbL;rw[uae]
  have eys:ys=natV (tbL ts e):=by
   refine udd λ j=>?_
   by_cases hj:j < e.2.length
   ·have e1:ys[j]?=some ys[j]:=uad (by left)
    rw[e1,hys j _ e1]
    unfold natV
    rw[uaq,uad (by left),uaf,uad (by left)]
    rfl
   ·rw[ubd (by left),ubd (by rw[zah];left)]
  rw[eys] at hH
  refine⟨b,L,_,_,rfl,rfl,S2 _ _ hb,hH,by rw[zah,zah,uaj];left,λ J3 b3 e3=>⟨_,_,rfl,λ c o z e=>b3 _ _ z (S2 _ _ (bt _ _ z e)),?_⟩⟩
  rw[e3,tn,← zcj,uce]
 ·obtain⟨y3,y4,rfl,bt,hb⟩:=h
  rw[lx,ubw] at hb
  have sm:Same H J:=λ c o e=>bt _ _ (zaf e f1) (S1 _ _ e)
  obtain⟨fu,efu⟩:∃ fu,fu=B0++l.flatMap (tbL ts):=⟨_,rfl⟩
  have lfu:fu.length<=84:=by rw[efu,uaj,ltb];left
  rw[← efu] at hb
  have ekf:fu=kfL ts l:=by rw[efu,eB0];rfl
  have inl:∀ k ∈ fu,k < ts.length:=λ k hk=>by
   rw[efu] at hk
   rcases uaz.mp hk with z | z
   ·rw[eB0] at z;exact uav.mp (ubr.mp z).1
   ·obtain⟨e,he,z⟩:=uc0.mp z
    obtain⟨p,hp,rfl⟩:=ubj.mp z
    obtain⟨_,k,ek,hk⟩:=(ge e he).2 p hp
    rw[ek];exact hk
  have mfu:∀ k,k ∈ kfK ts l↔k ∈ fu:=λ k=>by
   unfold kfK
   rw[ubr,uav,decide_eq_true_iff,← ekf]
   exact⟨λ z=>z.2,λ z=>⟨inl k z,z⟩⟩
  have few:=zk3 (ns:=keepI fu) (m:=60) λ x hx=>by
   obtain⟨c,hc,rfl⟩:=ubj.mp hx
   have:=inl c hc
   left
  rw[zbb] at hb
  refine⟨_,rfl,b,keepI fu,rfl,hb,by unfold keepI;rw[uae];left,λ q1 J2 S2 f2 e2=>⟨q1,_,_,rfl,e2,by left,λ ms m1 m2 m3 l3 J3 S3 f3 e3=>⟨l3,_,rfl,e3,λ t J4 S4 f4 e4=>?_⟩⟩⟩
  rw[zet m1 m2 m3 (zob ts l).1 mfu] at e4
  exact q t J4 (sm.trans (S2.trans (S3.trans S4))) e4
def wantB:Option Int->Option Int->Bool
 | none,_=>false
 | some _,none=>true
 | some x,some y=>decide (y - x > 6)
inductive spWant_i  (vs:List V) (H:Hp) (Q:VK):Prop
 | mk:∀ o1 o2,(vs=[ov o1,ov o2])->(Q (.bl (wantB o1 o2)) H)->spWant_i vs H Q
def spWant :Sp:=λ vs H Q _=>spWant_i vs H Q
theorem zis (T:Bi mg) (D:DefOk K mg "is_wanted" s_is_wanted ["near","kept"]):Ok P w K mg base 1 "is_wanted" ["near","kept"] spWant:=by
 refine zbd (k:=0) D sc_is_wanted (λ vs H Q E h=>?_) (λ f cdv A outer s H vs Q E hr h=>?_)
 ·obtain⟨o1,o2,rfl,_⟩:=h
  rfl
 obtain⟨o1,o2,rfl,q⟩:=h
 have nd:=sc_is_wanted.nd
 refine⟨_,(zad (zaq (zdx (zba ze6 (pv 0) zbc (nomark _)) (zcq (zno (zba zc8 (pv 1) zbc (nomark _)) (zcq (zba zme (zaz zdy (pv 1) (pv 0)) zae (nomark _)))))))),?_⟩
 cases o1 with
 | none=>exact⟨_,rfl,rfl,_,rfl,iteF q⟩
 | some x =>
  cases o2 with
  | none=>exact⟨_,rfl,rfl,_,rfl,iteT ⟨_,rfl,rfl,_,rfl,iteT q⟩⟩
  | some y=>exact⟨_,rfl,rfl,_,rfl,iteT ⟨_,rfl,rfl,_,rfl,iteF ⟨_,rfl,_,rfl,_,_,rfl,rfl,_,_,rfl,rfl,q⟩⟩⟩
theorem zkg {n v:Nat} {p:Nat->Bool} (hv:v < n) (h:∀ w,w < v->p w=false) (hp:p v=true):(uag n).find? p=some v:=by
 rw[uep]
 refine⟨hp,v,by rw[uba];exact hv,udp _,λ j hj=>?_⟩
 rw[udp,h j hj];rfl
noncomputable def fwB (ts:List Tie) (ks:List Nat) (u v:Nat):Bool:=decide (u < v) && wantB (dstF ts (uag ts.length) u v) (dstF ts ks u v)
noncomputable def fwF (n:Int) (ts:List Tie) (ks:List Nat) (u:Nat):Option Nat:=(uag n.toNat).find? (fwB ts ks u)
inductive spFW_i (K:uac) (vs:List V) (H:Hp) (Q:VK):Prop
 | mk:∀ (n:Int) (ts:List Tie) (ks:List Nat) (wv kv:V) (u:Nat),(vs=[wv,kv,.int (u:Int)])->(WK K H n (ones ts) ks wv kv)->(WebOk n ts)->(u < n.toNat)->(∀ H',Same H H'->Q (oa (fwF n ts ks u)) H')->spFW_i K vs H Q
def spFW (K:uac):Sp:=λ vs H Q _=>spFW_i K vs H Q
theorem ze8 (T:Bi mg) (D:DefOk K mg "first_wanted" s_first_wanted ["web","keep","u"]) (O_fars_from:Ok P w K mg base 3 "fars_from" ["web","keep","root"] (spFars K)) (O_whole:Ok P w K mg base 3 "whole" ["web"] (spWhole K)) (O_is_wanted:Ok P w K mg base 3 "is_wanted" ["near","kept"] spWant):Ok P w K mg base 4 "first_wanted" ["web","keep","u"] (spFW K):=by
 refine zbd (k:=3) D sc_first_wanted (λ vs H Q E h=>?_) (λ f cdv A outer s H vs Q E hr h=>?_)
 ·obtain⟨n,ts,ks,wv,kv,u,rfl,_⟩:=h
  rfl
 obtain⟨n,ts,ks,wv,kv,u,rfl,wk,ok,hu,q⟩:=h
 have nd:=sc_first_wanted.nd
 have few60:=ok.few
 have n24:=ok.n24
 have ko:KeepOk ts.length ks:=by have:=wk.2.2.2;rw[zax] at this;exact this
 obtain⟨g0,gg,ws,rfl,hg0,hg,hall,hlw⟩:=za3 wk.1
 refine⟨_,(zab (zan (i:=3) nd rfl (uat rfl) (zaj O_fars_from hr rfl (zaa (pv 0) (zaa (zaj O_whole hr rfl (zaa (pv 0) zac)) (zaa (pv 2) zac))))) (zab (zan (i:=4) nd rfl (uat rfl) (zaj O_fars_from hr rfl (zaa (pv 0) (zaa (pv 1) (zaa (pv 2) zac))))) (zab (za4 PassesOwn.never rfl (zey rfl T.z_range (zaa (zaz zb7 (pv 2) zae) (zaa (zar za5 (pv 0) zae (λ _ _=>rfl)) zac))) (zag (i:=5) nd rfl (uat rfl)) (zad (zbf (zcp (zaj O_is_wanted hr rfl (zaa (zar zau (pv 3) (pv 5) (λ _ _=>rfl)) (zaa (zar zau (pv 4) (pv 5) (λ _ _=>rfl)) zac)))) (zad (zaq (pv 5))) zat))) (zad (zaq zbc))))),?_⟩
 refine⟨_,rfl,_,rfl,n,ones ts,_,rfl,wk.1,by rw[zax];exact few60,λ lk J2 S2 f2 e2=>?_⟩
 rw[zax] at e2
 refine⟨_,rfl,n,ones ts,uag ts.length,_,.ref lk,(u:Int),rfl,⟨Is.same S2 _ wk.1,wk.2.1,zcb e2,by rw[zax];exact za8 ts⟩,by left,by left,λ ln D1 J3 S3 f3 e3 lD1 hD1=>?_⟩
 refine⟨_,rfl,_,rfl,_,rfl,n,ones ts,ks,_,kv,(u:Int),rfl,wk.same (S2.trans S3),by left,by left,λ lk2 D2 J4 S4 f4 e4 lD2 hD2=>?_⟩
 rw[ua1] at hD1 hD2
 have ed1:=zkh (za8 ts) lD1 hD1
 have ed2:=zkh ko lD2 hD2
 subst ed1
 subst ed2
 have S24:=S2.trans (S3.trans S4)
 refine⟨_,rfl,_,_,rfl,rfl,_,rfl,g0,_,_,_,rfl,rfl,SqT.of (S24 _ _ hg0),rfl,_,_,rfl,⟨by left,by left,by left,by left⟩,?_⟩
 have low:∀ v,v<=u->fwB ts ks u v=false:=λ v hv=>by unfold fwB;rw[decide_eq_false (by left)];rfl
 refine zbj (n:=(n - ((u:Int) + 1)).toNat) (λ j σ J'=>∃ y5:Option V,σ=[some (.ref g0),some kv,some (.int (u:Int)),some (.ref ln),some (.ref lk2),y5]/\Same J4 J'/\∀ v,v < u + 1 + j->fwB ts ks u v=false) ⟨_,rfl,Same.refl _,λ v hv=>low v (by left)⟩ (λ j σ J' hj h=>?_) (λ σ J' h=>?_)
 ·obtain⟨y5,rfl,sm,hb⟩:=h
  obtain⟨v,ev⟩:∃ v,v=u + 1 + j:=⟨_,rfl⟩
  have evI:(u:Int) + 1 + (j:Int)=(v:Int):=by left
  rw[evI]
  have hv:v < n.toNat:=by left
  have at1:atI ((dstL n ts (uag ts.length) u).map ov) (v:Int)=some (ov (dstF ts (uag ts.length) u v)):=zaw (ua0 _) (by rw[ua1,zsc (by rw[zhk];exact hv),zlq hv])
  have at2:atI ((dstL n ts ks u).map ov) (v:Int)=some (ov (dstF ts ks u v)):=zaw (ua0 _) (by rw[ua1,zsc (by rw[zhk];exact hv),zlq hv])
  refine⟨_,rfl,_,rfl,ln,_,_,_,rfl,rfl,SqL.of (sm _ _ (S4 _ _ e3)),at1,_,rfl,_,rfl,lk2,_,_,_,rfl,rfl,SqL.of (sm _ _ e4),at2,_,_,rfl,_,rfl,?_⟩
  have ew:fwB ts ks u v=wantB (dstF ts (uag ts.length) u v) (dstF ts ks u v):=by unfold fwB;rw[decide_eq_true (by left),ue0]
  rw[← ew]
  cases e:fwB ts ks u v with
  | true =>
   refine iteT ⟨_,rfl,?_⟩
   have q1:=q J' (S24.trans sm)
   have ef:fwF n ts ks u=some v:=zkg hv (λ w hw=>hb w (by left)) e
   rw[ef] at q1;exact q1
  | false =>
   refine iteF ⟨_,rfl,sm,λ w hw=>?_⟩
   by_cases z:w=v
   ·rw[z];exact e
   ·exact hb w (by left)
 ·obtain⟨y5,rfl,sm,hb⟩:=h
  have q1:=q J' (S24.trans sm)
  have ef:fwF n ts ks u=none:=udq.mpr λ v hv=>by rw[hb v (by have:=uav.mp hv;left)];decide
  rw[ef] at q1;exact q1
def posO (ws:List Nat) (x:Nat):Option Nat:=(uag ws.length).find? λ i=>decide (ws.getD i 0=x)
theorem zk8 {ws:List Nat} (nd:ws.Nodup) {i x:Nat} (h:ws[i]?=some x):posO ws x=some i:=by
 have hi:=(uan.mp h).1
 have gi:ws.getD i 0=x:=by rw[uaf,h];rfl
 refine zkg hi (λ w hw=>decide_eq_false λ e=>?_) (decide_eq_true gi)
 have hw':w < ws.length:=by left
 have e2:ws[w]?=some x:=by rw[← e,uaf,uad hw'];rfl
 rw[uad hw'] at e2
 rw[uad hi] at h
 exact ubh.mp nd w i hw' hi hw ((uau e2).trans (uau h).symm)
theorem zc1 {ws:List Nat} {i x:Nat} (h:posO ws x=some i):ws[i]?=some x:=by
 have h0:decide (ws.getD i 0=x)=true:=udu (p:=λ i=>decide (ws.getD i 0=x)) h
 have h1:=of_decide_eq_true h0
 have hi:=uav.mp (ud4 h)
 rw[uaf,uad hi] at h1
 rw[uad hi,← h1];rfl
def alP (ws:List Nat) (go:Nat->Nat->Bool) (x y:Nat):Option Int:=match posO ws x,posO ws y with
 | some i,some j=>if go i j=true then some (absI ((i:Int) - (j:Int))) else none
 | _,_=>none
def alM (ws:List Nat):Nat->Nat->Option Int:=alP ws λ _ _=>true
theorem zl4 {ws:List Nat} {go go':Nat->Nat->Bool} (h:∀ i j,i < ws.length->j < ws.length->go i j=go' i j) (x y:Nat):alP ws go x y=alP ws go' x y:=by
 unfold alP
 cases ex:posO ws x with
 | none=>rfl
 | some i =>
  cases ey:posO ws y with
  | none=>rfl
  | some j =>
   have hi:=(uan.mp (zc1 ex)).1
   have hj:=(uan.mp (zc1 ey)).1
   show (if go i j=true then _ else _)=if go' i j=true then _ else _
   rw[h i j hi hj]
theorem zq0 (ws:List Nat) (x y:Nat):alP ws (λ _ _=>false) x y=none:=by
 unfold alP
 cases posO ws x with
 | none=>rfl
 | some i =>
  cases posO ws y with
  | none=>rfl
  | some j=>rfl
def rowM (n:Int) (M:Nat->Nat->Option Int) (x:Nat):List V:=((uag n.toNat).map (M x)).map ov
theorem zeg (n:Int) (M:Nat->Nat->Option Int) (x:Nat):(rowM n M x).length=n.toNat:=by unfold rowM;rw[uae,uae,uba]
theorem zdl {n:Int} {M:Nat->Nat->Option Int} {x y:Nat} (h:y < n.toNat):atI (rowM n M x) (y:Int)=some (ov (M x y)):=zaw (ua0 _) (by rw[ua1];unfold rowM;rw[uaq,uaq,uc5 h];rfl)
inductive spFA_i (K:uac) (vs:List V) (H:Hp) (Q:VK):Prop
 | mk:∀ (n:Int) (ts:List Tie) (wv:V) (t:Addr) (ws:List Nat),(vs=[wv,.ref t])->(Is K H (webD n ts) wv)->(WebOk n ts)->(H t=some (.tup (natV ws)))->(ws.Nodup)->((∀ x ∈ ws,x < n.toNat))->(∀ l as H',Same H H'->H l=none->as.length=n.toNat->Bes H' l as (rowM n (alM ws))->Q (.ref l) H')->spFA_i K vs H Q
def spFA (K:uac):Sp:=λ vs H Q _=>spFA_i K vs H Q
theorem zg8 (T:Bi mg) (D:DefOk K mg "fars_along" s_fars_along ["web","way"]):Ok P w K mg base 1 "fars_along" ["web","way"] (spFA K):=by
 refine zbd (k:=0) D sc_fars_along (λ vs H Q E h=>?_) (λ f cdv A outer s H vs Q E hr h=>?_)
 ·obtain⟨n,ts,wv,t,ws,rfl,_⟩:=h
  rfl
 obtain⟨n,ts,wv,t,ws,rfl,isw,ok,ht,nd',lt,q⟩:=h
 have nd:=sc_fars_along.nd
 have n1:=ok.n1
 have n24:=ok.n24
 have lws:ws.length<=n.toNat:=Peel.zfj n.toNat _ nd' lt
 obtain⟨g0,gg,wz,rfl,hg0,hg,hall,hlw⟩:=za3 isw
 refine⟨_,(zab (zb6 (i:=2) (N:=["web","way","rows","i","one","j","other"]) (sc0:=defScope s_fars_along) (own:=["place"]) (fr:=["web"]) (js:=[0]) rfl (zbi rfl T.z_range (zaa (zar za5 (pv 0) zae (λ _ _=>rfl)) zac)) (λ _ _ _ _=>(zag (i:=0) (by show ubt [("place":Str),("web":Str)];decide +kernel) rfl (uat rfl))) (λ _ _ _ _=>zcg) (λ _ _ _ _=>(zaz ze4 (za0 (zaa zbc zac)) (zar zb0 (pv 1) zae (λ _ _=>rfl)))) nd rfl (uat rfl)) (zab (za4 PassesOwn.never rfl (zez true rfl T.z_enumerate (zaa (pv 1) zac)) (zbl (n:=2) rfl (zak (zag (i:=3) nd rfl (uat rfl)) (zak (zag (i:=4) nd rfl (uat rfl)) za2))) (zad (za4 PassesOwn.never rfl (zez true rfl T.z_enumerate (zaa (pv 1) zac)) (zbl (n:=2) rfl (zak (zag (i:=5) nd rfl (uat rfl)) (zak (zag (i:=6) nd rfl (uat rfl)) za2))) (zad (zbz (zao zl0 rfl T.z_abs (by symm) (zaa (zaz zdy (pv 3) (pv 5)) zac)) (zdw (zar zau (pv 2) (pv 4) (λ _ _=>rfl)) (pv 6) zb3)))))) (zad (zaq (pv 2))))),?_⟩
 refine⟨_,rfl,g0,_,_,_,rfl,rfl,SqT.of hg0,rfl,n,rfl,by left,by left,?_⟩
 refine zd0 (n:=n.toNat) (lo:=0) (λ _=>uay n.toNat V.non) (λ σ'=>∃ o,σ'=[o,some (.ref g0)]) (by left) (by exact⟨none,rfl⟩) (λ i σ' H' hi s6 sg C hC=>?_) (λ L as J1 hL S1 hH las ndA noA new=>?_)
 ·obtain⟨o,rfl⟩:=sg
  refine⟨(by show 1<=1000;decide),λ l0 H3 s3 f3 e3=>⟨_,rfl,g0,_,_,_,rfl,rfl,SqT.of (s3 _ _ (s6 _ _ hg0)),rfl,l0,n,.non,rfl,rfl,e3,by left,by left,λ p H4 s4 f4 e4=>?_⟩⟩
  exact hC _ _ _ ⟨_,rfl⟩ (s3.trans s4) (s3.free f4) e4
 have r0:∀ go:Nat->Nat->Bool,(∀ i j,i < ws.length->j < ws.length->go i j=false)->∀ x,rowM n (alP ws go) x=uay n.toNat V.non:=λ go hgo x=>by
  unfold rowM
  rw[ubq]
  refine List.eq_replicate_iff.mpr ⟨by rw[uae,uba],λ v hv=>?_⟩
  obtain⟨y,_,rfl⟩:=ubj.mp hv
  show ov (alP ws go x y)=_
  rw[zl4 hgo,zq0];rfl
 have B1:Bes J1 L as (rowM n (alP ws λ i _=>decide (i < 0))):=Bes.newF hH ndA noA λ i a ha=>by
  rw[r0 _ (λ i j _ _=>decide_eq_false (udw _))];exact (new i a ha).2
 have fas:∀ a ∈ as,H a=none:=λ a ha=>by
  obtain⟨k,hk⟩:=uf3 ha
  exact (new k a hk).1
 refine⟨_,rfl,t,rfl,⟨_,SqX.of (t:=true) (S1 _ _ ht)⟩,?_⟩
 refine zhh (t:=true) (xs:=natV ws) (λ i σ J=>∃ (y3 y4 y5 y6:Option V),σ=[some (.ref g0),some (.ref t),some (.ref L),y3,y4,y5,y6]/\Same H J/\Bes J L as (rowM n (alP ws λ a _=>decide (a < i)))) ⟨none,none,none,none,rfl,S1,B1⟩ (λ i σ J h=>?_) (λ i x U σ J hx hU h=>?_) (λ σ J h=>?_)
 ·obtain⟨y3,y4,y5,y6,rfl,sm,_⟩:=h
  exact SqX.of (t:=true) (sm _ _ ht)
 ·obtain⟨y3,y4,y5,y6,rfl,sm,B⟩:=h
  obtain⟨one,ho,rfl⟩:=zbr hx
  have hi:=(uan.mp ho).1
  have onn:=lt one (uao ho)
  have SU:=zal (H:=J) (o:=.tup [.int (i:Nat),V.int (one:Int)]) hU
  refine⟨U,_,rfl,SqT.of zai,rfl,_,_,rfl,_,_,rfl,rfl,?_⟩
  have smU:=sm.trans SU
  refine⟨_,rfl,t,rfl,⟨_,SqX.of (t:=true) (smU _ _ ht)⟩,?_⟩
  refine zhh (t:=true) (xs:=natV ws) (λ j σ J'=>∃ (y5 y6:Option V),σ=[some (.ref g0),some (.ref t),some (.ref L),some (.int (i:Int)),some (.int (one:Int)),y5,y6]/\Same H J'/\Bes J' L as (rowM n (alP ws λ a b=>decide (a < i) || (decide (a=i) && decide (b < j))))) ⟨_,_,rfl,smU,?_⟩ (λ j σ J' h=>?_) (λ j x U2 σ J' hx2 hU2 h=>?_) (λ σ J' h=>?_)
  ·have e:(λ x=>rowM n (alP ws λ a b=>decide (a < i) || (decide (a=i) && decide (b < 0))) x)=λ x=>rowM n (alP ws λ a _=>decide (a < i)) x:=by
    funext x
    unfold rowM
    rw[ubq,ubq]
    refine uby λ y _=>?_
    show ov (alP ws _ x y)=ov (alP ws _ x y)
    rw[zl4 (go':=λ a _=>decide (a < i)) (λ a b _ _=>by rw[decide_eq_false (udw b),uhb,Bool.or_false])]
   show Bes _ L as λ x=>rowM n _ x
   rw[e];exact B.same SU
  ·obtain⟨y5,y6,rfl,sm',_⟩:=h
   exact SqX.of (t:=true) (sm' _ _ ht)
  ·obtain⟨y5,y6,rfl,sm',B'⟩:=h
   obtain⟨oth,ho2,rfl⟩:=zbr hx2
   have hj:=(uan.mp ho2).1
   have otn:=lt oth (uao ho2)
   have SU2:=zal (H:=J') (o:=.tup [.int (j:Nat),V.int (oth:Int)]) hU2
   refine⟨U2,_,rfl,SqT.of zai,rfl,_,_,rfl,_,_,rfl,rfl,?_⟩
   have smU2:=sm'.trans SU2
   have B2:=B'.same SU2
   obtain⟨ra,hra,hra2,hrow⟩:=B2.ix (i:=one) (by left)
   refine⟨_,rfl,_,rfl,_,_,rfl,rfl,_,rfl,_,rfl,_,rfl,L,_,_,_,rfl,rfl,SqL.of B2.top,zaw (ua0 _) (by rw[ua1];exact hra2),_,rfl,ra,_,_,oth,rfl,rfl,hrow,by rw[zeg,zcu (ua0 _) (by left),ua1],?_⟩
   have nra:H ra=none:=fas ra (uao hra)
   refine⟨_,_,rfl,λ b o e=>?_,?_⟩
   ·rw[zap (zaf e nra)];exact smU2 _ _ e
   have Bp:=B2.put hra (But.upd (o:=.lst ((rowM n (alP ws λ a b=>decide (a < i) || (decide (a=i) && decide (b < j))) one).set oth (.int (absI ((i:Int) - (j:Int))))))) zai
   have e:(λ x=>if x=one then (rowM n (alP ws λ a b=>decide (a < i) || (decide (a=i) && decide (b < j))) one).set oth (.int (absI ((i:Int) - (j:Int)))) else rowM n (alP ws λ a b=>decide (a < i) || (decide (a=i) && decide (b < j))) x)=λ x=>rowM n (alP ws λ a b=>decide (a < i) || (decide (a=i) && decide (b < j + 1))) x:=by
    funext x
    by_cases ex:x=one
    ·subst ex
     rw[if_pos rfl]
     refine udd λ y=>?_
     by_cases hy:y < n.toNat
     ·have r1:∀ M:Nat->Nat->Option Int,(rowM n M x)[y]?=some (ov (M x y)):=λ M=>by unfold rowM;rw[uaq,uaq,uc5 hy];rfl
      rw[r1]
      by_cases ey:y=oth
      ·subst ey
       rw[uek (by rw[zeg];exact hy)]
       unfold alP
       rw[zk8 nd' ho,zk8 nd' ho2]
       show _=some (ov (if (decide (i < i) || (decide (i=i) && decide (j < j + 1)))=true then _ else _))
       rw[decide_eq_true (rfl:i=i),decide_eq_true (ucj j),ue1,Bool.or_true,if_pos rfl];rfl
      ·rw[uew (Ne.symm ey),r1]
       congr 2
       unfold alP
       rw[zk8 nd' ho]
       cases ep:posO ws y with
       | none=>rfl
       | some b =>
        have nb:b≠j:=λ z=>by
         have:=zc1 ep
         rw[z,ho2] at this
         exact ey (uau this).symm
        show (if (decide (i < i) || (decide (i=i) && decide (b < j)))=true then _ else _)=if (decide (i < i) || (decide (i=i) && decide (b < j + 1)))=true then _ else _
        have:decide (b < j)=decide (b < j + 1):=by
         by_cases z:b < j
         ·rw[decide_eq_true z,decide_eq_true (show b < j + 1 by left)]
         ·rw[decide_eq_false z,decide_eq_false (show ¬ b < j + 1 by left)]
        rw[this]
     ·rw[ubd (by rw[ucb,zeg];left),ubd (by rw[zeg];left)]
    ·rw[if_neg ex]
     unfold rowM
     rw[ubq,ubq]
     refine uby λ y _=>?_
     show ov (alP ws _ x y)=ov (alP ws _ x y)
     congr 1
     unfold alP
     cases ep:posO ws x with
     | none=>rfl
     | some a =>
      have na:a≠i:=λ z=>by
       have:=zc1 ep
       rw[z,ho] at this
       exact ex (uau this).symm
      cases posO ws y with
      | none=>rfl
      | some b =>
       show (if (decide (a < i) || (decide (a=i) && decide (b < j)))=true then _ else _)=if (decide (a < i) || (decide (a=i) && decide (b < j + 1)))=true then _ else _
       rw[decide_eq_false na,uha,uha]
   show Bes _ L as λ x=>rowM n _ x
   rw[← e];exact Bp
  ·obtain⟨y5,y6,rfl,sm',B'⟩:=h
   refine⟨_,_,_,_,rfl,sm',?_⟩
   have e:(λ x=>rowM n (alP ws λ a b=>decide (a < i) || (decide (a=i) && decide (b < (natV ws).length))) x)=λ x=>rowM n (alP ws λ a _=>decide (a < i + 1)) x:=by
    funext x
    unfold rowM
    rw[ubq,ubq]
    refine uby λ y _=>?_
    show ov (alP ws _ x y)=ov (alP ws _ x y)
    rw[zl4 (go':=λ a _=>decide (a < i + 1)) (λ a b _ hb=>by
     rw[zah,decide_eq_true hb,ue1]
     by_cases z:a < i
     ·rw[decide_eq_true z,decide_eq_true (show a < i + 1 by left)];rfl
     ·by_cases z2:a=i
      ·rw[decide_eq_true z2,decide_eq_true (show a < i + 1 by left),Bool.or_true]
      ·rw[decide_eq_false z,decide_eq_false z2,decide_eq_false (show ¬ a < i + 1 by left)];rfl)]
   show Bes _ L as λ x=>rowM n _ x
   rw[← e];exact B'
 ·obtain⟨y3,y4,y5,y6,rfl,sm,B⟩:=h
  have e:(λ x=>rowM n (alP ws λ a _=>decide (a < (natV ws).length)) x)=λ x=>rowM n (alM ws) x:=by
   funext x
   unfold rowM alM
   rw[ubq,ubq]
   refine uby λ y _=>?_
   show ov (alP ws _ x y)=ov (alP ws _ x y)
   rw[zl4 (go':=λ _ _=>true) (λ a b ha _=>by rw[zah];exact decide_eq_true ha)]
  refine⟨_,rfl,q L as J sm hL las ?_⟩
  show Bes _ L as λ x=>rowM n _ x
  rw[← e];exact B
theorem zhi {α β:Type} {f:α->List β} {m:Nat}:∀ (l:List α),(∀ x ∈ l,(f x).length<=m)->(l.flatMap f).length<=l.length * m
 | [],_=>ubb _
 | x::r,h=>by
  have h1:=h x ual
  have h2:=zhi r λ y hy=>h y (uap _ hy)
  rw[ufe,uaj,ubu,Nat.succ_mul]
  left
def minO:List Int->Option Int
 | []=>none
 | x::r=>some (r.foldl min x)
theorem zlo:∀ (r:List Int) (x:Int),r.foldl min x<=x/\(∀ y ∈ r,r.foldl min x<=y)/\(r.foldl min x=x\/r.foldl min x ∈ r)
 | [],x=>⟨ubm _,λ y h=>(by cases h),uat rfl⟩
 | y::r,x=>by
  obtain⟨h1,h2,h3⟩:=zlo r (min x y)
  refine⟨?_,λ z hz=>?_,?_⟩
  ·show r.foldl min (min x y)<=x;left
  ·show r.foldl min (min x y)<=z
   rcases uar.mp hz with e | e
   ·rw[e];left
   ·exact h2 z e
  ·show r.foldl min (min x y)=x\/r.foldl min (min x y) ∈ y::r
   rcases h3 with e | e
   ·by_cases c:x<=y
    ·apply uat;left
    ·apply uf7;rw[e,show min x y=y by left];exact ual
   ·exact .inr (uap _ e)
theorem zj9 {ns:List Int} {b:Int} (h1:b ∈ ns) (h2:∀ x ∈ ns,b<=x):minO ns=some b:=by
 cases ns with
 | nil=>cases h1
 | cons x r =>
  obtain⟨f1,f2,f3⟩:=zlo r x
  show some (r.foldl min x)=some b
  congr 1
  have le:r.foldl min x<=b:=by
   rcases uar.mp h1 with e | e
   ·rw[e];exact f1
   ·exact f2 b e
  have ge:b<=r.foldl min x:=by
   rcases f3 with e | e
   ·rw[e];exact h2 x ual
   ·exact h2 _ (uap _ e)
  left
def nearL (M:Nat->Nat->Option Int) (hp ot:List Nat):List Int:=hp.flatMap λ p=>ot.filterMap (M p)
def nearF (M:Nat->Nat->Option Int) (hp ot:List Nat):Option Int:=minO (nearL M hp ot)
inductive spNear_i  (vs:List V) (H:Hp) (Q:VK):Prop
 | mk:∀ (n:Int) (l h o:Addr) (as:List Addr) (M:Nat->Nat->Option Int) (hp ot:List Nat),(vs=[.ref l,.ref h,.ref o])->(Bes H l as (rowM n M))->(as.length=n.toNat)->(n<=24)->(H h=some (.tup (natV hp)))->(H o=some (.tup (natV ot)))->((∀ x ∈ hp,x < n.toNat))->((∀ x ∈ ot,x < n.toNat))->(hp.length<=24)->(ot.length<=24)->(∀ H',Same H H'->Q (ov (nearF M hp ot)) H')->spNear_i vs H Q
def spNear :Sp:=λ vs H Q _=>spNear_i vs H Q
theorem zmg (T:Bi mg) (D:DefOk K mg "nearest" s_nearest ["fars","heap","other"]):Ok P w K mg base 1 "nearest" ["fars","heap","other"] spNear:=by
 refine zbd (k:=0) D sc_nearest (λ vs H Q E h=>?_) (λ f cdv A outer s H vs Q E hr h=>?_)
 ·obtain⟨n,l,h,o,as,M,hp,ot,rfl,_⟩:=h
  rfl
 obtain⟨n,l,h,o,as,M,hp,ot,rfl,B,las,n24,hh,ho,lh,lo,l1,l2,q⟩:=h
 have nd:=sc_nearest.nd
 refine⟨_,(zab (zan (i:=3) nd rfl (uat rfl) (za0 zac)) (zab (za4 PassesOwn.never rfl (zbv (pv 1)) (zag (i:=4) nd rfl (uf7 rfl)) (zad (za9 (zb2 uax ud2 ud1 zgk (pv 3) (zaa (zbw (N:=["fars","heap","other","lengths","place"]) (sc0:=defScope s_nearest) (own:=["there"]) (fr:=["fars","place"]) (js:=[0,4]) rfl (zbv (pv 2)) (λ _ _ _ _=>(zag (i:=0) (by show ubt [("there":Str),("fars":Str),("place":Str)];decide +kernel) rfl (uat rfl))) (λ _ _ _ _=>(zcr (zam ze6 (zar zek (zar zek (pv 1) (pv 2) (λ _ _=>rfl)) (pv 0) (λ _ _=>rfl)) zbc (nomark _)))) (λ _ _ _ _=>(zar zek (zar zek (pv 1) (pv 2) (λ _ _=>rfl)) (pv 0) (λ _ _=>rfl)))) zac))))) (zad (zaq (zsa rfl rfl T.z_min (zaa (pv 3) zac) (zr8 zbc ztg)))))),?_⟩
 refine⟨(by show 0<=1000;decide),λ ll J1 S1 f1 e1=>?_⟩
 refine⟨_,rfl,h,rfl,⟨_,SqT.of (S1 _ _ hh)⟩,?_⟩
 have fl:∀ i,(nearL M (hp.take i) ot).length<=576:=λ i=>by
  have h1:=zhi (f:=λ p=>ot.filterMap (M p)) (m:=24) (hp.take i) λ r _=>ua9 (ub7 _ _) l2
  have h2:(hp.take i).length<=24:=by rw[uc1];left
  have h3:=Nat.mul_le_mul_right 24 h2
  exact ua9 h1 h3
 refine zck (xs:=natV hp) (λ i σ J=>∃ y4:Option V,σ=[some (.ref l),some (.ref h),some (.ref o),some (.ref ll),y4]/\But ll J1 J/\J ll=some (.lst ((nearL M (hp.take i) ot).map V.int))) ⟨none,rfl,But.refl,e1⟩ (λ i σ J _ h=>?_) (λ i x σ J hx h=>?_) (λ σ J h=>?_)
 ·obtain⟨y4,rfl,bt,_⟩:=h
  exact SqT.of (bt _ _ (zaf hh f1) (S1 _ _ hh))
 ·obtain⟨y4,rfl,bt,hll⟩:=h
  have sm:Same H J:=λ c o' e=>bt _ _ (zaf e f1) (S1 _ _ e)
  obtain⟨p,hp',rfl⟩:=zbr hx
  have pn:=lh p (uao hp')
  have tn:nearL M (hp.take (i + 1)) ot=nearL M (hp.take i) ot++ot.filterMap (M p):=by
   unfold nearL
   rw[ubo,hp',ubp];simp
  have BJ:=B.same sm
  refine⟨_,rfl,.inl ⟨rfl,_,SqL.of hll⟩,_,rfl,o,rfl,⟨_,SqT.of (sm _ _ ho)⟩,?_⟩
  refine zi9 (sm _ _ ho) (λ σ'=>∃ y,σ'=[y,some (.ref l),some (.int (p:Int))]) (λ i=>(M p (ot.getD i 0)).map V.int) (by rw[zah];left) (by exact⟨none,rfl⟩) (λ i x σ' H' hx s2 sg C L hC hL=>?_) (λ L J4 hL S4 hH=>?_)
  ·obtain⟨y,rfl⟩:=sg
   obtain⟨r,hr',rfl⟩:=zbr hx
   have rn:=lo r (uao hr')
   have er:ot.getD i 0=r:=by rw[uaf,hr'];rfl
   rw[er] at hC hL
   have BH:=BJ.same s2
   obtain⟨ra,hra,hra2,hrow⟩:=BH.ix (i:=p) (by left)
   have at1:atI (as.map V.ref) (p:Int)=some (.ref ra):=zaw (ua0 _) (by rw[ua1];exact hra2)
   refine⟨_,rfl,_,rfl,l,_,_,_,rfl,rfl,SqL.of BH.top,at1,_,rfl,ra,_,_,_,rfl,rfl,SqL.of hrow,zdl rn,?_⟩
   cases e:M p r with
   | none =>
    rw[e] at hL
    exact⟨rfl,_,rfl,iteF (hL _ _ ⟨_,rfl⟩ (Same.refl _) rfl)⟩
   | some x =>
    rw[e] at hC
    refine⟨rfl,_,rfl,iteT ⟨_,rfl,_,rfl,l,_,_,_,rfl,rfl,SqL.of BH.top,at1,_,rfl,ra,_,_,_,rfl,rfl,SqL.of hrow,zdl rn,?_⟩⟩
    rw[e]
    exact hC _ _ _ ⟨_,rfl⟩ (Same.refl _) rfl
  have eL:(uag (natV ot).length).filterMap (λ i=>(M p (ot.getD i 0)).map V.int)=(ot.filterMap (M p)).map V.int:=by
   rw[zah,List.map_filterMap]
   have z:=congrArg (ug9 λ r=>(M p r).map V.int) (L3.zbg ot 0)
   rw[ue8] at z
   exact z
  rw[eL] at hH
  have f1':=fl (i + 1)
  rw[tn,uaj] at f1'
  refine⟨ll,L,_,_,rfl,rfl,S4 _ _ hll,hH,by rw[uae,uae];left,λ J5 b5 e5=>⟨_,rfl,λ c o' z e=>b5 _ _ z (S4 _ _ (bt _ _ z e)),?_⟩⟩
  rw[e5,tn,ua3]
 ·obtain⟨y4,rfl,bt,hll⟩:=h
  rw[zah,ubw] at hll
  have sm:Same H J:=λ c o' e=>bt _ _ (zaf e f1) (S1 _ _ e)
  have q1:=q J sm
  refine⟨_,rfl,ll,_,.non,rfl,rfl,hll,λ e=>?_,λ b h1 h2=>?_⟩
  ·unfold nearF at q1;rw[e] at q1;exact q1
  ·unfold nearF at q1;rw[zj9 h1 h2] at q1;exact q1
theorem iteTe {b:Bool} {A B:Prop} (e:b=true) (h:A):if b=true then A else B:=by rw[if_pos e];exact h
theorem iteFe {b:Bool} {A B:Prop} (e:b=false) (h:B):if b=true then A else B:=by rw[e];exact h
def gnO (g:Nat × List Nat->Nat × List Nat->Bool) (e e':Nat × List Nat):Option (Nat × Nat):=if (decide (e.1 < e'.1) && g e e')=true then some (e.1,e'.1) else none
def gnL (g:Nat × List Nat->Nat × List Nat->Bool) (l:List (Nat × List Nat)):List (Nat × Nat):=l.flatMap λ e=>l.filterMap (gnO g e)
theorem zlm {g:Nat × List Nat->Nat × List Nat->Bool} {e e':Nat × List Nat} (h:¬ e.1 < e'.1):gnO g e e'=none:=by
 unfold gnO
 rw[decide_eq_false h];rfl
theorem zhf {g:Nat × List Nat->Nat × List Nat->Bool} {e e':Nat × List Nat} {p:Nat × Nat} (h:gnO g e e'=some p):p=(e.1,e'.1):=by
 unfold gnO at h
 split at h
 ·exact (uau h).symm
 ·cases h
def up1 (a b:Nat × List Nat):Prop:=a.1 < b.1
theorem zln {g:Nat × List Nat->Nat × List Nat->Bool} {e:Nat × List Nat} {r:List (Nat × List Nat)} (h:(e::r).Pairwise up1):gnL g (e::r)=r.filterMap (gnO g e)++gnL g r:=by
 obtain⟨h1,h2⟩:=ucx.mp h
 unfold gnL
 rw[ufe,ucm,zlm (uck _)]
 show r.filterMap (gnO g e)++_=_
 congr 1
 unfold List.flatMap
 congr 1
 refine uby λ x hx=>?_
 have:e.1 < x.1:=h1 x hx
 rw[ucm,zlm (by left)]
theorem zhg {g:Nat × List Nat->Nat × List Nat->Bool}:∀ {l:List (Nat × List Nat)},l.Pairwise up1->2 * (gnL g l).length<=l.length * l.length
 | [],_=>ubb _
 | e::r,h=>by
  have ih:=zhg (g:=g) (ucx.mp h).2
  have:=ub7 (gnO g e) r
  have e:(r.length + 1) * (r.length + 1)=r.length * r.length + r.length + (r.length + 1):=by rw[Nat.add_mul,Nat.mul_add,Nat.one_mul,Nat.mul_one]
  rw[zln h,uaj,ubu,e]
  left
def pr2 (p:Nat × Nat):List Int:=[(p.1:Int),(p.2:Int)]
theorem zq5 {p q:Nat × Nat} (h:p.1 < q.1\/(p.1=q.1/\p.2 < q.2)):Srt.lexI (pr2 q) (pr2 p)=false:=by
 have:Srt.lexI (pr2 p) (pr2 q)=true:=by
  rcases h with z | ⟨z1,z2⟩
  ·show (if (p.1:Int)=(q.1:Int) then _ else decide ((p.1:Int) < (q.1:Int)))=true
   rw[if_neg (by left)]
   exact decide_eq_true (by left)
  ·show (if (p.1:Int)=(q.1:Int) then (if (p.2:Int)=(q.2:Int) then _ else decide ((p.2:Int) < (q.2:Int))) else _)=true
   rw[if_pos (by left),if_neg (by left)]
   exact decide_eq_true (by left)
 cases e:Srt.lexI (pr2 q) (pr2 p) with
 | false=>rfl
 | true =>
  have z:=Srt.zbs _ _ _ this e
  rw[Srt.zb4] at z;cases z
theorem zrg {g:Nat × List Nat->Nat × List Nat->Bool}:∀ {l:List (Nat × List Nat)},l.Pairwise up1->(gnL g l).Pairwise (λ p q=>p.1 < q.1\/(p.1=q.1/\p.2 < q.2))/\∀ p ∈ gnL g l,∃ e ∈ l,p.1=e.1
 | [],_=>⟨uex,λ p h=>by cases h⟩
 | e::r,h=>by
  obtain⟨h1,h2⟩:=ucx.mp h
  obtain⟨ih1,ih2⟩:=zrg (g:=g) h2
  rw[zln h]
  have fst:∀ p ∈ r.filterMap (gnO g e),p.1=e.1:=λ p hp=>by
   obtain⟨x,_,hx⟩:=ucy.mp hp
   rw[zhf hx]
  refine⟨uev.mpr ⟨?_,ih1,λ p hp q hq=>?_⟩,λ p hp=>?_⟩
  ·refine (List.Pairwise.filterMap (gnO g e) (S:=λ p q:Nat × Nat=>p.1 < q.1\/(p.1=q.1/\p.2 < q.2)) (λ a a' haa b hb b' hb'=>?_) h2)
   rw[zhf hb,zhf hb']
   exact .inr ⟨rfl,haa⟩
  ·obtain⟨x,hx,ex⟩:=ih2 q hq
   have:e.1 < x.1:=h1 x hx
   left
   rw[fst p hp,ex];exact this
  ·rcases uaz.mp hp with z | z
   ·exact⟨e,ual,fst p z⟩
   ·obtain⟨x,hx,ex⟩:=ih2 p z
    exact⟨x,uap _ hx,ex⟩
def gnB (A M:Nat->Nat->Option Int) (e e':Nat × List Nat):Bool:=match nearF A e.2 e'.2 with
 | none=>false
 | some x=>match nearF M e.2 e'.2 with
  | none=>true
  | some y=>decide (x < y)
def pr2D (p:Nat × Nat):PyData:=.tuple [.int (p.1:Int),.int (p.2:Int)]
def gainD (ps:List (Nat × Nat)):PyData:=.tuple (ps.map pr2D)
theorem zgr (ps:List (Nat × Nat)):tupAll (ps.map pr2D)=true:=by
 induction ps with
 | nil=>rfl
 | cons p r ih =>
  show (tupD (pr2D p) && tupAll (r.map pr2D))=true
  rw[ih];rfl
theorem pr2_is {K:uac} {H:Hp} {p:Nat × Nat} {v:V}:Is K H (pr2D p) v↔∃ a,v=.ref a/\H a=some (.tup ((pr2 p).map V.int)):=by
 constructor
 ·rintro ⟨a,vs,e,h,hv⟩
  rw[IsAll.of_ints (ns:=pr2 p) hv] at h
  exact⟨a,e,h⟩
 ·rintro ⟨a,e,h⟩
  exact⟨a,_,e,h,IsAll.ints (pr2 p)⟩
theorem zk7 {K:uac} {H:Hp}:∀ {ps:List (Nat × Nat)} {ys:List V},IsAll K H (ps.map pr2D) ys->Paired (λ (y:V) (k:List Int)=>∃ a,y=.ref a/\H a=some (.tup (k.map V.int))) ys (ps.map pr2)
 | [],_,h=>by cases h;exact .nil
 | p::r,_,⟨v,s,e,h1,h2⟩=>by subst e;exact .cons (pr2_is.mp h1) (zk7 h2)
theorem zgh {α β:Type} {R:α->β->Prop}:∀ {xs:List α} {ys:List β},Paired R xs ys->∀ {x:α} {y:β},(x,y) ∈ xs.zip ys->R x y
 | _,_,.nil,x,y,h=>by cases h
 | _,_,.cons r rs,x,y,h=>by
  rcases uar.mp h with e | e
  ·cases e;exact r
  ·exact zgh rs e
noncomputable def gnF (ts:List Tie) (ks:List Nat) (l:List (Nat × List Nat)) (ws:List Nat):List (Nat × Nat):=gnL (gnB (alM ws) (dstF ts ks)) l
def GdsP (n:Int) (l:List (Nat × List Nat)):Prop:=l.Pairwise up1/\l.length<=24/\∀ e ∈ l,e.1 < n.toNat/\e.2.length<=24/\∀ p ∈ e.2,p < n.toNat
inductive spGB_i (K:uac) (vs:List V) (H:Hp) (Q:VK):Prop
 | mk:∀ (n:Int) (ts:List Tie) (ks:List Nat) (wv kv gv:V) (l:List (Nat × List Nat)) (t:Addr) (ws:List Nat),(vs=[wv,kv,gv,.ref t])->(WK K H n (ones ts) ks wv kv)->(WebOk n ts)->(Is K H (grdD l) gv)->(GdsP n l)->(H t=some (.tup (natV ws)))->(ws.Nodup)->((∀ x ∈ ws,x < n.toNat))->(∀ v H',Same H H'->Is K H' (gainD (gnF ts ks l ws)) v->Q v H')->spGB_i K vs H Q
def spGB (K:uac):Sp:=λ vs H Q _=>spGB_i K vs H Q
theorem ziu (T:Bi mg) (D:DefOk K mg "gained_by" s_gained_by ["web","keep","guards","way"]) (O_fars_along:Ok P w K mg base 3 "fars_along" ["web","way"] (spFA K)) (O_fars_from:Ok P w K mg base 3 "fars_from" ["web","keep","root"] (spFars K)) (O_nearest:Ok P w K mg base 3 "nearest" ["fars","heap","other"] spNear):Ok P w K mg base 4 "gained_by" ["web","keep","guards","way"] (spGB K):=by
 refine zbd (k:=3) D sc_gained_by (λ vs H Q E h=>?_) (λ f cdv A outer s H vs Q E hr h=>?_)
 ·obtain⟨n,ts,ks,wv,kv,gv,l,t,ws,rfl,_⟩:=h
  rfl
 obtain⟨n,ts,ks,wv,kv,gv,l,t,ws,rfl,wk,ok,isg,⟨gup,gl,ge⟩,ht,nd',lt,q⟩:=h
 have nd:=sc_gained_by.nd
 have n1:=ok.n1
 have n24:=ok.n24
 have ko:KeepOk ts.length ks:=by have:=wk.2.2.2;rw[zax] at this;exact this
 refine⟨_,(zab (zan (i:=4) nd rfl (uat rfl) (zaj O_fars_along hr rfl (zaa (pv 0) (zaa (pv 3) zac)))) (zab (zb6 (i:=5) (N:=["web","keep","guards","way","along","ahead","gained","guard","heap","other","places","now","before"]) (sc0:=defScope s_gained_by) (own:=["place"]) (fr:=["web","keep"]) (js:=[0,1]) rfl (zbi rfl T.z_range (zaa (zar za5 (pv 0) zae (λ _ _=>rfl)) zac)) (λ _ _ _ _=>(zag (i:=0) (by show ubt [("place":Str),("web":Str),("keep":Str)];decide +kernel) rfl (uat rfl))) (λ _ _ _ _=>zcg) (λ _ _ _ _=>(zaj O_fars_from hr rfl (zaa (pv 1) (zaa (pv 2) (zaa (pv 0) zac))))) nd rfl (uat rfl)) (zab (zan (i:=6) nd rfl (uat rfl) (za0 zac)) (zab (za4 PassesOwn.never rfl (zbv (pv 2)) (zbl (n:=2) rfl (zak (zag (i:=7) nd rfl (uat rfl)) (zak (zag (i:=8) nd rfl (uat rfl)) za2))) (zad (za4 PassesOwn.never rfl (zbv (pv 2)) (zbl (n:=2) rfl (zak (zag (i:=9) nd rfl (uat rfl)) (zak (zag (i:=10) nd rfl (uat rfl)) za2))) (zab (zan (i:=11) nd rfl (uat rfl) (zaj O_nearest hr rfl (zaa (pv 4) (zaa (pv 8) (zaa (pv 10) zac))))) (zab (zbf (PW.pt (zc7 (zam ztm (pv 7) (pv 9) (nomark _)) (zb5 (zam zc8 (pv 11) zbc (nomark _))))) (zad zex) zat) (zab (zan (i:=12) nd rfl (uat rfl) (zaj O_nearest hr rfl (zaa (pv 5) (zaa (pv 8) (zaa (pv 10) zac))))) (zad (zbf (PW.pt (zc7 (zam zc8 (pv 12) zbc (nomark _)) (zb5 (zam zjz (pv 11) (pv 12) (nomark _))))) (zad (za9 (zb2 uax ua8 ua7 zb8 (pv 6) (zaa (zbk (zaa (pv 7) (zaa (pv 9) zac))) zac)))) zat)))))))) (zad (zaq (zas za7 rfl T.z_tuple (by symm) (zaa (zao zhq rfl T.z_sorted (by symm) (zaa (pv 6) zac)) zac)))))))),?_⟩
 refine⟨_,rfl,_,rfl,n,ones ts,wv,t,ws,rfl,wk.1,wk.2.1,ht,nd',lt,λ la as1 J1 S1 f1 l1 B1=>?_⟩
 obtain⟨g0,gg,wz,rfl,hg0,hg,hall,hlw⟩:=za3 wk.1
 refine⟨_,rfl,g0,_,_,_,rfl,rfl,SqT.of (S1 _ _ hg0),rfl,n,rfl,by left,by left,?_⟩
 refine zd0 (n:=n.toNat) (lo:=0) (rowM n (dstF ts ks)) (λ σ'=>∃ o,σ'=[o,some (.ref g0),some kv]) (by left) (by exact⟨none,rfl⟩) (λ i σ' H' hi s6 sg C hC=>?_) (λ lb as2 J2 hL S2 hH las ndA noA new=>?_)
 ·obtain⟨o,rfl⟩:=sg
  refine⟨_,rfl,_,rfl,_,rfl,n,ones ts,ks,_,kv,0 + (i:Int),rfl,wk.same (S1.trans s6),by left,by left,λ ln D1 J3 S3 f3 e3 lD1 hD1=>?_⟩
  rw[show (0 + (i:Int)).toNat=i by left] at hD1
  have ed:=zkh ko lD1 hD1
  subst ed
  exact hC _ _ _ ⟨_,rfl⟩ S3 f3 e3
 have B2:Bes J2 lb as2 (rowM n (dstF ts ks)):=Bes.newF hH ndA noA λ i a ha=>(new i a ha).2
 have S02:=S1.trans S2
 refine⟨(by show 0<=1000;decide),λ lg J3 S3 f3 e3=>?_⟩
 have S03:=S02.trans S3
 have fg:H lg=none:=S02.free f3
 obtain⟨tg,xs,rfl,htg,hxs⟩:=isg
 have lx:xs.length=l.length:=by rw[hxs.length,uae]
 have B13:=(B1.same S2).same S3
 have B23:=B2.same S3
 obtain⟨gB,egB⟩:∃ gB,gB=gnB (alM ws) (dstF ts ks):=⟨_,rfl⟩
 have few:2 * (gnL gB l).length<=576:=ua9 (zhg gup) (uhf gl gl)
 have item:∀ {i:Nat} {x:V},xs[i]?=some x->∃ (e:Nat × List Nat) (tt tp:Addr),l[i]?=some e/\x=.ref tt/\H tt=some (.tup [.int (e.1:Int),.ref tp])/\H tp=some (.tup (natV e.2)):=λ {i x} hx=>by
  have hi:i < l.length:=by have:=(uan.mp hx).1;left
  have el:l[i]?=some l[i]:=uad hi
  obtain⟨x',ex,ix⟩:=hxs.at_ (show (l.map pairD)[i]?=some (pairD l[i]) by rw[uaq,el];rfl)
  rw[hx] at ex
  cases ex
  obtain⟨tt,tp,rfl,htt,htp⟩:=zby ix
  exact⟨l[i],tt,tp,el,rfl,htt,htp⟩
 refine⟨_,rfl,tg,rfl,⟨_,SqT.of (S03 _ _ htg)⟩,?_⟩
 refine zck (xs:=xs) (λ i σ J=>∃ (y7 y8 y9 y10 y11 y12:Option V) (ys:List V),σ=[some (.ref g0),some kv,some (.ref tg),some (.ref t),some (.ref la),some (.ref lb),some (.ref lg),y7,y8,y9,y10,y11,y12]/\But lg J3 J/\J lg=some (.lst ys)/\IsAll K J (((l.take i).flatMap λ e=>l.filterMap (gnO gB e)).map pr2D) ys) ⟨none,none,none,none,none,none,[],rfl,But.refl,e3,rfl⟩ (λ i σ J _ h=>?_) (λ i x σ J hx h=>?_) (λ σ J h=>?_)
 ·obtain⟨y7,y8,y9,y10,y11,y12,ys,rfl,bt,_⟩:=h
  exact SqT.of (bt _ _ (zaf htg fg) (S03 _ _ htg))
 ·obtain⟨y7,y8,y9,y10,y11,y12,ys,rfl,bt,hlg,hys⟩:=h
  obtain⟨e,tt,tp,el,rfl,htt,htp⟩:=item hx
  obtain⟨e1,e2,e4⟩:=ge e (uao el)
  have sm:Same H J:=λ c o' e=>bt _ _ (zaf e fg) (S03 _ _ e)
  have tn:((l.take (i + 1)).flatMap λ e=>l.filterMap (gnO gB e))=((l.take i).flatMap λ e=>l.filterMap (gnO gB e))++l.filterMap (gnO gB e):=by
   rw[ubo,el,ubp];simp
  have lel:(((l.take (i + 1)).flatMap λ e=>l.filterMap (gnO gB e))).length<=(gnL gB l).length:=by
   unfold gnL
   conv=>rhs;rw[← uca (i + 1) l,ubp,uaj]
   simp
  rw[tn,uaj] at lel
  refine⟨tt,_,rfl,SqT.of (sm _ _ htt),rfl,_,_,rfl,_,_,rfl,rfl,?_⟩
  refine⟨_,rfl,tg,rfl,⟨_,SqT.of (sm _ _ htg)⟩,?_⟩
  refine zck (xs:=xs) (λ j σ J'=>∃ (y9 y10 y11 y12:Option V) (ys:List V),σ=[some (.ref g0),some kv,some (.ref tg),some (.ref t),some (.ref la),some (.ref lb),some (.ref lg),some (.int (e.1:Int)),some (.ref tp),y9,y10,y11,y12]/\But lg J3 J'/\J' lg=some (.lst ys)/\IsAll K J' ((((l.take i).flatMap λ e=>l.filterMap (gnO gB e))++(l.take j).filterMap (gnO gB e)).map pr2D) ys) ⟨_,_,_,_,ys,rfl,bt,hlg,by rw[ug8,List.filterMap_nil,ub1];exact hys⟩ (λ j σ J' _ h=>?_) (λ j x σ J' hx2 h=>?_) (λ σ J' h=>?_)
  ·obtain⟨y9,y10,y11,y12,ys,rfl,bt',_⟩:=h
   exact SqT.of (bt' _ _ (zaf htg fg) (S03 _ _ htg))
  ·obtain⟨y9,y10,y11,y12,ys,rfl,bt',hlg',hys'⟩:=h
   obtain⟨e',tt',tp',el',rfl,htt',htp'⟩:=item hx2
   obtain⟨e1',e2',e4'⟩:=ge e' (uao el')
   have sm':Same H J':=λ c o' e=>bt' _ _ (zaf e fg) (S03 _ _ e)
   have tn':(l.take (j + 1)).filterMap (gnO gB e)=(l.take j).filterMap (gnO gB e)++(gnO gB e e').toList:=by
    rw[ubo,el',uco]
    show _++[e'].filterMap (gnO gB e)=_
    congr 1
   have lel':((l.take (j + 1)).filterMap (gnO gB e)).length<=(l.filterMap (gnO gB e)).length:=by
    conv=>rhs;rw[← uca (j + 1) l,uco,uaj]
    left
   have nla:la≠lg:=λ z=>by have:=(B1.same S2).top;rw[z,f3] at this;cases this
   have BA:Bes J' la as1 (rowM n (alM ws)):=⟨bt' _ _ nla B13.top,B13.nd,B13.own,λ i a ha=>bt' _ _ (λ z=>by have:=(B1.same S2).row i a ha;rw[z,f3] at this;cases this) (B13.row i a ha)⟩
   have BB:Bes J' lb as2 (rowM n (dstF ts ks)):=⟨bt' _ _ (λ z=>by have:=B2.top;rw[z,f3] at this;cases this) B23.top,B23.nd,B23.own,λ i a ha=>bt' _ _ (λ z=>by have:=B2.row i a ha;rw[z,f3] at this;cases this) (B23.row i a ha)⟩
   refine⟨tt',_,rfl,SqT.of (sm' _ _ htt'),rfl,_,_,rfl,_,_,rfl,rfl,?_⟩
   refine⟨_,rfl,_,rfl,_,rfl,n,la,tp,tp',as1,alM ws,e.2,e'.2,rfl,BA,l1,n24,sm' _ _ htp,sm' _ _ htp',e4,e4',e2,e2',λ J4 S4=>?_⟩
   have stay:∀ J5:Hp,Same J' J5->gnO gB e e'=none->∃ (y9 y10 y11 y12:Option V) (ys:List V),But lg J3 J5/\J5 lg=some (.lst ys)/\IsAll K J5 ((((l.take i).flatMap λ e=>l.filterMap (gnO gB e))++(l.take (j + 1)).filterMap (gnO gB e)).map pr2D) ys:=λ J5 S5 en=>by
    refine⟨none,none,none,none,ys,λ b o z e=>S5 _ _ (bt' _ _ z e),S5 _ _ hlg',?_⟩
    rw[tn',en]
    show IsAll K J5 ((_++(_++[])).map pr2D) ys
    rw[ub1]
    exact IsAll.same S5 _ hys'
   refine⟨_,rfl,_,rfl,_,_,rfl,rfl,_,rfl,?_⟩
   by_cases lt':e.1 < e'.1
   case neg =>
    rw[decide_eq_true (show (e.1:Int) ≥ (e'.1:Int) by left)]
    refine iteT ?_
    obtain⟨_,_,_,_,ys2,h1,h2,h3⟩:=stay J4 S4 (zlm lt')
    exact⟨_,_,_,_,ys2,rfl,h1,h2,h3⟩
   rw[decide_eq_false (show ¬ (e.1:Int) ≥ (e'.1:Int) by left)]
   refine iteF ⟨_,rfl,?_⟩
   have egO:gnO gB e e'=if gB e e'=true then some (e.1,e'.1) else none:=by unfold gnO;rw[decide_eq_true lt',ue0]
   cases en:nearF (alM ws) e.2 e'.2 with
   | none =>
    refine⟨rfl,_,rfl,iteT ?_⟩
    obtain⟨_,_,_,_,ys2,h1,h2,h3⟩:=stay J4 S4 (by rw[egO,egB];unfold gnB;rw[en];rfl)
    exact⟨_,_,_,_,ys2,rfl,h1,h2,h3⟩
   | some x =>
    refine⟨rfl,_,rfl,iteF ?_⟩
    refine⟨_,rfl,_,rfl,_,rfl,n,lb,tp,tp',as2,dstF ts ks,e.2,e'.2,rfl,BB.same S4,las,n24,S4 _ _ (sm' _ _ htp),S4 _ _ (sm' _ _ htp'),e4,e4',e2,e2',λ J5 S5=>?_⟩
    have S45:=S4.trans S5
    obtain⟨vb,evb⟩:∃ vb,vb=ov (nearF (dstF ts ks) e.2 e'.2):=⟨_,rfl⟩
    rw[← evb]
    apply brT (A:=gnO gB e e'=some (e.1,e'.1))
    case main =>
     intro tail
     cases en2:nearF (dstF ts ks) e.2 e'.2 with
     | none =>
      rw[en2] at evb
      refine⟨_,rfl,rfl,_,rfl,iteTe (by rw[evb];rfl) ?_⟩
      exact tail (by rw[egO,egB];unfold gnB;rw[en,en2];rfl)
     | some y =>
      rw[en2] at evb
      refine⟨_,rfl,rfl,_,rfl,iteFe (by rw[evb];rfl) ⟨_,rfl,_,rfl,x,y,rfl,evb,_,rfl,?_⟩⟩
      by_cases xy:x < y
      ·rw[decide_eq_true xy]
       exact iteT (tail (by rw[egO,egB];unfold gnB;rw[en,en2];exact if_pos (decide_eq_true xy)))
      ·rw[decide_eq_false xy]
       refine iteF ?_
       obtain⟨_,_,_,_,ys2,h1,h2,h3⟩:=stay J5 S45 (by rw[egO,egB];unfold gnB;rw[en,en2];exact if_neg (by rw[decide_eq_true_iff];exact xy))
       exact⟨_,_,_,_,ys2,rfl,h1,h2,h3⟩
    case tail =>
     intro eg
     have hlg5:=S45 _ _ hlg'
     rw[tn',eg] at lel'
     rw[uaj] at lel'
     have lys:ys.length=((l.take i).flatMap λ e=>l.filterMap (gnO gB e)).length + ((l.take j).filterMap (gnO gB e)).length:=by rw[hys'.length,uae,uaj]
     have one:(some (e.1,e'.1):Option (Nat × Nat)).toList.length=1:=rfl
     refine⟨_,rfl,.inl ⟨rfl,_,SqL.of hlg5⟩,_,rfl,_,rfl,(by show 2<=1000;decide),λ c J6 S6 f6 e6=>?_⟩
     have hlg6:=S6 _ _ hlg5
     refine⟨lg,_,_,rfl,rfl,hlg6,by left,λ J7 b7 e7=>?_⟩
     have tk7:TupKeep J6 J7:=λ b us e=>b7 _ _ (λ z=>by rw[z,hlg6] at e;cases e) e
     refine⟨_,_,_,_,ys++[.ref c],rfl,λ b o z e=>b7 _ _ z (S6 _ _ (S45 _ _ (bt' _ _ z e))),e7,?_⟩
     rw[tn',eg]
     show IsAll K J7 ((_++(_++[(e.1,e'.1)])).map pr2D) _
     rw[← uce,ua3]
     refine IsAll.snoc (d:=pr2D (e.1,e'.1)) ⟨c,_,rfl,tk7 _ _ e6,IsAll.ints [(e.1:Int),(e'.1:Int)]⟩ ?_
     exact IsAll.but b7 hlg6 _ (zgr _) (IsAll.same (S45.trans S6) _ hys')
  ·obtain⟨y9,y10,y11,y12,ys,rfl,bt',hlg',hys'⟩:=h
   rw[lx,ubw] at hys'
   exact⟨_,_,_,_,_,_,ys,rfl,bt',hlg',by rw[tn];exact hys'⟩
 ·obtain⟨y7,y8,y9,y10,y11,y12,ys,rfl,bt,hlg,hys⟩:=h
  rw[lx,ubw] at hys
  have sm:Same H J:=λ c o' e=>bt _ _ (zaf e fg) (S03 _ _ e)
  have hys:IsAll K J ((gnL gB l).map pr2D) ys:=hys
  have lys:ys.length=(gnL gB l).length:=by rw[hys.length,uae]
  have pr:=zk7 hys
  have up:=(zrg (g:=gB) gup).1
  have asc:∀ i j,i<=j->j < ys.length->Srt.lexI (((gnL gB l).map pr2).getD j []) (((gnL gB l).map pr2).getD i [])=false:=λ i j hij hj=>by
   have hj':j < (gnL gB l).length:=by left
   have hi':i < (gnL gB l).length:=by left
   rw[uaf,uaf,uaq,uaq,uad hj',uad hi']
   by_cases e:i=j
   ·subst e;exact Srt.zb4 _
   ·exact zq5 (ubh.mp up i j hi' hj' (by left))
  refine⟨_,rfl,lg,ys,(gnL gB l).map pr2,rfl,hlg,by left,asc,pr,λ k hk=>by obtain⟨p,_,rfl⟩:=ubj.mp hk;simp [pr2],λ qs pq wq ls J4 S4 f4 e4=>?_⟩
  refine⟨ls,_,rfl,e4,λ tz J5 S5 f5 e5=>?_⟩
  have zs:qs.map (·.2)=(gnL gB l).map pr2:=by
   refine ugk (le:=λ a b=>Srt.lexI b a=false) (λ a b _ _ h1 h2=>Srt.zlh _ _ h2 h1) ?_ ?_ ?_
   ·exact uey _ (λ _ _ h=>h) wq
   ·exact uey _ (λ _ _ h=>zq5 h) up
   ·have:=pq.map (·.2)
    rw[ufr (by rw[uae,lys];exact uai _)] at this
    exact this
  refine q _ J5 (sm.trans (S4.trans S5)) ⟨tz,_,rfl,e5,?_⟩
  have egn:gnF ts ks l ws=gnL gB l:=by rw[egB];rfl
  rw[egn]
  have lq:qs.length=(gnL gB l).length:=by have:=congrArg List.length zs;rw[uae,uae] at this;exact this
  refine IsAll.of (by rw[uae,uae,lq]) λ i d v hd hv=>?_
  rw[uaq] at hd hv
  obtain⟨p,hp,rfl⟩:=uei.mp hd
  obtain⟨qq,hqq,rfl⟩:=uei.mp hv
  have ek:qq.2=pr2 p:=by
   have:=congrArg (λ l=>l[i]?) zs
   simp only [uaq,hp,hqq,uez,Option.some.injEq] at this
   exact this
  have mz:=pq.mem_iff.mp (uao hqq)
  obtain⟨a,e1,e2⟩:=zgh pr mz
  rw[ek] at e2
  exact pr2_is.mpr ⟨a,e1,(S4.trans S5) _ _ e2⟩
theorem zmx {T:List Tie} {ws:List Nat} {v:Nat}:∀ k ∈ alongN T ws,k ∈ alongN T (ws++[v]):=λ k hk=>by
 unfold alongN at hk ⊢
 obtain⟨i,hi,rfl⟩:=ubj.mp hk
 have hi':=uav.mp hi
 refine ubj.mpr ⟨i,uav.mpr (by rw[uaj,ubs];left),?_⟩
 rw[uaf,uaf,uci (by left),uci (by left),← uaf,← uaf]
theorem zmy {T:List Tie} {r:List Nat} {u v:Nat}:(tbN T u v).getD 0 ∈ alongN T (r++[u]++[v]):=by
 unfold alongN
 refine ubj.mpr ⟨r.length,uav.mpr (by simp),?_⟩
 have e1:(r++[u]++[v]).getD r.length 0=u:=by simp [uaf]
 have e2:(r++[u]++[v]).getD (r.length + 1) 0=v:=by simp [uaf]
 rw[e1,e2]
theorem zjv {n:Int} {T:List Tie} {ks':List Nat} (ok:WebOk n T) {a b:Nat} {ws:List Nat} {x:Int} (tr:Far.Tr (arcs T (uag T.length)) a ws b x):(∀ k ∈ alongN T ws,k ∈ ks')->Far.Walk (arcs T ks') a b x:=by
 induction tr with
 | one=>exact λ _=>Far.Walk.nil
 | snoc t m ih =>
  intro h
  obtain⟨r,er⟩:=zm5 t
  subst er
  refine Far.Walk.snoc (ih λ k hk=>h k (zmx k hk)) ?_
  rw[← zc5] at m
  obtain⟨k,mk⟩:=Far.arcsF_mem.mp m
  have ek:=zrx ok (za8 T) mk
  have kin:=h _ zmy
  rw[ek] at kin
  have kin:k ∈ ks':=kin
  obtain⟨j,hj,z⟩:=arcsB_mem.mp mk
  have ej:j=k:=by rcases arcs2B_mem.mp z with z | z <;> (cases z;rfl)
  rw[← zc5]
  exact Far.arcsF_mem.mpr ⟨k,arcsB_mem.mpr ⟨j,by rw[ej];exact kin,z⟩⟩
theorem zqz {T:List Tie} {ws:List Nat} (nd:ws.Nodup) (ln:linked T ws):(alongN T ws).Nodup:=by
 refine ubh.mpr λ i j hi hj lt=>?_
 rw[zb1] at hi hj
 have g:∀ k (h:k < ws.length),ws[k]?=some ws[k]:=λ k h=>uad h
 obtain⟨k1,e1,_⟩:=zca ln (g i (by left)) (g (i + 1) (by left))
 obtain⟨k2,e2,_⟩:=zca ln (g j (by left)) (g (j + 1) (by left))
 have a1:=zib (g i (by left)) (g (i + 1) (by left)) e1
 have a2:=zib (g j (by left)) (g (j + 1) (by left)) e2
 intro e
 rw[uad (by rw[zb1];left)] at a1 a2
 have ek:k1=k2:=by rw[← uau a1,← uau a2];exact e
 rw[ek] at e1
 obtain⟨m1,m2⟩:=zgt e1
 obtain⟨m3,m4⟩:=zgt e2
 have ne:∀ p q (hp:p < ws.length) (hq:q < ws.length),p < q->ws[p]≠ws[q]:=λ p q hp hq h=>ubh.mp nd p q hp hq h
 have n1:=ne i j (by left) (by left) lt
 have n2:=ne i (j + 1) (by left) (by left) (by left)
 left
theorem zqh {ts:List Tie} {ks ks':List Nat} (ko:KeepOk ts.length ks) (ko':KeepOk ts.length ks') (h:∀ k ∈ ks,k ∈ ks') {u v:Nat} {y:Int} (e:dstF ts ks u v=some y):∃ z,dstF ts ks' u v=some z/\z<=y:=by
 have w:=(zeo ko u v).1 y e
 have go:∀ {v:Nat} {x:Int},Far.Walk (arcs (ones ts) ks) u v x->Far.Walk (arcs (ones ts) ks') u v x:=λ {v x} hw=>by
  induction hw with
  | nil=>exact Far.Walk.nil
  | snoc _ m ih =>
   obtain⟨k,hk,mk⟩:=arcs_mem.mp m
   exact Far.Walk.snoc ih (arcs_mem.mpr ⟨k,h k hk,mk⟩)
 exact (zeo ko' u v).2 y (go w)
theorem zoo {n:Int} {ts:List Tie} {ks ks':List Nat} (ko:KeepOk ts.length ks) (ko':KeepOk ts.length ks') (h:∀ k ∈ ks,k ∈ ks') {u v v':Nat} (e:fwF n ts ks u=some v) {x y:Int} (nx:dstF ts (uag ts.length) u v=some x) (hy:dstF ts ks' u v=some y) (le:y<=x) (e':fwF n ts ks' u=some v'):v < v':=by
 refine Classical.byContradiction λ c=>?_
 have b':fwB ts ks' u v'=true:=udu e'
 have no:fwB ts ks' u v'=false:=by
  unfold fwB
  by_cases uv:u < v'
  ·rw[decide_eq_true uv,ue0]
   by_cases ev:v'=v
   ·rw[ev,nx,hy]
    exact decide_eq_false (by left)
   ·have lt:v' < v:=by left
    have bf:fwB ts ks u v'=false:=by
     have:=(uep.mp e).2
     obtain⟨i,hi,gi,al⟩:=this
     rw[udp] at gi
     subst gi
     have z:=al v' lt
     rw[udp] at z
     simpa using z
    unfold fwB at bf
    rw[decide_eq_true uv,ue0] at bf
    cases en:dstF ts (uag ts.length) u v' with
    | none=>rfl
    | some a =>
     rw[en] at bf
     cases ek:dstF ts ks u v' with
     | none=>rw[ek] at bf;cases bf
     | some b =>
      rw[ek] at bf
      obtain⟨z,ez,lz⟩:=zqh ko ko' h ek
      rw[ez]
      have:decide (b - a > 6)=false:=bf
      have:=of_decide_eq_false this
      exact decide_eq_false (by left)
  ·rw[decide_eq_false uv];rfl
 rw[no] at b';cases b'
theorem zs9 {N:Nat->List Nat} {d:Int} (hN:∀ p,(N p).Nodup):∀ p,(swG N d p).1.Pairwise up1
 | 0=>uex
 | p + 1=>by
  have ih:=zs9 (d:=d) hN p
  have g:=zii (d:=d) hN p
  show (stepG N d (swG N d p) p).1.Pairwise up1
  unfold stepG
  split
  ·refine uev.mpr ⟨ih,ufl _ _,λ a ha b hb=>?_⟩
   rw[uam.mp hb]
   exact g.low a ha
  ·exact ih
theorem zff {n:Int} {ts:List Tie} (p:Nat):(nbW n ts p).Nodup:=zfg p
theorem zrh {n:Int} {ts:List Tie} {d:Int} (ok:WebOk n ts) (n9:n<=24):GdsW n (ones ts) (swG (nbW n ts) d n.toNat).1/\GdsP n (swG (nbW n ts) d n.toNat).1:=by
 have g:=zii (d:=d) (zff (n:=n) (ts:=ts)) n.toNat
 obtain⟨f1,f2⟩:=zom g
 rw[← g.all] at f2
 have sub:∀ e ∈ (swG (nbW n ts) d n.toNat).1,∀ p ∈ e.2,p < n.toNat/\∃ k,tbN (ones ts) e.1 p=some k/\k < (ones ts).length:=λ e he p hp=>by
  have m:=(g.sub e he).subset hp
  refine⟨zrc _ _ m,?_⟩
  have a:=(zn3 (zdo ok) (za8 (ones ts))).mp m
  have z:=(zcx (ts:=ones ts) (za8 (ones ts)) (l:=1)).mpr ⟨rfl,a⟩
  rw[ze7] at z
  obtain⟨k,ek,hk,_⟩:=zq2 (zdo ok) (za8 (ones ts)) z
  exact⟨k,ek,hk⟩
 refine⟨⟨by left,by left,λ e he=>⟨g.low e he,sub e he⟩⟩,zs9 zff _,by left,λ e he=>⟨g.low e he,?_,λ p hp=>(sub e he p hp).1⟩⟩
 have h1:=(g.sub e he).length_le
 have h2:=zj6 (n:=n) (ts:=ones ts) (ks:=uag (ones ts).length) e.1
 have h3:(nbW n ts e.1).length<=n.toNat:=h2
 left
theorem zt8 {n:Int} {T:List Tie} {ks:List Nat} (ok:WebOk n T) (ko:KeepOk T.length ks) {a b:Nat} (ha:a < n.toNat) {ws:List Nat} {x:Int} (tr:Far.Tr (arcs T ks) a ws b x):∀ y ∈ ws,y < n.toNat:=by
 induction tr with
 | one=>intro y hy;rw[uam.mp hy];exact ha
 | snoc t m ih =>
  intro y hy
  rcases uaz.mp hy with z | z
  ·exact ih y z
  ·rw[uam.mp z];exact (zo9 ok ko _ _ _ m).2
abbrev St6:=List Nat × List (Nat × Nat × Nat × List (Nat × Nat))
def rowSD (r:Nat × Nat × Nat × List (Nat × Nat)):PyData:=.tuple [.int (r.1:Int),.int (r.2.1:Int),.int (r.2.2.1:Int),gainD r.2.2.2]
theorem zku (rs:List (Nat × Nat × Nat × List (Nat × Nat))):tupAll (rs.map rowSD)=true:=by
 induction rs with
 | nil=>rfl
 | cons r rs ih =>
  show (tupD (rowSD r) && tupAll (rs.map rowSD))=true
  rw[ih,ue1]
  show (true && (true && (true && (tupAll (r.2.2.2.map pr2D) && true))))=true
  rw[zgr];rfl
noncomputable def wyW (ts:List Tie) (u v:Nat):List Nat:=(wyN (ones ts) u v).getD []
noncomputable def addK (ts:List Tie) (ks ws:List Nat):List Nat:=(uag ts.length).filter λ k=>decide (k ∈ ks) || decide (k ∈ alongN (ones ts) ws)
noncomputable def boK (ts:List Tie) (ks ws:List Nat):List Nat:=(alongN (ones ts) ws).filter λ k=>!decide (k ∈ ks)
noncomputable def stS (ts:List Tie) (l:List (Nat × List Nat)) (u v:Nat) (s:St6):St6:=(addK ts s.1 (wyW ts u v),s.2++[(u,v,(boK ts s.1 (wyW ts u v)).length,gnF ts s.1 l (wyW ts u v))])
noncomputable def inS (n:Int) (ts:List Tie) (l:List (Nat × List Nat)) (u:Nat):Nat->St6->St6
 | 0,s=>s
 | f + 1,s=>match fwF n ts s.1 u with
  | none=>s
  | some v=>inS n ts l u f (stS ts l u v s)
theorem zem {n:Int} {ts:List Tie} {l:List (Nat × List Nat)} {u:Nat} {s:St6} (e:fwF n ts s.1 u=none):∀ f,inS n ts l u f s=s
 | 0=>rfl
 | f + 1=>by unfold inS;rw[e]
theorem zel {n:Int} {ts:List Tie} {l:List (Nat × List Nat)} {u v f:Nat} {s:St6} (e:fwF n ts s.1 u=some v):inS n ts l u (f + 1) s=inS n ts l u f (stS ts l u v s):=by conv=>lhs;unfold inS;rw[e]
noncomputable def sixS (n:Int) (ts:List Tie) (l:List (Nat × List Nat)):Nat->St6
 | 0=>(kfK (ones ts) l,[])
 | u + 1=>inS n ts l u (n.toNat + 1) (sixS n ts l u)
theorem zdc (ts:List Tie) (ks ws:List Nat):KeepOk ts.length (addK ts ks ws):=⟨ufd _ ubz,λ k hk=>uav.mp (ubr.mp hk).1⟩
theorem zcn {ts:List Tie} {ks ws:List Nat} (ko:KeepOk ts.length ks) (ln:linked (ones ts) ws) {k:Nat}:k ∈ addK ts ks ws↔k ∈ ks\/k ∈ alongN (ones ts) ws:=by
 unfold addK
 rw[ubr,uav,ude,decide_eq_true_iff,decide_eq_true_iff]
 refine⟨λ h=>h.2,λ h=>⟨?_,h⟩⟩
 rcases h with z | z
 ·exact ko.2 k z
 ·have:=zqy ln k z;rw[zax] at this;exact this
theorem zpc {ts:List Tie} {ks ws:List Nat} (ko:KeepOk ts.length ks) (nd:ws.Nodup) (ln:linked (ones ts) ws):(addK ts ks ws).Perm (ks++boK ts ks ws):=by
 refine (ug2 ?_ ?_).mpr λ k=>?_
 ·exact ug5 (λ h=>uaw h) (zdc ts ks ws).1
 ·refine ucd.mpr ⟨ug5 (λ h=>uaw h) ko.1,ubt.sublist udi (zqz nd ln),λ a ha b hb e=>?_⟩
  have:=(ubr.mp hb).2
  rw[← e] at this
  simp [ha] at this
 ·rw[zcn ko ln,uaz]
  unfold boK
  rw[ubr]
  constructor
  ·rintro (z | z)
   ·exact .inl z
   ·by_cases c:k ∈ ks
    ·exact .inl c
    ·exact .inr ⟨z,by simp [c]⟩
  ·rintro (z | z)
   ·exact .inl z
   ·exact .inr z.1
def sixD (s:St6):PyData:=.tuple [keepD s.1,.tuple (s.2.map rowSD)]
def SixFew (s:St6):Prop:=s.1.length<=60/\s.2.length<=1000/\∀ r ∈ s.2,r.2.2.2.length<=1000
theorem zrf {ts:List Tie} {ks ws:List Nat} {l:List (Nat × List Nat)} (up:l.Pairwise up1) (h:l.length<=24):(gnF ts ks l ws).length<=1000:=by
 have h1:2 * (gnF ts ks l ws).length<=l.length * l.length:=zhg up
 have h2:=uhf h h
 left
def RowsFew (s:St6):Prop:=∀ r ∈ s.2,r.2.2.2.length<=1000
theorem zoj {n:Int} {ts:List Tie} {l:List (Nat × List Nat)} {u:Nat} (up:l.Pairwise up1) (h:l.length<=24):∀ (f:Nat) (s:St6),RowsFew s->RowsFew (inS n ts l u f s)
 | 0,s,hs=>hs
 | f + 1,s,hs=>by
  cases e:fwF n ts s.1 u with
  | none=>rw[zem e];exact hs
  | some v =>
   rw[zel e]
   refine zoj up h f _ λ r hr=>?_
   rcases uaz.mp hr with z | z
   ·exact hs r z
   ·rw[uam.mp z];exact zrf up h
theorem znb {n:Int} {ts:List Tie} {l:List (Nat × List Nat)} (up:l.Pairwise up1) (h:l.length<=24):∀ u,RowsFew (sixS n ts l u)
 | 0=>λ r hr=>by cases hr
 | u + 1=>zoj up h _ _ (znb up h u)
noncomputable def sixV (n:Int) (ts:List Tie) (d:Int):St6:=sixS n ts (swG (nbW n ts) d n.toNat).1 n.toNat
inductive spSix_i (K:uac) (vs:List V) (H:Hp) (Q:VK):Prop
 | mk:∀ (n:Int) (ts:List Tie) (wv:V) (d:Int),(vs=[wv,.int d])->(Is K H (webD n (ones ts)) wv)->(WebOk n ts)->(n<=24)->(1<=d)->(∀ v H',Same H H'->SixFew (sixV n ts d)->Is K H' (sixD (sixV n ts d)) v->Q v H')->spSix_i K vs H Q
def spSix (K:uac):Sp:=λ vs H Q _=>spSix_i K vs H Q
theorem zj2 (T:Bi mg) (D:DefOk K mg "six_told" s_six_told ["web","d"]) (O_guards_by:Ok P w K mg base 5 "guards_by" ["web","d"] (spGuards K)) (O_kept_at_first:Ok P w K mg base 5 "kept_at_first" ["web","guards"] (spKF K)) (O_first_wanted:Ok P w K mg base 5 "first_wanted" ["web","keep","u"] (spFW K)) (O_the_way:Ok P w K mg base 5 "the_way" ["web","keep","a","b"] (spWayM K)) (O_whole:Ok P w K mg base 5 "whole" ["web"] (spWhole K)) (O_ties_along:Ok P w K mg base 5 "ties_along" ["web","places"] (spAlongW K)) (O_gained_by:Ok P w K mg base 5 "gained_by" ["web","keep","guards","way"] (spGB K)):Ok P w K mg base 6 "six_told" ["web","d"] (spSix K):=by
 refine zbd (k:=5) D sc_six_told (λ vs H Q E h=>?_) (λ f cdv A outer s H vs Q E hr h=>?_)
 ·obtain⟨n,ts,wv,d,rfl,_⟩:=h
  rfl
 obtain⟨n,ts,wv,d,rfl,isw,ok,n9,d1,q⟩:=h
 have nd:=sc_six_told.nd
 have few60:=ok.few
 have n1:=ok.n1
 have oko:=zdo ok
 refine⟨_,(zab (zan (i:=2) nd rfl (uat rfl) (zaj O_guards_by hr rfl (zaa (pv 0) (zaa (pv 1) zac)))) (zab (zan (i:=3) nd rfl (uf7 rfl) (zaj O_kept_at_first hr rfl (zaa (pv 0) (zaa (pv 2) zac)))) (zab (zan (i:=4) nd rfl (uat rfl) (za0 zac)) (zab (za4 PassesOwn.never rfl (zbi rfl T.z_range (zaa (zar za5 (pv 0) zae (λ _ _=>rfl)) zac)) (zag (i:=5) nd rfl (uat rfl)) (zab (zan (i:=6) nd rfl (uat rfl) (zaj O_first_wanted hr rfl (zaa (pv 0) (zaa (pv 3) (zaa (pv 5) zac))))) (zad (zeh PassesOwn.never (zam ze6 (pv 6) zbc (nomark _)) (zab (zan (i:=7) nd rfl (uat rfl) (zaj O_the_way hr rfl (zaa (pv 0) (zaa (zaj O_whole hr rfl (zaa (pv 0) zac)) (zaa (pv 5) (zaa (pv 6) zac)))))) (zab (zb6 (i:=8) (N:=["web","d","guards","keep","ledger","u","v","way","bought"]) (sc0:=defScope s_six_told) (own:=["tie"]) (fr:=["keep"]) (js:=[3]) rfl (zch (zaj O_ties_along hr rfl (zaa (pv 0) (zaa (pv 7) zac)))) (λ _ _ _ _=>(zag (i:=0) (by show ubt [("tie":Str),("keep":Str)];decide +kernel) rfl (uat rfl))) (λ _ _ _ _=>(zcr (zam zbp (pv 0) (pv 1) (by with_unfolding_all rfl)))) (λ _ _ _ _=>(pv 0)) nd rfl (uat rfl)) (zab (za9 (zb2 uax ua8 ua7 zb8 (pv 4) (zaa (zbk (zaa (pv 5) (zaa (pv 6) (zaa (zao zay rfl T.z_len (by symm) (zaa (pv 8) zac)) (zaa (zaj O_gained_by hr rfl (zaa (pv 0) (zaa (pv 3) (zaa (pv 2) (zaa (pv 7) zac))))) zac))))) zac))) (zab (zan (i:=3) nd rfl (uf7 rfl) (zas za7 rfl T.z_tuple (by symm) (zaa (zao zhs rfl T.z_sorted (by symm) (zaa (zaz zsh (pv 3) (zas za7 rfl T.z_tuple (by symm) (zaa (pv 8) zac))) zac)) zac))) (zad (zan (i:=6) nd rfl (uat rfl) (zaj O_first_wanted hr rfl (zaa (pv 0) (zaa (pv 3) (zaa (pv 5) zac)))))))))))))) (zad (zaq (zbk (zaa (pv 3) (zaa (zas za7 rfl T.z_tuple (by symm) (zaa (pv 4) zac)) zac))))))))),?_⟩
 refine⟨_,rfl,_,rfl,n,ts,wv,d,rfl,isw,ok,d1,λ gv J1 S1 isg=>?_⟩
 obtain⟨gw,gp⟩:=zrh (d:=d) ok n9
 have qv:∀ v H',Same H H'->SixFew (sixS n ts (swG (nbW n ts) d n.toNat).1 n.toNat)->Is K H' (sixD (sixS n ts (swG (nbW n ts) d n.toNat).1 n.toNat)) v->Q v H':=q
 obtain⟨l,el⟩:∃ l,l=(swG (nbW n ts) d n.toNat).1:=⟨_,rfl⟩
 rw[← el] at isg gw gp qv
 refine⟨_,rfl,_,rfl,n,ones ts,wv,gv,l,rfl,Is.same S1 _ isw,oko,isg,gw,λ kp J2 S2 e2=>?_⟩
 refine⟨(by show 0<=1000;decide),λ lg J3 S3 f3 e3=>?_⟩
 have S13:=S1.trans (S2.trans S3)
 have fg:H lg=none:=(S1.trans S2).free f3
 obtain⟨g0,gg,wz,rfl,hg0,hg,hall,hlw⟩:=za3 isw
 have tkl:∀ {J:Hp},But lg J3 J->TupKeep J3 J:=λ b c us e=>b _ _ (λ z=>by rw[z,e3] at e;cases e) e
 have smJ:∀ {J:Hp},But lg J3 J->Same H J:=λ b c o e=>b _ _ (zaf e fg) (S13 _ _ e)
 have gJ:∀ {J:Hp},But lg J3 J->Is K J (grdD l) gv:=λ b=>Is.tk (tkl b) _ (by
  show tupAll (l.map pairD)=true
  exact zig l) (Is.same (S2.trans S3) _ isg)
 refine⟨_,rfl,g0,_,_,_,rfl,rfl,SqT.of (S13 _ _ hg0),rfl,n,rfl,by left,by left,?_⟩
 refine zbj (n:=n.toNat) (λ i σ J=>∃ (y5 y6 y7 y8:Option V) (kp:Addr) (ys:List V),σ=[some (.ref g0),some (.int d),some gv,some (.ref kp),some (.ref lg),y5,y6,y7,y8]/\But lg J3 J/\J kp=some (.tup (natV (sixS n ts l i).1))/\KeepOk ts.length (sixS n ts l i).1/\J lg=some (.lst ys)/\IsAll K J ((sixS n ts l i).2.map rowSD) ys/\(sixS n ts l i).2.length<=i * 24) ⟨none,none,none,none,kp,[],rfl,But.refl,S3 _ _ e2,(by have:=zob (ones ts) l;rw[zax] at this;exact this),e3,rfl,uai _⟩ (λ i σ J hi h=>?_) (λ σ J h=>?_)
 ·obtain⟨y5,y6,y7,y8,kp,ys,rfl,bt,hk,ko,hl,hys,lys⟩:=h
  have wkJ:∀ {J:Hp} {kp:Addr} {ks:List Nat},But lg J3 J->J kp=some (.tup (natV ks))->KeepOk ts.length ks->WK K J n (ones ts) ks (.ref g0) (.ref kp):=λ b e o=>⟨Is.same (smJ b) _ isw,oko,zcb e,by rw[zax];exact o⟩
  refine⟨_,rfl,_,rfl,_,rfl,n,ts,(sixS n ts l i).1,_,_,i,(show [V.ref g0,.ref kp,.int (0 + (i:Int))]=[.ref g0,.ref kp,.int (i:Int)] by rw[uf0]),wkJ bt hk ko,ok,hi,λ J4 S4=>?_⟩
  have ev:V.int (0 + (i:Int))=V.int (i:Int):=by rw[uf0]
  rw[ev]
  have fin:sixS n ts l (i + 1)=inS n ts l i (n.toNat + 1) (sixS n ts l i):=rfl
  obtain⟨s0,es0⟩:∃ s0,s0=sixS n ts l i:=⟨_,rfl⟩
  rw[← es0] at hk ko hys lys fin ⊢
  refine⟨λ m σ J=>∃ (y7 y8:Option V) (kp:Addr) (ys:List V) (s:St6) (fu:Nat),σ=[some (.ref g0),some (.int d),some gv,some (.ref kp),some (.ref lg),some (.int (i:Int)),some (oa (fwF n ts s.1 i)),y7,y8]/\But lg J3 J/\J kp=some (.tup (natV s.1))/\KeepOk ts.length s.1/\J lg=some (.lst ys)/\IsAll K J (s.2.map rowSD) ys/\sixS n ts l (i + 1)=inS n ts l i fu s/\(∀ x,fwF n ts s.1 i=some x->s.2.length<=i * 24 + x/\n.toNat + 1<=fu + x/\m=n.toNat - x)/\(fwF n ts s.1 i=none->s.2.length<=i * 24 + 24),?_,?_⟩
  ·cases efw:fwF n ts s0.1 i with
   | none=>exact⟨0,_,_,kp,ys,s0,n.toNat + 1,by rw[efw];rfl,λ b o z e=>S4 _ _ (bt _ _ z e),S4 _ _ hk,ko,S4 _ _ hl,IsAll.same S4 _ hys,fin,λ x e=>(by rw[efw] at e;cases e),λ _=>by left⟩
   | some x=>exact⟨n.toNat - x,_,_,kp,ys,s0,n.toNat + 1,by rw[efw];rfl,λ b o z e=>S4 _ _ (bt _ _ z e),S4 _ _ hk,ko,S4 _ _ hl,IsAll.same S4 _ hys,fin,λ x' e=>(by rw[efw] at e;cases e;exact⟨by left,by left,rfl⟩),λ e=>by rw[efw] at e;cases e⟩
  rintro m σ J5 ⟨y7,y8,kp,ys,s,fu,rfl,bt5,hk5,ko5,hl5,hys5,efu,hsome,hnone⟩
  cases efw:fwF n ts s.1 i with
  | none =>
   refine⟨_,rfl,rfl,_,rfl,iteF ?_⟩
   rw[zem efw] at efu
   have:=hnone efw
   exact⟨_,_,_,_,kp,ys,rfl,bt5,by rw[efu];exact hk5,by rw[efu];exact ko5,hl5,by rw[efu];exact hys5,by rw[efu,Nat.add_mul];left⟩
  | some v =>
   obtain⟨ls1,ls2,rfl⟩:=hsome v efw
   have vb:=udu efw
   have vn:v < n.toNat:=uav.mp (ud4 efw)
   obtain⟨f',rfl⟩:∃ f',fu=f' + 1:=⟨fu - 1,by left⟩
   rw[zel efw] at efu
   obtain⟨x,nx⟩:∃ x,dstF ts (uag ts.length) i v=some x:=by
    unfold fwB at vb
    rw[ubv] at vb
    cases e:dstF ts (uag ts.length) i v with
    | none=>rw[e] at vb;cases vb.2
    | some x=>exact⟨x,rfl⟩
   have tk5:=tkl bt5
   refine⟨_,rfl,rfl,_,rfl,iteT ⟨λ σ' J'=>∃ m',m' < n.toNat - v/\∃ (y7 y8:Option V) (kp:Addr) (ys:List V) (s:St6) (fu:Nat),σ'=[some (.ref g0),some (.int d),some gv,some (.ref kp),some (.ref lg),some (.int (i:Int)),some (oa (fwF n ts s.1 i)),y7,y8]/\But lg J3 J'/\J' kp=some (.tup (natV s.1))/\KeepOk ts.length s.1/\J' lg=some (.lst ys)/\IsAll K J' (s.2.map rowSD) ys/\sixS n ts l (i + 1)=inS n ts l i fu s/\(∀ x,fwF n ts s.1 i=some x->s.2.length<=i * 24 + x/\n.toNat + 1<=fu + x/\m'=n.toNat - x)/\(fwF n ts s.1 i=none->s.2.length<=i * 24 + 24),λ _ _ h=>h,?_⟩⟩
   have sm5:=smJ bt5
   refine⟨_,rfl,_,rfl,n,ones ts,_,rfl,Is.same sm5 _ isw,by rw[zax];exact few60,λ lk J6 S6 f6 e6=>?_⟩
   refine⟨_,rfl,_,rfl,n,ones ts,uag (ones ts).length,_,.ref lk,(i:Int),(v:Int),rfl,⟨Is.same (sm5.trans S6) _ isw,oko,zcb e6,za8 (ones ts)⟩,by left,by left,by left,by left,λ wv J7 S7 wm=>?_⟩
   rw[ua1,ua1] at wm
   rcases wm with ⟨_,dn⟩ | ⟨tw,ws,x',rfl,ew,l24,mw,tr,dx⟩
   ·rw[zax] at dn
    have:=zds (za8 ts) dn
    rw[nx] at this;cases this
   have xx:x'=x:=by
    rw[zax] at dx
    have:=zds (za8 ts) dx
    rw[nx] at this
    exact uau this
   subst xx
   have ewy:wyW ts i v=ws:=by unfold wyW;rw[zkr oko mw];rfl
   have ndw:=mw.nodup
   have ln:=(zs8 oko (za8 (ones ts)) tr).2
   have wlt:∀ y ∈ ws,y < n.toNat:=zt8 oko (za8 (ones ts)) hi tr
   have S57:=S6.trans S7
   have sm7:=sm5.trans S57
   refine⟨_,rfl,_,rfl,n,ones ts,_,tw,ws,rfl,Is.same sm7 _ isw,by rw[zax];exact few60,ew,by left,ln,λ la J8 S8 e8=>?_⟩
   have lal:(alongN (ones ts) ws).length<=24:=by rw[zb1];left
   have S58:=S57.trans S8
   have hk8:=S58 _ _ hk5
   refine⟨la,rfl,⟨_,SqL.of e8⟩,?_⟩
   refine zcw e8 (λ σ'=>∃ o,σ'=[o,some (.ref kp)]) (λ j=>if (λ k=>!decide (k ∈ s.1)) ((alongN (ones ts) ws).getD j 0)=true then some (V.int (((alongN (ones ts) ws).getD j 0:Nat):Int)) else none) (by rw[zah];left) (by exact⟨none,rfl⟩) (λ j x σ' H' hx s2 sg C L hC hL=>?_) (λ lb J9 hL S9 hH=>?_)
   ·obtain⟨o,rfl⟩:=sg
    obtain⟨k,hk',rfl⟩:=zbr hx
    have ek:(alongN (ones ts) ws).getD j 0=k:=by rw[uaf,hk'];rfl
    rw[ek] at hC hL
    refine⟨_,rfl,_,rfl,kp,_,rfl,.inr (SqT.of (s2 _ _ hk8)),rfl,zcl _,_,rfl,?_⟩
    show if (!inV (V.int (k:Int)) (natV s.1))=true then _ else _
    rw[zdp (ua0 _),ua1]
    cases dk:decide (k ∈ s.1) with
    | false=>exact iteT ⟨_,rfl,hC _ _ _ ⟨_,rfl⟩ (Same.refl _) (by rw[if_pos (by show (!decide (k ∈ s.1))=true;rw[dk];rfl)])⟩
    | true=>exact iteF (hL _ _ ⟨_,rfl⟩ (Same.refl _) (by rw[if_neg (by show ¬ (!decide (k ∈ s.1))=true;rw[dk];decide)]))
   rw[zah,zef (λ k=>!decide (k ∈ s.1)) (alongN (ones ts) ws)] at hH
   have hH:J9 lb=some (.lst (natV (boK ts s.1 ws))):=hH
   have S59:=S58.trans S9
   have hl9:=S59 _ _ hl5
   have bt9:But lg J3 J9:=λ b o z e=>S59 _ _ (bt5 _ _ z e)
   refine⟨_,rfl,.inl ⟨rfl,_,SqL.of hl9⟩,_,rfl,_,rfl,_,rfl,lb,_,rfl,.inl (SqL.of hH),_,rfl,_,rfl,_,rfl,_,rfl,n,ts,s.1,_,_,gv,l,tw,ws,rfl,wkJ bt9 (S59 _ _ hk5) ko5,ok,gJ bt9,gp,(S8.trans S9) _ _ ew,ndw,wlt,λ gv' J10 S10 isg'=>?_⟩
   refine⟨(by show 4<=1000;decide),λ tc J11 S11 f11 e11=>?_⟩
   have hl11:=S11 _ _ (S10 _ _ hl9)
   have lys5:ys.length=s.2.length:=by rw[hys5.length,uae]
   have i9:i < 24:=by left
   refine⟨lg,_,_,rfl,rfl,hl11,by left,λ J12 b12 e12=>?_⟩
   have S911:=S10.trans S11
   have tk12:TupKeep J11 J12:=λ b us e=>b12 _ _ (λ z=>by rw[z,hl11] at e;cases e) e
   have bt12:But lg J3 J12:=λ b o z e=>b12 _ _ z (S911 _ _ (bt9 _ _ z e))
   have hk12:=tk12 _ _ (S911 _ _ (S59 _ _ hk5))
   have nlb:lb≠lg:=λ z=>by rw[z] at hL;have:=S58 _ _ hl5;rw[hL] at this;cases this
   have hb12:=b12 _ _ nlb (S911 _ _ hH)
   have pm0:=zpc ko5 ndw ln
   have lks:s.1.length + (boK ts s.1 ws).length<=60:=by
    have:=pm0.length_eq
    rw[uaj] at this
    have h2:=(zdc ts s.1 ws).len
    left
   refine⟨_,rfl,_,rfl,lb,_,rfl,hb12,λ tb J13 S13' f13 e13=>⟨kp,tb,_,_,rfl,rfl,S13' _ _ hk12,e13,ua9 (show (natV s.1).length + (natV (boK ts s.1 ws)).length<=1000 by rw[zah,zah];left) (by decide),λ kc J14 S14 e14=>?_⟩⟩
   rw[← zcj,zbb] at e14
   refine⟨kc,keepI (s.1++boK ts s.1 ws),rfl,e14,by unfold keepI;rw[uae,uaj];left,λ ms pm pw lz J15 S15 f15 e15=>⟨lz,_,rfl,e15,λ kn J16 S16 f16 e16=>?_⟩⟩
   have ems:ms=keepI (addK ts s.1 ws):=by
    refine ugk (le:=(·<=·)) (λ a b _ _ h1 h2=>Int.le_antisymm h1 h2) pw ?_ (pm.trans (by unfold keepI;exact (pm0.symm).map _))
    unfold keepI
    exact uey _ (λ a b h=>by have:a < b:=h;left) (zdc ts s.1 ws).1
   rw[ems,← zbb] at e16
   have S1216:=S13'.trans (S14.trans (S15.trans S16))
   have bt16:But lg J3 J16:=λ b o z e=>S1216 _ _ (bt12 _ _ z e)
   have ko':=zdc ts s.1 ws
   refine⟨_,rfl,_,rfl,_,rfl,n,ts,addK ts s.1 ws,_,_,i,rfl,wkJ bt16 e16 ko',ok,hi,λ J17 S17=>?_⟩
   have sub:∀ k ∈ s.1,k ∈ addK ts s.1 ws:=λ k hk=>(zcn ko5 ln).mpr (.inl hk)
   obtain⟨y,ey,ley⟩:=(zeo ko' i v).2 x' (zjv oko tr λ k hk=>(zcn ko5 ln).mpr (.inr hk))
   have S1217:=S1216.trans S17
   have es:stS ts l i v s=(addK ts s.1 ws,s.2++[(i,v,(boK ts s.1 ws).length,gnF ts s.1 l ws)]):=by unfold stS;rw[ewy]
   have up:∀ v',fwF n ts (addK ts s.1 ws) i=some v'->v < v'/\v' < n.toNat:=λ v' e=>⟨zoo ko5 ko' sub efw nx ey ley e,uav.mp (ud4 e)⟩
   have ll:(s.2++[(i,v,(boK ts s.1 ws).length,gnF ts s.1 l ws)]).length=s.2.length + 1:=by rw[uaj];rfl
   have rows:IsAll K J17 ((s.2++[(i,v,(boK ts s.1 ws).length,gnF ts s.1 l ws)]).map rowSD) (ys++[.ref tc]):=by
    rw[ua3]
    refine IsAll.snoc (d:=rowSD (i,v,(boK ts s.1 ws).length,gnF ts s.1 l ws)) ?_ ?_
    ·refine⟨tc,_,rfl,S1217 _ _ (tk12 _ _ e11),.int (i:Int),_,rfl,rfl,.int (v:Int),_,rfl,rfl,_,_,rfl,(by rw[zah];rfl),gv',[],rfl,?_,rfl⟩
     refine Is.same S1217 _ (Is.tk tk12 _ ?_ (Is.same S11 _ isg'))
     exact zgr _
    ·exact IsAll.same S1217 _ (IsAll.but b12 hl11 _ (zku _) (IsAll.same (S59.trans S911) _ hys5))
   cases ef':fwF n ts (addK ts s.1 ws) i with
   | none =>
    have efs:fwF n ts (stS ts l i v s).1 i=none:=by rw[es];exact ef'
    refine⟨0,by left,_,_,kn,ys++[.ref tc],stS ts l i v s,f',by rw[efs];rfl,λ b o z e=>S17 _ _ (bt16 _ _ z e),by rw[es];exact S17 _ _ e16,by rw[es];exact ko',S1217 _ _ e12,by rw[es];exact rows,efu,λ x e=>?_,λ _=>?_⟩
    ·rw[es] at e;rw[ef'] at e;cases e
    ·rw[es,ll];left
   | some v' =>
    obtain⟨u1,u2⟩:=up v' ef'
    have efs:fwF n ts (stS ts l i v s).1 i=some v':=by rw[es];exact ef'
    refine⟨n.toNat - v',by left,_,_,kn,ys++[.ref tc],stS ts l i v s,f',by rw[efs];rfl,λ b o z e=>S17 _ _ (bt16 _ _ z e),by rw[es];exact S17 _ _ e16,by rw[es];exact ko',S1217 _ _ e12,by rw[es];exact rows,efu,λ x e=>?_,λ e=>?_⟩
    ·rw[es] at e ⊢
     rw[ef'] at e
     cases e
     rw[ll]
     exact⟨by left,by left,rfl⟩
    ·rw[es] at e;rw[ef'] at e;cases e
 ·obtain⟨y5,y6,y7,y8,kp,ys,rfl,bt,hk,ko,hl,hys,lys⟩:=h
  refine⟨_,rfl,_,rfl,lg,_,rfl,hl,λ t1 J6 S6 f6 e6=>⟨(by show 2<=1000;decide),λ t2 J7 S7 f7 e7=>?_⟩⟩
  refine qv _ J7 ((smJ bt).trans (S6.trans S7)) ⟨by have:=ko.len;left,by left,znb gp.1 gp.2.1 _⟩ ⟨t2,_,rfl,e7,.ref kp,_,rfl,zcb ((S6.trans S7) _ _ hk),.ref t1,[],rfl,⟨t1,ys,rfl,S7 _ _ e6,IsAll.same (S6.trans S7) _ hys⟩,rfl⟩
theorem zro:∀ (E:List (Option Nat)) (i x:Nat),E[i]?=some none->((E.set i (some x)).filter uec).length + 1=(E.filter uec).length
 | [],i,x,h=>by cases h
 | e::E,0,x,h=>by
  have:e=none:=uau h
  subst this
  rfl
 | e::E,i + 1,x,h=>by
  have ih:=zro E i x h
  cases e with
  | none=>show ((E.set i (some x)).filter uec).length + 1 + 1=(E.filter uec).length + 1;left
  | some v=>exact ih
theorem zht {H:Hp} {l b:Addr} {as:List Addr} {rows:Nat->List V} (B:Bes H l as rows) (h:H b=none):l≠b/\b ∉ as:=by
 refine⟨λ z=>(by rw[← z,B.top] at h;cases h),λ z=>?_⟩
 obtain⟨i,hi,e⟩:=ucl z
 have:=B.row i b (by rw[uad hi,e])
 rw[this] at h;cases h
theorem zua {K:uac} {H:Hp} {l:Addr} {q:List Nat} (h:H l=some (.lst (natV q))):Is K H (.list ((keepI q).map .int)) (.ref l):=⟨l,_,rfl,h,by rw[zbb];exact IsAll.ints (keepI q)⟩
inductive spSt60_i (K:uac) (vs:List V) (H:Hp) (Q:VK):Prop
 | mk:∀ n ts ks wv kp (tp:Bool),(vs=[wv,.ref kp])->(WKE K H n (ones ts) ks wv kp tp)->(WebOk n ts)->(∀ l as H',Same H H'->H l=none->(∀ a ∈ as,H a=none)->as.length=n.toNat->Bes H' l as (rowM n (dstF ts ks))->Q (.ref l) H')->spSt60_i K vs H Q
def spSt60 (K:uac):Sp:=λ vs H Q _=>spSt60_i K vs H Q
theorem ze9 (T:Bi mg) (D:DefOk K mg "_law_steps" s__law_steps ["web","kept"]):Ok P w K mg base 1 "_law_steps" ["web","kept"] (spSt60 K):=by
 refine zbd (k:=0) D sc__law_steps (λ vs H Q E h=>?_) (λ f cdv A outer s H vs Q E hr h=>?_)
 ·obtain⟨n,ts,ks,wv,kp,tp,rfl,_⟩:=h
  rfl
 obtain⟨n,ts,ks,wv,kp,tp,rfl,wk,okt,q⟩:=h
 have nd:=sc__law_steps.nd
 have units:(A.deeper (envOfC "_law_steps" (defScope s__law_steps) s.heap.objs.size f cdv)).units + 1 < cLine:=by have:=hr.units;left
 have ok:=wk.2.1
 have ko:=wk.2.2.2
 have ko':KeepOk ts.length ks:=by rw[← zax (ts:=ts)];exact ko
 have U:Far.Unit1 (arcs (ones ts) ks):=zes ko'
 have n1:=ok.n1
 have n24:=ok.n24
 have few60:=ok.few
 have kl:=ko.len
 obtain⟨g0,g,ws,rfl,hg0,hg,hall,hlw⟩:=za3 wk.1
 have hkp:=wk.2.2.1
 have lenK:(natV ks).length=ks.length:=by unfold natV;rw[uae]
 have N24:n.toNat<=24:=by left
 refine⟨_,(zab (zb6 (i:=2) (N:=["web","kept","beside","number","a","b","length","table","start","found","waiting","place","other"]) (sc0:=defScope s__law_steps) (own:=["place"]) (fr:=[]) (js:=[]) rfl (zbi rfl T.z_range (zaa (zar za5 (pv 0) zae (λ _ _=>rfl)) zac)) (λ _ _ _ _=>(zag (i:=0) (by show ubt [("place":Str)];decide +kernel) rfl (uat rfl))) (λ _ _ _ _=>zcg) (λ _ _ _ _=>(za0 zac)) nd rfl (uat rfl)) (zab (za4 PassesOwn.never rfl (zth (pv 1)) (zag (i:=3) nd rfl (uat rfl)) (zab (zbz (zar za5 (zar za5 (pv 0) zae (λ _ _=>rfl)) (pv 3) (λ _ _=>rfl)) (zbl (n:=3) rfl (zak (zag (i:=4) nd rfl (uat rfl)) (zak (zag (i:=5) nd rfl (uat rfl)) (zak (zag (i:=6) nd rfl (uat rfl)) za2))))) (zab (za9 (zb2 uax ua8 ua7 zbm (zar zau (pv 2) (pv 4) (λ _ _=>rfl)) (zaa (pv 5) zac))) (zad (za9 (zb2 uax ua8 ua7 zbm (zar zau (pv 2) (pv 5) (λ _ _=>rfl)) (zaa (pv 4) zac))))))) (zab (zan (i:=7) nd rfl (uat rfl) (za0 zac)) (zab (za4 PassesOwn.never rfl (zbi rfl T.z_range (zaa (zar za5 (pv 0) zae (λ _ _=>rfl)) zac)) (zag (i:=8) nd rfl (uat rfl)) (zab (zan (i:=9) nd rfl (uat rfl) (zaz ze4 (za0 (zaa zbc zac)) (zar za5 (pv 0) zae (λ _ _=>rfl)))) (zab (zbz zae (zdw (pv 9) (pv 8) zb3)) (zab (zan (i:=10) nd rfl (uat rfl) (za0 (zaa (pv 8) zac))) (zab (zeh PassesOwn.never (zam zlb (pv 10) (za0 zac) (nomark _)) (zab (zan (i:=11) nd rfl (uat rfl) (zb2 uax ufp ufo zhb (pv 10) (zaa zae zac))) (zad (za4 PassesOwn.never rfl (zch (zar zau (pv 2) (pv 11) (λ _ _=>rfl))) (zag (i:=12) nd rfl (uat rfl)) (zad (zbf (zam zc8 (zar zau (pv 9) (pv 12) (λ _ _=>rfl)) zbc (nomark _)) (zab (zbz (zaz zb7 (zar zau (pv 9) (pv 11) (λ _ _=>rfl)) zae) (zdw (pv 9) (pv 12) zb3)) (zad (za9 (zb2 uax ua8 ua7 zbm (pv 10) (zaa (pv 12) zac))))) zat)))))) (zad (za9 (zb2 uax ua8 ua7 zbm (pv 7) (zaa (pv 9) zac))))))))) (zad (zaq (pv 7))))))),?_⟩
 refine⟨_,rfl,g0,_,_,_,rfl,rfl,SqT.of hg0,rfl,n,rfl,by left,by left,?_⟩
 refine zkk (n:=n.toNat) (lo:=0) (λ σ'=>σ'.length=1) (by left) (by rfl) (λ i σ' H' hi s6 sg C hC=>?_) (λ L as J1 hL S1 hH las ndA noA new=>?_)
 ·match σ',sg with
  | [o],_=>exact⟨(by show 0<=1000;decide),λ l H5 s5 f5 e5=>hC _ _ _ rfl s5 f5 e5⟩
 have B1:=Bes.new hH ndA noA λ a ha=>(new a ha).2
 have fas:∀ a ∈ as,H a=none:=λ a ha=>(new a ha).1
 refine⟨_,rfl,kp,rfl,tp,⟨_,SqX.of (t:=tp) (S1 _ _ hkp)⟩,?_⟩
 refine zfp (t:=tp) (xs:=natV ks) (λ i σ J=>∃ (y3 y4 y5 y6:Option V),σ=[some (.ref g0),some (.ref kp),some (.ref L),y3,y4,y5,y6,none,none,none,none,none,none]/\Same H J/\Bes J L as λ j=>natV (rowsN (ones ts) (ks.take i) j)) ⟨none,none,none,none,rfl,S1,B1⟩ (λ i σ J _ h=>?_) (λ i x σ J hx h=>?_) (λ σ J h=>?_)
 ·obtain⟨y3,y4,y5,y6,rfl,sm,_⟩:=h
  exact SqX.of (t:=tp) (sm _ _ hkp)
 ·obtain⟨y3,y4,y5,y6,rfl,sm,B⟩:=h
  obtain⟨k,hk,rfl⟩:=zbr hx
  have hkm:=uao hk
  have hkl:k < (ones ts).length:=ko.2 k hkm
  obtain⟨ta,hta,htie⟩:=zcd hall hkl
  obtain⟨e1,e2,e3,e4⟩:=ztz ok hkl
  have tn:ks.take (i + 1)=ks.take i++[k]:=by rw[ubo,hk];rfl
  have lr:∀ j,(rowsN (ones ts) (ks.take i) j).length<=60:=λ j=>by
   unfold rowsN
   have h1:=ub7 (nbr (ones ts) j) (ks.take i)
   have h2:=List.length_take_le i ks
   have h3:(ks.take i).length<=ks.length:=by rw[uc1];left
   left
  have lrV:∀ j,(natV (rowsN (ones ts) (ks.take i) j)).length<=60:=λ j=>by unfold natV;rw[uae];exact lr j
  refine⟨_,rfl,g0,_,_,_,rfl,rfl,SqT.of (sm _ _ hg0),rfl,_,rfl,g,_,_,_,rfl,rfl,SqT.of (sm _ _ hg),zaw (ua0 _) hta,?_⟩
  refine⟨ta,_,rfl,SqT.of (sm _ _ htie),rfl,_,_,rfl,_,_,rfl,_,_,rfl,rfl,?_⟩
  rw[← e3,← e4]
  obtain⟨a1,i1,v1,r1⟩:=B.ix (i:=(en (ones ts) k).1) (by left)
  refine⟨_,rfl,_,rfl,L,_,_,.ref a1,rfl,rfl,SqL.of B.top,zaw (ua0 _) v1,.inl ⟨rfl,_,SqL.of r1⟩,_,rfl,?_⟩
  refine⟨a1,_,_,rfl,rfl,r1,by have:=lrV (en (ones ts) k).1;left,λ J3 b3 h3=>?_⟩
  have ma1:=uao i1
  have B3:=B.put i1 b3 h3
  have sm3:Same H J3:=λ b o e=>b3 _ _ (zaf e (fas a1 ma1)) (sm _ _ e)
  have nab:(en (ones ts) k).2≠(en (ones ts) k).1:=by left
  obtain⟨a2,i2,v2,r2⟩:=B3.ix (i:=(en (ones ts) k).2) (by left)
  rw[if_neg nab] at r2
  refine⟨_,rfl,_,rfl,L,_,_,.ref a2,rfl,rfl,SqL.of B3.top,zaw (ua0 _) v2,.inl ⟨rfl,_,SqL.of r2⟩,_,rfl,?_⟩
  refine⟨a2,_,_,rfl,rfl,r2,by have:=lrV (en (ones ts) k).2;left,λ J5 b5 h5=>?_⟩
  have ma2:=uao i2
  have B5:=B3.put i2 b5 h5
  have ef:(λ j=>if j=(en (ones ts) k).2 then natV (rowsN (ones ts) (ks.take i) (en (ones ts) k).2)++[V.int (((en (ones ts) k).1:Nat):Int)] else if j=(en (ones ts) k).1 then natV (rowsN (ones ts) (ks.take i) (en (ones ts) k).1)++[V.int (((en (ones ts) k).2:Nat):Int)] else natV (rowsN (ones ts) (ks.take i) j))=λ j=>natV (rowsN (ones ts) (ks.take (i + 1)) j):=funext λ j=>by
   rw[tn,znd]
   unfold nbr
   by_cases z:j=(en (ones ts) k).2
   ·subst z
    rw[if_pos rfl,if_neg (Ne.symm nab),if_pos rfl]
    unfold natV;rw[ua3];rfl
   ·rw[if_neg z]
    by_cases y:j=(en (ones ts) k).1
    ·subst y
     rw[if_pos rfl,if_pos rfl]
     unfold natV;rw[ua3];rfl
    ·rw[if_neg y,if_neg (Ne.symm y),if_neg (Ne.symm z)]
     unfold natV;rw[ua3];simp
  rw[ef] at B5
  exact⟨_,_,_,_,rfl,λ b o e=>b5 _ _ (zaf e (fas a2 ma2)) (sm3 _ _ e),B5⟩
 obtain⟨y3,y4,y5,y6,rfl,sm,B⟩:=h
 rw[lenK,ubw] at B
 have hLH:H L=none:=hL
 refine⟨(by show 0<=1000;decide),λ lt J2 S2 f2 e2=>?_⟩
 have sm2:=sm.trans S2
 have flt:H lt=none:=sm.free f2
 refine⟨_,rfl,g0,_,_,_,rfl,rfl,SqT.of (sm2 _ _ hg0),rfl,n,rfl,by left,by left,?_⟩
 have B2:=B.same S2
 refine zbj (n:=n.toNat) (lo:=0) (λ i σ J3=>∃ (at_:List Addr) (z8 z9 z10 z11 z12:Option V),σ=[some (.ref g0),some (.ref kp),some (.ref L),y3,y4,y5,y6,some (.ref lt),z8,z9,z10,z11,z12]/\But lt J2 J3/\J3 lt=some (.lst (at_.map V.ref))/\at_.length=i/\at_.Nodup/\lt ∉ at_/\∀ j a,at_[j]?=some a->J2 a=none/\J3 a=some (.lst (rowM n (dstF ts ks) j))) ⟨[],none,none,none,none,none,rfl,But.refl,e2,rfl,ud3,by simp,λ j a h=>by cases h⟩ (λ i σ J3 hi h=>?_) (λ σ J3 h=>?_)
 ·obtain⟨at_,z8,z9,z10,z11,z12,rfl,b3,h3,l3,nd3,no3,row3⟩:=h
  have sm3:Same H J3:=λ b o e=>b3 _ _ (zaf e flt) (sm2 _ _ e)
  have fr:=zht B f2
  have B3:Bes J3 L as λ j=>natV (rowsN (ones ts) ks j):=B2.but fr.1 fr.2 b3
  refine⟨(by show 1<=1000;decide),λ t0 J4 S4 f4 e4=>⟨_,rfl,g0,_,_,_,rfl,rfl,SqT.of (S4 _ _ (sm3 _ _ hg0)),rfl,t0,n,_,rfl,rfl,e4,by left,by left,λ lf J5 S5 f5 e5=>?_⟩⟩
  have flf:J3 lf=none:=S4.free f5
  refine⟨_,rfl,_,rfl,lf,_,(0 + (i:Int)),i,rfl,rfl,e5,by rw[ube,zcu (by left) (by left)];congr 1;left,?_⟩
  have S35:Same J3 (upd J5 lf (.lst ((uay n.toNat V.non).set i (.int 0)))):=λ b o e=>by
   rw[zap (zaf e flf)];exact S5 _ _ (S4 _ _ e)
  refine⟨_,rfl,(by show 1<=1000;decide),λ lw J6 S6 f6 e6=>?_⟩
  have flw:J3 lw=none:=S35.free f6
  have nlw:lf≠lw:=λ z=>by rw[← z,zai] at f6;cases f6
  have S36:=S35.trans S6
  have e5':J6 lf=some (.lst (((uay n.toNat (none:Option Nat)).set i (some 0)).map oa)):=by
   rw[S6 _ _ zai,List.map_set,List.map_replicate];rfl
  have hge:∀ v,Far.get ((uay n.toNat (none:Option Nat)).set i (some 0)) v=if v=i then some 0 else none:=λ v=>by
   rw[za6 _ _ (by rw[ube];exact hi)]
   split
   ·rfl
   ·unfold Far.get
    rw[uaf,udh]
    split <;> rfl
  refine⟨λ m σ J=>∃ (E:List (Option Nat)) (qu:List Nat) (z11 z12:Option V),σ=[some (.ref g0),some (.ref kp),some (.ref L),y3,y4,y5,y6,some (.ref lt),some (.int (0 + (i:Int))),some (.ref lf),some (.ref lw),z11,z12]/\Same J3 J/\J lf=some (.lst (E.map oa))/\E.length=n.toNat/\J lw=some (.lst (natV qu))/\(∀ x ∈ qu,x < n.toNat)/\Far.Bq (arcs (ones ts) ks) i (Far.get E) qu/\qu.length + (E.filter uec).length=m/\m<=60,⟨_,(uay n.toNat none).set i (some 0),[i],z11,z12,rfl,S36,e5',by rw[ucb,ube],by rw[e6];show some (HO.lst [V.int (0 + (i:Int))])=some (HO.lst [V.int (i:Int)]);rw[uf0],λ x hx=>by rw[uam.mp hx];exact hi,?_,rfl,?_⟩,λ m σ J h=>?_⟩
  ·rw[funext hge];exact Far.Bq.start
  ·have:=udt uec ((uay n.toNat (none:Option Nat)).set i (some 0))
   rw[ucb,ube] at this
   show 1 + _<=60
   left
  obtain⟨E,qu,z11,z12,rfl,S7,hf,lE,hw,qlt,bq,em,m60⟩:=h
  refine⟨_,rfl,(by show 0<=1000;decide),λ lz J8 S8 f8 e8=>⟨.list ((keepI qu).map .int),.list [],zua (S8 _ _ hw),⟨lz,[],rfl,e8,rfl⟩,zbt _,rfl,ubf (udn (uai _) (ua9 (ud9 _ _) (show PyData.depth (.list [])<=1 from uai _))) units,_,rfl,?_⟩⟩
  have S78:=S7.trans S8
  have hf8:=S8 _ _ hf
  have hw8:=S8 _ _ hw
  cases qu with
  | nil =>
   refine iteF ?_
   have h38:J8 lt=some (.lst (at_.map V.ref)):=S78 _ _ h3
   have nfl:lf≠lt:=λ z=>by rw[z,h3] at flf;cases flf
   have nfa:lf ∉ at_:=λ z=>by
    obtain⟨j,hj,e⟩:=ucl z
    have:=(row3 j lf (by rw[uad hj,e])).2
    rw[this] at flf;cases flf
   have rowE:E.map oa=rowM n (dstF ts ks) i:=by
    unfold rowM
    rw[ubq]
    refine udd λ v=>?_
    by_cases hv:v < n.toNat
    ·rw[zsj (by left),uaq,uc5 hv]
     show some (oa (Far.get E v))=some (ov (dstF ts ks i v))
     rw[← zds ko' (bq.dst U v)]
     cases Far.get E v <;> rfl
    ·rw[ubd (by rw[uae];left),ubd (by rw[uae,uba];left)]
   refine⟨_,rfl,.inl ⟨rfl,_,SqL.of h38⟩,_,rfl,lt,_,_,rfl,rfl,h38,by rw[uae];left,λ J9 b9 h9=>?_⟩
   refine⟨at_++[lf],_,_,_,_,_,rfl,λ b o hb e=>b9 _ _ hb (S78 _ _ (b3 _ _ hb e)),by rw[h9,ua3];rfl,by rw[uaj,l3];rfl,ucd.mpr ⟨nd3,by simp,λ x hx y hy=>by rw[uam.mp hy];exact λ z=>nfa (z ▸ hx)⟩,λ z=>(uaz.mp z).elim no3 λ z=>nfl (uam.mp z).symm,λ j a e=>?_⟩
   by_cases hj:j < at_.length
   ·rw[uci hj] at e
    obtain⟨r1,r2⟩:=row3 j a e
    exact⟨r1,b9 _ _ (λ z=>no3 (z ▸ uao e)) (S78 _ _ r2)⟩
   ·rw[ucg (by left)] at e
    have hj2:j - at_.length < 1:=by
     have:=(uan.mp e).1
     simpa using this
    have ej:j=i:=by left
    subst ej
    rw[show j - at_.length=0 by left] at e
    have ea:lf=a:=uau e
    subst ea
    refine⟨?_,by rw[← rowE];exact b9 _ _ nfl hf8⟩
    cases e2:J2 lf with
    | none=>rfl
    | some o=>rw[b3 _ _ nfl e2] at flf;cases flf
  | cons p qu =>
   refine iteT ⟨_,λ σ' H' h=>h,?_⟩
   have pn:p < n.toNat:=qlt p ual
   refine⟨_,rfl,.inl ⟨rfl,_,SqL.of hw8⟩,lw,_,0,0,.int (p:Int),rfl,rfl,hw8,by decide,by decide,(zfl (n:=(natV (p::qu)).length) (i:=0) (j:=0) (by unfold ixN;rw[if_pos (by decide),if_pos (by rw[zah,ubu];left)];rfl)).1,rfl,?_⟩
   have S9:Same J3 (upd J8 lw (.lst ((natV (p::qu)).eraseIdx 0))):=λ b o e=>by rw[zap (zaf e flw)];exact S78 _ _ e
   have hf9:upd J8 lw (.lst ((natV (p::qu)).eraseIdx 0)) lf=some (.lst (E.map oa)):=by rw[zap nlw];exact hf8
   have hw9:upd J8 lw (.lst ((natV (p::qu)).eraseIdx 0)) lw=some (.lst (natV qu)):=zai
   generalize upd J8 lw (.lst ((natV (p::qu)).eraseIdx 0))=J9 at S9 hf9 hw9
   obtain⟨k,ek,bm⟩:=bq.pop
   obtain⟨a1,i1,v1,r1⟩:=B3.ix (i:=p) (by left)
   refine⟨_,rfl,_,rfl,L,_,_,.ref a1,rfl,rfl,SqL.of (S9 _ _ B3.top),zaw (ua0 _) v1,a1,rfl,⟨_,SqL.of (S9 _ _ r1)⟩,?_⟩
   refine zen (xs:=natV (rowsN (ones ts) ks p)) (λ j σ J=>∃ (E':List (Option Nat)) (qu':List Nat) (z12:Option V),σ=[some (.ref g0),some (.ref kp),some (.ref L),y3,y4,y5,y6,some (.ref lt),some (.int (0 + (i:Int))),some (.ref lf),some (.ref lw),some (.int (p:Int)),z12]/\Same J3 J/\J lf=some (.lst (E'.map oa))/\E'.length=n.toNat/\J lw=some (.lst (natV qu'))/\(∀ x ∈ qu',x < n.toNat)/\Far.Bqm (arcs (ones ts) ks) i p k ((rowsN (ones ts) ks p).take j) (Far.get E') qu'/\qu'.length + (E'.filter uec).length + 1=m) ⟨E,qu,_,rfl,S9,hf9,lE,hw9,λ x hx=>qlt x (uap _ hx),bm,by rw[← em,ubu];left⟩ (λ j σ J _ h=>?_) (λ j x σ J hx h=>?_) (λ σ J h=>?_)
   ·obtain⟨E',qu',z12,rfl,S10,_⟩:=h
    exact SqL.of (S10 _ _ r1)
   ·obtain⟨E',qu',z12,rfl,S10,hf10,lE',hw10,qlt',bm',em'⟩:=h
    obtain⟨c,hc,rfl⟩:=zbr hx
    have hcm:=uao hc
    have adj:=(zk4 ok ko p c).mp hcm
    have cn:c < n.toNat:=zl5 ok ko p c adj
    have arc:(p,c,1) ∈ arcs (ones ts) ks:=by
     have z:=(zcx (ts:=ones ts) ko (l:=1)).mpr ⟨rfl,adj⟩
     rw[ze7] at z;exact z
    have tn:(rowsN (ones ts) ks p).take (j + 1)=(rowsN (ones ts) ks p).take j++[c]:=by rw[ubo,hc];rfl
    have hat:∀ y,y < n.toNat->atI (E'.map oa) (y:Int)=some (oa (Far.get E' y)):=λ y hy=>zaw (ua0 _) (by rw[ua1];exact zsj (by left))
    refine⟨_,rfl,_,rfl,lf,_,_,_,rfl,rfl,SqL.of hf10,hat c cn,rfl,_,rfl,?_⟩
    cases ec:Far.get E' c with
    | some j' =>
     refine iteF ⟨E',qu',_,rfl,S10,hf10,lE',hw10,qlt',by rw[tn];exact bm'.old ec,em'⟩
    | none =>
     refine iteT ?_
     refine⟨_,rfl,_,rfl,lf,_,_,_,rfl,rfl,SqL.of hf10,hat p pn,?_⟩
     rw[bm'.own]
     refine⟨_,_,rfl,rfl,_,rfl,_,rfl,lf,_,(c:Int),c,rfl,rfl,hf10,zcu (ua0 _) (by rw[uae];left),?_⟩
     have hE:(E'.map oa).set c (.int ((k:Int) + 1))=(E'.set c (some (k + 1))).map oa:=by rw[List.map_set];rfl
     have ecx:E'[c]?=some none:=by
      unfold Far.get at ec
      rw[uaf,uad (by left:c < E'.length)] at ec
      rw[uad (by left:c < E'.length)]
      exact congrArg some ec
     have cs:=zro E' c (k + 1) ecx
     have S11:Same J3 (upd J lf (.lst ((E'.map oa).set c (.int ((k:Int) + 1))))):=λ b o e=>by rw[zap (zaf e flf)];exact S10 _ _ e
     have hw11:upd J lf (.lst ((E'.map oa).set c (.int ((k:Int) + 1)))) lw=some (.lst (natV qu')):=by rw[zap nlw.symm];exact hw10
     have hf11:upd J lf (.lst ((E'.map oa).set c (.int ((k:Int) + 1)))) lf=some (.lst ((E'.set c (some (k + 1))).map oa)):=by rw[zai,hE]
     generalize upd J lf (.lst ((E'.map oa).set c (.int ((k:Int) + 1))))=J11 at S11 hw11 hf11
     refine⟨_,rfl,.inl ⟨rfl,_,SqL.of hw11⟩,_,rfl,lw,_,_,rfl,rfl,hw11,by rw[zah];left,λ J12 b12 h12=>?_⟩
     refine⟨E'.set c (some (k + 1)),qu'++[c],_,rfl,λ b o e=>b12 _ _ (zaf e flw) (S11 _ _ e),b12 _ _ nlw hf11,by rw[ucb];exact lE',by rw[h12];unfold natV;rw[ua3];rfl,λ x hx=>(uaz.mp hx).elim (qlt' x) λ z=>by rw[uam.mp z];exact cn,?_,by rw[uaj,ubs];left⟩
     rw[tn]
     exact bm'.new ec arc λ v=>za6 _ _ (by left)
   ·obtain⟨E',qu',z12,rfl,S10,hf10,lE',hw10,qlt',bm',em'⟩:=h
    refine⟨_,ua2 (ucj _) (uer em'),E',qu',_,_,rfl,S10,hf10,lE',hw10,qlt',bm'.fin λ c hc=>?_,rfl,by left⟩
    rw[zah,ubw]
    refine (zk4 ok ko p c).mpr ?_
    have z:(p,c,1) ∈ arcs (ones (ones ts)) ks:=by rw[ze7];exact hc
    exact ((zcx (ts:=ones ts) ko (l:=1)).mp z).2
 ·obtain⟨at_,z8,z9,z10,z11,z12,rfl,b3,h3,l3,nd3,no3,row3⟩:=h
  refine⟨_,rfl,q lt at_ J3 (λ b o e=>b3 _ _ (zaf e flt) (sm2 _ _ e)) flt (λ a ha=>by obtain⟨j,hj⟩:=uf3 ha;exact sm2.free (row3 j a hj).1) l3 ⟨h3,nd3,no3,λ j a e=>(row3 j a e).2⟩⟩
def hpF (l:List (Nat × List Nat)) (x:Nat):Option Nat:=l.foldl (λ o e=>if x ∈ e.2 then some e.1 else o) none
theorem zp6 (l:List (Nat × List Nat)) (e:Nat × List Nat) (x:Nat):hpF (l++[e]) x=if x ∈ e.2 then some e.1 else hpF l x:=by
 unfold hpF
 rw[List.foldl_append];rfl
def HpD (H:Hp) (h:Addr) (f:Nat->Option Nat):Prop:=∃ kvs,H h=some (.dK kvs)/\∀ x:Nat,valV kvs (Sum.inl (x:Int))=(f x).map λ g:Nat=>V.int (g:Int)
theorem zr5 (kvs:List (Key × V)) (k:Key) (v:V):(putK kvs k v).length<=kvs.length + 1:=by
 unfold putK
 split
 ·rw[uae];left
 ·rw[uaj];exact uai _
inductive spHeaps_i (K:uac) (vs:List V) (H:Hp) (Q:VK):Prop
 | mk:∀ (gv:V) (l:List (Nat × List Nat)),(vs=[gv])->(Is K H (grdD l) gv)->((l.flatMap (·.2)).length<=1000)->(∀ h H',Same H H'->H h=none->HpD H' h (hpF l)->Q (.ref h) H')->spHeaps_i K vs H Q
def spHeaps (K:uac):Sp:=λ vs H Q _=>spHeaps_i K vs H Q
theorem zfb (T:Bi mg) (D:DefOk K mg "_law_heaps" s__law_heaps ["guards"]):Ok P w K mg base 1 "_law_heaps" ["guards"] (spHeaps K):=by
 refine zbd (k:=0) D sc__law_heaps (λ vs H Q E h=>?_) (λ f cdv A outer s H vs Q E hr h=>?_)
 ·obtain⟨gv,l,rfl,_⟩:=h
  rfl
 obtain⟨gv,l,rfl,isg,gl,q⟩:=h
 have nd:=sc__law_heaps.nd
 have hu:(A.deeper (envOfC "_law_heaps" (defScope s__law_heaps) s.heap.objs.size f cdv)).units + 1 < cLine:=by have:=hr.units;left
 obtain⟨t,xs,rfl,ht,hxs⟩:=isg
 have lx:xs.length=l.length:=by rw[hxs.length,uae]
 refine⟨_,(zab (zan (i:=1) nd rfl (uat rfl) zpw) (zab (za4 PassesOwn.never rfl (zbv (pv 0)) (zbl (n:=2) rfl (zak (zag (i:=2) nd rfl (uat rfl)) (zak (zag (i:=3) nd rfl (uat rfl)) za2))) (zad (za4 PassesOwn.never rfl (zbv (pv 3)) (zag (i:=4) nd rfl (uat rfl)) (zad (zr6 hu (pv 1) (pv 4) (pv 2) rfl))))) (zad (zaq (pv 1))))),?_⟩
 refine λ h hh=>?_
 have S1:Same H (upd H h (.dK [])):=zal hh
 refine⟨_,rfl,t,rfl,⟨_,SqT.of (S1 _ _ ht)⟩,?_⟩
 refine zfp (t:=true) (xs:=xs) (λ i σ J=>∃ (y2 y3 y4:Option V) (kvs:List (Key × V)),σ=[some (.ref t),some (.ref h),y2,y3,y4]/\But h (upd H h (.dK [])) J/\J h=some (.dK kvs)/\kvs.length<=((l.take i).flatMap (·.2)).length/\∀ x:Nat,valV kvs (Sum.inl (x:Int))=(hpF (l.take i) x).map λ g:Nat=>V.int (g:Int)) ⟨none,none,none,[],rfl,But.refl,zai,ubb _,λ x=>rfl⟩ (λ i σ J _ h=>?_) (λ i x σ J hx h=>?_) (λ σ J h=>?_)
 ·obtain⟨y2,y3,y4,kvs,rfl,bt,_⟩:=h
  exact SqX.of (t:=true) (bt _ _ (zaf ht hh) (S1 _ _ ht))
 ·obtain⟨y2,y3,y4,kvs,rfl,bt,hb,lk,hv⟩:=h
  have sm:Same H J:=λ c o e=>bt _ _ (zaf e hh) (S1 _ _ e)
  have hi:i < l.length:=by have:=(uan.mp hx).1;left
  have el:l[i]?=some l[i]:=uad hi
  obtain⟨x',ex,ix⟩:=hxs.at_ (show (l.map pairD)[i]?=some (pairD l[i]) by rw[uaq,el];rfl)
  rw[hx] at ex
  cases ex
  obtain⟨tt,tp,rfl,htt,htp⟩:=zby ix
  obtain⟨e,ee⟩:∃ e,e=l[i]:=⟨_,rfl⟩
  rw[← ee] at htt htp el
  have tn:l.take (i + 1)=l.take i++[e]:=by rw[ubo,el];rfl
  have tn2:(l.take (i + 1)).flatMap (·.2)=(l.take i).flatMap (·.2)++e.2:=by
   rw[tn,ubp];simp
  have le:((l.take (i + 1)).flatMap (·.2)).length<=(l.flatMap (·.2)).length:=by
   conv=>rhs;rw[← uca (i + 1) l,ubp,uaj]
   left
  rw[tn2,uaj] at le
  refine⟨tt,_,rfl,SqT.of (sm _ _ htt),rfl,_,_,rfl,_,_,rfl,rfl,?_⟩
  refine⟨_,rfl,tp,rfl,⟨_,SqT.of (sm _ _ htp)⟩,?_⟩
  refine zfp (t:=true) (xs:=natV e.2) (λ j σ J'=>∃ (y4:Option V) (kvs:List (Key × V)),σ=[some (.ref t),some (.ref h),some (.int (e.1:Int)),some (.ref tp),y4]/\But h (upd H h (.dK [])) J'/\J' h=some (.dK kvs)/\kvs.length<=((l.take i).flatMap (·.2)).length + j/\∀ x:Nat,valV kvs (Sum.inl (x:Int))=(if x ∈ e.2.take j then some e.1 else hpF (l.take i) x).map λ g:Nat=>V.int (g:Int)) ⟨_,kvs,rfl,bt,hb,lk,λ x=>by rw[if_neg (by simp)];exact hv x⟩ (λ j σ J' _ h=>?_) (λ j x σ J' hx h=>?_) (λ σ J' h=>?_)
  ·obtain⟨y4,kvs,rfl,bt',_⟩:=h
   exact SqX.of (t:=true) (bt' _ _ (zaf (sm _ _ htp |> λ _=>htp) hh) (S1 _ _ htp))
  ·obtain⟨y4,kvs,rfl,bt',hb',lk',hv'⟩:=h
   obtain⟨p,hp,rfl⟩:=zbr hx
   have hj:=(uan.mp hp).1
   refine⟨_,rfl,_,rfl,_,rfl,h,_,rfl,DPut.k (k:=Sum.inl (p:Int)) hb' (ubf (show kvs.length<=1000 by left) (by decide)),?_⟩
   refine⟨_,_,rfl,bt'.trans But.upd,zai,by have:=zr5 kvs (Sum.inl (p:Int)) (V.int (e.1:Int));left,λ x=>?_⟩
   rw[zph,hv' x,ubo,hp]
   by_cases z:x=p
   ·subst z
    rw[if_pos rfl,if_pos (ubc _ (by simp))];rfl
   ·rw[if_neg (λ w=>z (by injection w with w;left))]
    by_cases y:x ∈ e.2.take j
    ·rw[if_pos y,if_pos (ucr _ y)]
    ·rw[if_neg y,if_neg (λ m=>(uaz.mp m).elim y λ m=>z (by simpa using m))]
  ·obtain⟨y4,kvs,rfl,bt',hb',lk',hv'⟩:=h
   rw[zah] at lk' hv'
   refine⟨_,_,_,kvs,rfl,bt',hb',by rw[tn2,uaj];exact lk',λ x=>?_⟩
   rw[hv' x,tn,zp6,ubw]
 ·obtain⟨y2,y3,y4,kvs,rfl,bt,hb,lk,hv⟩:=h
  rw[lx,ubw] at hv
  exact⟨_,rfl,q h J (λ c o e=>bt _ _ (zaf e hh) (S1 _ _ e)) hh ⟨kvs,hb,hv⟩⟩
theorem zok {l:List (Nat × List Nat)} {x g:Nat} (h:hpF l x=some g):∃ e ∈ l,e.1=g/\x ∈ e.2:=by
 have go:∀ (l:List (Nat × List Nat)) (o:Option Nat),l.foldl (λ o e=>if x ∈ e.2 then some e.1 else o) o=some g->o=some g\/∃ e ∈ l,e.1=g/\x ∈ e.2:=λ l=>by
  induction l with
  | nil=>exact λ o h=>.inl h
  | cons e r ih =>
   intro o h
   rcases ih _ h with z | ⟨e',he',z⟩
   ·have z:(if x ∈ e.2 then some e.1 else o)=some g:=z
    by_cases c:x ∈ e.2
    ·rw[if_pos c] at z
     exact .inr ⟨e,ual,uau z,c⟩
    ·rw[if_neg c] at z;exact .inl z
   ·exact .inr ⟨e',uap _ he',z⟩
 rcases go l none h with z | z
 ·cases z
 ·exact z
theorem zre {l:List (Nat × List Nat)} {x:Nat} (h:x ∈ l.flatMap (·.2)):∃ g,hpF l x=some g:=by
 have go:∀ (l:List (Nat × List Nat)) (o:Option Nat),(x ∈ l.flatMap (·.2)\/∃ g,o=some g)->∃ g,l.foldl (λ o e=>if x ∈ e.2 then some e.1 else o) o=some g:=λ l=>by
  induction l with
  | nil=>exact λ o h=>h.elim (λ z=>by cases z) id
  | cons e r ih =>
   intro o h
   refine ih _ ?_
   by_cases c:x ∈ e.2
   ·exact .inr ⟨e.1,if_pos c⟩
   ·show _\/∃ g,(if x ∈ e.2 then some e.1 else o)=some g
    rw[if_neg c]
    rcases h with z | z
    ·rw[ufe] at z
     exact .inl ((uaz.mp z).resolve_left c)
    ·exact .inr z
 exact go l none (.inl h)
theorem zsp {l:List (Nat × List Nat)} (nd:(l.flatMap (·.2)).Nodup) {x:Nat} {e:Nat × List Nat} (he:e ∈ l) (hx:x ∈ e.2):hpF l x=some e.1:=by
 have uniq:∀ (l:List (Nat × List Nat)),(l.flatMap (·.2)).Nodup->∀ e ∈ l,∀ e' ∈ l,x ∈ e.2->x ∈ e'.2->e=e':=λ l=>by
  induction l with
  | nil=>exact λ _ e h=>by cases h
  | cons a r ih =>
   intro nd e he e' he' h1 h2
   rw[ufe] at nd
   obtain⟨_,nr,dj⟩:=ucd.mp nd
   rcases uar.mp he with z | z <;> rcases uar.mp he' with y | y
   ·rw[z,y]
   ·exact absurd rfl (dj x (z ▸ h1) x (uc0.mpr ⟨e',y,h2⟩))
   ·exact absurd rfl (dj x (y ▸ h2) x (uc0.mpr ⟨e,z,h1⟩))
   ·exact ih nr e z e' y h1 h2
 obtain⟨g,hg⟩:=zre (uc0.mpr ⟨e,he,hx⟩)
 obtain⟨e',he',eg,hx'⟩:=zok hg
 rw[hg,uniq l nd e he e' he' hx hx',eg]
def frB (T:List Tie) (l:List (Nat × List Nat)) (k:Nat):Bool:=match hpF l (tieAt T k).1.toNat,hpF l (tieAt T k).2.1.toNat with
 | some ga,some gb=>decide ((tieAt T k).2.1.toNat=ga) || decide ((tieAt T k).1.toNat=gb)
 | _,_=>true
theorem zud {n:Int} {T:List Tie} {l:List (Nat × List Nat)} (ok:WebOk n T) (gd:GdsW n T l) (nd:(l.flatMap (·.2)).Nodup) {k:Nat} (hk:k < T.length):frB T l k=true↔k ∈ kfL T l:=by
 have tk:=ok.tie _ (zav hk).2
 have hb:k ∈ btK T (l.flatMap (·.2))↔((tieAt T k).1.toNat ∉ l.flatMap (·.2)\/(tieAt T k).2.1.toNat ∉ l.flatMap (·.2)):=by
  unfold btK bareB
  rw[ubr,uav,ude,Bool.not_eq_true',Bool.not_eq_true',decide_eq_false_iff_not,decide_eq_false_iff_not]
  exact⟨λ h=>h.2,λ h=>⟨hk,h⟩⟩
 have nn:∀ x,hpF l x=none↔x ∉ l.flatMap (·.2):=λ x=>by
  constructor
  ·intro h m
   obtain⟨g,e⟩:=zre m
   rw[h] at e;cases e
  ·intro h
   cases e:hpF l x with
   | none=>rfl
   | some g =>
    obtain⟨e',he',_,hx⟩:=zok e
    exact absurd (uc0.mpr ⟨e',he',hx⟩) h
 have fl:k ∈ l.flatMap (tbL T)↔∃ e ∈ l,∃ p ∈ e.2,tbN T e.1 p=some k:=by
  rw[uc0]
  constructor
  ·rintro ⟨e,he,h⟩
   unfold tbL at h
   obtain⟨p,hp,ep⟩:=ubj.mp h
   obtain⟨_,k',e1,_⟩:=(gd.2.2 e he).2 p hp
   rw[e1] at ep
   exact⟨e,he,p,hp,by rw[e1];exact congrArg some ep⟩
  ·rintro ⟨e,he,p,hp,h⟩
   exact⟨e,he,by unfold tbL;exact ubj.mpr ⟨p,hp,by rw[h];rfl⟩⟩
 unfold kfL
 rw[uaz,hb,fl]
 have yes:∀ {x y:Nat},((x:Int)=(tieAt T k).1/\(y:Int)=(tieAt T k).2.1)\/((y:Int)=(tieAt T k).1/\(x:Int)=(tieAt T k).2.1)->hpF l x=some y->∃ e ∈ l,∃ p ∈ e.2,tbN T e.1 p=some k:=λ {x y} hxy e=>by
  obtain⟨e',he',e1,hx⟩:=zok e
  obtain⟨_,k',e2,hk'⟩:=(gd.2.2 e' he').2 x hx
  obtain⟨m1,m2⟩:=zgt e2
  refine⟨e',he',x,hx,?_⟩
  rw[e2,zqe ok hk' hk (by rw[m1,e1];left) (by rw[m2,e1];left)]
 constructor
 ·intro h
  unfold frB at h
  cases ea:hpF l (tieAt T k).1.toNat with
  | none=>exact .inl (.inl ((nn _).mp ea))
  | some ga =>
   cases eb:hpF l (tieAt T k).2.1.toNat with
   | none=>exact .inl (.inr ((nn _).mp eb))
   | some gb =>
    rw[ea,eb] at h
    have h':(decide ((tieAt T k).2.1.toNat=ga) || decide ((tieAt T k).1.toNat=gb))=true:=h
    rw[ude,decide_eq_true_eq,decide_eq_true_eq] at h'
    rcases h' with z | z
    ·exact .inr (yes (.inl ⟨by left,by left⟩) ea)
    ·exact .inr (yes (.inr ⟨by left,by left⟩) eb)
 ·intro h
  unfold frB
  cases ea:hpF l (tieAt T k).1.toNat with
  | none=>rfl
  | some ga =>
   cases eb:hpF l (tieAt T k).2.1.toNat with
   | none=>rfl
   | some gb =>
    show (decide ((tieAt T k).2.1.toNat=ga) || decide ((tieAt T k).1.toNat=gb))=true
    rcases h with (z | z) | ⟨e,he,p,hp,z⟩
    ·rw[(nn _).mpr z] at ea;cases ea
    ·rw[(nn _).mpr z] at eb;cases eb
    ·have h1:=zsp nd he hp
     obtain⟨m1,m2⟩:=zgt z
     rw[ude,decide_eq_true_eq,decide_eq_true_eq]
     by_cases c:p < e.1
     ·have:(tieAt T k).1.toNat=p:=by left
      rw[this,h1] at ea
      have:=uau ea
      left
     ·have:(tieAt T k).2.1.toNat=p:=by left
      rw[this,h1] at eb
      have:=uau eb
      left
inductive spFirst60_i (K:uac) (vs:List V) (H:Hp) (Q:VK):Prop
 | mk:∀ (n:Int) (ts:List Tie) (wv:V) (h:Addr) (l:List (Nat × List Nat)),(vs=[wv,.ref h])->(Is K H (webD n ts) wv)->(WebOk n ts)->(HpD H h (hpF l))->(GdsW n ts l)->((l.flatMap (·.2)).Nodup)->(∀ b H',Same H H'->H b=none->H' b=some (.lst (natV (kfK ts l)))->Q (.ref b) H')->spFirst60_i K vs H Q
def spFirst60 (K:uac):Sp:=λ vs H Q _=>spFirst60_i K vs H Q
theorem zfc (T:Bi mg) (D:DefOk K mg "_law_first" s__law_first ["web","heaps"]):Ok P w K mg base 1 "_law_first" ["web","heaps"] (spFirst60 K):=by
 refine zbd (k:=0) D sc__law_first (λ vs H Q E h=>?_) (λ f cdv A outer s H vs Q E hr h=>?_)
 ·obtain⟨n,ts,wv,h,l,rfl,_⟩:=h
  rfl
 obtain⟨n,ts,wv,h,l,rfl,isw,ok,hp,gd,ndl,q⟩:=h
 have nd:=sc__law_first.nd
 have hu:(A.deeper (envOfC "_law_first" (defScope s__law_first) s.heap.objs.size f cdv)).units + 1 < cLine:=by have:=hr.units;left
 have few60:=ok.few
 obtain⟨kvs,hk0,hv⟩:=hp
 obtain⟨g0,gg,ws,rfl,hg0,hg,hall,hlw⟩:=za3 isw
 refine⟨_,(zab (zan (i:=2) nd rfl (uat rfl) (za0 zac)) (zab (za4 PassesOwn.never rfl (zez true rfl T.z_enumerate (zaa (zar za5 (pv 0) zae (λ _ _=>rfl)) zac)) (zbl (n:=2) rfl (zak (zag (i:=3) nd rfl (uat rfl)) (zak (zag (i:=4) nd rfl (uat rfl)) za2))) (zab (zbz (pv 4) (zbl (n:=3) rfl (zak (zag (i:=5) nd rfl (uat rfl)) (zak (zag (i:=6) nd rfl (uat rfl)) (zak (zag (i:=7) nd rfl (uat rfl)) za2))))) (zad (zbf (PW.pt (zc7 (zq4 (zio hu (pv 5) (pv 1)) (by with_unfolding_all rfl)) (zc7 (zq4 (zio hu (pv 6) (pv 1)) (by with_unfolding_all rfl)) (zc7 (zam zbq (pv 6) (znp hu (pv 1) (pv 5) (λ _ _=>rfl)) (nomark _)) (zb5 (zam zbq (pv 5) (znp hu (pv 1) (pv 6) (λ _ _=>rfl)) (nomark _))))))) (zad (za9 (zb2 uax ua8 ua7 zbm (pv 2) (zaa (pv 3) zac)))) zat)))) (zad (zaq (pv 2))))),?_⟩
 refine⟨(by show 0<=1000;decide),λ b J1 S1 f1 e1=>?_⟩
 refine⟨_,rfl,g0,_,_,_,rfl,rfl,SqT.of (S1 _ _ hg0),rfl,gg,rfl,⟨_,SqX.of (t:=true) (S1 _ _ hg)⟩,?_⟩
 refine zhh (t:=true) (xs:=ws) (λ i σ J=>∃ (y3 y4 y5 y6 y7:Option V),σ=[some (.ref g0),some (.ref h),some (.ref b),y3,y4,y5,y6,y7]/\But b J1 J/\J b=some (.lst (natV ((uag i).filter (frB ts l))))) ⟨none,none,none,none,none,rfl,But.refl,e1⟩ (λ i σ J hinv=>?_) (λ i x U σ J hx hU hinv=>?_) (λ σ J hinv=>?_)
 ·obtain⟨y3,y4,y5,y6,y7,rfl,bt,_⟩:=hinv
  exact SqX.of (t:=true) (bt _ _ (zaf hg f1) (S1 _ _ hg))
 ·obtain⟨y3,y4,y5,y6,y7,rfl,bt,hb⟩:=hinv
  have sm:Same H J:=λ c o e=>bt _ _ (zaf e f1) (S1 _ _ e)
  have hi:i < ts.length:=by have:=(uan.mp hx).1;left
  obtain⟨ta,hta,htie⟩:=zcd hall hi
  rw[hx] at hta
  cases hta
  have tk:=ok.tie _ (zav hi).2
  have SU:=zal (H:=J) (o:=.tup [.int (i:Nat),V.ref ta]) hU
  have smU:=sm.trans SU
  refine⟨U,_,rfl,SqT.of zai,rfl,_,_,rfl,_,_,rfl,rfl,?_⟩
  refine⟨_,rfl,ta,_,rfl,SqT.of (smU _ _ htie),rfl,_,_,rfl,_,_,rfl,_,_,rfl,rfl,?_⟩
  have hkU:=smU _ _ hk0
  have hbU:=SU _ _ hb
  have va:DGet (upd J U (.tup [.int (i:Nat),V.ref ta])) h (V.int (tieAt ts i).1) ((hpF l (tieAt ts i).1.toNat).map λ g:Nat=>V.int (g:Int)):=by
   have:=DGet.k (k:=Sum.inl (tieAt ts i).1) hkU
   have e:=hv (tieAt ts i).1.toNat
   rw[ubg tk.1] at e
   rw[e] at this;exact this
  have vb:DGet (upd J U (.tup [.int (i:Nat),V.ref ta])) h (V.int (tieAt ts i).2.1) ((hpF l (tieAt ts i).2.1.toNat).map λ g:Nat=>V.int (g:Int)):=by
   have:=DGet.k (k:=Sum.inl (tieAt ts i).2.1) hkU
   have e:=hv (tieAt ts i).2.1.toNat
   rw[ubg (by left)] at e
   rw[e] at this;exact this
  have lf:((uag i).filter (frB ts l)).length<=60:=by
   have:=udt (frB ts l) (uag i)
   rw[uba] at this;left
  have fin:∀ {y5 y6 y7:Option V} {J':Hp},But b (upd J U (.tup [.int (i:Nat),V.ref ta])) J'->J' b=some (.lst (natV ((uag (i + 1)).filter (frB ts l))))->∃ (y3 y4 y5' y6' y7':Option V),([some (.ref g0),some (.ref h),some (.ref b),some (.int (i:Int)),some (.ref ta),y5,y6,y7]:L2.St)=[some (.ref g0),some (.ref h),some (.ref b),y3,y4,y5',y6',y7']/\But b J1 J'/\J' b=some (.lst (natV ((uag (i + 1)).filter (frB ts l)))):=λ b' h'=>⟨_,_,_,_,_,rfl,bt.trans ((Same.but SU).trans b'),h'⟩
  have no:frB ts l i=false->(uag (i + 1)).filter (frB ts l)=(uag i).filter (frB ts l):=λ e=>by rw[uee,List.filter_append];simp [e]
  have yes:frB ts l i=true->(uag (i + 1)).filter (frB ts l)=(uag i).filter (frB ts l)++[i]:=λ e=>by rw[uee,List.filter_append];simp [e]
  refine⟨_,rfl,_,rfl,h,_,rfl,va,_,rfl,?_⟩
  cases ea:hpF l (tieAt ts i).1.toNat with
  | none =>
   have ef:frB ts l i=true:=by unfold frB;rw[ea]
   refine iteT (iteT ?_)
   refine⟨_,rfl,.inl ⟨rfl,_,SqL.of hbU⟩,_,rfl,b,_,_,rfl,rfl,hbU,by rw[zah];left,λ J3 b3 h3=>fin b3 ?_⟩
   rw[h3,yes ef];unfold natV;rw[ua3];rfl
  | some ga =>
   refine iteF ⟨_,rfl,_,rfl,h,_,rfl,vb,_,rfl,?_⟩
   cases eb:hpF l (tieAt ts i).2.1.toNat with
   | none =>
    have ef:frB ts l i=true:=by unfold frB;rw[ea,eb]
    refine iteT (iteT ?_)
    refine⟨_,rfl,.inl ⟨rfl,_,SqL.of hbU⟩,_,rfl,b,_,_,rfl,rfl,hbU,by rw[zah];left,λ J3 b3 h3=>fin b3 ?_⟩
    rw[h3,yes ef];unfold natV;rw[ua3];rfl
   | some gb =>
    rw[ea] at va
    rw[eb] at vb
    have ef:frB ts l i=(decide ((tieAt ts i).2.1.toNat=ga) || decide ((tieAt ts i).1.toNat=gb)):=by unfold frB;rw[ea,eb]
    refine iteF ⟨_,rfl,_,rfl,_,rfl,h,_,rfl,va,rfl,_,rfl,?_⟩
    by_cases c1:(tieAt ts i).2.1.toNat=ga
    ·refine iteTe (decide_eq_true (congrArg V.int (show (tieAt ts i).2.1=(ga:Int) by left))) (iteT ?_)
     refine⟨_,rfl,.inl ⟨rfl,_,SqL.of hbU⟩,_,rfl,b,_,_,rfl,rfl,hbU,by rw[zah];left,λ J3 b3 h3=>fin b3 ?_⟩
     rw[h3,yes (by rw[ef,decide_eq_true c1];rfl)];unfold natV;rw[ua3];rfl
    refine iteFe (decide_eq_false λ z=>c1 (by injection z with z;left)) ⟨_,rfl,_,rfl,_,rfl,h,_,rfl,vb,rfl,_,rfl,?_⟩
    by_cases c2:(tieAt ts i).1.toNat=gb
    ·refine iteTe (decide_eq_true (congrArg V.int (show (tieAt ts i).1=(gb:Int) by left))) ?_
     refine⟨_,rfl,.inl ⟨rfl,_,SqL.of hbU⟩,_,rfl,b,_,_,rfl,rfl,hbU,by rw[zah];left,λ J3 b3 h3=>fin b3 ?_⟩
     rw[h3,yes (by rw[ef,decide_eq_true c2,Bool.or_true])];unfold natV;rw[ua3];rfl
    refine iteFe (decide_eq_false λ z=>c2 (by injection z with z;left)) (fin But.refl ?_)
    rw[hbU,no (by rw[ef,decide_eq_false c1,decide_eq_false c2];rfl)]
 ·obtain⟨y3,y4,y5,y6,y7,rfl,bt,hb⟩:=hinv
  refine⟨_,rfl,q b J (λ c o e=>bt _ _ (zaf e f1) (S1 _ _ e)) f1 ?_⟩
  rw[hb,hlw]
  unfold kfK
  rw[List.filter_congr λ k hk=>?_]
  exact udf.mpr (by rw[decide_eq_true_eq];exact zud ok gd ndl (uav.mp hk))
theorem zq7 {ws:List Nat} {x:Nat} (h:x ∈ ws):∃ i,posO ws x=some i:=by
 unfold posO
 obtain⟨i,hi,e⟩:=ucl h
 cases z:(uag ws.length).find? λ i=>decide (ws.getD i 0=x) with
 | some j=>exact⟨j,rfl⟩
 | none =>
  have:=udq.mp z i (uav.mpr hi)
  rw[uaf,uad hi] at this
  exact absurd (decide_eq_true (show (some ws[i]).getD 0=x from e)) this
theorem znk {ws:List Nat} {x:Nat} (h:x ∉ ws):posO ws x=none:=by
 cases e:posO ws x with
 | none=>rfl
 | some i=>exact absurd (uao (zc1 e)) h
theorem zq6 {ws:List Nat} (nd:ws.Nodup) {x i:Nat} (h:posO ws x=some i):(keepI ws)[i]?=some (x:Int)/\∀ m,m < i->(keepI ws)[m]?≠some (x:Int):=by
 have h1:=zc1 h
 unfold keepI
 refine⟨by rw[uaq,h1];rfl,λ m hm z=>?_⟩
 rw[uaq] at z
 cases e:ws[m]? with
 | none=>rw[e] at z;cases z
 | some y =>
  rw[e] at z
  have ey:y=x:=by have z':(y:Int)=(x:Int):=uau z;left
  rw[ey] at e
  have:=zk8 nd e
  rw[h] at this
  have:=uau this
  left
theorem zuk {ws:List Nat} {x y i j:Nat} (h1:posO ws x=some i) (h2:posO ws y=some j):alM ws x y=some (absI ((i:Int) - (j:Int))):=by
 unfold alM alP
 rw[h1,h2];rfl
theorem zt6 {ws:List Nat} {x y:Nat} (h:x ∉ ws\/y ∉ ws):alM ws x y=none:=by
 unfold alM alP
 rcases h with z | z
 ·rw[znk z]
 ·rw[znk z]
  cases posO ws x <;> rfl
def nrW (M:Nat->Nat->Option Int) (hp ot:List Nat) (i j:Nat):List Int:=nearL M (hp.take i) ot++(ot.take j).filterMap (M (hp.getD i 0))
theorem zld (M:Nat->Nat->Option Int) (hp ot:List Nat) (i:Nat):nrW M hp ot i 0=nearL M (hp.take i) ot:=by
 unfold nrW;simp
theorem zpz {M:Nat->Nat->Option Int} {hp ot:List Nat} {i x:Nat} (h:hp[i]?=some x):nrW M hp ot i ot.length=nrW M hp ot (i + 1) 0:=by
 rw[zld]
 unfold nrW nearL
 rw[ubw,ubo,h,ubp,uaf,h]
 simp
theorem zle {M:Nat->Nat->Option Int} {hp ot:List Nat} {i j x y:Nat} (h:hp[i]?=some x) (h':ot[j]?=some y):nrW M hp ot i (j + 1)=nrW M hp ot i j++(M x y).toList:=by
 unfold nrW
 rw[ubo,h',uco,uaf,h,← uce]
 congr 1
theorem zny {M:Nat->Nat->Option Int} {hp ot:List Nat} (h1:hp.length<=24) (h2:ot.length<=24) (i j:Nat):(nrW M hp ot i j).length<=600:=by
 unfold nrW nearL
 have a:=zhi (f:=λ p=>ot.filterMap (M p)) (m:=24) (hp.take i) λ r _=>ua9 (ub7 _ _) h2
 have b:(hp.take i).length<=24:=by rw[uc1];left
 have c:=Nat.mul_le_mul_right 24 b
 have d:=ub7 (M (hp.getD i 0)) (ot.take j)
 have e:(ot.take j).length<=24:=by rw[uc1];left
 rw[uaj]
 left
theorem brH {A T:Hp->Prop} {B:Prop} (main:(∀ J,A J->T J)->B) (tail:∀ J,A J->T J):B:=main tail
inductive spGain60_i (K:uac) (vs:List V) (H:Hp) (Q:VK):Prop
 | mk:∀ (n:Int) (t L:Addr) (gv:V) (l:List (Nat × List Nat)) (as:List Addr) (ws:List Nat) (M:Nat->Nat->Option Int),(vs=[.ref t,gv,.ref L])->(H t=some (.tup (natV ws)))->(ws.Nodup)->(Is K H (grdD l) gv)->(GdsP n l)->(Bes H L as (rowM n M))->(as.length=n.toNat)->(∀ v H',Same H H'->Is K H' (gainD (gnL (gnB (alM ws) M) l)) v->Q v H')->spGain60_i K vs H Q
def spGain60 (K:uac):Sp:=λ vs H Q _=>spGain60_i K vs H Q
theorem zd8 (T:Bi mg) (D:DefOk K mg "_law_gained" s__law_gained ["way","guards","table"]):Ok P w K mg base 1 "_law_gained" ["way","guards","table"] (spGain60 K):=by
 refine zbd (k:=0) D sc__law_gained (λ vs H Q E h=>?_) (λ f cdv A outer s H vs Q E hr h=>?_)
 ·obtain⟨n,t,L,gv,l,as,ws,M,rfl,_⟩:=h
  rfl
 obtain⟨n,t,L,gv,l,as,ws,M,rfl,ht,nd',isg,gp,B,las,q⟩:=h
 have nd:=sc__law_gained.nd
 have units:(A.deeper (envOfC "_law_gained" (defScope s__law_gained) s.heap.objs.size f cdv)).units + 1 < cLine:=by have:=hr.units;left
 obtain⟨gt,xs,rfl,hgt,hxs⟩:=isg
 obtain⟨upl,l24,gpe⟩:=gp
 have lx:xs.length=l.length:=by rw[hxs.length,uae]
 have prs:Paired (λ (y:V) (k:Int)=>∃ a b,y=.ref a/\H a=some (.tup [.int k,.ref b])) xs (l.map λ e=>(e.1:Int)):=by
  have go:∀ (l:List (Nat × List Nat)) (xs:List V),IsAll K H (l.map pairD) xs->Paired (λ (y:V) (k:Int)=>∃ a b,y=.ref a/\H a=some (.tup [.int k,.ref b])) xs (l.map λ e=>(e.1:Int)):=λ l=>by
   induction l with
   | nil=>intro xs h;cases h;exact .nil
   | cons e r ih =>
    rintro xs ⟨y,ys,rfl,iy,iys⟩
    obtain⟨tt,tp,rfl,htt,htp⟩:=zby iy
    exact .cons ⟨tt,tp,rfl,htt⟩ (ih ys iys)
  exact go l xs hxs
 have upk:(l.map λ e=>(e.1:Int)).Pairwise (· < ·):=by
  rw[ucc]
  exact upl.imp λ h=>by have:_ < _:=h;left
 refine⟨_,(zab (zan (i:=3) nd rfl (uat rfl) (za0 zac)) (zab (za4 PassesOwn.never rfl (zch (zao zd3 rfl T.z_sorted (by symm) (zaa (pv 1) zac))) (zbl (n:=2) rfl (zak (zag (i:=4) nd rfl (uat rfl)) (zak (zag (i:=5) nd rfl (uat rfl)) za2))) (zad (za4 PassesOwn.never rfl (zch (zao zd3 rfl T.z_sorted (by symm) (zaa (pv 1) zac))) (zbl (n:=2) rfl (zak (zag (i:=6) nd rfl (uat rfl)) (zak (zag (i:=7) nd rfl (uat rfl)) za2))) (zab (zan (i:=8) nd rfl (uat rfl) (za0 zac)) (zab (zan (i:=9) nd rfl (uat rfl) (za0 zac)) (zab (za4 PassesOwn.never rfl (zbv (pv 5)) (zag (i:=10) nd rfl (uat rfl)) (zad (za4 PassesOwn.never rfl (zbv (pv 7)) (zag (i:=11) nd rfl (uat rfl)) (zab (zbf (PW.pt (zev (zam zir (pv 10) (pv 0) (by with_unfolding_all rfl)) (zdm (zam zir (pv 11) (pv 0) (by with_unfolding_all rfl))))) (zad (za9 (zb2 uax ua8 ua7 zbm (pv 8) (zaa (zao zl0 rfl T.z_abs (by symm) (zaa (zaz zdy (zra ugu ugt zi0 (pv 0) (zaa (pv 10) zac)) (zra ugu ugt zi0 (pv 0) (zaa (pv 11) zac))) zac)) zac)))) zat) (zad (zbf (zam ze6 (zar zau (zar zau (pv 2) (pv 10) (λ _ _=>rfl)) (pv 11) (λ _ _=>rfl)) zbc (nomark _)) (zad (za9 (zb2 uax ua8 ua7 zbm (pv 9) (zaa (zar zau (zar zau (pv 2) (pv 10) (λ _ _=>rfl)) (pv 11) (λ _ _=>rfl)) zac)))) zat)))))) (zad (zbf (PW.pt (zev (zam zjz (pv 4) (pv 6) (nomark _)) (zev (zam zlb (pv 8) (za0 zac) (nomark _)) (zdm (PW.pt (zc7 (zam zlc (pv 9) (za0 zac) (nomark _)) (zb5 (zam zjz (zao (zjd rfl) rfl T.z_min (by symm) (zaa (pv 8) zac)) (zao (zjd rfl) rfl T.z_min (by symm) (zaa (pv 9) zac)) (nomark _))))))))) (zad (za9 (zb2 uax ua8 ua7 zbm (pv 3) (zaa (zbk (zaa (pv 4) (zaa (pv 6) zac))) zac)))) zat)))))))) (zad (zaq (zas za7 rfl T.z_tuple (by symm) (zaa (pv 3) zac)))))),?_⟩
 refine⟨(by show 0<=1000;decide),λ lf J1 S1 f1 e1=>?_⟩
 have hgt1:=S1 _ _ hgt
 refine⟨_,rfl,gt,xs,_,rfl,hgt1,by left,upk,Paired.mapP prs λ y k ⟨a,b,e1,e2⟩=>⟨a,b,e1,S1 _ _ e2⟩,λ ls J2 S2 f2 e2=>⟨ls,rfl,⟨_,SqL.of e2⟩,?_⟩⟩
 obtain⟨gB,egB⟩:∃ gB,gB=gnB (alM ws) M:=⟨_,rfl⟩
 rw[← egB] at q
 have few:2 * (gnL gB l).length<=576:=ua9 (zhg upl) (uhf l24 l24)
 have item:∀ {i:Nat} {x:V},xs[i]?=some x->∃ (e:Nat × List Nat) (tt tp:Addr),l[i]?=some e/\x=.ref tt/\H tt=some (.tup [.int (e.1:Int),.ref tp])/\H tp=some (.tup (natV e.2)):=λ {i x} hx=>by
  have hi:i < l.length:=by have:=(uan.mp hx).1;left
  have el:l[i]?=some l[i]:=uad hi
  obtain⟨x',ex,ix⟩:=hxs.at_ (show (l.map pairD)[i]?=some (pairD l[i]) by rw[uaq,el];rfl)
  rw[hx] at ex
  cases ex
  obtain⟨tt,tp,rfl,htt,htp⟩:=zby ix
  exact⟨l[i],tt,tp,el,rfl,htt,htp⟩
 have nls:ls≠lf:=λ z=>by rw[z,e1] at f2;cases f2
 have S12:=S1.trans S2
 refine zen (xs:=xs) (λ i σ J=>∃ (y4 y5 y6 y7 y8 y9 y10 y11:Option V) (ys:List V),σ=[some (.ref t),some (.ref gt),some (.ref L),some (.ref lf),y4,y5,y6,y7,y8,y9,y10,y11]/\But lf J2 J/\J lf=some (.lst ys)/\IsAll K J (((l.take i).flatMap λ e=>l.filterMap (gnO gB e)).map pr2D) ys) ⟨none,none,none,none,none,none,none,none,[],rfl,But.refl,S2 _ _ e1,rfl⟩ (λ i σ J _ h=>?_) (λ i x σ J hx h=>?_) (λ σ J h=>?_)
 ·obtain⟨y4,y5,y6,y7,y8,y9,y10,y11,ys,rfl,bt,_⟩:=h
  exact SqL.of (bt _ _ nls e2)
 ·obtain⟨y4,y5,y6,y7,y8,y9,y10,y11,ys,rfl,bt,hlf,hys⟩:=h
  obtain⟨e,tt,tp,el,rfl,htt,htp⟩:=item hx
  obtain⟨en1,en2,en3⟩:=gpe e (uao el)
  have sm:Same H J:=λ c o' e=>bt _ _ (zaf e f1) (S12 _ _ e)
  have tn:((l.take (i + 1)).flatMap λ e=>l.filterMap (gnO gB e))=((l.take i).flatMap λ e=>l.filterMap (gnO gB e))++l.filterMap (gnO gB e):=by
   rw[ubo,el,ubp];simp
  have lel:(((l.take (i + 1)).flatMap λ e=>l.filterMap (gnO gB e))).length<=(gnL gB l).length:=by
   unfold gnL
   conv=>rhs;rw[← uca (i + 1) l,ubp,uaj]
   simp
  rw[tn,uaj] at lel
  refine⟨tt,_,rfl,SqT.of (sm _ _ htt),rfl,_,_,rfl,_,_,rfl,rfl,?_⟩
  refine⟨_,rfl,gt,xs,_,rfl,sm _ _ hgt,by left,upk,Paired.mapP prs λ y k ⟨a,b,e1,e2⟩=>⟨a,b,e1,sm _ _ e2⟩,λ l2 J3 S3 f3 e3=>⟨l2,rfl,⟨_,SqL.of e3⟩,?_⟩⟩
  have nl2:l2≠lf:=λ z=>by rw[z,hlf] at f3;cases f3
  refine zen (xs:=xs) (λ j σ J'=>∃ (y6 y7 y8 y9 y10 y11:Option V) (ys:List V),σ=[some (.ref t),some (.ref gt),some (.ref L),some (.ref lf),some (.int (e.1:Int)),some (.ref tp),y6,y7,y8,y9,y10,y11]/\But lf J3 J'/\J' lf=some (.lst ys)/\IsAll K J' ((((l.take i).flatMap λ e=>l.filterMap (gnO gB e))++(l.take j).filterMap (gnO gB e)).map pr2D) ys) ⟨_,_,_,_,_,_,ys,rfl,But.refl,S3 _ _ hlf,by rw[ug8,List.filterMap_nil,ub1];exact IsAll.same S3 _ hys⟩ (λ j σ J' _ h=>?_) (λ j x σ J' hx2 h=>?_) (λ σ J' h=>?_)
  ·obtain⟨y6,y7,y8,y9,y10,y11,ys,rfl,bt',_⟩:=h
   exact SqL.of (bt' _ _ nl2 e3)
  ·obtain⟨y6,y7,y8,y9,y10,y11,ys,rfl,bt',hlf',hys'⟩:=h
   obtain⟨e',tt',tp',el',rfl,htt',htp'⟩:=item hx2
   obtain⟨em1,em2,em3⟩:=gpe e' (uao el')
   have sm':Same H J':=λ c o' e=>bt' _ _ (zaf e f1) (S3 _ _ (sm _ _ e))
   have tn':(l.take (j + 1)).filterMap (gnO gB e)=(l.take j).filterMap (gnO gB e)++(gnO gB e e').toList:=by
    rw[ubo,el',uco]
    show _++[e'].filterMap (gnO gB e)=_
    congr 1
   have lel':((l.take (j + 1)).filterMap (gnO gB e)).length<=(l.filterMap (gnO gB e)).length:=by
    conv=>rhs;rw[← uca (j + 1) l,uco,uaj]
    left
   refine⟨tt',_,rfl,SqT.of (sm' _ _ htt'),rfl,_,_,rfl,_,_,rfl,rfl,?_⟩
   refine⟨(by show 0<=1000;decide),λ la J4 S4 f4 h4=>⟨(by show 0<=1000;decide),λ lk J5 S5 f5 h5=>?_⟩⟩
   have nak:la≠lk:=λ z=>by rw[← z,h4] at f5;cases f5
   have fk':J' lk=none:=S4.free f5
   have S45:=S4.trans S5
   have sm5:=sm'.trans S45
   refine⟨_,rfl,tp,rfl,⟨_,SqT.of (sm5 _ _ htp)⟩,?_⟩
   refine zck (xs:=natV e.2) (λ a σ J=>∃ (y10 y11:Option V),σ=[some (.ref t),some (.ref gt),some (.ref L),some (.ref lf),some (.int (e.1:Int)),some (.ref tp),some (.int (e'.1:Int)),some (.ref tp'),some (.ref la),some (.ref lk),y10,y11]/\Same J' J/\J la=some (.lst ((nrW (alM ws) e.2 e'.2 a 0).map V.int))/\J lk=some (.lst ((nrW M e.2 e'.2 a 0).map V.int))) ⟨_,_,rfl,S45,S5 _ _ h4,h5⟩ (λ a σ J _ h=>?_) (λ a x σ J hxa h=>?_) (λ σ J6 h=>?_)
   ·obtain⟨y10,y11,rfl,s6,_⟩:=h
    exact SqT.of (s6 _ _ (sm' _ _ htp))
   ·obtain⟨y10,y11,rfl,s6,ha6,hk6⟩:=h
    obtain⟨x1,hx1,rfl⟩:=zbr hxa
    have x1n:=en3 x1 (uao hx1)
    refine⟨_,rfl,tp',rfl,⟨_,SqT.of (s6 _ _ (sm' _ _ htp'))⟩,?_⟩
    refine zck (xs:=natV e'.2) (λ b σ J=>∃ (y11:Option V),σ=[some (.ref t),some (.ref gt),some (.ref L),some (.ref lf),some (.int (e.1:Int)),some (.ref tp),some (.int (e'.1:Int)),some (.ref tp'),some (.ref la),some (.ref lk),some (.int (x1:Int)),y11]/\Same J' J/\J la=some (.lst ((nrW (alM ws) e.2 e'.2 a b).map V.int))/\J lk=some (.lst ((nrW M e.2 e'.2 a b).map V.int))) ⟨_,rfl,s6,ha6,hk6⟩ (λ b σ J _ h=>?_) (λ b x σ J hxb h=>?_) (λ σ J7 h=>?_)
    ·obtain⟨y11,rfl,s7,_⟩:=h
     exact SqT.of (s7 _ _ (sm' _ _ htp'))
    ·obtain⟨y11,rfl,s7,ha7,hk7⟩:=h
     obtain⟨x2,hx2,rfl⟩:=zbr hxb
     have x2n:=em3 x2 (uao hx2)
     have sm7:=sm'.trans s7
     have sA:=zle (M:=alM ws) hx1 hx2
     have sM:=zle (M:=M) hx1 hx2
     have lA:=zny (M:=alM ws) en2 em2 a b
     have lM:=zny (M:=M) en2 em2 a b
     have ht7:=sm7 _ _ ht
     have htk:J t=some (.tup ((keepI ws).map V.int)):=by rw[← zbb];exact ht7
     have iv:∀ x:Nat,inV (V.int (x:Int)) (natV ws)=decide (x ∈ ws):=λ x=>by rw[zdp (ua0 _),ua1]
     have same0:∀ {N:List Int},(N++(none:Option Int).toList)=N:=λ {N}=>ub1 _
     apply brH (A:=λ J8=>Same J' J8/\J8 la=some (.lst ((nrW (alM ws) e.2 e'.2 a (b + 1)).map V.int))/\J8 lk=some (.lst ((nrW M e.2 e'.2 a b).map V.int)))
     case main =>
      intro tail
      refine⟨_,rfl,_,rfl,t,_,rfl,.inr (SqT.of ht7),rfl,zcl _,_,rfl,?_⟩
      by_cases c1:x1 ∈ ws
      ·refine iteTe ((iv x1).trans (decide_eq_true c1)) ⟨_,rfl,_,rfl,t,_,rfl,.inr (SqT.of ht7),rfl,zcl _,_,rfl,?_⟩
       by_cases c2:x2 ∈ ws
       ·obtain⟨i1,p1⟩:=zq7 c1
        obtain⟨i2,p2⟩:=zq7 c2
        obtain⟨k1,no1⟩:=zq6 nd' p1
        obtain⟨k2,no2⟩:=zq6 nd' p2
        refine iteTe ((iv x2).trans (decide_eq_true c2)) ⟨_,rfl,.inl ⟨rfl,_,SqL.of ha7⟩,_,rfl,⟨_,_,rfl,ht7⟩,_,rfl,t,keepI ws,(x1:Int),i1,rfl,rfl,htk,k1,no1,_,rfl,⟨_,_,rfl,ht7⟩,_,rfl,t,keepI ws,(x2:Int),i2,rfl,rfl,htk,k2,no2,_,_,rfl,rfl,_,rfl,la,_,_,rfl,rfl,ha7,by rw[uae];left,λ J8 b8 h8=>tail J8 ⟨λ c o e=>b8 _ _ (zaf e f4) (s7 _ _ e),?_,b8 _ _ nak.symm hk7⟩⟩
        rw[h8,sA,zuk p1 p2,ua3];rfl
       ·exact iteFe ((iv x2).trans (decide_eq_false c2)) (tail J ⟨s7,by rw[sA,zt6 (.inr c2),same0];exact ha7,hk7⟩)
      ·exact iteFe ((iv x1).trans (decide_eq_false c1)) (iteF (tail J ⟨s7,by rw[sA,zt6 (.inl c1),same0];exact ha7,hk7⟩))
     case tail =>
      rintro J8 ⟨s8,ha8,hk8⟩
      have B8:=B.same (sm'.trans s8)
      obtain⟨ra,hra,hra2,hrow⟩:=B8.ix (i:=x1) (by left)
      refine⟨_,rfl,_,rfl,L,_,_,_,rfl,rfl,SqL.of B8.top,zaw (ua0 _) (by rw[ua1];exact hra2),_,rfl,ra,_,_,_,rfl,rfl,SqL.of hrow,zdl x2n,rfl,_,rfl,?_⟩
      cases eM:M x1 x2 with
      | none=>exact iteF ⟨_,rfl,s8,ha8,by rw[sM,eM,same0];exact hk8⟩
      | some y =>
       refine iteT ⟨_,rfl,.inl ⟨rfl,_,SqL.of hk8⟩,_,rfl,_,rfl,L,_,_,_,rfl,rfl,SqL.of B8.top,zaw (ua0 _) (by rw[ua1];exact hra2),_,rfl,ra,_,_,_,rfl,rfl,SqL.of hrow,zdl x2n,lk,_,_,rfl,rfl,hk8,by rw[uae];left,λ J9 b9 h9=>⟨_,rfl,λ c o e=>b9 _ _ (zaf e fk') (s8 _ _ e),b9 _ _ nak ha8,?_⟩⟩
       rw[h9,sM,eM,ua3];rfl
    ·obtain⟨y11,rfl,s7,ha7,hk7⟩:=h
     rw[zah,zpz hx1] at ha7 hk7
     exact⟨_,_,rfl,s7,ha7,hk7⟩
   obtain⟨y10,y11,rfl,s6,ha6,hk6⟩:=h
   rw[zah,zld,ubw] at ha6 hk6
   have stay:∀ J5:Hp,Same J' J5->gnO gB e e'=none->∃ (ys:List V),But lf J3 J5/\J5 lf=some (.lst ys)/\IsAll K J5 ((((l.take i).flatMap λ e=>l.filterMap (gnO gB e))++(l.take (j + 1)).filterMap (gnO gB e)).map pr2D) ys:=λ J5 S5 en=>by
    refine⟨ys,λ b o z e=>S5 _ _ (bt' _ _ z e),S5 _ _ hlf',?_⟩
    rw[tn',en]
    show IsAll K J5 ((_++(_++[])).map pr2D) ys
    rw[ub1]
    exact IsAll.same S5 _ hys'
   have egO:e.1 < e'.1->gnO gB e e'=if gB e e'=true then some (e.1,e'.1) else none:=λ lt'=>by unfold gnO;rw[decide_eq_true lt',ue0]
   have egN:gB e e'=match minO (nearL (alM ws) e.2 e'.2) with
    | none=>false
    | some x=>match minO (nearL M e.2 e'.2) with
     | none=>true
     | some y=>decide (x < y):=by rw[egB];rfl
   obtain⟨NA,eNA⟩:∃ NA,NA=nearL (alM ws) e.2 e'.2:=⟨_,rfl⟩
   obtain⟨NM,eNM⟩:∃ NM,NM=nearL M e.2 e'.2:=⟨_,rfl⟩
   rw[← eNA] at ha6 egN
   rw[← eNM] at hk6 egN
   have emp:∀ {J:Hp} {z c:Addr} {N:List Int},J z=some (.lst [])->J c=some (.lst (N.map V.int))->Is K J (.list (N.map .int)) (.ref c)/\Is K J (.list []) (.ref z)/\(A.deeper (envOfC "_law_gained" (defScope s__law_gained) s.heap.objs.size f cdv)).units + min (PyData.depth (.list (N.map .int))) (PyData.depth (.list [])) < cLine:=λ {J z c N} h1 h2=>⟨⟨c,_,rfl,h2,IsAll.ints N⟩,⟨z,[],rfl,h1,rfl⟩,ubf (udn (uai _) (ua9 (ud9 _ _) (show PyData.depth (.list [])<=1 from uai _))) units⟩
   apply brH (A:=λ J8=>Same J' J8/\gnO gB e e'=some (e.1,e'.1))
   case main =>
    intro tail
    refine⟨_,rfl,_,rfl,_,_,rfl,rfl,_,rfl,?_⟩
    by_cases lt':e.1 < e'.1
    case neg =>
     refine iteFe (decide_eq_false (by left)) (iteF ?_)
     obtain⟨ys2,h1,h2,h3⟩:=stay J6 s6 (zlm lt')
     exact⟨_,_,_,_,_,_,ys2,rfl,h1,h2,h3⟩
    refine iteTe (decide_eq_true (by left)) ⟨_,rfl,(by show 0<=1000;decide),λ z1 J7 S7 f7 h7=>?_⟩
    have s7:=s6.trans S7
    obtain⟨i1,i2,i3⟩:=emp h7 (S7 _ _ ha6)
    refine⟨_,_,i1,i2,zbt _,rfl,i3,_,rfl,?_⟩
    cases NA with
    | nil =>
     refine iteF (iteF ?_)
     obtain⟨ys2,h1,h2,h3⟩:=stay J7 s7 (by rw[egO lt',egN];rfl)
     exact⟨_,_,_,_,_,_,ys2,rfl,h1,h2,h3⟩
    | cons x0 NA =>
     refine iteT ⟨_,rfl,(by show 0<=1000;decide),λ z2 J8 S8 f8 h8=>?_⟩
     have s8:=s7.trans S8
     have ha8:=S8 _ _ (S7 _ _ ha6)
     have hk8:=S8 _ _ (S7 _ _ hk6)
     obtain⟨i4,i5,i6⟩:=emp h8 hk8
     refine⟨_,_,i4,i5,zbt _,rfl,i6,_,rfl,?_⟩
     cases NM with
     | nil=>exact iteT (iteT (tail J8 ⟨s8,by rw[egO lt',egN];rfl⟩))
     | cons y0 NM =>
      refine iteF ⟨_,rfl,la,_,rfl,ha8,List.cons_ne_nil _ _,λ x mx lx=>⟨_,rfl,lk,_,rfl,hk8,List.cons_ne_nil _ _,λ y my ly=>⟨_,_,rfl,rfl,_,rfl,?_⟩⟩⟩
      rw[zj9 mx lx,zj9 my ly] at egN
      have egN:gB e e'=decide (x < y):=egN
      by_cases xy:x < y
      ·exact iteTe (decide_eq_true xy) (tail J8 ⟨s8,by rw[egO lt',egN,decide_eq_true xy];rfl⟩)
      ·refine iteFe (decide_eq_false xy) ?_
       obtain⟨ys2,h1,h2,h3⟩:=stay J8 s8 (by rw[egO lt',egN,decide_eq_false xy];rfl)
       exact⟨_,_,_,_,_,_,ys2,rfl,h1,h2,h3⟩
   case tail =>
    rintro J8 ⟨s8,eg⟩
    have hlf8:=s8 _ _ hlf'
    rw[tn',eg] at lel'
    rw[uaj] at lel'
    have lys:ys.length=((l.take i).flatMap λ e=>l.filterMap (gnO gB e)).length + ((l.take j).filterMap (gnO gB e)).length:=by rw[hys'.length,uae,uaj]
    have one:(some (e.1,e'.1):Option (Nat × Nat)).toList.length=1:=rfl
    refine⟨_,rfl,.inl ⟨rfl,_,SqL.of hlf8⟩,_,rfl,_,rfl,(by show 2<=1000;decide),λ c J9 S9 f9 e9=>?_⟩
    have hlf9:=S9 _ _ hlf8
    refine⟨lf,_,_,rfl,rfl,hlf9,by left,λ J10 b10 e10=>?_⟩
    have tk10:TupKeep J9 J10:=λ b us e=>b10 _ _ (λ z=>by rw[z,hlf9] at e;cases e) e
    refine⟨_,_,_,_,_,_,ys++[.ref c],rfl,λ b o z e=>b10 _ _ z (S9 _ _ (s8 _ _ (bt' _ _ z e))),e10,?_⟩
    rw[tn',eg]
    show IsAll K J10 ((_++(_++[(e.1,e'.1)])).map pr2D) _
    rw[← uce,ua3]
    refine IsAll.snoc (d:=pr2D (e.1,e'.1)) ⟨c,_,rfl,tk10 _ _ e9,IsAll.ints [(e.1:Int),(e'.1:Int)]⟩ ?_
    exact IsAll.but b10 hlf9 _ (zgr _) (IsAll.same (s8.trans S9) _ hys')
  ·obtain⟨y6,y7,y8,y9,y10,y11,ys,rfl,bt',hlf',hys'⟩:=h
   rw[lx,ubw] at hys'
   exact⟨_,_,_,_,_,_,_,_,ys,rfl,λ b o z e=>bt' _ _ z (S3 _ _ (bt _ _ z e)),hlf',by rw[tn];exact hys'⟩
 ·obtain⟨y4,y5,y6,y7,y8,y9,y10,y11,ys,rfl,bt,hlf,hys⟩:=h
  rw[lx,ubw] at hys
  refine⟨_,rfl,lf,_,rfl,hlf,λ tz J5 S5 f5 e5=>q (.ref tz) J5 (λ c o' e=>S5 _ _ (bt _ _ (zaf e f1) (S12 _ _ e))) ⟨tz,ys,rfl,e5,IsAll.same S5 _ hys⟩⟩
theorem zmm {m k0:Nat} {f:Nat->Bool} (h:k0 < m) (hf:f k0=true) (one:∀ j,j < m->f j=true->j=k0):(uag m).filter f=[k0]:=by
 refine zgz (ufd _ ubz) (ufl _ _) λ k=>?_
 rw[ubr,uav,uam]
 exact⟨λ z=>one k z.1 z.2,λ z=>by rw[z];exact⟨h,hf⟩⟩
theorem zq3 (p:Nat->Bool):∀ l:List Nat,l.filterMap (λ i=>if p i=true then some (V.int (i:Int)) else none)=natV (l.filter p)
 | []=>rfl
 | x::r=>by
  have ih:=zq3 p r
  cases e:p x with
  | true=>rw[uhh (by rw[if_pos e]),List.filter_cons_of_pos e,ih];rfl
  | false=>rw[List.filterMap_cons_none (by rw[if_neg (by rw[e];decide)]),List.filter_cons_of_neg (by rw[e];decide),ih]
inductive spBought60_i (K:uac) (vs:List V) (H:Hp) (Q:VK):Prop
 | mk:∀ (n:Int) (ts:List Tie) (ks:List Nat) (wv:V) (t lk:Addr) (ws:List Nat),(vs=[wv,.ref t,.ref lk])->(Is K H (webD n (ones ts)) wv)->(WebOk n ts)->(H t=some (.tup (natV ws)))->(ws.length<=25)->(linked (ones ts) ws)->(H lk=some (.lst (natV ks)))->(∀ tz ln H',Same H H'->H' tz=some (.tup [.ref ln,.int ((boK ts ks ws).length:Nat)])->H' ln=some (.lst (natV (alongN (ones ts) ws)))->Q (.ref tz) H')->spBought60_i K vs H Q
def spBought60 (K:uac):Sp:=λ vs H Q _=>spBought60_i K vs H Q
theorem zd9 (T:Bi mg) (D:DefOk K mg "_law_bought" s__law_bought ["web","way","kept"]):Ok P w K mg base 1 "_law_bought" ["web","way","kept"] (spBought60 K):=by
 refine zbd (k:=0) D sc__law_bought (λ vs H Q E h=>?_) (λ f cdv A outer s H vs Q E hr h=>?_)
 ·obtain⟨n,ts,ks,wv,t,lk,ws,rfl,_⟩:=h
  rfl
 obtain⟨n,ts,ks,wv,t,lk,ws,rfl,isw,okt,ht,l25,ln,hlk,q⟩:=h
 have nd:=sc__law_bought.nd
 have units:(A.deeper (envOfC "_law_bought" (defScope s__law_bought) s.heap.objs.size f cdv)).units + 1 < cLine:=by have:=hr.units;left
 have ok:=zdo okt
 have few60:=ok.few
 obtain⟨g0,gg,wz,rfl,hg0,hg,hall,hlw⟩:=za3 isw
 refine⟨_,(zab (zan (i:=3) nd rfl (uat rfl) (za0 zac)) (zab (za4 PassesOwn.never rfl (znn true true rfl T.z_zip (zaa (pv 1) (zaa (zei zgw (pv 1) (zg0 zae) zg1) zac))) (zbl (n:=2) rfl (zak (zag (i:=4) nd rfl (uf7 rfl)) (zak (zag (i:=5) nd rfl (uf7 rfl)) za2))) (zad (zan (i:=3) nd rfl (uat rfl) (zaz zg3 (pv 3) (zbw (N:=["web","way","kept","numbers","one","other"]) (sc0:=defScope s__law_bought) (own:=["at","tie"]) (fr:=["one","other"]) (js:=[4,5]) rfl (zez true rfl T.z_enumerate (zaa (zar za5 (pv 0) zae (λ _ _=>rfl)) zac)) (λ _ _ _ _=>(ze0 (n:=2) rfl (zak (zag (i:=0) (by show ubt [("at":Str),("tie":Str),("one":Str),("other":Str)];decide +kernel) rfl (uat rfl)) (zak (zag (i:=1) (by show ubt [("at":Str),("tie":Str),("one":Str),("other":Str)];decide +kernel) rfl (uat rfl)) za2)))) (λ _ _ _ _=>(zcr (zam zsf (zei zgw (pv 1) zg1 (zg0 zae)) (zbk (zaa (zao (zft rfl) rfl T.z_min (by symm) (zaa (pv 2) (zaa (pv 3) zac))) (zaa (zao (zfu rfl) rfl T.z_max (by symm) (zaa (pv 2) (zaa (pv 3) zac))) zac))) (nomark _)))) (λ _ _ _ _=>(pv 0))))))) (zad (zaq (zbk (zaa (pv 3) (zaa (zao zay rfl T.z_len (by symm) (zaa (zbw (N:=["web","way","kept","numbers","one","other"]) (sc0:=defScope s__law_bought) (own:=["number"]) (fr:=["kept"]) (js:=[2]) rfl (zch (pv 3)) (λ _ _ _ _=>(zag (i:=0) (by show ubt [("number":Str),("kept":Str)];decide +kernel) rfl (uat rfl))) (λ _ _ _ _=>(zcr (zam zbp (pv 0) (pv 1) (by with_unfolding_all rfl)))) (λ _ _ _ _=>(pv 0))) zac)) zac))))))),?_⟩
 refine⟨(by show 0<=1000;decide),λ l0 J1 S1 f1 e1=>?_⟩
 refine⟨_,rfl,_,rfl,_,rfl,t,_,rfl,S1 _ _ ht,λ t2 J2 S2 e2=>?_⟩
 rw[zqm] at e2
 have S12:=S1.trans S2
 refine⟨t,t2,rfl,⟨_,SqX.of (t:=true) (S12 _ _ ht)⟩,⟨_,SqX.of (t:=true) e2⟩,?_⟩
 refine zqb (t1:=true) (t2:=true) (xs:=natV ws) (zs:=natV (ws.drop 1)) (λ j σ J=>∃ (lc:Addr) (y4 y5:Option V),σ=[some (.ref g0),some (.ref t),some (.ref lk),some (.ref lc),y4,y5]/\Same J2 J/\J lc=some (.lst (natV ((alongN (ones ts) ws).take j)))) ⟨l0,none,none,rfl,Same.refl _,S2 _ _ e1⟩ (λ j σ J h=>?_) (λ j x z U σ J hx hz hU h=>?_) (λ σ J h=>?_)
 ·obtain⟨lc,y4,y5,rfl,sm,_⟩:=h
  exact⟨SqX.of (t:=true) (sm _ _ (S12 _ _ ht)),SqX.of (t:=true) (sm _ _ e2)⟩
 ·obtain⟨lc,y4,y5,rfl,sm,hc⟩:=h
  obtain⟨u,hu_,rfl⟩:=zbr hx
  obtain⟨v,hv_,rfl⟩:=zbr hz
  rw[List.getElem?_drop,Nat.add_comm] at hv_
  obtain⟨k0,ek,hk0⟩:=zca ln hu_ hv_
  have SU:=zal (H:=J) (o:=.tup [V.int (u:Int),.int (v:Int)]) hU
  have tk:(alongN (ones ts) ws).take (j + 1)=(alongN (ones ts) ws).take j++[k0]:=by rw[ubo,zib hu_ hv_ ek];rfl
  have sU:=S12.trans (sm.trans SU)
  refine⟨U,_,rfl,SqT.of zai,rfl,_,_,rfl,_,_,rfl,rfl,?_⟩
  refine⟨_,rfl,_,rfl,g0,_,_,_,rfl,rfl,SqT.of (sU _ _ hg0),rfl,gg,rfl,⟨_,SqX.of (t:=true) (sU _ _ hg)⟩,?_⟩
  refine zoz (t:=true) (xs:=wz) (sU _ _ hg) (λ σ'=>∃ o1 o2,σ'=[o1,o2,some (.int (u:Int)),some (.int (v:Int))]) (λ i=>if isTB (ones ts) u v i=true then some (V.int (i:Int)) else none) (by left) (by exact⟨none,none,rfl⟩) (λ i x U2 σ' H' hxi s2 hU2 sg C L hC hL=>?_) (λ L J3 hL S3 hH=>?_)
  ·obtain⟨o1,o2,rfl⟩:=sg
   have hi:i < (ones ts).length:=by have:=(uan.mp hxi).1;left
   obtain⟨ta,hta,htie⟩:=zcd hall hi
   rw[hxi] at hta
   cases hta
   have SU2:=zal (H:=H') (o:=.tup [.int (i:Nat),V.ref ta]) hU2
   have s3:=sU.trans (s2.trans SU2)
   refine⟨U2,_,rfl,SqT.of zai,rfl,_,_,rfl,_,_,rfl,rfl,?_⟩
   refine⟨_,rfl,_,rfl,ta,_,rfl,s3 _ _ htie,λ p J4 S4 e4=>?_⟩
   refine⟨_,rfl,_,rfl,_,_,rfl,_,rfl,_,rfl,_,_,rfl,(by show 2<=1000;decide),λ te J5 S5 f5 e5=>?_⟩
   have eMin:(if (v:Int) < (u:Int) then (v:Int) else u)=min (u:Int) v:=by split <;> left
   have eMax:(if (v:Int) > (u:Int) then (v:Int) else u)=max (u:Int) v:=by split <;> left
   rw[eMin,eMax] at e5
   have eq:PyData.eqv (.tuple (([(tieAt (ones ts) i).1,(tieAt (ones ts) i).2.1]:List Int).map .int)) (.tuple (([min (u:Int) v,max (u:Int) v]:List Int).map .int))=isTB (ones ts) u v i:=zk9 _ _ _ _
   have sC:=SU2.trans (S4.trans S5)
   refine⟨.tuple (([(tieAt (ones ts) i).1,(tieAt (ones ts) i).2.1]:List Int).map .int),.tuple (([min (u:Int) v,max (u:Int) v]:List Int).map .int),⟨p,_,rfl,S5 _ _ e4,IsAll.ints [(tieAt (ones ts) i).1,(tieAt (ones ts) i).2.1]⟩,⟨te,_,rfl,e5,IsAll.ints [min (u:Int) v,max (u:Int) v]⟩,zbt _,zbt _,ubf (udn (uai _) (ua9 (ug1 _ _) (show _<=1 from uai _))) units,_,rfl,?_⟩
   rw[eq]
   cases eb:isTB (ones ts) u v i with
   | true=>exact iteT ⟨_,rfl,hC _ _ _ ⟨_,_,rfl⟩ sC (by rw[eb];rfl)⟩
   | false=>exact iteF (hL _ _ ⟨_,_,rfl⟩ sC (by rw[eb];rfl))
  have ef:(uag wz.length).filterMap (λ i=>if isTB (ones ts) u v i=true then some (V.int (i:Int)) else none)=natV [k0]:=by
   rw[zq3,zmm (by left) (udu ek) (λ j hj h=>zq1 ok (by left) hk0 h (udu ek))]
  rw[ef] at hH
  refine⟨lc,L,_,_,rfl,rfl,S3 _ _ (SU _ _ hc),hH,?_,λ l5 J5 S5 f5 e5=>⟨l5,_,_,rfl,sm.trans (SU.trans (S3.trans S5)),?_⟩⟩
  ·rw[zah,zah,uc1,zb1]
   show min j (ws.length - 1) + 1<=_
   exact ua9 (show _<=1000 by left) (by decide)
  ·rw[e5,tk,zcj]
 ·obtain⟨lc,y4,y5,rfl,sm,hc⟩:=h
  have lm:min (natV ws).length (natV (ws.drop 1)).length=(alongN (ones ts) ws).length:=by rw[zah,zah,udl,zb1];left
  rw[lm,ubw] at hc
  have s0:=S12.trans sm
  have hlk0:=s0 _ _ hlk
  have lal:(alongN (ones ts) ws).length<=25:=by rw[zb1];left
  refine⟨_,rfl,_,rfl,lc,rfl,⟨_,SqL.of hc⟩,?_⟩
  refine zcw hc (λ σ'=>∃ o,σ'=[o,some (.ref lk)]) (λ i=>if (!decide ((alongN (ones ts) ws).getD i 0 ∈ ks))=true then some (V.int (((alongN (ones ts) ws).getD i 0:Nat):Int)) else none) (by rw[zah];left) (by exact⟨none,rfl⟩) (λ i x σ' H' hxi s2 sg C L hC hL=>?_) (λ L J3 hL S3 hH=>?_)
  ·obtain⟨o,rfl⟩:=sg
   obtain⟨k,hk,rfl⟩:=zbr hxi
   have ekk:(alongN (ones ts) ws).getD i 0=k:=by rw[uaf,hk];rfl
   rw[ekk] at hC hL
   refine⟨_,rfl,_,rfl,lk,_,rfl,.inl (SqL.of (s2 _ _ hlk0)),rfl,zcl _,_,rfl,?_⟩
   show if (!inV (V.int (k:Int)) (natV ks))=true then _ else _
   rw[zdp (ua0 _),ua1]
   cases dk:decide (k ∈ ks) with
   | false=>exact iteT ⟨_,rfl,hC _ _ _ ⟨_,rfl⟩ (Same.refl _) (by rw[dk];rfl)⟩
   | true=>exact iteF (hL _ _ ⟨_,rfl⟩ (Same.refl _) (by rw[dk];rfl))
  rw[zah,zef (λ k=>!decide (k ∈ ks)) (alongN (ones ts) ws)] at hH
  refine⟨L,_,rfl,.inl (SqL.of hH),?_⟩
  rw[zah]
  exact⟨(by show 2<=1000;decide),λ tz J4 S4 f4 e4=>q tz lc J4 (s0.trans (S3.trans S4)) e4 (S4 _ _ (S3 _ _ hc))⟩
theorem zke {n:Int} {ts:List Tie} {l:List (Nat × List Nat)} {u:Nat}:∀ (f:Nat) (s:St6),∃ r,(inS n ts l u f s).2=s.2++r
 | 0,s=>⟨[],(ub1 _).symm⟩
 | f + 1,s=>by
  cases e:fwF n ts s.1 u with
  | none=>rw[zem e];exact⟨[],(ub1 _).symm⟩
  | some v =>
   rw[zel e]
   obtain⟨r,hr⟩:=zke f (stS ts l u v s)
   exact⟨_,by rw[hr];unfold stS;rw[uce]⟩
theorem zk1 {n:Int} {ts:List Tie} {l:List (Nat × List Nat)} (u:Nat):∀ k,∃ r,(sixS n ts l (u + k)).2=(sixS n ts l u).2++r
 | 0=>⟨[],(ub1 _).symm⟩
 | k + 1=>by
  obtain⟨r,hr⟩:=zk1 u k
  obtain⟨r',hr'⟩:=zke (n:=n) (ts:=ts) (l:=l) (u:=u + k) (n.toNat + 1) (sixS n ts l (u + k))
  refine⟨r++r',?_⟩
  show (inS n ts l (u + k) (n.toNat + 1) (sixS n ts l (u + k))).2=_
  rw[hr',hr,uce]
theorem zss {n w:Nat} {p:Nat->Bool} (hw:w < n) (hp:p w=true):∃ v,v<=w/\(uag n).find? p=some v:=by
 cases e:(uag n).find? p with
 | none =>
  have:=udq.mp e w (uav.mpr hw)
  exact absurd hp this
 | some v =>
  refine⟨v,?_,rfl⟩
  obtain⟨_,i,hi,gi,al⟩:=uep.mp e
  rw[udp] at gi
  subst gi
  rcases ufz w i with z | z
  ·have:=al w z
   rw[udp,hp] at this
   cases this
  ·exact z
theorem zn8:∀ ps:List (Nat × Nat),PyData.canLayAll0 (ps.map pr2D)=true
 | []=>rfl
 | p::r=>by show (true && PyData.canLayAll0 (r.map pr2D))=true;rw[zn8 r];rfl
theorem zhd:∀ rs:List (Nat × Nat × Nat × List (Nat × Nat)),PyData.canLayAll0 (rs.map rowSD)=true
 | []=>rfl
 | r::rs=>by
  show ((true && (true && (true && (PyData.canLayAll0 (r.2.2.2.map pr2D) && true)))) && PyData.canLayAll0 (rs.map rowSD))=true
  rw[zhd rs,zn8];rfl
theorem zr2 {r:Nat × Nat × Nat × List (Nat × Nat)} (h:r.2.2.2.length<=1000):okD 4 (rowSD r):=by
 refine .inr (.inr ⟨_,rfl,by show 4<=1000;decide,λ d hd=>?_⟩)
 simp only [uar,ua4,or_false] at hd
 rcases hd with rfl | rfl | rfl | rfl
 ·exact .inl ⟨_,rfl⟩
 ·exact .inl ⟨_,rfl⟩
 ·exact .inl ⟨_,rfl⟩
 ·refine .inr (.inr ⟨_,rfl,by rw[uae];exact h,λ d hd=>?_⟩)
  obtain⟨p,_,rfl⟩:=ubj.mp hd
  refine .inr (.inr ⟨_,rfl,by show 2<=1000;decide,λ d hd=>?_⟩)
  simp only [uar,ua4,or_false] at hd
  rcases hd with rfl | rfl
  ·exact .inl ⟨_,rfl⟩
  ·exact .inl ⟨_,rfl⟩
theorem zgm {K:uac} {H:Hp}:∀ (k:Nat) {ds:List PyData} {vs:List V},IsAll K H ds vs->IsAll K H (ds.drop k) (vs.drop k)
 | 0,_,_,h=>h
 | k + 1,[],vs,h=>by
  have:vs=[]:=h
  subst this;rfl
 | k + 1,d::ds,vs,h=>by
  obtain⟨v,r,rfl,_,h⟩:=h
  exact zgm k h
inductive spBorne_i (K:uac) (vs:List V) (H:Hp) (Q:VK):Prop
 | mk:∀ (n:Int) (ts:List Tie) (wv gv lv:V) (d:Int),(vs=[wv,gv,lv])->(Is K H (webD n (ones ts)) wv)->(WebOk n ts)->(n<=24)->(Is K H (grdD (swG (nbW n ts) d n.toNat).1) gv)->(Is K H (.tuple ((sixV n ts d).2.map rowSD)) lv)->(SixFew (sixV n ts d))->(∀ t H',Same H H'->H' t=some (.tup (natV (sixV n ts d).1))->Q (.ref t) H')->spBorne_i K vs H Q
def spBorne (K:uac):Sp:=λ vs H Q _=>spBorne_i K vs H Q
theorem zfd (T:Bi mg) (D:DefOk K mg "_law_borne_out" s__law_borne_out ["web","guards","ledger"]) (O__law_heaps:Ok P w K mg base 5 "_law_heaps" ["guards"] (spHeaps K)) (O__law_first:Ok P w K mg base 5 "_law_first" ["web","heaps"] (spFirst60 K)) (O__law_steps:Ok P w K mg base 5 "_law_steps" ["web","kept"] (spSt60 K)) (O_the_way:Ok P w K mg base 5 "the_way" ["web","keep","a","b"] (spWayM K)) (O__law_bought:Ok P w K mg base 5 "_law_bought" ["web","way","kept"] (spBought60 K)) (O__law_gained:Ok P w K mg base 5 "_law_gained" ["way","guards","table"] (spGain60 K)) (O__law_same:Ok P w K mg base 5 "_law_same" ["found","due"] (spSameD K 4)):Ok P w K mg base 6 "_law_borne_out" ["web","guards","ledger"] (spBorne K):=by
 refine zbd (k:=5) D sc__law_borne_out (λ vs H Q E h=>?_) (λ f cdv A outer s H vs Q E hr h=>?_)
 ·obtain⟨n,ts,wv,gv,lv,d,rfl,_⟩:=h
  rfl
 obtain⟨n,ts,wv,gv,lv,d,rfl,isw,ok,n24,isg,isl,fewV,q⟩:=h
 have nd:=sc__law_borne_out.nd
 have units:(A.deeper (envOfC "_law_borne_out" (defScope s__law_borne_out) s.heap.objs.size f cdv)).units + 1 < cLine:=by have:=hr.units;left
 have few60:=ok.few
 have n1:=ok.n1
 have oko:=zdo ok
 obtain⟨gw,gp⟩:=zrh (d:=d) ok n24
 have gnd:((swG (nbW n ts) d n.toNat).1.flatMap (·.2)).Nodup:=by
  have g:=zii (d:=d) (zff (n:=n) (ts:=ts)) n.toNat
  rw[g.all];exact g.nd
 have esv:sixV n ts d=sixS n ts (swG (nbW n ts) d n.toNat).1 n.toNat:=rfl
 rw[esv] at isl fewV q
 obtain⟨l,el⟩:∃ l,l=(swG (nbW n ts) d n.toNat).1:=⟨_,rfl⟩
 rw[← el] at isg gw gp gnd isl fewV q
 obtain⟨tl,ys,rfl,htl,hys⟩:=isl
 refine⟨_,(zab (zan (i:=3) nd rfl (uat rfl) (zaj O__law_first hr rfl (zaa (pv 0) (zaa (zaj O__law_heaps hr rfl (zaa (pv 1) zac)) zac)))) (zab (zan (i:=4) nd rfl (uat rfl) (zas (zc9 rfl) rfl T.z_tuple (by symm) (zaa (zas zc4 rfl T.z_range (by symm) (zaa (zao zay rfl T.z_len (by symm) (zaa (zar za5 (pv 0) zae (λ _ _=>rfl)) zac)) zac)) zac))) (zab (zan (i:=5) nd rfl (uat rfl) (zaj O__law_steps hr rfl (zaa (pv 0) (zaa (pv 4) zac)))) (zab (zan (i:=6) nd rfl (uat rfl) (zaj O__law_steps hr rfl (zaa (pv 0) (zaa (pv 3) zac)))) (zab (zan (i:=7) nd rfl (uat rfl) (zas zd5 rfl T.z_list (by symm) (zaa (pv 2) zac))) (zab (za4 PassesOwn.never rfl (zbi rfl T.z_range (zaa (zar za5 (pv 0) zae (λ _ _=>rfl)) zac)) (zag (i:=8) nd rfl (uat rfl)) (zad (za4 PassesOwn.never rfl (zey rfl T.z_range (zaa (zaz zb7 (pv 8) zae) (zaa (zar za5 (pv 0) zae (λ _ _=>rfl)) zac))) (zag (i:=9) nd rfl (uat rfl)) (zab (zte (i:=10) (j:=11) rfl nd rfl rfl (by decide) rfl rfl (zaa (zar zau (zar zau (pv 5) (pv 8) (λ _ _=>rfl)) (pv 9) (λ _ _=>rfl)) (zaa (zar zau (zar zau (pv 6) (pv 8) (λ _ _=>rfl)) (pv 9) (λ _ _=>rfl)) zac)) rfl) (zad (zbf (PW.pt (zev (zam ze6 (pv 10) zbc (nomark _)) (zdm (PW.pt (zc7 (zam zc8 (pv 11) zbc (nomark _)) (zb5 (zam zme (pv 11) (zaz zb7 (pv 10) zae) (nomark _)))))))) (zab (zan (i:=12) nd rfl (uat rfl) (zaj O_the_way hr rfl (zaa (pv 0) (zaa (pv 4) (zaa (pv 8) (zaa (pv 9) zac)))))) (zab (zbz (zaj O__law_bought hr rfl (zaa (pv 0) (zaa (pv 12) (zaa (pv 3) zac)))) (zbl (n:=2) rfl (zak (zag (i:=13) nd rfl (uat rfl)) (zak (zag (i:=14) nd rfl (uat rfl)) za2)))) (zab (zan (i:=15) nd rfl (uat rfl) (zbk (zaa (pv 8) (zaa (pv 9) (zaa (pv 14) (zaa (zaj O__law_gained hr rfl (zaa (pv 12) (zaa (pv 1) (zaa (pv 6) zac)))) zac)))))) (zab (zbf (PW.pt (zc7 (zam zlc (pv 7) (za0 zac) (nomark _)) (zb5 (zew (zcp (zaj O__law_same hr rfl (zaa (zb2 uax ufp ufo zhb (pv 7) (zaa zae zac)) (zaa (pv 15) zac)))))))) (zad (zaq zbc)) zat) (zab (zan (i:=3) nd rfl (uat rfl) (zao (zd1 rfl) rfl T.z_sorted (by symm) (zaa (zas (zgo rfl) rfl T.z_set (by symm) (zaa (zaz zg3 (pv 3) (pv 13)) zac)) zac))) (zad (zan (i:=6) nd rfl (uat rfl) (zaj O__law_steps hr rfl (zaa (pv 0) (zaa (pv 3) zac)))))))))) zat)))))) (zab (zbf (zam zlb (pv 7) (za0 zac) (nomark _)) (zad (zaq zbc)) zat) (zad (zaq (zas za7 rfl T.z_tuple (by symm) (zaa (pv 3) zac))))))))))),?_⟩
 refine⟨_,rfl,_,rfl,gv,l,rfl,isg,by have:=gw.2.1;left,λ hp J1 S1 f1 e1=>?_⟩
 refine⟨n,ones ts,wv,hp,l,rfl,Is.same S1 _ isw,oko,e1,gw,gnd,λ k0 J2 S2 f2 e2=>?_⟩
 have S12:=S1.trans S2
 obtain⟨g0,gg,wz,rfl,hg0,hg,hall,hlw⟩:=za3 isw
 rw[zax] at hlw
 refine⟨_,rfl,g0,_,_,_,rfl,rfl,SqT.of (S12 _ _ hg0),rfl,gg,_,rfl,.inr (SqT.of (S12 _ _ hg)),_,rfl,λ rg hrg=>⟨rg,_,rfl,zai,by left,by left,λ te J3 S3 f3 e3=>?_⟩⟩
 have S3':=(zal (o:=.rng 0 ((wz.length:Nat):Int)) hrg).trans S3
 have e3:J3 te=some (.tup (natV (uag (ones ts).length))):=by rw[e3,ua1,hlw,zax]
 have S13:=S12.trans S3'
 refine⟨_,rfl,_,rfl,n,ts,uag (ones ts).length,_,te,true,rfl,⟨Is.same S13 _ isw,oko,e3,za8 (ones ts)⟩,ok,λ ld asd J4 S4 f4 _ lasd Bd=>?_⟩
 rw[zax] at Bd
 have hk4:=S4 _ _ (S3' _ _ e2)
 have S14:=S13.trans S4
 have kf0:KeepOk (ones ts).length (kfK (ones ts) l):=zob (ones ts) l
 refine⟨_,rfl,_,rfl,n,ts,kfK (ones ts) l,_,k0,false,rfl,⟨Is.same S14 _ isw,oko,hk4,kf0⟩,ok,λ lt0 as0 J5 S5 f5 _ las0 B0=>?_⟩
 have S15:=S14.trans S5
 refine⟨_,rfl,tl,_,rfl,.inr (SqT.of (S15 _ _ htl)),λ ll f6=>?_⟩
 have S6:=zal (H:=J5) (o:=.lst ys) f6
 have S16:=S15.trans S6
 have hl6:upd J5 ll (.lst ys) ll=some (.lst ys):=zai
 have frd:=zht (Bd.same S5) f6
 have fr0:=zht B0 f6
 have Bd6:=(Bd.same S5).same S6
 have B06:=B0.same S6
 have hk6:=S6 _ _ (S5 _ _ hk4)
 have he6:=S6 _ _ (S5 _ _ (S4 _ _ e3))
 have nk0:k0≠ll:=λ z=>by rw[← z,S5 _ _ hk4] at f6;cases f6
 have ne0:te≠ll:=λ z=>by rw[← z,S5 _ _ (S4 _ _ e3)] at f6;cases f6
 generalize upd J5 ll (.lst ys)=J6 at S6 S16 hl6 Bd6 B06 hk6 he6
 have fll:H ll=none:=S15.free f6
 have tkl:∀ {J:Hp},But ll J6 J->TupKeep J6 J:=λ b c us e=>b _ _ (λ z=>by rw[z,hl6] at e;cases e) e
 have smJ:∀ {J:Hp},But ll J6 J->Same H J:=λ b c o e=>b _ _ (zaf e fll) (S16 _ _ e)
 have gJ:∀ {J:Hp},But ll J6 J->Is K J (grdD l) gv:=λ b=>Is.same (smJ b) _ isg
 have dJ:∀ {J:Hp},But ll J6 J->Bes J ld asd (rowM n (dstF ts (uag ts.length))):=λ b=>Bd6.but frd.1 frd.2 b
 obtain⟨fin,efin⟩:∃ fin,fin=sixS n ts l n.toNat:=⟨_,rfl⟩
 rw[← efin] at hys fewV q
 have lys:ys.length=fin.2.length:=by rw[hys.length,uae]
 have pre:∀ i,i<=n.toNat->∃ r,fin.2=(sixS n ts l i).2++r:=λ i hi=>by
  obtain⟨r,hr⟩:=zk1 (n:=n) (ts:=ts) (l:=l) i (n.toNat - i)
  rw[show i + (n.toNat - i)=n.toNat by left] at hr
  exact⟨r,by rw[efin];exact hr⟩
 refine⟨_,rfl,g0,_,_,_,rfl,rfl,SqT.of (S16 _ _ hg0),rfl,n,rfl,by left,by left,?_⟩
 refine zbj (n:=n.toNat) (lo:=0) (λ i σ J=>∃ (kp lt:Addr) (as:List Addr) (y8 y9 y10 y11 y12 y13 y14 y15:Option V),σ=[some (.ref g0),some gv,some (.ref tl),some (.ref kp),some (.ref te),some (.ref ld),some (.ref lt),some (.ref ll),y8,y9,y10,y11,y12,y13,y14,y15]/\But ll J6 J/\kp≠ll/\lt≠ll/\ll ∉ as/\J kp=some (.lst (natV (sixS n ts l i).1))/\KeepOk ts.length (sixS n ts l i).1/\as.length=n.toNat/\Bes J lt as (rowM n (dstF ts (sixS n ts l i).1))/\J ll=some (.lst (ys.drop (sixS n ts l i).2.length))) ⟨k0,lt0,as0,none,none,none,none,none,none,none,none,rfl,But.refl,nk0,fr0.1,fr0.2,hk6,by have:=kf0;rw[zax] at this;exact this,las0,B06,hl6⟩ (λ i σ J hi h=>?_) (λ σ J h=>?_)
 ·obtain⟨kp,lt,as,y8,y9,y10,y11,y12,y13,y14,y15,rfl,bt,nk,nlt,nla,hk,ko,las,B,hl⟩:=h
  rw[uf0]
  refine⟨_,rfl,_,_,rfl,rfl,_,rfl,g0,_,_,_,rfl,rfl,SqT.of (smJ bt _ _ hg0),rfl,(i:Int) + 1,n,rfl,⟨by left,by left,by left,by left⟩,?_⟩
  refine zbj (n:=(n - ((i:Int) + 1)).toNat) (lo:=(i:Int) + 1) (λ j σ J=>∃ (kp lt:Addr) (as:List Addr) (s:St6) (fu:Nat) (y9 y10 y11 y12 y13 y14 y15:Option V),σ=[some (.ref g0),some gv,some (.ref tl),some (.ref kp),some (.ref te),some (.ref ld),some (.ref lt),some (.ref ll),some (.int (i:Int)),y9,y10,y11,y12,y13,y14,y15]/\But ll J6 J/\kp≠ll/\lt≠ll/\ll ∉ as/\J kp=some (.lst (natV s.1))/\KeepOk ts.length s.1/\as.length=n.toNat/\Bes J lt as (rowM n (dstF ts s.1))/\J ll=some (.lst (ys.drop s.2.length))/\sixS n ts l (i + 1)=inS n ts l i fu s/\n.toNat + 1<=fu + (i + 1 + j)/\∀ w,w < i + 1 + j->fwB ts s.1 i w=false) ⟨kp,lt,as,sixS n ts l i,n.toNat + 1,_,_,_,_,_,_,_,rfl,bt,nk,nlt,nla,hk,ko,las,B,hl,rfl,by left,λ w hw=>?_⟩ (λ j σ J hj h=>?_) (λ σ J h=>?_)
  ·unfold fwB;rw[decide_eq_false (by left)];rfl
  ·obtain⟨kp,lt,as,s,fu,y9,y10,y11,y12,y13,y14,y15,rfl,bt,nk,nlt,nla,hk,ko,las,B,hl,efu,hfu,low⟩:=h
   obtain⟨v,ev⟩:∃ v,v=i + 1 + j:=⟨_,rfl⟩
   have evi:(i:Int) + 1 + (j:Int)=(v:Int):=by left
   rw[← ev] at low hfu
   have vn:v < n.toNat:=by left
   rw[evi,show i + 1 + (j + 1)=v + 1 by left]
   have Bd':=dJ bt
   obtain⟨ra,hra,hra2,hrow⟩:=Bd'.ix (i:=i) (by left)
   obtain⟨rb,hrb,hrb2,hrow2⟩:=B.ix (i:=i) (by left)
   refine⟨_,rfl,_,rfl,ld,_,_,_,rfl,rfl,SqL.of Bd'.top,zaw (ua0 _) (by rw[ua1];exact hra2),_,rfl,ra,_,_,_,rfl,rfl,SqL.of hrow,zdl vn,_,rfl,_,rfl,lt,_,_,_,rfl,rfl,SqL.of B.top,zaw (ua0 _) (by rw[ua1];exact hrb2),_,rfl,rb,_,_,_,rfl,rfl,SqL.of hrow2,zdl vn,_,_,rfl,?_⟩
   have efb:fwB ts s.1 i v=wantB (dstF ts (uag ts.length) i v) (dstF ts s.1 i v):=by unfold fwB;rw[decide_eq_true (by left),ue0]
   have next:fwB ts s.1 i v=false->∀ w,w < v + 1->fwB ts s.1 i w=false:=λ h w hw=>by
    by_cases z:w=v
    ·rw[z];exact h
    ·exact low w (by left)
   obtain⟨vo,evo⟩:∃ vo,vo=ov (dstF ts s.1 i v):=⟨_,rfl⟩
   rw[← evo]
   cases ed:dstF ts (uag ts.length) i v with
   | none =>
    refine⟨_,rfl,rfl,_,rfl,iteF (iteF ?_)⟩
    exact⟨kp,lt,as,s,fu,_,_,_,_,_,_,_,rfl,bt,nk,nlt,nla,hk,ko,las,B,hl,efu,by left,next (by rw[efb,ed];rfl)⟩
   | some x =>
   refine⟨_,rfl,rfl,_,rfl,iteT ?_⟩
   apply brT (A:=fwB ts s.1 i v=true)
   case main =>
    intro tail
    cases eo:dstF ts s.1 i v with
    | none =>
     rw[eo] at evo
     refine⟨_,rfl,rfl,_,rfl,iteTe (by rw[evo];rfl) ?_⟩
     exact iteT (tail (by rw[efb,ed,eo];rfl))
    | some y =>
     rw[eo] at evo
     refine⟨_,rfl,rfl,_,rfl,iteFe (by rw[evo];rfl) ⟨_,rfl,_,rfl,_,_,rfl,rfl,_,_,evo,rfl,_,rfl,?_⟩⟩
     by_cases xy:y > x + 6
     ·exact iteTe (decide_eq_true xy) (tail (by rw[efb,ed,eo];exact decide_eq_true (by left)))
     ·refine iteFe (decide_eq_false xy) ?_
      exact⟨kp,lt,as,s,fu,_,_,_,_,_,_,_,rfl,bt,nk,nlt,nla,hk,ko,las,B,hl,efu,by left,next (by rw[efb,ed,eo];exact decide_eq_false (by left))⟩
   case tail =>
    intro want
    have efw:fwF n ts s.1 i=some v:=zkg vn low want
    obtain⟨f',rfl⟩:∃ f',fu=f' + 1:=⟨fu - 1,by left⟩
    rw[zel efw] at efu
    have sm:=smJ bt
    have he:=bt _ _ ne0 he6
    refine⟨_,rfl,_,rfl,_,rfl,_,rfl,n,ones ts,uag (ones ts).length,_,.ref te,(i:Int),(v:Int),rfl,⟨Is.same sm _ isw,oko,zcb he,za8 (ones ts)⟩,by left,by left,by left,by left,λ wv J7 S7 wm=>?_⟩
    rw[ua1,ua1] at wm
    rcases wm with ⟨_,dn⟩ | ⟨tw,ws,x',rfl,ew,l24,mw,tr,dx⟩
    ·exfalso
     rw[zax] at dn
     have:=zds (za8 ts) dn
     rw[ed] at this;cases this
    have xx:x'=x:=by
     rw[zax] at dx
     have:=zds (za8 ts) dx
     rw[ed] at this
     exact uau this
    subst xx
    have ewy:wyW ts i v=ws:=by unfold wyW;rw[zkr oko mw];rfl
    have ndw:=mw.nodup
    have ln:=(zs8 oko (za8 (ones ts)) tr).2
    have sm7:=sm.trans S7
    refine⟨_,rfl,_,rfl,_,rfl,n,ts,s.1,_,tw,kp,ws,rfl,Is.same sm7 _ isw,ok,ew,by left,ln,S7 _ _ hk,λ tz lnb J8 S8 e8 h8=>⟨tz,_,rfl,SqT.of e8,rfl,_,_,rfl,_,_,rfl,rfl,?_⟩⟩
    have S78:=S7.trans S8
    refine⟨_,rfl,_,rfl,_,rfl,_,rfl,_,rfl,_,rfl,n,tw,lt,gv,l,as,ws,dstF ts s.1,rfl,S8 _ _ ew,ndw,Is.same S78 _ (gJ bt),gp,B.same S78,las,λ gv' J9 S9 isg'=>⟨(by show 4<=1000;decide),λ tc J10 S10 f10 e10=>?_⟩⟩
    have S710:=S78.trans (S9.trans S10)
    have hl10:=S710 _ _ hl
    have es:stS ts l i v s=(addK ts s.1 ws,s.2++[(i,v,(boK ts s.1 ws).length,gnF ts s.1 l ws)]):=by unfold stS;rw[ewy]
    obtain⟨rr,hrr⟩:∃ rr,fin.2=s.2++(i,v,(boK ts s.1 ws).length,gnF ts s.1 l ws)::rr:=by
     obtain⟨r1,h1⟩:=pre (i + 1) (by left)
     obtain⟨r2,h2⟩:=zke (n:=n) (ts:=ts) (l:=l) (u:=i) f' (stS ts l i v s)
     refine⟨r2++r1,?_⟩
     rw[h1,efu,h2,es]
     simp
    have sl:s.2.length < fin.2.length:=by rw[hrr,uaj,ubu];left
    have ey:ys[s.2.length]?=some (ys[s.2.length]'(by left)):=uad (by left)
    have edr:ys.drop s.2.length=ys[s.2.length]'(by left)::ys.drop (s.2.length + 1):=ufa (by left)
    generalize hy0:ys[s.2.length]'(by left)=y0 at ey edr
    have isy:Is K H (rowSD (i,v,(boK ts s.1 ws).length,gnF ts s.1 l ws)) y0:=by
     obtain⟨y',e1,e2⟩:=hys.at_ (show (fin.2.map rowSD)[s.2.length]?=some (rowSD (i,v,(boK ts s.1 ws).length,gnF ts s.1 l ws)) by rw[uaq,hrr,ucg (uai _),Nat.sub_self];rfl)
     rw[ey] at e1
     cases e1
     exact e2
    have gfew:(gnF ts s.1 l ws).length<=1000:=zrf gp.1 gp.2.1
    rw[edr] at hl10
    have hysd:IsAll K H ((fin.2.drop s.2.length).map rowSD) (y0::ys.drop (s.2.length + 1)):=by
     rw[← edr,uhj]
     exact zgm _ hys
    have sm10:=sm.trans S710
    refine⟨_,rfl,(by show 0<=1000;decide),λ lz J11 S11 f11 e11=>⟨.list ((fin.2.drop s.2.length).map rowSD),.list [],⟨ll,_,rfl,S11 _ _ hl10,IsAll.same (sm10.trans S11) _ hysd⟩,⟨lz,[],rfl,e11,rfl⟩,zhd _,rfl,ubf (udn (uai _) (ua9 (ud9 _ _) (show PyData.depth (.list [])<=1 from uai _))) units,_,rfl,?_⟩⟩
    have edf:fin.2.drop s.2.length=(i,v,(boK ts s.1 ws).length,gnF ts s.1 l ws)::rr:=by rw[hrr,List.drop_left]
    rw[edf]
    have hl11:=S11 _ _ hl10
    refine iteF ?_
    refine⟨_,rfl,.inl ⟨rfl,_,SqL.of hl11⟩,ll,_,0,0,y0,rfl,rfl,hl11,by decide,by decide,(zfl (n:=(y0::ys.drop (s.2.length + 1)).length) (i:=0) (j:=0) (by unfold ixN;rw[if_pos (by decide),if_pos (by rw[ubu];left)];rfl)).1,rfl,?_⟩
    have b12:But ll J11 (upd J11 ll (.lst ((y0::ys.drop (s.2.length + 1)).eraseIdx 0))):=But.upd
    have h12:upd J11 ll (.lst ((y0::ys.drop (s.2.length + 1)).eraseIdx 0)) ll=some (.lst (ys.drop (s.2.length + 1))):=zai
    generalize upd J11 ll (.lst ((y0::ys.drop (s.2.length + 1)).eraseIdx 0))=J12 at b12 h12
    have tk12:TupKeep J11 J12:=λ b us e=>b12 _ _ (λ z=>by rw[z,hl11] at e;cases e) e
    have trow:tupD (rowSD (i,v,(boK ts s.1 ws).length,gnF ts s.1 l ws))=true:=by
     have:(tupD (rowSD (i,v,(boK ts s.1 ws).length,gnF ts s.1 l ws)) && true)=true:=zku [(i,v,(boK ts s.1 ws).length,gnF ts s.1 l ws)]
     rw[ue1] at this;exact this
    have isc:Is K J11 (rowSD (i,v,(boK ts s.1 ws).length,gnF ts s.1 l ws)) (.ref tc):=⟨tc,_,rfl,S11 _ _ e10,.int (i:Int),_,rfl,rfl,.int (v:Int),_,rfl,rfl,.int ((boK ts s.1 ws).length:Nat),_,rfl,rfl,gv',[],rfl,Is.same (S10.trans S11) _ isg',rfl⟩
    refine⟨_,rfl,y0,.ref tc,_,rfl,Is.tk tk12 _ trow (Is.same (sm10.trans S11) _ isy),Is.tk tk12 _ trow isc,zr2 gfew,λ J13 S13'=>⟨_,rfl,iteF ?_⟩⟩
    have S711:=S710.trans S11
    have bt13:But ll J6 J13:=λ b o z e=>S13' _ _ (b12 _ _ z (S711 _ _ (bt _ _ z e)))
    have hk13:=S13' _ _ (b12 _ _ nk (S711 _ _ hk))
    have nb:lnb≠ll:=λ z=>by
     have h:=S8 _ _ (S7 _ _ hl)
     rw[← z,h8,edr] at h
     obtain⟨p,xs,ep,_⟩:=isy
     rw[ep] at h
     have h:natV (alongN (ones ts) ws)=V.ref p::ys.drop (s.2.length + 1):=by injection h with h;injection h
     cases ea:alongN (ones ts) ws with
     | nil=>rw[ea] at h;cases h
     | cons a r=>rw[ea] at h;cases h
    have hb13:=S13' _ _ (b12 _ _ nb (S11 _ _ (S10 _ _ (S9 _ _ h8))))
    have lks:=ko.len
    have lal:(alongN (ones ts) ws).length<=24:=by rw[zb1];left
    refine⟨_,rfl,_,rfl,kp,lnb,_,_,rfl,rfl,hk13,hb13,ua9 (show (natV s.1).length + (natV (alongN (ones ts) ws)).length<=1000 by rw[zah,zah];left) (by decide),λ lc J14 S14' f14 e14=>?_⟩
    rw[← zcj,zbb] at e14
    have few:=zk3 (ns:=keepI (s.1++alongN (ones ts) ws)) (m:=60) λ x hx=>by
     obtain⟨c,hc,rfl⟩:=ubj.mp hx
     have:c < ts.length:=by
      have:=(zdc ts s.1 ws).2 c ((zcn ko ln).mpr (uaz.mp hc))
      exact this
     left
    refine⟨lc,keepI (s.1++alongN (ones ts) ws),rfl,e14,by unfold keepI;rw[uae,uaj];left,λ q1 J15 S15' f15 e15=>⟨q1,_,_,rfl,e15,by left,λ ms m1 m2 m3 lz2 J16 S16' f16 e16=>?_⟩⟩
    rw[zet m1 m2 m3 (zdc ts s.1 ws).1 (λ k=>(zcn ko ln).trans uaz.symm)] at e16
    have ko':=zdc ts s.1 ws
    have S1316:=S14'.trans (S15'.trans S16')
    have bt16:But ll J6 J16:=λ b o z e=>S1316 _ _ (bt13 _ _ z e)
    have hl16:=S1316 _ _ (S13' _ _ h12)
    refine⟨_,rfl,_,rfl,n,ts,addK ts s.1 ws,_,lz2,false,rfl,⟨Is.same (smJ bt16) _ isw,oko,e16,by rw[zax];exact ko'⟩,ok,λ lt2 as2 J17 S17 f17 fas2 las2 B17=>?_⟩
    have sub:∀ k ∈ s.1,k ∈ addK ts s.1 ws:=λ k hk=>(zcn ko ln).mpr (.inl hk)
    obtain⟨y,ey2,ley⟩:=(zeo ko' i v).2 x' (zjv oko tr λ k hk=>(zcn ko ln).mpr (.inr hk))
    have es1:(stS ts l i v s).1=addK ts s.1 ws:=by rw[es]
    have es2:(stS ts l i v s).2.length=s.2.length + 1:=by rw[es];show (s.2++[_]).length=_;rw[uaj];rfl
    have ne2:∀ {J:Hp} {c:Addr},J c=none->J ll=some (.lst (ys.drop (s.2.length + 1)))->c≠ll:=λ h1 h2 z=>by rw[z,h2] at h1;cases h1
    refine⟨lz2,lt2,as2,stS ts l i v s,f',_,_,_,_,_,_,_,rfl,λ b o z e=>S17 _ _ (bt16 _ _ z e),?_,ne2 f17 hl16,λ z=>ne2 (fas2 ll z) hl16 rfl,by rw[es1];exact S17 _ _ e16,by rw[es1];exact ko',las2,by rw[es1];exact B17,by rw[es2];exact S17 _ _ hl16,efu,by left,λ w hw=>?_⟩
    ·exact ne2 f16 ((S14'.trans S15') _ _ (S13' _ _ h12))
    ·rw[es1]
     refine Bool.eq_false_iff.mpr λ z=>?_
     obtain⟨v',h1,h2⟩:=zss (show w < n.toNat by left) z
     have:=zoo ko ko' sub efw ed ey2 ley h2
     left
  ·obtain⟨kp,lt,as,s,fu,y9,y10,y11,y12,y13,y14,y15,rfl,bt,nk,nlt,nla,hk,ko,las,B,hl,efu,hfu,low⟩:=h
   have efw:fwF n ts s.1 i=none:=udq.mpr λ w hw=>by rw[low w (by have:=uav.mp hw;left)];decide
   rw[zem efw] at efu
   exact⟨kp,lt,as,_,_,_,_,_,_,_,_,rfl,bt,nk,nlt,nla,by rw[efu];exact hk,by rw[efu];exact ko,las,by rw[efu];exact B,by rw[efu];exact hl⟩
 ·obtain⟨kp,lt,as,y8,y9,y10,y11,y12,y13,y14,y15,rfl,bt,nk,nlt,nla,hk,ko,las,B,hl⟩:=h
  rw[← efin] at hk hl
  rw[List.drop_of_length_le (by left)] at hl
  refine⟨_,rfl,(by show 0<=1000;decide),λ lz J8 S8 f8 e8=>⟨.list [],.list [],⟨ll,[],rfl,S8 _ _ hl,rfl⟩,⟨lz,[],rfl,e8,rfl⟩,rfl,rfl,ubf (udn (uai _) (ua9 (ud9 _ _) (show PyData.depth (.list [])<=1 from uai _))) units,_,rfl,iteF ?_⟩⟩
  exact⟨_,rfl,kp,_,rfl,S8 _ _ hk,λ tz J9 S9 f9 e9=>q tz J9 ((smJ bt).trans (S8.trans S9)) e9⟩
inductive spShareL_i  (vs:List V) (H:Hp) (Q:VK):Prop
 | mk:∀ (p:Addr),(vs=[.ref p])->(Pot H p)->(∀ (d:Int) H',1<=d->But p H H'->Pot H' p->Q (.int d) H')->spShareL_i vs H Q
def spShareL :Sp:=λ vs H Q _=>spShareL_i vs H Q
theorem zfa (T:Bi mg) (D:DefOk K mg "_law_share" s__law_share ["pot"]) (O__law_take:Ok P w K mg base 1 "_law_take" ["pot","many"] spTake):Ok P w K mg base 2 "_law_share" ["pot"] spShareL:=by
 refine zbd (k:=1) D sc__law_share (λ vs H Q E h=>?_) (λ f cdv A outer s H vs Q E hr h=>?_)
 ·obtain⟨p,rfl,_⟩:=h
  rfl
 obtain⟨p,rfl,hp,q⟩:=h
 have nd:=sc__law_share.nd
 have npot:∀ {J:Hp} {b:Addr},Pot J p->J b=none->b≠p:=λ pp hb z=>by
  obtain⟨xs,e⟩:=pp.lst
  rw[z,e] at hb;cases hb
 refine⟨_,(BSs.h (zqt (zt2 (i:=1) nd rfl (uat rfl) (zs3 (zep (BE.mk zae) (zep (BE.mk zae) (zep (BE.mk zae) (zeq (BE.mk (zaz zb7 zae (zaj O__law_take hr rfl (zaa (pv 0) (zaa zae zac))))) (zeq (BE.mk (zaz zb7 zae (zaj O__law_take hr rfl (zaa (pv 0) (zaa zae zac))))) (zep (BE.mk zae) (zeq (BE.mk (zaz zb7 zae (zaj O__law_take hr rfl (zaa (pv 0) (zaa zae zac))))) (zeq (BE.mk (zaz ze5 zae zae)) zt4)))))))))) (zs2 (zt3 (zuj zau (BE.mk (pv 1)) (BE.mk (zaj O__law_take hr rfl (zaa (pv 0) (zaa zae zac)))) (λ _ _=>rfl)))))),?_⟩
 refine⟨_,rfl,p,5,rfl,hp,by decide,by decide,λ r1 J1 r10 r11 b1 p1=>⟨_,_,rfl,rfl,_,rfl,p,2,rfl,p1,by decide,by decide,λ r2 J2 r20 r21 b2 p2=>⟨_,_,rfl,rfl,_,rfl,p,24,rfl,p2,by decide,by decide,λ r3 J3 r30 r31 b3 p3=>⟨_,_,rfl,rfl,_,_,rfl,rfl,⟨by decide,by decide,by decide⟩,(by show 8<=1000;decide),λ ls J4 S4 f4 e4=>?_⟩⟩⟩⟩
 have p4:=p3.same S4
 refine⟨_,rfl,_,rfl,p,8,rfl,p4,by decide,by decide,λ r4 J5 r40 r41 b5 p5=>?_⟩
 obtain⟨d,d1,hd⟩:∃ d:Int,1<=d/\atI [V.int 1,V.int 2,V.int 2,V.int (1 + r1),V.int (2 + r2),V.int 2,V.int (1 + r3),V.int ((10:Int) ^ (50:Int).toNat)] r4=some (.int d):=by
  have:r4=0\/r4=1\/r4=2\/r4=3\/r4=4\/r4=5\/r4=6\/r4=7:=by left
  rcases this with rfl | rfl | rfl | rfl | rfl | rfl | rfl | rfl
  ·exact⟨1,by decide,rfl⟩
  ·exact⟨2,by decide,rfl⟩
  ·exact⟨2,by decide,rfl⟩
  ·exact⟨1 + r1,by left,rfl⟩
  ·exact⟨2 + r2,by left,rfl⟩
  ·exact⟨2,by decide,rfl⟩
  ·exact⟨1 + r3,by left,rfl⟩
  ·exact⟨(10:Int) ^ (50:Int).toNat,by symm,rfl⟩
 exact⟨ls,_,_,_,rfl,rfl,SqL.of (b5 _ _ (npot p3 f4) e4),hd,q d J5 d1 (b1.trans (b2.trans (b3.trans ((Same.but S4).trans b5)))) p5⟩
inductive spBs63_i  (vs:List V) (H:Hp) (Q:VK):Prop
 | mk:∀ (p:Addr) (st n a b:Int),(vs=[.ref p,.int st,.int n,.int a,.int b])->(Pot H p)->(0<=st)->(st < 8)->(∀ k H',But p H H'->Pot H' p->Q (.bl k) H')->spBs63_i vs H Q
def spBs63 :Sp:=λ vs H Q _=>spBs63_i vs H Q
theorem zea (T:Bi mg) (D:DefOk K mg "_law_beside" s__law_beside ["pot","style","n","a","b"]) (O__law_take:Ok P w K mg base 1 "_law_take" ["pot","many"] spTake):Ok P w K mg base 2 "_law_beside" ["pot","style","n","a","b"] spBs63:=by
 refine zbd (k:=1) D sc__law_beside (λ vs H Q E h=>?_) (λ f cdv A outer s H vs Q E hr h=>?_)
 ·obtain⟨p,st,n,a,b,rfl,_⟩:=h
  rfl
 obtain⟨p,st,n,a,b,rfl,hp,s0,s8,q⟩:=h
 have nd:=sc__law_beside.nd
 have q0:∀ k,Q (.bl k) H:=λ k=>q k H But.refl hp
 refine⟨_,(zab (zan (i:=5) nd rfl (uat rfl) (zaz zdy (pv 4) (pv 3))) (zab (zan (i:=6) nd rfl (uat rfl) (zno (zba zbq (pv 5) zae (nomark _)) (zcq (zba zbq (pv 5) (zaz zdy (pv 2) zae) (nomark _))))) (zab (zbf (zam zbq (pv 1) zae (nomark _)) (zad (zaq (zdx (zba zbq (pv 5) zae (nomark _)) (zcq (zba zme (zaz zcs (pv 4) zae) zae (nomark _)))))) zat) (zab (zbf (PW.pt (zc7 (zam zbq (pv 1) zae (nomark _)) (zb5 (zam zbq (pv 1) zae (nomark _))))) (zad (zaq (zno (zba zbq (pv 5) (pv 1) (nomark _)) (zcq (zdx (zba zbq (pv 5) zae (nomark _)) (zcq (zba zme (zaz zcs (pv 4) (pv 1)) zae (nomark _)))))))) zat) (zab (zbf (zam zbq (pv 1) zae (nomark _)) (zad (zaq (zno (pv 6) (zcq (zba zbq (zaj O__law_take hr rfl (zaa (pv 0) (zaa zae zac))) zae (nomark _)))))) zat) (zab (zbf (zam zbq (pv 1) zae (nomark _)) (zad (zaq (zba zbq (pv 3) (zaz zj0 (zaz zdy (pv 4) zae) zae) (nomark _)))) zat) (zab (zbf (zam zbq (pv 1) zae (nomark _)) (zad (zaq (zno (zba zbq (pv 5) zae (nomark _)) (zcq (zdx (zba zjz (pv 3) zae (nomark _)) (zdx (zba zme (pv 4) (zaz zdy (pv 2) zae) (nomark _)) (zcq (zba zbq (zaz zcs (pv 5) zae) zae (nomark _))))))))) zat) (zab (zbf (zam zbq (pv 1) zae (nomark _)) (zad (zaq (zba zbq (zaj O__law_take hr rfl (zaa (pv 0) (zaa zae zac))) zae (nomark _)))) zat) (zad (zaq (pv 6))))))))))),?_⟩
 refine⟨_,rfl,_,rfl,_,_,rfl,rfl,?_⟩
 refine⟨_,rfl,rfl,_,rfl,?_⟩
 have:st=0\/st=1\/st=2\/st=3\/st=4\/st=5\/st=6\/st=7:=by left
 refine ite2 (λ c=>?_) (λ c=>⟨_,rfl,_,rfl,_,_,rfl,rfl,rfl,?_⟩)
 all_goals
  rcases this with rfl | rfl | rfl | rfl | rfl | rfl | rfl | rfl
  ·exact⟨_,rfl,rfl,_,rfl,iteF ⟨_,rfl,rfl,_,rfl,iteF ⟨_,rfl,rfl,_,rfl,iteF ⟨_,rfl,rfl,_,rfl,iteF ⟨_,rfl,rfl,_,rfl,iteF ⟨_,rfl,rfl,_,rfl,iteF ⟨_,rfl,rfl,_,rfl,iteF ⟨_,rfl,q0 _⟩⟩⟩⟩⟩⟩⟩⟩
  ·exact⟨_,rfl,rfl,_,rfl,iteT ⟨_,rfl,rfl,_,rfl,ite2 (λ _=>⟨_,rfl,_,_,rfl,rfl,(by show (0:Int) < 9;decide),_,_,rfl,rfl,q0 _⟩) (λ _=>q0 _)⟩⟩
  ·exact⟨_,rfl,rfl,_,rfl,iteF ⟨_,rfl,rfl,_,rfl,iteT ⟨_,rfl,_,rfl,rfl,_,rfl,ite2 (λ _=>q0 _) (λ _=>⟨_,rfl,rfl,_,rfl,ite2 (λ _=>⟨_,rfl,_,rfl,_,_,rfl,rfl,(by show (0:Int) < 2;decide),_,_,rfl,rfl,q0 _⟩) (λ _=>q0 _)⟩)⟩⟩⟩
  ·exact⟨_,rfl,rfl,_,rfl,iteF ⟨_,rfl,rfl,_,rfl,iteF ⟨_,rfl,rfl,_,rfl,iteT ⟨_,rfl,_,rfl,rfl,_,rfl,ite2 (λ _=>q0 _) (λ _=>⟨_,rfl,rfl,_,rfl,ite2 (λ _=>⟨_,rfl,_,rfl,_,_,rfl,rfl,(by show (0:Int) < 3;decide),_,_,rfl,rfl,q0 _⟩) (λ _=>q0 _)⟩)⟩⟩⟩⟩
  ·exact⟨_,rfl,rfl,_,rfl,iteF ⟨_,rfl,rfl,_,rfl,iteF ⟨_,rfl,rfl,_,rfl,iteF ⟨_,rfl,rfl,_,rfl,iteT ⟨_,rfl,_,rfl,ite2 (λ _=>q0 _) (λ _=>⟨_,rfl,p,_,rfl,hp,by decide,by decide,λ r H' _ _ b1 p1=>⟨rfl,q _ _ b1 p1⟩⟩)⟩⟩⟩⟩⟩
  ·exact⟨_,rfl,rfl,_,rfl,iteF ⟨_,rfl,rfl,_,rfl,iteF ⟨_,rfl,rfl,_,rfl,iteF ⟨_,rfl,rfl,_,rfl,iteF ⟨_,rfl,rfl,_,rfl,iteT ⟨_,rfl,_,rfl,_,_,rfl,rfl,_,_,rfl,rfl,⟨by decide,by decide⟩,rfl,q0 _⟩⟩⟩⟩⟩⟩
  ·exact⟨_,rfl,rfl,_,rfl,iteF ⟨_,rfl,rfl,_,rfl,iteF ⟨_,rfl,rfl,_,rfl,iteF ⟨_,rfl,rfl,_,rfl,iteF ⟨_,rfl,rfl,_,rfl,iteF ⟨_,rfl,rfl,_,rfl,iteT ⟨_,rfl,rfl,_,rfl,ite2 (λ _=>q0 _) (λ _=>⟨_,rfl,_,_,rfl,rfl,_,rfl,ite2 (λ _=>⟨_,rfl,_,rfl,_,_,rfl,rfl,_,_,rfl,rfl,_,rfl,ite2 (λ _=>⟨_,rfl,_,_,rfl,rfl,(by show (0:Int) < 2;decide),rfl,q0 _⟩) (λ _=>q0 _)⟩) (λ _=>q0 _)⟩)⟩⟩⟩⟩⟩⟩⟩
  ·exact⟨_,rfl,rfl,_,rfl,iteF ⟨_,rfl,rfl,_,rfl,iteF ⟨_,rfl,rfl,_,rfl,iteF ⟨_,rfl,rfl,_,rfl,iteF ⟨_,rfl,rfl,_,rfl,iteF ⟨_,rfl,rfl,_,rfl,iteF ⟨_,rfl,rfl,_,rfl,iteT ⟨_,rfl,p,_,rfl,hp,by decide,by decide,λ r H' _ _ b1 p1=>⟨rfl,q _ _ b1 p1⟩⟩⟩⟩⟩⟩⟩⟩⟩
def WInv63 (H:Hp) (p ln lt:Addr) (m n st:Int) (ms:List Int) (b a:Nat) (σ:L2.St) (H':Hp):Prop :=
 ∃ (t7 t8 t9 t10:Option V) (ys:List V) (ties:List Tie),σ=[some (.ref p),some (.int m),some (.int n),some (.int st),some (.ref ln),some (.ref lt),t7,t8,t9,t10] /\
  H' ln=some (.lst (ms.map V.int))/\H' lt=some (.lst ys)/\TieL H' ys ties/\Pot H' p/\(∀ b o,b≠p->H b=some o->H' b=some o)/\Grown n.toNat ms b a ties/\(∀ t ∈ ties,t.2.2=1)
inductive spLong_i (K:uac) (vs:List V) (H:Hp) (Q:VK):Prop
 | mk:∀ p m,(vs=[.ref p,.int m])->(Pot H p)->(1<=m)->(m<=24)->(∀ v H' n ts,But p H H'->Pot H' p->WebOk n ts->n<=m->Is K H' (webD n (ones ts)) v->Q v H')->spLong_i K vs H Q
def spLong (K:uac):Sp:=λ vs H Q _=>spLong_i K vs H Q
theorem znv {ts:List Tie} (h:∀ t ∈ ts,t.2.2=1):ones ts=ts:=by
 unfold ones
 conv=>rhs;rw[← List.map_id ts]
 refine uby λ t ht=>?_
 show (t.1,t.2.1,(1:Int))=t
 rw[← h t ht]
theorem zf2 (T:Bi mg) (D:DefOk K mg "_law_long" s__law_long ["pot","most"]) (O__law_take:Ok P w K mg base 2 "_law_take" ["pot","many"] spTake) (O__law_order:Ok P w K mg base 2 "_law_order" ["pot","many"] spOrder)
  (O__law_beside:Ok P w K mg base 2 "_law_beside" ["pot","style","n","a","b"] spBs63):Ok P w K mg base 3 "_law_long" ["pot","most"] (spLong K):=by
 refine zbd (k:=2) D sc__law_long (λ vs H Q E h=>?_) (λ f cdv A outer s H vs Q E hr h=>?_)
 ·obtain⟨p,m,rfl,_⟩:=h
  rfl
 obtain⟨p,m,rfl,hp,hm0,hm1,q⟩:=h
 have nd:=sc__law_long.nd
 refine⟨_,(zab (zan (i:=2) nd rfl (uat rfl) (zaz zb7 zae (zaj O__law_take hr rfl (zaa (pv 0) (zaa (pv 1) zac))))) (zab (zan (i:=3) nd rfl (uat rfl) (zaj O__law_take hr rfl (zaa (pv 0) (zaa zae zac)))) (zab (zan (i:=4) nd rfl (uat rfl) (zas (zdi rfl) rfl T.z_list (by symm) (zaa (zas zc4 rfl T.z_range (by symm) (zaa (pv 2) zac)) zac))) (zab (zbf (zam zbq (zaj O__law_take hr rfl (zaa (pv 0) (zaa zae zac))) zae (nomark _)) (zad (zan (i:=4) nd rfl (uat rfl) (zaj O__law_order hr rfl (zaa (pv 0) (zaa (pv 2) zac))))) zat) (zab (zan (i:=5) nd rfl (uat rfl) (zim zac)) (zab (za4 PassesOwn.never rfl (zey rfl T.z_range (zaa zae (zaa (pv 2) zac))) (zag (i:=6) nd rfl (uat rfl)) (zad (za4 PassesOwn.never rfl (zbi rfl T.z_range (zaa (pv 6) zac)) (zag (i:=7) nd rfl (uat rfl)) (zad (zbf (PW.pt (zev (zcp (zaj O__law_beside hr rfl (zaa (pv 0) (zaa (pv 3) (zaa (pv 2) (zaa (pv 7) (zaa (pv 6) zac))))))) (zdm (zam zjz (zao zay rfl T.z_len (by symm) (zaa (pv 5) zac)) zae (nomark _))))) (zab (zbz (zao zd4 rfl T.z_sorted (by symm) (zaa (zim (zaa (zar zau (pv 4) (pv 7) (λ _ _=>rfl)) (zaa (zar zau (pv 4) (pv 6) (λ _ _=>rfl)) zac))) zac)) (zti (n:=2) rfl (zak (zag (i:=8) nd rfl (uat rfl)) (zak (zag (i:=9) nd rfl (uat rfl)) za2)))) (zad (za9 (zb2 uax ua8 ua7 zct (pv 5) (zaa (zq8 (zaa (pv 8) (zaa (pv 9) (zaa zae zac)))) zac))))) zat))))) (zad (zaq (zq8 (zaa (pv 2) (zaa (zas zdh rfl T.z_tuple (by symm) (zaa (zao zjc rfl T.z_sorted (by symm) (zaa (pv 5) zac)) zac)) zac))))))))))),?_⟩
 refine⟨_,rfl,_,rfl,p,m,rfl,hp,by left,by left,λ r1 H1 r10 r11 b1 p1=>?_⟩
 refine⟨_,_,rfl,rfl,?_⟩
 refine⟨_,rfl,p,8,rfl,p1,by decide,by decide,λ st H2 st0 st1 b2 p2=>?_⟩
 have n1:1<=(1 + r1):=by left
 have n24:(1 + r1)<=24:=by left
 refine⟨_,rfl,_,rfl,λ rg hrg=>⟨rg,_,rfl,zai,by left,by left,λ lk hlk=>?_⟩⟩
 have SL:=(zal (o:=.rng 0 (1 + r1)) hrg).trans (zal (o:=.lst ((uag (1 + r1).toNat).map λ i:Nat=>V.int (i:Int))) hlk)
 have pl:=p2.same SL
 have npot:∀ {J:Hp} {b:Addr},Pot J p->J b=none->b≠p:=λ pp hb z=>by
  obtain⟨xs,e⟩:=pp.lst
  rw[z,e] at hb;cases hb
 have nlk:lk≠p:=npot (p2.same (zal (o:=.rng 0 (1 + r1)) hrg)) hlk
 refine⟨_,rfl,p,2,rfl,pl,by decide,by decide,λ r2 J2 r20 r21 b3 p3=>⟨rfl,_,rfl,?_⟩⟩
 have bt3:But p H J2:=b1.trans (b2.trans ((Same.but SL).trans b3))
 apply brT2 (A:=λ (ln:Addr) (J:Hp)=>But p H J/\Pot J p/\H ln=none/\ln≠p/\∃ ms:List Int,J ln=some (.lst (ms.map V.int))/\ms.Perm ((uag (1 + r1).toNat).map λ i:Nat=>(i:Int)))
 case main =>
  intro tail
  refine ite2 (λ c=>?_) (λ c=>?_)
  ·refine⟨_,rfl,_,rfl,p,(1 + r1),rfl,p3,by left,by left,λ ln H4 ms b4 p4 f4 n4 e4 pm=>?_⟩
   refine tail ln H4 ⟨bt3.trans b4,p4,?_,n4,ms,e4,pm⟩
   cases e:H ln with
   | none=>rfl
   | some u=>rw[bt3 _ _ n4 e] at f4;cases f4
  ·refine tail lk J2 ⟨bt3,p3,?_,nlk,(uag (1 + r1).toNat).map (λ i:Nat=>(i:Int)),b3 _ _ nlk ?_,ugi _⟩
   ·cases e:H lk with
    | none=>rfl
    | some u =>
     have:=(zal (o:=.rng 0 (1 + r1)) hrg) _ _ ((b1.trans b2) _ _ nlk e)
     rw[hlk] at this;cases this
   ·rw[zai,ubq];rfl
 case tail =>
 rintro ln H4 ⟨bt4,p4,fln,n4,ms,e4,pm⟩
 refine⟨(by show 0<=sizeLine;decide),λ lt hlt=>?_⟩
 have flt:H lt=none:=by
  by_cases z:lt=p
  ·obtain⟨a',b',e',_⟩:=p4;rw[z,e'] at hlt;cases hlt
  ·cases e:H lt with
   | none=>rfl
   | some u=>rw[bt4 _ _ z e] at hlt;cases hlt
 have nlt:lt≠p:=npot p4 hlt
 have nln:ln≠lt:=λ x=>by rw[← x,e4] at hlt;cases hlt
 have pm0:Perm0 (1 + r1).toNat ms:=Perm0.of pm
 refine⟨_,rfl,1,(1 + r1),rfl,⟨by left,by left,by left,by left⟩,?_⟩
 refine zbj (lo:=1) (n:=((1 + r1) - 1).toNat) (λ i σ H'=>WInv63 H p ln lt m (1 + r1) st ms (i + 1) 0 σ H') ?start ?turn ?fin
 case start =>
  refine⟨_,none,none,none,[],[],rfl,by rw[zap nln];exact e4,zai,.nil,?_,λ b o hb e=>?_,Grown.start.down,λ t h=>by cases h⟩
  ·obtain⟨a',b',e',z⟩:=p4
   exact⟨a',b',by rw[zap nlt.symm];exact e',z⟩
  ·rw[zap (λ x=>by rw[x,flt] at e;cases e)]
   exact bt4 _ _ hb e
 case turn =>
  rintro i σ H' hi ⟨t7,t8,t9,t10,ys,ties,rfl,g1,g2,g3,g4,g5,g6,g7⟩
  refine⟨_,rfl,_,rfl,by left,by left,?_⟩
  have ei:((1 + (i:Int)):Int).toNat=i + 1:=by left
  rw[ei]
  refine zbj (n:=i + 1) (λ k σ H''=>(∃ t7,σ[6]?=some (some (.int (1 + (i:Int))))/\t7=())/\WInv63 H p ln lt m (1 + r1) st ms (i + 1) k σ H'') ?start2 ?turn2 ?fin2
  case start2=>exact⟨⟨(),rfl,rfl⟩,some (.int (1 + (i:Int))),t8,t9,t10,ys,ties,rfl,g1,g2,g3,g4,g5,g6,g7⟩
  case fin2 =>
   rintro σ H'' ⟨_,t7,t8,t9,t10,ys,ties,rfl,g1,g2,g3,g4,g5,g6,g7⟩
   exact⟨t7,t8,t9,t10,ys,ties,rfl,g1,g2,g3,g4,g5,g6.down,g7⟩
  case turn2 =>
   rintro k σ K1 hk ⟨⟨_,h7,_⟩,t7,t8,t9,t10,ys,ties,rfl,g1,g2,g3,g4,g5,g6,g7⟩
   have e7:t7=some (.int (1 + (i:Int))):=by simpa using h7
   subst e7
   have again : ∀ {u8 u9 u10 : Option V} {ys' : List V} {ts : List Tie} {J : Hp}, J ln = some (.lst (ms.map V.int)) → J lt = some (.lst ys') → TieL J ys' ts → Pot J p → (∀ b o, b ≠ p → H b = some o → J b = some o) → Grown (1 + r1).toNat ms (i + 1) (k + 1) ts → (∀ t ∈ ts, t.2.2 = 1) →
       (∃ t7,([some (.ref p),some (.int m),some (.int (1 + r1)),some (.int st),some (.ref ln),some (.ref lt),some (.int (1 + (i:Int))),u8,u9,u10]:L2.St)[6]?=some (some (.int (1 + (i:Int))))/\t7=())/\WInv63 H p ln lt m (1 + r1) st ms (i + 1) (k + 1) [some (.ref p),some (.int m),some (.int (1 + r1)),some (.int st),some (.ref ln),some (.ref lt),some (.int (1 + (i:Int))),u8,u9,u10] J :=
    λ a1 a2 a3 a4 a5 a6 a7=>⟨⟨(),rfl,rfl⟩,_,_,_,_,_,_,rfl,a1,a2,a3,a4,a5,a6,a7⟩
   refine⟨_,rfl,_,rfl,_,rfl,_,rfl,_,rfl,p,_,_,_,_,rfl,g4,st0,st1,λ kk K2 c2 d2=>⟨kk,rfl,?_⟩⟩
   have nlnp:ln≠p:=n4
   have l1:K2 ln=some (.lst (ms.map V.int)):=c2 _ _ nlnp g1
   have l2:K2 lt=some (.lst ys):=c2 _ _ nlt g2
   have tup2:∀ a xs,K1 a=some (.tup xs)->K2 a=some (.tup xs):=λ a xs e=>c2 _ _ (λ x=>by
    obtain⟨a',b',e',_⟩:=g4
    rw[x,e'] at e;cases e) e
   have l3:TieL K2 ys ties:=g3.keep tup2
   have l5:∀ b o,b≠p->H b=some o->K2 b=some o:=λ b o hb e=>c2 _ _ hb (g5 _ _ hb e)
   have ylen:ys.length=ties.length:=Paired.length g3
   cases kk with
   | false =>
    refine iteF (iteF ?_)
    exact again l1 l2 l3 d2 l5 g6.skip g7
   | true =>
    refine iteT ?_
    refine⟨_,rfl,lt,_,rfl,.inl (SqL.of l2),_,_,rfl,rfl,_,rfl,?_⟩
    refine ite2 (λ c=>?_) (λ c=>?_)
    case refine_2=>exact again l1 l2 l3 d2 l5 g6.skip g7
    have c':((ys.length:Nat):Int) < 60:=of_decide_eq_true c
    have hkn:k < (1 + r1).toNat:=by left
    have at_:∀ j:Nat,j < (1 + r1).toNat->atI (ms.map V.int) (j:Int)=some (.int (ms.getD j 0)):=λ j hj=>by
     have hj':j < ms.length:=by rw[pm0.len];exact hj
     refine zo6 ?_
     rw[uaq,uad hj']
     simp [udc,hj']
    have ak:atI (ms.map V.int) (0 + (k:Int))=some (.int (ms.getD k 0)):=by rw[uf0];exact at_ k hkn
    have ai:atI (ms.map V.int) (1 + (i:Int))=some (.int (ms.getD (i + 1) 0)):=by rw[show (1:Int) + (i:Int)=((i + 1:Nat):Int) by left];exact at_ (i + 1) (by left)
    refine⟨_,rfl,_,rfl,ln,_,_,_,rfl,rfl,SqL.of l1,ak,_,rfl,_,rfl,ln,_,_,_,rfl,rfl,SqL.of l1,ai,(by show 2<=sizeLine;decide),λ s1 hs1=>?_⟩
    refine⟨s1,[ms.getD k 0,ms.getD (i + 1) 0],rfl,SqL.of zai,(by show 2 < 64;decide),λ zs pz wz s2 hs2=>?_⟩
    obtain⟨x,y,rfl,hxy,hor⟩:=zl7 pz wz
    refine⟨s2,_,rfl,SqL.of zai,rfl,?_⟩
    refine⟨_,_,rfl,_,_,rfl,rfl,?_⟩
    have m1:∀ b o,K2 b=some o->b≠s1:=λ b o e=>zaf e hs1
    have m2:∀ b o,K2 b=some o->b≠s2:=λ b o e=>zaf (zal hs1 b o e) hs2
    have up:∀ b o,K2 b=some o->upd (upd K2 s1 (.lst [.int (ms.getD k 0),.int (ms.getD (i + 1) 0)])) s2 (.lst [.int x,.int y]) b=some o:=λ b o e=>by rw[zap (m2 b o e),zap (m1 b o e)];exact e
    refine⟨_,rfl,.inl ⟨rfl,_,SqL.of (up _ _ l2)⟩,_,rfl,_,rfl,(by show 3<=sizeLine;decide),λ tp htp=>?_⟩
    have up5:∀ b o,K2 b=some o->upd (upd (upd K2 s1 (.lst [.int (ms.getD k 0),.int (ms.getD (i + 1) 0)])) s2 (.lst [.int x,.int y])) tp (.tup [.int x,.int y,.int 1]) b=some o:=λ b o e=>by
     have e5:=up b o e
     rw[zap (zaf e5 htp)];exact e5
    refine⟨lt,_,_,rfl,rfl,up5 _ _ l2,?_,?_⟩
    ·exact ubf (by left:ys.length<=1000) (by decide)
    have k5:∀ b o,b≠lt->K2 b=some o->upd (upd (upd (upd K2 s1 (.lst [.int (ms.getD k 0),.int (ms.getD (i + 1) 0)])) s2 (.lst [.int x,.int y])) tp (.tup [.int x,.int y,.int 1])) lt (.lst (ys++[.ref tp])) b=some o:=λ b o hb2 e=>by rw[zap hb2];exact up5 b o e
    have ntp:tp≠lt:=λ z=>by
     subst z
     have:=htp.symm.trans (up _ _ l2)
     cases this
    refine again (k5 _ _ nln l1) zai (TieL.snoc (TieL.keep l3 λ a xs e=>k5 _ _ ?_ e) ?_) ?_ (λ b o hb e=>k5 _ _ (λ z=>by rw[z,flt] at e;cases e) (l5 _ _ hb e))
     (g6.add (x:=x) (y:=y) (l:=1) pm0 hk (by left) (by left) (by decide) (by decide) hor hxy) (λ t ht=>?_)
    ·intro z
     rw[z,l2] at e;cases e
    ·rw[zap ntp,zai];rfl
    ·obtain⟨a',b',e',z⟩:=d2
     exact⟨a',b',k5 _ _ nlt.symm e',z⟩
    ·rcases uaz.mp ht with z | z
     ·exact g7 t z
     ·rw[uam.mp z]
 case fin =>
  rintro σ H' ⟨t7,t8,t9,t10,ys,ties,rfl,g1,g2,g3,g4,g5,g6,g7⟩
  have ylen:ys.length=ties.length:=Paired.length g3
  have few:=g6.few
  refine⟨_,rfl,_,rfl,lt,ys,ties.map tieI,rfl,SqL.of g2,by left,ze2 (λ y t ⟨a,e1,e2⟩=>⟨a,e1,SqT.of e2⟩) g3,λ k hk=>?_,λ qs pq wq l hl=>?_⟩
  ·obtain⟨t,_,rfl⟩:=ubj.mp hk
   exact λ z=>by cases z
  obtain⟨ts,pt,tl,wt⟩:=zru g3 pq wq
  refine⟨l,_,rfl,.inl ⟨SqL.of zai,λ l' hl'=>?_⟩⟩
  refine⟨(by show 2<=sizeLine;decide),λ v hv=>?_⟩
  have S1:Same H' (upd H' l (.lst (qs.map (·.1)))):=zal hl
  have S2:=S1.trans (zal (o:=.tup (qs.map (·.1))) hl')
  have S3:=S2.trans (zal (o:=.tup [.int (1 + r1),.ref l']) hv)
  have all1:∀ t ∈ ts,t.2.2=1:=λ t ht=>g7 t (pt.mem_iff.mp ht)
  refine q (.ref v) _ (1 + r1) ts (λ b o hb e=>S3 _ _ (g5 _ _ hb e)) ?_ ⟨by left,by left,zr3 wt ((pt.pairwise_iff (λ {a b} h z=>h ⟨z.1.symm,z.2.symm⟩)).mpr g6.nd),by have:=pt.length_eq;left,λ t ht=>?_⟩ (by left) ?_
  ·obtain⟨a',b',e',z⟩:=g4
   exact⟨a',b',S3 _ _ e',z⟩
  ·have:=g6.ok t (pt.mem_iff.mp ht)
   have e:(((1 + r1).toNat:Nat):Int)=(1 + r1):=by left
   rw[e] at this
   exact this
  ·rw[znv all1]
   refine⟨v,_,rfl,zai,_,_,rfl,rfl,_,_,rfl,⟨l',qs.map (·.1),rfl,?_,?_⟩,rfl⟩
   ·exact (zal hv) _ _ zai
   ·exact TieL.is (tl.keep λ a xs e=>S3 _ _ e)
inductive spLaw_i (K:uac) (vs:List V) (H:Hp) (Q:VK):Prop
 | mk:∀ (a:Addr) (ns:List Int),(vs=[.ref a])->(SqL K H a (ns.map V.int))->(ns.length<=63)->(∀ H',Q (.bl true) H')->spLaw_i K vs H Q
def spLaw (K:uac):Sp:=λ vs H Q _=>spLaw_i K vs H Q
theorem zp1 {k:Nat} {ks:List Nat} (h:ks.length<=1000):okD (k + 2) (keepD ks):=by
 refine .inr (.inr ⟨_,rfl,by unfold keepI;rw[uae,uae];exact h,λ d hd=>?_⟩)
 obtain⟨i,_,rfl⟩:=ubj.mp hd
 exact .inl ⟨_,rfl⟩
theorem zka (s:St6):PyData.canLay0 (sixD s)=true:=by
 show (PyData.canLay0 (keepD s.1) && (PyData.canLayAll0 (s.2.map rowSD) && true))=true
 rw[zhd,show PyData.canLay0 (keepD s.1)=true from zbt _];rfl
theorem zls:∀ ps:List (Nat × Nat),PyData.depthAll (ps.map pr2D)<=1
 | []=>ubb _
 | p::r=>by
  have:=zls r
  show max 1 (PyData.depthAll (r.map pr2D))<=1
  left
theorem zi8:∀ rs:List (Nat × Nat × Nat × List (Nat × Nat)),PyData.depthAll (rs.map rowSD)<=3
 | []=>ubb _
 | r::rs=>by
  have h1:=zi8 rs
  have h2:=zls r.2.2.2
  show max (max 0 (max 0 (max 0 (max (PyData.depthAll (r.2.2.2.map pr2D) + 1) 0))) + 1) (PyData.depthAll (rs.map rowSD))<=3
  left
theorem zql (s:St6):PyData.depth (sixD s)<=6:=by
 have h1:=zi8 s.2
 have h2:=zfr (keepI s.1)
 show max (PyData.depthAll ((keepI s.1).map .int) + 1) (max (PyData.depthAll (s.2.map rowSD) + 1) 0) + 1<=6
 left
theorem zon {i i':Nat} {x y:V} {c:TT} {a b:TS} {D:L2.Ends} {σ:L2.St} {H:Hp} (P:L2.St->Hp->Prop) (main:(∀ σ' J,P σ' J->b D σ' J)->tSeq (tIfS c a tNext) b D ((σ.set i (some x)).set i' (some y)) H) (go:∀ σ' J,P σ' J->b D σ' J):gName i x σ H (tSeq (tAsg (tC y) (gName i')) (tSeq (tIfS c a tNext) b) D):=main go
theorem ztn {f:Addr} {fd:FuncData} (T:Bi mg) (F:Fun K "law" "law" s_law f fd) (O__law_pot:Ok P w K mg base 8 "_law_pot" ["script","k"] (spPot K)) (O__law_take:Ok P w K mg base 8 "_law_take" ["pot","many"] spTake) (O__law_long:Ok P w K mg base 8 "_law_long" ["pot","most"] (spLong K)) (O__law_share:Ok P w K mg base 8 "_law_share" ["pot"] spShareL) (O_six_told:Ok P w K mg base 8 "six_told" ["web","d"] (spSix K)) (O_guards_by:Ok P w K mg base 8 "guards_by" ["web","d"] (spGuards K)) (O__law_borne_out:Ok P w K mg base 8 "_law_borne_out" ["web","guards","ledger"] (spBorne K)) (O__law_same:Ok P w K mg base 8 "_law_same" ["found","due"] (spSameD K 4)):FnOk P w K mg base CX0 9 f fd ["script"] (spLaw K):=by
 refine F.ok (k:=8) sc_law (λ vs H Q E h=>?_) (λ cdv A outer s H vs Q E hr h=>?_)
 ·obtain⟨a,ns,rfl,_⟩:=h
  rfl
 obtain⟨a,ns,rfl,hS,h63,q⟩:=h
 have nd:=sc_law.nd
 have units:(A.deeper (envOfC "law" (defScope s_law) s.heap.objs.size f cdv)).units + 6 < cLine:=by have:=hr.units;left
 refine⟨_,(zab (zan (i:=1) nd rfl (uat rfl) (zaz zg3 (zas zd5 rfl T.z_list (by symm) (zaa (pv 0) zac)) (zaz ze4 (za0 (zaa zae zac)) (zas zo3 rfl T.z_int (by symm) (zaa (zba zse (pv 0) (za0 zac) (nomark _)) zac))))) (zab (za4 PassesOwn.never rfl (zbi rfl T.z_range (zaa (zao (zft rfl) rfl T.z_min (by symm) (zaa zae (zaa (zao zay rfl T.z_len (by symm) (zaa (pv 1) zac)) zac))) zac)) (zag (i:=2) nd rfl (uat rfl)) (zab (zan (i:=3) nd rfl (uat rfl) (zaj O__law_pot hr rfl (zaa (pv 1) (zaa (pv 2) zac)))) (zab (zan (i:=4) nd rfl (uat rfl) zae) (zab (zbf (PW.pt (zev (zam zbq (pv 2) zae (nomark _)) (zdm (zam zbq (zaj O__law_take hr rfl (zaa (pv 3) (zaa zae zac))) zae (nomark _))))) (zad (zan (i:=4) nd rfl (uat rfl) zae)) zat) (zab (zan (i:=5) nd rfl (uat rfl) (zaj O__law_long hr rfl (zaa (pv 3) (zaa (pv 4) zac)))) (zab (zan (i:=6) nd rfl (uat rfl) (zaj O__law_share hr rfl (zaa (pv 3) zac))) (zab (zan (i:=7) nd rfl (uat rfl) (zaj O_six_told hr rfl (zaa (pv 5) (zaa (pv 6) zac)))) (zab (zbf (PW.pt (zc7 (zew (zcp (zao (zbx (n:="tuple")) rfl T.z_isinstance (by symm) (zaa (pv 7) (zaa (zci (v:=.ty "tuple") rfl T.z_tuple (by symm) rfl) zac))))) (zc7 (zam zsd (zao zay rfl T.z_len (by symm) (zaa (pv 7) zac)) zae (nomark _)) (zb5 (zew (zcp (zao (zbx (n:="tuple")) rfl T.z_isinstance (by symm) (zaa (zar za5 (pv 7) zae (λ _ _=>rfl)) (zaa (zci (v:=.ty "tuple") rfl T.z_tuple (by symm) rfl) zac))))))))) (zad (zaq zin)) zat) (zab (zan (i:=8) nd rfl (uat rfl) (zaj O__law_borne_out hr rfl (zaa (pv 5) (zaa (zaj O_guards_by hr rfl (zaa (pv 5) (zaa (pv 6) zac))) (zaa (zar za5 (pv 7) zae (λ _ _=>rfl)) zac))))) (zab (zbf (PW.pt (zc7 (zam zc8 (pv 8) zbc (nomark _)) (zb5 (zew (zcp (zaj O__law_same hr rfl (zaa (zar za5 (pv 7) zae (λ _ _=>rfl)) (zaa (pv 8) zac)))))))) (zad (zaq zin)) zat) (zad (zbf (PW.pt (zev (zam zbq (pv 4) zae (nomark _)) (zdm (zam zlb (zaj O_six_told hr rfl (zaa (pv 5) (zaa (pv 6) zac))) (pv 7) (nomark _))))) (zad (zaq zin)) zat)))))))))))) (zad (zaq zin)))),?_⟩
 refine⟨_,rfl,a,_,rfl,.inl hS,λ l1 f1=>?_⟩
 have S1:=zal (H:=H) (o:=.lst (ns.map V.int)) f1
 refine⟨(by show 1<=1000;decide),λ l2 J2 S2 f2 e2=>⟨_,rfl,(by show 0<=1000;decide),λ l3 J3 S3 f3 e3=>?_⟩⟩
 have S13:=S1.trans (S2.trans S3)
 refine⟨a,l3,ns,rfl,rfl,S13.seq hS,e3,ubf (udn (uai _) (show 1<=6 by decide)) units,_,rfl,l2,_,_,rfl,rfl,S3 _ _ e2,(by split <;> decide),(by split <;> decide),λ l4 J4 S4 f4 e4=>?_⟩
 have e1:J4 l1=some (.lst (ns.map V.int)):=S4 _ _ (S3 _ _ (S2 _ _ zai))
 obtain⟨cs,ecs,lcs⟩:∃ cs:List Int,ns.map V.int++uay (if decide (ns=[])=true then (1:Int) else 0).toNat (V.int 295912000000000368729)=cs.map V.int/\cs.length<=63:=by
  by_cases z:ns=[]
  ·subst z
   exact⟨[295912000000000368729],rfl,by decide⟩
  ·rw[decide_eq_false z]
   exact⟨ns,by show ns.map V.int++[]=_;rw[ub1],h63⟩
 refine⟨l1,l4,_,_,rfl,rfl,e1,e4,by have h:=congrArg List.length ecs;rw[uaj] at h;have h2:(cs.map V.int).length=cs.length:=uae _;left,λ l5 J5 S5 f5 e5=>?_⟩
 rw[ecs] at e5
 have hl:(cs.map V.int).length=cs.length:=uae _
 refine⟨_,rfl,l5,_,rfl,.inl (SqL.of e5),_,_,rfl,_,rfl,?_,?_,?_⟩
 ·split <;> left
 ·rw[hl];split <;> left
 generalize hj:(if (((cs.map V.int).length:Nat):Int) < 4 then (((cs.map V.int).length:Nat):Int) else 4)=j
 have j12:j<=4:=by rw[← hj];split <;> left
 refine zbj (n:=j.toNat) (λ i σ H'=>∃ x2 x3 x4 x5 x6 x7 x8:Option V,σ=[some (.ref a),some (.ref l5),x2,x3,x4,x5,x6,x7,x8]/\Same J5 H') ⟨none,none,none,none,none,none,none,rfl,Same.refl J5⟩ ?turn (λ σ H' _=>q H')
 rintro i σ H0 hi ⟨x2,x3,x4,x5,x6,x7,x8,rfl,s0⟩
 refine⟨_,rfl,_,rfl,l5,_,cs,rfl,SqL.of (s0 _ _ e5),by left,by left,λ l H1 s1 fl p1=>?_⟩
 have s01:Same J5 H1:=s0.trans s1
 have fl0:J5 l=none:=s0.free fl
 have npot:∀ {J:Hp} {b:Addr},Pot J l->J b=none->b≠l:=λ pp hb z=>by
  obtain⟨xs,e⟩:=pp.lst
  rw[z,e] at hb;cases hb
 dsimp only
 refine zon (λ σ' J=>∃ m:Int,σ'=[some (.ref a),some (.ref l5),some (.int (0 + (i:Int))),some (.ref l),some (.int m),x5,x6,x7,x8]/\(m=12\/m=24)/\But l H1 J/\Pot J l) (λ go=>?main) ?go
 case main =>
  refine⟨_,rfl,rfl,_,rfl,?_⟩
  by_cases c0:i=0
  ·refine iteTe (decide_eq_true (by rw[c0];rfl)) ⟨_,rfl,l,8,rfl,p1,by decide,by decide,λ r J2 r0 r1 b2 p2=>⟨rfl,_,rfl,?_⟩⟩
   by_cases cr:r=0
   ·exact iteTe (decide_eq_true (congrArg V.int cr)) (go _ J2 ⟨24,rfl,.inr rfl,b2,p2⟩)
   ·exact iteFe (decide_eq_false λ z=>cr (by injection z)) (go _ J2 ⟨12,rfl,.inl rfl,b2,p2⟩)
  ·exact iteFe (decide_eq_false λ z=>c0 (by injection z with z;left)) (iteF (go _ H1 ⟨12,rfl,.inl rfl,But.refl,p1⟩))
 case go =>
 rintro σ' J1 ⟨m,rfl,hm,bm,pm⟩
 have tkb:∀ {J J':Hp},But l J J'->Pot J l->TupKeep J J':=λ b pp=>by
  obtain⟨xs,e⟩:=pp.lst
  exact λ a ys h=>b _ _ (λ z=>by rw[z,e] at h;cases h) h
 refine⟨_,rfl,_,rfl,l,m,rfl,pm,by left,by left,λ wv H2 n ts b2 p2 ok n9' isw=>?_⟩
 have n24:n<=24:=by left
 have tup:tupD (webD n (ones ts))=true:=zrt n (ones ts)
 refine⟨_,rfl,l,rfl,p2,λ d H3 d1 b3 p3=>?_⟩
 have isw3:Is K H3 (webD n (ones ts)) wv:=Is.tk (tkb b3 p2) _ tup isw
 refine⟨_,rfl,_,rfl,n,ts,wv,d,rfl,isw3,ok,n24,d1,λ tv H4 S4' few ist=>?_⟩
 have isw4:=Is.same S4' _ isw3
 have p4:=p3.same S4'
 have B4:But l H1 H4:=bm.trans (b2.trans (b3.trans (Same.but S4')))
 obtain⟨tt,vs2,rfl,htt,kv,z1,rfl,ik,lv,z2,rfl,il,w2⟩:=ist
 cases w2
 obtain⟨kt,ks,rfl,hkt,iks⟩:=ik
 obtain⟨lt,ls,rfl,hlt,ils⟩:=il
 refine⟨_,rfl,_,_,_,rfl,TyOf.tup htt,rfl,_,rfl,iteF ?_⟩
 refine⟨_,rfl,tt,_,rfl,.inr (SqT.of htt),rfl,_,rfl,iteF ?_⟩
 refine⟨_,rfl,tt,_,_,_,rfl,rfl,SqT.of htt,rfl,_,_,_,rfl,TyOf.tup hlt,rfl,_,rfl,iteF ?_⟩
 refine⟨_,rfl,_,rfl,_,rfl,n,ts,wv,d,rfl,isw4,ok,d1,λ gv H5 S5' isg=>?_⟩
 refine⟨_,rfl,tt,_,_,_,rfl,rfl,SqT.of (S5' _ _ htt),rfl,n,ts,wv,gv,.ref lt,d,rfl,Is.same S5' _ isw4,ok,n24,isg,⟨lt,ls,rfl,S5' _ _ hlt,IsAll.same S5' _ ils⟩,few,λ tk H6 S6' e6=>?_⟩
 have S46:=S5'.trans S6'
 refine⟨_,rfl,rfl,_,rfl,iteF ?_⟩
 refine⟨_,rfl,tt,_,_,_,rfl,rfl,SqT.of (S46 _ _ htt),rfl,_,rfl,.ref kt,.ref tk,keepD (sixV n ts d).1,rfl,⟨kt,ks,rfl,S46 _ _ hkt,IsAll.same S46 _ iks⟩,zcb e6,zp1 (by have:=few.1;left),λ H7 S7'=>⟨_,rfl,iteF ?_⟩⟩
 have S47:=S46.trans S7'
 have fin:∀ {J:Hp},Same H4 J->Same J5 J:=λ S b o e=>by
  have nb:=zaf e fl0
  exact S _ _ (B4 _ _ nb (s01 _ _ e))
 refine⟨_,rfl,rfl,_,rfl,?_⟩
 by_cases c12:m=12
 ·refine iteTe (decide_eq_true (congrArg V.int c12)) ⟨_,rfl,_,rfl,n,ts,wv,d,rfl,Is.same S47 _ isw4,ok,n24,d1,λ v2 H8 S8' _ is2=>?_⟩
  have S48:=S47.trans S8'
  refine⟨_,rfl,sixD (sixV n ts d),sixD (sixV n ts d),is2,⟨tt,_,rfl,S48 _ _ htt,.ref kt,_,rfl,⟨kt,ks,rfl,S48 _ _ hkt,IsAll.same S48 _ iks⟩,.ref lt,[],rfl,⟨lt,ls,rfl,S48 _ _ hlt,IsAll.same S48 _ ils⟩,rfl⟩,zka _,zka _,ubf (udn (uai _) (ua9 (ug1 _ _) (zql _))) units,_,rfl,?_⟩
  rw[SeqAt.eqv_refl _ (zka _)]
  exact iteF ⟨_,_,_,_,_,_,_,rfl,fin S48⟩
 ·exact iteFe (decide_eq_false λ z=>c12 (by injection z)) (iteF ⟨_,_,_,_,_,_,_,rfl,fin S47⟩)
end
end Me
namespace Me
open PySem PySem.Spec PyProof.Rows L2 L3
abbrev Bdq (x:Str) (st:Stmt) (ps:List Str):Prop:=∀ (kV doc pm:Value) (an:Option Addr) (cdv ct:Value) (us:List Value),us.length=ps.length->bindArgs (uc8 x x (defArgs st) (defBody st) (defScope st) .none kV doc pm an cdv ct) ⟨us,[]⟩=pure (ps.zip us)
theorem zt1 {K:uac} {h:Heap} {mg:Str->Option Value} {x:Str} {st:Stmt} {ps:List Str} {f:Addr} {od an:Option Addr} {sl:Array (Option Value)} {oc kV dc pm cd ct:Value} (X:K.In h) (G:h.Ns mainGlobals mg)
  (b:∀ (kV doc pm:Value) (an:Option Addr) (cdv ct:Value) (us:List Value),us.length=ps.length->bindArgs (uc8 x x (defArgs st) (defBody st) (defScope st) .none kV doc pm an cdv ct) ⟨us,[]⟩=pure (ps.zip us))
  (a:ubn K mainGlobals x=some (some (.ref f))) (l:K.lookup f=some ⟨oc,od,.func (uc8 x x (defArgs st) (defBody st) (defScope st) .none kV dc pm an cd ct),sl⟩) (c:ue4 K cd x=true) (k:uej K (.ref f)=true):DefOk K mg x st ps:=by
 have F:=zrj (st:=st) l c k
 exact⟨f,_,F,F.binds b,PySem.W.mg_of X G a⟩
theorem dq {p:Program} {K:uac} {h:Heap} {mg:Str->Option Value} {x:Str} {st:Stmt} {ps:List Str} (f c j u:Nat) (X:K.In h) (G:h.Ns mainGlobals mg)
  (b:∀ (kV doc pm:Value) (an:Option Addr) (cdv ct:Value) (us:List Value),us.length=ps.length->bindArgs (uc8 x x (defArgs st) (defBody st) (defScope st) .none kV doc pm an cdv ct) ⟨us,[]⟩=pure (ps.zip us))
  (a:ubn K mainGlobals x=some (some (.ref f)):=by kernel_rfl) (l:K.lookup f=some ⟨.type "function",none,.func (uc8 x x (defArgs st) (defBody st) (defScope st) .none .none .none (Hx.mdV p ⟨0,0,0,j,u,0⟩) none (.ref c) .none),#[]⟩:=by kernel_rfl) (cc:ue4 K (.ref c) x=true:=by kernel_rfl) (k:uej K (.ref f)=true:=by kernel_rfl):DefOk K mg x st ps:=zt1 X G b a l cc k
theorem zko:Bdq "is_whole" s_is_whole ["thing"]:=λ _ _ _ _ _ _ us hl=>match us,hl with | [_],_=>rfl
theorem zkp:Bdq "is_plain" s_is_plain ["web"]:=λ _ _ _ _ _ _ us hl=>match us,hl with | [_],_=>rfl
theorem zqu:Bdq "whole" s_whole ["web"]:=λ _ _ _ _ _ _ us hl=>match us,hl with | [_],_=>rfl
theorem zf8:Bdq "tie_between" s_tie_between ["web","a","b"]:=λ _ _ _ _ _ _ us hl=>match us,hl with | [_,_,_],_=>rfl
theorem zhu:Bdq "ties_along" s_ties_along ["web","places"]:=λ _ _ _ _ _ _ us hl=>match us,hl with | [_,_],_=>rfl
theorem zf7:Bdq "tie_weights" s_tie_weights ["web"]:=λ _ _ _ _ _ _ us hl=>match us,hl with | [_],_=>rfl
theorem zjo:Bdq "cost_with" s_cost_with ["cost","length","weight"]:=λ _ _ _ _ _ _ us hl=>match us,hl with | [_,_,_],_=>rfl
theorem zfv:Bdq "reached_from" s_reached_from ["web","keep","root"]:=λ _ _ _ _ _ _ us hl=>match us,hl with | [_,_,_],_=>rfl
theorem zjn:Bdq "fars_from" s_fars_from ["web","keep","root"]:=λ _ _ _ _ _ _ us hl=>match us,hl with | [_,_,_],_=>rfl
theorem zjj:Bdq "tree_from" s_tree_from ["web","keep","root"]:=λ _ _ _ _ _ _ us hl=>match us,hl with | [_,_,_],_=>rfl
theorem zmt:Bdq "the_way" s_the_way ["web","keep","a","b"]:=λ _ _ _ _ _ _ us hl=>match us,hl with | [_,_,_,_],_=>rfl
theorem zhx:Bdq "need_plain" s_need_plain ["web"]:=λ _ _ _ _ _ _ us hl=>match us,hl with | [_],_=>rfl
theorem zhv:Bdq "neighbours" s_neighbours ["web","keep","place"]:=λ _ _ _ _ _ _ us hl=>match us,hl with | [_,_,_],_=>rfl
theorem zhw:Bdq "need_share" s_need_share ["d"]:=λ _ _ _ _ _ _ us hl=>match us,hl with | [_],_=>rfl
theorem zdj:Bdq "bare_neighbours" s_bare_neighbours ["web","place","guarded"]:=λ _ _ _ _ _ _ us hl=>match us,hl with | [_,_,_],_=>rfl
theorem zjl:Bdq "guards_by" s_guards_by ["web","d"]:=λ _ _ _ _ _ _ us hl=>match us,hl with | [_,_],_=>rfl
theorem zf9:Bdq "all_guarded" s_all_guarded ["told"]:=λ _ _ _ _ _ _ us hl=>match us,hl with | [_],_=>rfl
theorem zjp:Bdq "bare_ties" s_bare_ties ["web","told"]:=λ _ _ _ _ _ _ us hl=>match us,hl with | [_,_],_=>rfl
theorem zec:Bdq "kept_at_first" s_kept_at_first ["web","guards"]:=λ _ _ _ _ _ _ us hl=>match us,hl with | [_,_],_=>rfl
theorem zjk:Bdq "is_wanted" s_is_wanted ["near","kept"]:=λ _ _ _ _ _ _ us hl=>match us,hl with | [_,_],_=>rfl
theorem zfw:Bdq "first_wanted" s_first_wanted ["web","keep","u"]:=λ _ _ _ _ _ _ us hl=>match us,hl with | [_,_,_],_=>rfl
theorem zhy:Bdq "fars_along" s_fars_along ["web","way"]:=λ _ _ _ _ _ _ us hl=>match us,hl with | [_,_],_=>rfl
theorem zmu:Bdq "nearest" s_nearest ["fars","heap","other"]:=λ _ _ _ _ _ _ us hl=>match us,hl with | [_,_,_],_=>rfl
theorem zjm:Bdq "gained_by" s_gained_by ["web","keep","guards","way"]:=λ _ _ _ _ _ _ us hl=>match us,hl with | [_,_,_,_],_=>rfl
theorem zkn:Bdq "six_told" s_six_told ["web","d"]:=λ _ _ _ _ _ _ us hl=>match us,hl with | [_,_],_=>rfl
theorem zkq:Bdq "_law_pot" s__law_pot ["script","k"]:=λ _ _ _ _ _ _ us hl=>match us,hl with | [_,_],_=>rfl
theorem zjq:Bdq "_law_take" s__law_take ["pot","many"]:=λ _ _ _ _ _ _ us hl=>match us,hl with | [_,_],_=>rfl
theorem zh7:Bdq "_law_order" s__law_order ["pot","many"]:=λ _ _ _ _ _ _ us hl=>match us,hl with | [_,_],_=>rfl
theorem zgc:Bdq "_law_beside" s__law_beside ["pot","style","n","a","b"]:=λ _ _ _ _ _ _ us hl=>match us,hl with | [_,_,_,_,_],_=>rfl
theorem zjs:Bdq "_law_long" s__law_long ["pot","most"]:=λ _ _ _ _ _ _ us hl=>match us,hl with | [_,_],_=>rfl
theorem zh6:Bdq "_law_share" s__law_share ["pot"]:=λ _ _ _ _ _ _ us hl=>match us,hl with | [_],_=>rfl
theorem zhz:Bdq "_law_whole" s__law_whole ["thing"]:=λ _ _ _ _ _ _ us hl=>match us,hl with | [_],_=>rfl
theorem zjr:Bdq "_law_same" s__law_same ["found","due"]:=λ _ _ _ _ _ _ us hl=>match us,hl with | [_,_],_=>rfl
theorem zh0:Bdq "_law_steps" s__law_steps ["web","kept"]:=λ _ _ _ _ _ _ us hl=>match us,hl with | [_,_],_=>rfl
theorem zh8:Bdq "_law_heaps" s__law_heaps ["guards"]:=λ _ _ _ _ _ _ us hl=>match us,hl with | [_],_=>rfl
theorem zga:Bdq "_law_gained" s__law_gained ["way","guards","table"]:=λ _ _ _ _ _ _ us hl=>match us,hl with | [_,_,_],_=>rfl
theorem zh9:Bdq "_law_first" s__law_first ["web","heaps"]:=λ _ _ _ _ _ _ us hl=>match us,hl with | [_,_],_=>rfl
theorem zgb:Bdq "_law_bought" s__law_bought ["web","way","kept"]:=λ _ _ _ _ _ _ us hl=>match us,hl with | [_,_,_],_=>rfl
theorem zdv:Bdq "_law_borne_out" s__law_borne_out ["web","guards","ledger"]:=λ _ _ _ _ _ _ us hl=>match us,hl with | [_,_,_],_=>rfl
theorem zsn {P:Program} {w:World} {K:uac} {mg:Str->Option Value} {base:Heap} {f:Addr} {fd:FuncData} (T:Bi mg)
  (D_is_whole:DefOk K mg "is_whole" s_is_whole ["thing"])
  (D_is_plain:DefOk K mg "is_plain" s_is_plain ["web"])
  (D_whole:DefOk K mg "whole" s_whole ["web"])
  (D_tie_between:DefOk K mg "tie_between" s_tie_between ["web","a","b"])
  (D_ties_along:DefOk K mg "ties_along" s_ties_along ["web","places"])
  (D_tie_weights:DefOk K mg "tie_weights" s_tie_weights ["web"])
  (D_cost_with:DefOk K mg "cost_with" s_cost_with ["cost","length","weight"])
  (D_reached_from:DefOk K mg "reached_from" s_reached_from ["web","keep","root"])
  (D_fars_from:DefOk K mg "fars_from" s_fars_from ["web","keep","root"])
  (D_tree_from:DefOk K mg "tree_from" s_tree_from ["web","keep","root"])
  (D_the_way:DefOk K mg "the_way" s_the_way ["web","keep","a","b"])
  (D_need_plain:DefOk K mg "need_plain" s_need_plain ["web"])
  (D_neighbours:DefOk K mg "neighbours" s_neighbours ["web","keep","place"])
  (D_need_share:DefOk K mg "need_share" s_need_share ["d"])
  (D_bare_neighbours:DefOk K mg "bare_neighbours" s_bare_neighbours ["web","place","guarded"])
  (D_guards_by:DefOk K mg "guards_by" s_guards_by ["web","d"])
  (D_all_guarded:DefOk K mg "all_guarded" s_all_guarded ["told"])
  (D_bare_ties:DefOk K mg "bare_ties" s_bare_ties ["web","told"])
  (D_kept_at_first:DefOk K mg "kept_at_first" s_kept_at_first ["web","guards"])
  (D_is_wanted:DefOk K mg "is_wanted" s_is_wanted ["near","kept"])
  (D_first_wanted:DefOk K mg "first_wanted" s_first_wanted ["web","keep","u"])
  (D_fars_along:DefOk K mg "fars_along" s_fars_along ["web","way"])
  (D_nearest:DefOk K mg "nearest" s_nearest ["fars","heap","other"])
  (D_gained_by:DefOk K mg "gained_by" s_gained_by ["web","keep","guards","way"])
  (D_six_told:DefOk K mg "six_told" s_six_told ["web","d"])
  (D__law_pot:DefOk K mg "_law_pot" s__law_pot ["script","k"])
  (D__law_take:DefOk K mg "_law_take" s__law_take ["pot","many"])
  (D__law_order:DefOk K mg "_law_order" s__law_order ["pot","many"])
  (D__law_beside:DefOk K mg "_law_beside" s__law_beside ["pot","style","n","a","b"])
  (D__law_long:DefOk K mg "_law_long" s__law_long ["pot","most"])
  (D__law_share:DefOk K mg "_law_share" s__law_share ["pot"])
  (D__law_whole:DefOk K mg "_law_whole" s__law_whole ["thing"])
  (D__law_same:DefOk K mg "_law_same" s__law_same ["found","due"])
  (D__law_steps:DefOk K mg "_law_steps" s__law_steps ["web","kept"])
  (D__law_heaps:DefOk K mg "_law_heaps" s__law_heaps ["guards"])
  (D__law_gained:DefOk K mg "_law_gained" s__law_gained ["way","guards","table"])
  (D__law_first:DefOk K mg "_law_first" s__law_first ["web","heaps"])
  (D__law_bought:DefOk K mg "_law_bought" s__law_bought ["web","way","kept"])
  (D__law_borne_out:DefOk K mg "_law_borne_out" s__law_borne_out ["web","guards","ledger"])
  (F:Fun K "law" "law" s_law f fd):FnOk P w K mg base CX0 9 f fd ["script"] (spLaw K):=by
 have O__law_take:=ziy (P:=P) (w:=w) (base:=base) T D__law_take
 have O__law_pot:=zj5 (P:=P) (w:=w) (base:=base) T D__law_pot
 have O__law_order:=zha T D__law_order O__law_take
 have O_whole:=zpy (P:=P) (w:=w) (base:=base) T D_whole
 have O_is_whole:=zj3 (P:=P) (w:=w) (base:=base) T D_is_whole
 have O_is_plain:=zj4 (P:=P) (w:=w) (base:=base) T D_is_plain
 have O_need_plain:=zg7 T D_need_plain O_is_plain
 have O_tie_weights:=zfz (P:=P) (w:=w) (base:=base) T D_tie_weights
 have O_cost_with:=ziw (P:=P) (w:=w) (base:=base) T D_cost_with
 have O_reached_fromC:=zd6 T D_reached_from O_tie_weights O_cost_with
 have O_reached_from:Ok P w K mg base 2 "reached_from" ["web","keep","root"] (spReached K):=O_reached_fromC.imp zng
 have O_reached_fromB:Ok P w K mg base 2 "reached_from" ["web","keep","root"] (spReachedB K):=O_reached_fromC.imp znh
 have O_fars_from:=ziv T D_fars_from O_reached_from
 have O_tree_from:=zg4 T D_tree_from O_reached_fromB
 have O_need_share:=zg6 T D_need_share O_is_whole
 have O_neighbours:=zg5 (P:=P) (w:=w) (base:=base) T D_neighbours
 have O_bare_neighbours:=zde T D_bare_neighbours O_neighbours O_whole
 have O_guards_by:=zit T D_guards_by O_need_plain O_need_share O_bare_neighbours
 have O_all_guarded:=zf1 (P:=P) (w:=w) (base:=base) T D_all_guarded
 have O_tie_between:=zf0 (P:=P) (w:=w) (base:=base) T D_tie_between
 have O_ties_along:=zfy T D_ties_along O_tie_between
 have O_the_wayB:=zj1 T D_the_way O_tree_from
 have O_the_way:Ok P w K mg base 4 "the_way" ["web","keep","a","b"] (spWayM K):=O_the_wayB.imp zt7
 have O_bare_ties:=zix T D_bare_ties O_all_guarded O_whole
 have O_kept_at_first:=zd7 T D_kept_at_first O_bare_ties (O_tie_between.mono (by decide))
 have O_is_wanted:=zis (P:=P) (w:=w) (K:=K) (base:=base) T D_is_wanted
 have O_first_wanted:=ze8 T D_first_wanted (O_fars_from.mono (by decide)) (O_whole.mono (by decide)) (O_is_wanted.mono (by decide))
 have O_fars_along:=zg8 (P:=P) (w:=w) (base:=base) T D_fars_along
 have O_nearest:=zmg (P:=P) (w:=w) (K:=K) (base:=base) T D_nearest
 have O_gained_by:=ziu T D_gained_by (O_fars_along.mono (by decide)) (O_fars_from.mono (by decide)) (O_nearest.mono (by decide))
 have O_six_told:=zj2 T D_six_told (O_guards_by.mono (by decide)) (O_kept_at_first.mono (by decide)) (O_first_wanted.mono (by decide)) (O_the_way.mono (by decide)) (O_whole.mono (by decide)) (O_ties_along.mono (by decide)) (O_gained_by.mono (by decide))
 have O__law_beside:=zea T D__law_beside O__law_take
 have O__law_long:=zf2 (K:=K) T D__law_long (O__law_take.mono (by decide)) O__law_order O__law_beside
 have O__law_share:=zfa T D__law_share O__law_take
 have O__law_whole:=zg9 (P:=P) (w:=w) (base:=base) T D__law_whole
 have O__law_same0:=zpr (P:=P) (w:=w) (K:=K) (base:=base) D__law_same
 have O__law_same1:=zce 1 0 T D__law_same O__law_same0 O__law_whole
 have O__law_same2:=zce 2 1 T D__law_same O__law_same1 (O__law_whole.mono (by decide))
 have O__law_same3:=zce 3 2 T D__law_same O__law_same2 (O__law_whole.mono (by decide))
 have O__law_same:=zce 4 3 T D__law_same O__law_same3 (O__law_whole.mono (by decide))
 have O__law_steps:=ze9 (P:=P) (w:=w) (K:=K) (base:=base) T D__law_steps
 have O__law_heaps:=zfb (P:=P) (w:=w) (K:=K) (base:=base) T D__law_heaps
 have O__law_first:=zfc (P:=P) (w:=w) (K:=K) (base:=base) T D__law_first
 have O__law_gained:=zd8 (P:=P) (w:=w) (K:=K) (base:=base) T D__law_gained
 have O__law_bought:=zd9 (P:=P) (w:=w) (K:=K) (base:=base) T D__law_bought
 have O__law_borne:=zfd T D__law_borne_out (O__law_heaps.mono (by decide)) (O__law_first.mono (by decide)) (O__law_steps.mono (by decide)) (O_the_way.mono (by decide)) (O__law_bought.mono (by decide)) (O__law_gained.mono (by decide)) (O__law_same.mono (by decide))
 exact ztn T F (O__law_pot.mono (by decide)) (O__law_take.mono (by decide)) (O__law_long.mono (by decide)) (O__law_share.mono (by decide)) (O_six_told.mono (by decide)) (O_guards_by.mono (by decide)) (O__law_borne.mono (by decide)) (O__law_same.mono (by decide))
theorem walk {l:PySem.W.OpenLaw} {q:Program} {loose:List Str} {XP:(Str->Option Value)->Heap->Prop} {YP:World->Heap->Prop} {d:DefRec} {K:Params->uac} (hn:l.most=some 63) (hdf:d.params.defaults=[])
  (hY:∀ (w:World) (h:Heap),YP w h->(K w.params).In h)
  (F:∀ (w:World) (mg:Str->Option Value) (fa:Addr) (h:Heap),(K w.params).In h->h.Ns mainGlobals mg->mg d.name=some (.ref fa) ->
   ∃ fd:FuncData,(∀ (s:Shared) (u:Value),BindsTo s fd ⟨[u],[]⟩ [("script",u)])/\∀ base:Heap,(K w.params).In base->base.Ns mainGlobals mg->FnOk l.prog w (K w.params) mg base CX0 9 fa fd ["script"] (spLaw (K w.params))) :
  PySem.W.WalkO q loose XP YP l.row.toRowW d [] (λ f vs=>PySem.call f vs) :=
 L2.zrr (n:=63) (k:=9) (x:="script") (CX:=λ _=>CX0) (sp:=λ w=>spLaw (K w.params)) hn (by decide) hdf ⟨rfl,by decide,by decide,rfl⟩ hY F (λ _ _ a ns hl _ hS=>⟨a,ns,rfl,hS,hl,λ _=>rfl⟩) λ _ _ _ _ _ z=>z
end Me
namespace Hy
open PySem PySem.W Hx
def cs:List Ch:=[⟨0,15,187,0,187,0⟩,⟨1,15,189,0,187,0⟩,⟨2,28,207,0,187,24⟩,⟨3,40,223,0,187,24⟩,⟨4,52,239,4,239,0⟩,⟨5,52,241,4,239,0⟩,⟨6,59,248,6,248,0⟩,⟨7,59,250,6,248,0⟩,⟨8,64,256,6,248,0⟩,⟨9,71,263,6,248,0⟩,⟨10,78,275,10,275,0⟩,⟨11,78,277,10,275,0⟩,⟨12,83,283,10,275,0⟩,⟨13,90,293,10,275,0⟩,⟨14,97,302,10,275,0⟩,⟨15,104,322,10,275,0⟩,⟨16,109,328,10,275,0⟩,⟨17,116,339,10,275,0⟩,⟨18,123,351,18,351,0⟩,⟨19,123,353,18,351,0⟩,⟨20,130,360,20,360,0⟩,⟨21,130,362,20,360,0⟩,⟨22,135,368,22,368,0⟩,⟨23,135,370,22,368,0⟩,⟨24,142,377,22,368,0⟩,⟨25,147,383,22,368,0⟩,⟨26,154,395,22,368,0⟩,⟨27,161,405,22,368,0⟩,⟨28,166,411,28,411,0⟩,⟨29,166,413,28,411,0⟩,⟨30,171,419,28,411,0⟩,⟨31,178,427,28,411,0⟩,⟨32,185,439,28,411,0⟩,⟨33,190,445,28,411,0⟩,⟨34,195,451,28,411,0⟩,⟨35,200,457,28,411,0⟩,⟨36,205,463,36,463,0⟩,⟨37,205,465,36,463,0⟩,⟨38,212,475,36,463,0⟩,⟨39,219,484,36,463,0⟩,⟨40,226,495,36,463,0⟩,⟨41,233,508,36,463,0⟩,⟨42,240,524,36,463,0⟩,⟨43,247,532,36,463,0⟩,⟨44,254,539,36,463,0⟩,⟨45,259,545,36,463,0⟩,⟨46,264,551,36,463,0⟩,⟨47,271,562,36,463,0⟩,⟨48,278,580,36,463,0⟩,⟨49,285,594,36,463,0⟩,⟨50,290,600,36,463,0⟩,⟨51,297,622,36,463,0⟩]
end Hy
lay_quick Hx.PieceT Hx.PreT Hx.BlockT Hx.LookA Hx.LookB Hx.LookC PySem.Challenge.pw_thinways_k60_six_more_told
namespace Hy
open PySem PySem.W Hx
theorem pre:PreT uaa boots boot_drawn boot_heap boot_toks cs ⟨0,15,187⟩:=by
 rw[PySem.W.Fast.te16428918119715843241,PySem.W.Fast.te14199130276275773702];delta PySem.W.Fast.tw16428918119715843241;intro w;kernel_rfl
theorem pc0:PieceT uaa boots boot_drawn cs ⟨0,15,187⟩ ⟨2,28,207⟩ 196:=by
 rw[PySem.W.Fast.te4643275101561185336,PySem.W.Fast.te14199130276275773702];delta PySem.W.Fast.tw4643275101561185336;intro w;kernel_rfl
theorem pc1:PieceT uaa boots boot_drawn cs ⟨2,28,207⟩ ⟨3,40,223⟩ 214:=by
 rw[PySem.W.Fast.te4643275101561185336,PySem.W.Fast.te14199130276275773702];delta PySem.W.Fast.tw4643275101561185336;intro w;kernel_rfl
theorem pc2:PieceT uaa boots boot_drawn cs ⟨3,40,223⟩ ⟨12,83,283⟩ 385:=by
 rw[PySem.W.Fast.te4643275101561185336,PySem.W.Fast.te14199130276275773702];delta PySem.W.Fast.tw4643275101561185336;intro w;kernel_rfl
theorem pc3:PieceT uaa boots boot_drawn cs ⟨12,83,283⟩ ⟨26,154,395⟩ 370:=by
 rw[PySem.W.Fast.te4643275101561185336,PySem.W.Fast.te14199130276275773702];delta PySem.W.Fast.tw4643275101561185336;intro w;kernel_rfl
theorem pc4:PieceT uaa boots boot_drawn cs ⟨26,154,395⟩ ⟨40,226,495⟩ 367:=by
 rw[PySem.W.Fast.te4643275101561185336,PySem.W.Fast.te14199130276275773702];delta PySem.W.Fast.tw4643275101561185336;intro w;kernel_rfl
theorem pc5:PieceT uaa boots boot_drawn cs ⟨40,226,495⟩ ⟨52,304,637⟩ 401:=by
 rw[PySem.W.Fast.te4643275101561185336,PySem.W.Fast.te14199130276275773702];delta PySem.W.Fast.tw4643275101561185336;intro w;kernel_rfl
theorem blk:BlockT uaa :=by
 rw[PySem.W.Fast.te421534021395069552,PySem.W.Fast.te14199130276275773702];delta PySem.W.Fast.tw421534021395069552;intro w s;kernel_rfl
theorem run (w:World) (os:OsState):topRun treeTable uaa w 11 ann0 (12 + (1 + (196 + (214 + (385 + (370 + (367 + (401 + 2)))))))) ⟨boot_heap w.params,ufh [],boot_drawn,boot_toks,os⟩ (topStub uaa)=some (stT uaa boots boot_drawn cs ⟨52,304,637⟩ w os).abs:=zr1 pre blk (chain pc0 (by decide) (chain pc1 (by decide) (chain pc2 (by decide) (chain pc3 (by decide) (chain pc4 (by decide) (chain pc5 (by decide) (zo1 (by kernel_rfl))))))))
theorem size (w:World):((boot_heap w.params).isNs mainGlobals && (ufh []:Array GenState).size == 0,(boot_heap w.params).objs.size,(boot_heap w.params).nsMap mainGlobals "__annotations__")=(true,11,ann0):=by kernel_rfl
theorem lkA:LookA uaa boots boot_drawn boot_heap cs ⟨52,304,637⟩:=by
 rw[PySem.W.Fast.te7818774390570169022,PySem.W.Fast.te14199130276275773702];delta PySem.W.Fast.tw7818774390570169022;intro w;kernel_rfl
theorem lkB:LookB uaa boots boot_drawn cs ⟨52,304,637⟩ [51] (OpenRow.toRowW (ua5).row).records:=by
 rw[PySem.W.Fast.te13889730532244352606,PySem.W.Fast.te14199130276275773702];delta PySem.W.Fast.tw13889730532244352606;intro w;kernel_rfl
theorem lkC:LookC uaa boots cs ⟨52,304,637⟩ [3,23,24,36,37,48,49,57,58,62,63,69,70,76,77,81,82,88,89,95,96,102,103,107,108,114,115,121,122,128,129,133,134,140,141,145,146,152,153,159,160,164,165,169,170,176,177,183,184,188,189,193,194,198,199,203,204,210,211,217,218,224,225,231,232,238,239,245,246,252,253,257,258,262,263,269,270,276,277,283,284,288,289,295,296,302,303]:=by
 rw[PySem.W.Fast.te6241646928739474683,PySem.W.Fast.te14199130276275773702];delta PySem.W.Fast.tw6241646928739474683;intro w;kernel_rfl
noncomputable abbrev K:=Kf uaa boots cs
theorem Kas (P:Params):[3,23,24,36,37,48,49,57,58,62,63,69,70,76,77,81,82,88,89,95,96,102,103,107,108,114,115,121,122,128,129,133,134,140,141,145,146,152,153,159,160,164,165,169,170,176,177,183,184,188,189,193,194,198,199,203,204,210,211,217,218,224,225,231,232,238,239,245,246,252,253,257,258,262,263,269,270,276,277,283,284,288,289,295,296,302,303]=(K P).map (·.1):=by kernel_rfl
noncomputable abbrev H:Hook:=kHook K [3,23,24,36,37,48,49,57,58,62,63,69,70,76,77,81,82,88,89,95,96,102,103,107,108,114,115,121,122,128,129,133,134,140,141,145,146,152,153,159,160,164,165,169,170,176,177,183,184,188,189,193,194,198,199,203,204,210,211,217,218,224,225,231,232,238,239,245,246,252,253,257,258,262,263,269,270,276,277,283,284,288,289,295,296,302,303] Kas
theorem opn:opening uaa=plainProg (uaa).main.scope.names:=by kernel_rfl
theorem fnc (s:Shared):fenceModules? uaa s=some s:=by kernel_rfl
theorem left:LeftO uaa (qv uaa [51]) (lz uaa [51] 52) (λ s=>xlAt (qv uaa [51]) [] s && recOk (OpenRow.toRowW (ua5).row).records s) (Hook.obs H) (Hook.val H) 4496 :=
 zsl (p:=uaa) (cs:=cs) (is:=[51]) (as:=[3,23,24,36,37,48,49,57,58,62,63,69,70,76,77,81,82,88,89,95,96,102,103,107,108,114,115,121,122,128,129,133,134,140,141,145,146,152,153,159,160,164,165,169,170,176,177,183,184,188,189,193,194,198,199,203,204,210,211,217,218,224,225,231,232,238,239,245,246,252,253,257,258,262,263,269,270,276,277,283,284,288,289,295,296,302,303]) (rc:=(OpenRow.toRowW (ua5).row).records) (c:=⟨52,304,637⟩) (M:=12 + (1 + (196 + (214 + (385 + (370 + (367 + (401 + 2)))))))) (N:=4496) (e:=Kas) opn (by decide) fnc size run (by decide) lkA lkB lkC
end Hy
namespace Hy
open PySem PySem.W PyProof.Rows L2 L3 Hx Me
theorem all {w:World} {h:Heap} {mg:Str->Option Value} {fa:Addr} (X:(K w.params).In h) (G:h.Ns mainGlobals mg) (hfa:mg "law"=some (.ref fa)) :
  ∃ fd:FuncData,(∀ (s:Shared) (v:Value),BindsTo s fd ⟨[v],[]⟩ [("script",v)])/\∀ base:Heap,(K w.params).In base->base.Ns mainGlobals mg->FnOk (ua5).prog w (K w.params) mg base CX0 9 fa fd ["script"] (spLaw (K w.params)):=by
 have T:Bi mg:=⟨ua6 X G (show ubn (K w.params) mainGlobals "len"=some none by kernel_rfl),ua6 X G (show ubn (K w.params) mainGlobals "range"=some none by kernel_rfl),ua6 X G (show ubn (K w.params) mainGlobals "zip"=some none by kernel_rfl),ua6 X G (show ubn (K w.params) mainGlobals "all"=some none by kernel_rfl),ua6 X G (show ubn (K w.params) mainGlobals "sorted"=some none by kernel_rfl),ua6 X G (show ubn (K w.params) mainGlobals "isinstance"=some none by kernel_rfl),ua6 X G (show ubn (K w.params) mainGlobals "min"=some none by kernel_rfl),ua6 X G (show ubn (K w.params) mainGlobals "max"=some none by kernel_rfl),ua6 X G (show ubn (K w.params) mainGlobals "tuple"=some none by kernel_rfl),ua6 X G (show ubn (K w.params) mainGlobals "list"=some none by kernel_rfl),ua6 X G (show ubn (K w.params) mainGlobals "int"=some none by kernel_rfl),ua6 X G (show ubn (K w.params) mainGlobals "bool"=some none by kernel_rfl),ua6 X G (show ubn (K w.params) mainGlobals "str"=some none by kernel_rfl),ua6 X G (show ubn (K w.params) mainGlobals "enumerate"=some none by kernel_rfl),ua6 X G (show ubn (K w.params) mainGlobals "sum"=some none by kernel_rfl),ua6 X G (show ubn (K w.params) mainGlobals "abs"=some none by kernel_rfl),ua6 X G (show ubn (K w.params) mainGlobals "set"=some none by kernel_rfl),ua6 X G (show ubn (K w.params) mainGlobals "reversed"=some none by kernel_rfl),ua6 X G (show ubn (K w.params) mainGlobals "any"=some none by kernel_rfl),ua6 X G (show ubn (K w.params) mainGlobals "repr"=some none by kernel_rfl),ua6 X G (show ubn (K w.params) mainGlobals "dict"=some none by kernel_rfl)⟩
 have D_is_whole:=dq (p:=uaa) (ps:=["thing"]) 58 57 4 239 X G zko
 have D_is_plain:=dq (p:=uaa) (ps:=["web"]) 63 62 6 248 X G zkp
 have D_whole:=dq (p:=uaa) (ps:=["web"]) 70 69 6 248 X G zqu
 have D_tie_between:=dq (p:=uaa) (ps:=["web","a","b"]) 77 76 6 248 X G zf8
 have D_ties_along:=dq (p:=uaa) (ps:=["web","places"]) 82 81 10 275 X G zhu
 have D_tie_weights:=dq (p:=uaa) (ps:=["web"]) 89 88 10 275 X G zf7
 have D_cost_with:=dq (p:=uaa) (ps:=["cost","length","weight"]) 96 95 10 275 X G zjo
 have D_reached_from:=dq (p:=uaa) (ps:=["web","keep","root"]) 103 102 10 275 X G zfv
 have D_fars_from:=dq (p:=uaa) (ps:=["web","keep","root"]) 108 107 10 275 X G zjn
 have D_tree_from:=dq (p:=uaa) (ps:=["web","keep","root"]) 115 114 10 275 X G zjj
 have D_the_way:=dq (p:=uaa) (ps:=["web","keep","a","b"]) 122 121 10 275 X G zmt
 have D_need_plain:=dq (p:=uaa) (ps:=["web"]) 129 128 18 351 X G zhx
 have D_neighbours:=dq (p:=uaa) (ps:=["web","keep","place"]) 134 133 20 360 X G zhv
 have D_need_share:=dq (p:=uaa) (ps:=["d"]) 141 140 22 368 X G zhw
 have D_bare_neighbours:=dq (p:=uaa) (ps:=["web","place","guarded"]) 146 145 22 368 X G zdj
 have D_guards_by:=dq (p:=uaa) (ps:=["web","d"]) 153 152 22 368 X G zjl
 have D_all_guarded:=dq (p:=uaa) (ps:=["told"]) 160 159 22 368 X G zf9
 have D_bare_ties:=dq (p:=uaa) (ps:=["web","told"]) 165 164 22 368 X G zjp
 have D_kept_at_first:=dq (p:=uaa) (ps:=["web","guards"]) 170 169 28 411 X G zec
 have D_is_wanted:=dq (p:=uaa) (ps:=["near","kept"]) 177 176 28 411 X G zjk
 have D_first_wanted:=dq (p:=uaa) (ps:=["web","keep","u"]) 184 183 28 411 X G zfw
 have D_fars_along:=dq (p:=uaa) (ps:=["web","way"]) 189 188 28 411 X G zhy
 have D_nearest:=dq (p:=uaa) (ps:=["fars","heap","other"]) 194 193 28 411 X G zmu
 have D_gained_by:=dq (p:=uaa) (ps:=["web","keep","guards","way"]) 199 198 28 411 X G zjm
 have D_six_told:=dq (p:=uaa) (ps:=["web","d"]) 204 203 28 411 X G zkn
 have D__law_pot:=dq (p:=uaa) (ps:=["script","k"]) 211 210 36 463 X G zkq
 have D__law_take:=dq (p:=uaa) (ps:=["pot","many"]) 218 217 36 463 X G zjq
 have D__law_order:=dq (p:=uaa) (ps:=["pot","many"]) 225 224 36 463 X G zh7
 have D__law_beside:=dq (p:=uaa) (ps:=["pot","style","n","a","b"]) 232 231 36 463 X G zgc
 have D__law_long:=dq (p:=uaa) (ps:=["pot","most"]) 239 238 36 463 X G zjs
 have D__law_share:=dq (p:=uaa) (ps:=["pot"]) 246 245 36 463 X G zh6
 have D__law_whole:=dq (p:=uaa) (ps:=["thing"]) 253 252 36 463 X G zhz
 have D__law_same:=dq (p:=uaa) (ps:=["found","due"]) 258 257 36 463 X G zjr
 have D__law_steps:=dq (p:=uaa) (ps:=["web","kept"]) 263 262 36 463 X G zh0
 have D__law_heaps:=dq (p:=uaa) (ps:=["guards"]) 270 269 36 463 X G zh8
 have D__law_gained:=dq (p:=uaa) (ps:=["way","guards","table"]) 277 276 36 463 X G zga
 have D__law_first:=dq (p:=uaa) (ps:=["web","heaps"]) 284 283 36 463 X G zh9
 have D__law_bought:=dq (p:=uaa) (ps:=["web","way","kept"]) 289 288 36 463 X G zgb
 have D__law_borne_out:=dq (p:=uaa) (ps:=["web","guards","ledger"]) 296 295 36 463 X G zdv
 have e:=hfa.symm.trans (PySem.W.mg_of X G (show ubn (K w.params) mainGlobals "law"=some (some (.ref 303)) by kernel_rfl))
 cases e
 have F:=zrj (x:="law") (qual:="law") (st:=s_law) (K:=K w.params) (f:=303) (oc:=.type "function") (od:=none) (an:=none) (osl:=#[]) (kV:=.none) (doc:=.none) (pm:=Hx.mdV uaa ⟨0,0,0,36,463,0⟩) (cdv:=.ref 302) (ct:=.none) (by kernel_rfl) (by kernel_rfl) (by kernel_rfl)
 exact⟨_,λ s v=>.of_eq rfl,λ base _ _=>zsn (P:=(ua5).prog) (w:=w) (base:=base) T D_is_whole D_is_plain D_whole D_tie_between D_ties_along D_tie_weights D_cost_with D_reached_from D_fars_from D_tree_from D_the_way D_need_plain D_neighbours D_need_share D_bare_neighbours D_guards_by D_all_guarded D_bare_ties D_kept_at_first D_is_wanted D_first_wanted D_fars_along D_nearest D_gained_by D_six_told D__law_pot D__law_take D__law_order D__law_beside D__law_long D__law_share D__law_whole D__law_same D__law_steps D__law_heaps D__law_gained D__law_first D__law_bought D__law_borne_out F⟩
end Hy
open PySem PySem.W PyProof.Rows
set_option maxRecDepth 100000 in
set_option maxHeartbeats 0 in
theorem PySem.Challenge.cw_thinways_k60_six_more_told_holds : PySem.Challenge.rw_thinways_k60_six_more_told.Holds := by
 w_on;o_law
 refine holds_open (q:=(Hx.qv PySem.Challenge.pw_thinways_k60_six_more_told [51])) (loose:=Hx.lz PySem.Challenge.pw_thinways_k60_six_more_told [51] 52) (Xt:=λ s=>xlAt (Hx.qv PySem.Challenge.pw_thinways_k60_six_more_told [51]) [] s && recOk (OpenRow.toRowW (PySem.Challenge.rw_thinways_k60_six_more_told).row).records s) (XP:=XL (Hx.qv PySem.Challenge.pw_thinways_k60_six_more_told [51]) []) (Yf:=Hook.obs Hy.H) (Ya:=Hook.val Hy.H) (YP:=Hook.says Hy.H) (N:=4496) Hy.left (Hook.of Hy.H) (Hook.keeps Hy.H) (λ s e=>xl_of s (Bool.and_eq_true_iff.mp e).1) XL.keeps (by rfl) (by rfl) (by rfl) (λ s e=>recFacts_of (Bool.and_eq_true_iff.mp e).2) (by rfl) (by first | assumption | decide +kernel) (by symm) ⟨rfl,rfl,rfl,rfl,rfl,by symm⟩ ?hw ?hc
 case hw=>w_witness2
 case hc =>
  refine Me.walk (l:=PySem.Challenge.rw_thinways_k60_six_more_told) rfl rfl (λ w h Y=>PySem.W.kIn_of Y) λ w mg fa h KX G hmg=>Hy.all KX G hmg
